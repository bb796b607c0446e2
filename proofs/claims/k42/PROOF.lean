import PyProof.Rows.All
import Wide.All
import OpenK.AllK
import Wide.FinOn
import Lean
import PyProof.EqAt
import PyProof.EqKinds
import PyProof.TupleCall
import PySem.Challenge.RW_ownboxes_k42_dealings_refused
set_option compiler.extract_closed false
theorem autoK1 (_h : True := by first | exact .inl rfl | exact .inr rfl | assumption) : True := trivial
theorem autoK2 (_h : True := by decide) : True := trivial
theorem autoK3 (_h : True := by first | exact nobehind _ (by decide) (by decide) | rfl) : True := trivial
theorem autoK4 (_h : True := by intro _; rfl) : True := trivial
theorem autoK5 (_h : True := by rfl) : True := trivial
theorem autoK7 (_h : True := by with_unfolding_all rfl) : True := trivial
theorem autoK8 (_h : True := by first | exact Or.inl rfl | exact Or.inr (Or.inl rfl) | exact Or.inr (Or.inr rfl)) : True := trivial
theorem autoK9 (_h : True := by exact fun _ _ => rfl) : True := trivial
theorem autoK10 (_h : True := by first | exact nomark _ | rfl) : True := trivial
theorem autoK11 (_h : True := by first | exact Or.inl rfl | exact Or.inr rfl) : True := trivial
theorem autoK12 (_h : True := by first | exact .inl rfl | exact .inr rfl) : True := trivial
theorem autoK13 (_h : True := by exact PassesOwn.never) : True := trivial
local macro_rules | `(tactic| bv_omega) => `(tactic| first | lia | omega)
set_option Elab.async false
set_option linter.all false
set_option maxRecDepth 100000
noncomputable section
namespace L2
open PySem PySem.Spec PyProof.Rows
abbrev Key := Sum Int Str
def keyIs : Key → Value → Bool
  | .inl k, v => Value.isInt k v
  | .inr x, v => Value.isStrOf x v
def keyH (w : World) : Key → Int
  | .inl k => hashInt k
  | .inr x => hashStr w x
theorem keyIs_shape : ∀ {k : Key} {v : Value}, keyIs k v = true → (∃ i t, k = Sum.inl i ∧ v = Value.int i t) ∨ (∃ x t, k = Sum.inr x ∧ v = Value.str x t)
  | .inl i, v, h => by
    obtain ⟨t, e⟩ := Value.isInt_shape (k := i) (v := v) h
    exact .inl ⟨i, t, rfl, e⟩
  | .inr x, v, h => by
    obtain ⟨t, e⟩ := Value.isStrOf_shape (x := x) (v := v) h
    exact .inr ⟨x, t, rfl, e⟩
theorem keyIs_int (i : Int) (t : Tok) : keyIs (.inl i) (.int i t) = true := by simp [keyIs, Value.isInt]
theorem keyIs_str (x : Str) (t : Tok) : keyIs (.inr x) (.str x t) = true := by simp [keyIs, Value.isStrOf]
theorem key_ll (a b : Int) : decide ((Sum.inl a : Key) = Sum.inl b) = (a == b) := by
  by_cases e : a = b
  · subst e; simp
  · have h : ¬ (Sum.inl a : Key) = Sum.inl b := fun q => e (Sum.inl.inj q)
    rw [decide_eq_false h]
    exact (beq_eq_false_iff_ne.mpr e).symm
theorem key_rr (a b : Str) : decide ((Sum.inr a : Key) = Sum.inr b) = decide (a = b) := by
  by_cases e : a = b
  · subst e; simp
  · have h : ¬ (Sum.inr a : Key) = Sum.inr b := fun q => e (Sum.inr.inj q)
    rw [decide_eq_false h, decide_eq_false e]
theorem key_lr (a : Int) (b : Str) : decide ((Sum.inl a : Key) = Sum.inr b) = false := decide_eq_false (fun q => nomatch q)
theorem key_rl (a : Str) (b : Int) : decide ((Sum.inr a : Key) = Sum.inl b) = false := decide_eq_false (fun q => nomatch q)
def mixKind (prog : Program) (w : World) : PySem.KeyKind prog w Key where
  is := keyIs
  hash := keyH w
  inj := fun v a b ha hb => by
    rcases keyIs_shape ha with ⟨i, t, rfl, rfl⟩ | ⟨x, t, rfl, rfl⟩
    · rcases keyIs_shape hb with ⟨j, u, rfl, e⟩ | ⟨y, u, rfl, e⟩
      · injection e with e1 _; rw [e1]
      · exact nomatch e
    · rcases keyIs_shape hb with ⟨j, u, rfl, e⟩ | ⟨y, u, rfl, e⟩
      · exact nomatch e
      · injection e with e1 _; rw [e1]
  byValue := fun k v h => by
    rcases keyIs_shape h with ⟨i, t, rfl, rfl⟩ | ⟨x, t, rfl, rfl⟩ <;> rfl
  pyHash := fun hv h => by
    rcases keyIs_shape hv with ⟨i, t, rfl, rfl⟩ | ⟨x, t, rfl, rfl⟩
    · exact wpAny_pyHash_int h
    · exact wpAny_pyHash_str h
  eqBool := fun hu hv h => by
    rcases keyIs_shape hu with ⟨i, t, rfl, rfl⟩ | ⟨x, t, rfl, rfl⟩
    · rcases keyIs_shape hv with ⟨j, u, rfl, rfl⟩ | ⟨y, u, rfl, rfl⟩
      · rw [key_ll] at h; exact wpAny_eqBool_int h
      · rw [key_lr] at h; exact SeqAt.EqAt.int_str i t y u _ _ _ _ h
    · rcases keyIs_shape hv with ⟨j, u, rfl, rfl⟩ | ⟨y, u, rfl, rfl⟩
      · rw [key_rl] at h; exact SeqAt.EqAt.str_int x t j u _ _ _ _ h
      · rw [key_rr] at h; exact wpAny_eqBool_str h
  «strs» := fun k x t v h => by
    rcases keyIs_shape h with ⟨i, u, rfl, e⟩ | ⟨y, u, rfl, e⟩
    · exact nomatch e
    · injection e with e1 _
      subst e1
      cases v <;> rfl
theorem mixKind_int (prog : Program) (w : World) (i : Int) (t : Tok) : (mixKind prog w).is (.inl i) (.int i t) = true := keyIs_int i t
theorem mixKind_str (prog : Program) (w : World) (x : Str) (t : Tok) : (mixKind prog w).is (.inr x) (.str x t) = true := keyIs_str x t
end L2
namespace L2
open PySem PySem.Spec PyProof.Rows
inductive V where
  | non | bl (b : Bool) | int (i : Int) | str (x : Str) | byt (b : Array UInt8) | flt (b : UInt64) | ref (a : Addr) | ty (n : String)
  deriving DecidableEq
def RelV : V → Value → Prop
  | .non, u => u = Value.none
  | .bl b, u => u = Value.bool b
  | .int i, u => ∃ t, u = Value.int i t
  | .str x, u => ∃ t, u = Value.str x t
  | .byt b, u => ∃ t, u = Value.bytes b t
  | .flt b, u => ∃ t, u = Value.float b t
  | .ref a, u => u = Value.ref a
  | .ty n, u => u = Value.type n
abbrev Vals : List V → List Value → Prop := Paired RelV
theorem Vals.length {xs : List V} {us : List Value} (r : Vals xs us) : xs.length = us.length := Paired.length r
theorem Vals.get : ∀ {xs : List V} {us : List Value} {i : Nat} {x : V}, Vals xs us → xs[i]? = some x → ∃ u, us[i]? = some u ∧ RelV x u
  | _, _, _, _, .nil, e => by simp at e
  | _, _, 0, _, .cons r _, e => by simp at e; subst e; exact ⟨_, rfl, r⟩
  | _, _, i + 1, x, .cons _ t, e => by
    obtain ⟨u, h1, h2⟩ := Vals.get (i := i) (x := x) t (by simpa using e)
    exact ⟨u, by simpa using h1, h2⟩
theorem Vals.set {x : V} {u : Value} (r : RelV x u) : ∀ {xs : List V} {us : List Value} (i : Nat), Vals xs us → Vals (xs.set i x) (us.set i u)
  | _, _, _, .nil => .nil
  | _, _, 0, .cons _ t => .cons r t
  | _, _, i + 1, .cons q t => .cons q (Vals.set r i t)
theorem Vals.append : ∀ {xs ys : List V} {us ws : List Value}, Vals xs us → Vals ys ws → Vals (xs ++ ys) (us ++ ws)
  | _, _, _, _, .nil, s => s
  | _, _, _, _, .cons r t, s => .cons r (Vals.append t s)
theorem Vals.take : ∀ {xs : List V} {us : List Value} (n : Nat), Vals xs us → Vals (xs.take n) (us.take n)
  | _, _, 0, _ => .nil
  | _, _, _ + 1, .nil => .nil
  | _, _, n + 1, .cons r t => .cons r (Vals.take n t)
theorem Vals.drop : ∀ {xs : List V} {us : List Value} (n : Nat), Vals xs us → Vals (xs.drop n) (us.drop n)
  | _, _, 0, r => r
  | _, _, _ + 1, .nil => .nil
  | _, _, n + 1, .cons _ t => Vals.drop n t
def RelO : Option V → Option Value → Prop
  | some v, some u => RelV v u
  | none, none => True
  | _, _ => False
def KV {κ : Type} : List (κ × V) → List (κ × Value) → Prop := Paired fun (p : κ × V) (q : κ × Value) => p.1 = q.1 ∧ RelV p.2 q.2
def kV : Key → V
  | .inl i => .int i
  | .inr x => .str x
inductive HO where
  | lst (xs : List V)
  | tup (xs : List V)
  | dK (kvs : List (Key × V)) | dT (kvs : List (List Key × V))
  | set (S : Int → Bool) (n : Nat)
  | ins (C dx : Addr) (fs : List (Str × V))
  | own (x : Addr)
  | xd (fs : List (Str × V))
  | met (f x : Addr)
  | rng (lo hi : Int)
  | frz (o : Obj) (u : HO)
  | tbl (ps : Array Value)
  | ext (φ : Heap → Prop)
abbrev Hp := Addr → Option HO
def upd (H : Hp) (a : Addr) (o : HO) : Hp := fun b => if b = a then some o else H b
theorem upd_same {H : Hp} {a : Addr} {o : HO} : upd H a o a = some o := by unfold upd; rw [if_pos rfl]
theorem upd_ne {H : Hp} {a b : Addr} {o : HO} (h : b ≠ a) : upd H a o b = H b := by unfold upd; rw [if_neg h]
theorem ne_of {H : Hp} {a b : Addr} {o u : HO} (h : H a = some o) (h' : H b = some u) (d : o ≠ u) : a ≠ b := by
  intro e; subst e; rw [h] at h'; exact d (Option.some.inj h')
theorem ne_of_none {H : Hp} {a b : Addr} {o : HO} (h : H a = some o) (h' : H b = none) : a ≠ b := by
  intro e; subst e; rw [h] at h'; cases h'
def TupAt (h : Heap) (a : Addr) (its : Array Value) : Prop := ∃ o, h.get? a = some o ∧ o.cls = .type "tuple" ∧ (∃ n, o.data = .seq its n) ∧ o.dict = none
theorem TupAt.tup {h : Heap} {a : Addr} {its : Array Value} (x : TupAt h a its) : IsTup h a its := by
  obtain ⟨o, e, c, d, _⟩ := x
  exact ⟨o, e, c, d⟩
theorem TupAt.new (h : Heap) (its : Array Value) : TupAt (h.push { cls := .type "tuple", data := .seq its }) h.objs.size its := ⟨_, Heap.get?_push_size _ rfl, rfl, ⟨_, rfl⟩, rfl⟩
section
variable (P : Program) (w : World)
def ObjOk (H : Hp) (h : Heap) (a : Addr) : HO → Prop
  | .lst xs => xs.length ≤ sizeLine ∧ ∃ (its : List Value) (n : Nat), Vals xs its ∧ h.get? a = some { cls := .type "list", data := .seq its.toArray n }
  | .tup xs => xs.length ≤ sizeLine ∧ ∃ its : List Value, Vals xs its ∧ TupAt h a its.toArray
  | .dK kvs => kvs.length ≤ sizeLine ∧ (a == sysModules) = false ∧ ∃ vs, KV kvs vs ∧ h.DictOf (mixKind P w) a vs
  | .dT kvs => kvs.length ≤ sizeLine ∧ (a == sysModules) = false ∧ ∃ xs : List (List Key × Addr × Value),
      Paired (fun (p : List Key × V) (q : List Key × Addr × Value) => p.1 = q.1 ∧ H q.2.1 = some (.tup (p.1.map kV)) ∧ RelV p.2 q.2.2) kvs xs ∧
      ∃ o es ep, h.get? a = some o ∧ o.ExactDict ∧ o.data = .dict es ep ∧ es.toList = xs.map (entryOfKey (tupleKind (mixKind P w))) ∧ (xs.map (·.1)).Nodup
  | .set S n => h.SetOf (intKind P w) a S n
  | .ins C dx fs => H dx = some (.own a) ∧ fs.length ≤ 1000 ∧ dx ≠ a ∧ h.get? a = some (PySem.W.instObj C dx) ∧
      ∃ mA, h.Ns1 dx mA ∧ (∀ f, RelO (fs.lookup f) (mA f)) ∧ PySem.Within mA (fs.map (·.1))
  | .own _ => ∃ o, h.get? a = some o
  | .xd fs => ∃ mA, h.Ns1 a mA ∧ ∀ f, RelO (fs.lookup f) (mA f)
  | .rng lo hi => ∃ t u v, h.get? a = some { cls := .type "range", data := .fields #[.int lo t, .int hi u, .int 1 v] }
  | .frz o u => h.get? a = some o ∧ ObjOk H h a u
  | .tbl ps => h.get? a = some { cls := .none, data := .fields ps }
  | .met f x => h.get? a = some (PySem.W.methodObj (.ref f) (.ref x))
  | .ext φ => φ h ∧ (∃ o, h.get? a = some o) ∧ ∀ h1 h2 : Heap, φ h1 → (∀ o, h1.get? a = some o → h2.get? a = some o) → φ h2
def HOk (H : Hp) (h : Heap) : Prop := ∀ a o, H a = some o → ObjOk P w H h a o
end
section
variable {P : Program} {w : World} {H H' : Hp} {h h' : Heap} {a : Addr} {o : HO}
theorem ObjOk.lt (x : ObjOk P w H h a o) : a < h.objs.size := by
  cases o with
  | lst xs => obtain ⟨_, _, _, _, e⟩ := x; exact Heap.lt_size e
  | tup xs => obtain ⟨_, _, _, p⟩ := x; exact p.tup.lt
  | dK kvs => obtain ⟨_, _, _, _, o, _, _, e, _⟩ := x; exact Heap.lt_size e
  | dT kvs => obtain ⟨_, _, _, _, o, _, _, e, _⟩ := x; exact Heap.lt_size e
  | set S n => obtain ⟨o, _, _, _, e, _⟩ := x; exact Heap.lt_size e
  | ins C dx fs => obtain ⟨_, _, _, e, _⟩ := x; exact Heap.lt_size e
  | own y => obtain ⟨_, e⟩ := x; exact Heap.lt_size e
  | xd fs => obtain ⟨_, ⟨_, _, _, e, _⟩, _⟩ := x; exact Heap.lt_size e
  | rng lo hi => obtain ⟨_, _, _, e⟩ := x; exact Heap.lt_size e
  | frz ob u => obtain ⟨e, _⟩ := x; exact Heap.lt_size e
  | tbl ps => exact Heap.lt_size (show h.get? a = some _ from x)
  | met f y => exact Heap.lt_size (show h.get? a = some _ from x)
  | ext φ => obtain ⟨_, ⟨_, e⟩, _⟩ := x; exact Heap.lt_size e
theorem Paired.mapP {α β : Type} {F G : α → β → Prop} : ∀ {l₁ : List α} {l₂ : List β}, Paired F l₁ l₂ → (∀ a b, F a b → G a b) → Paired G l₁ l₂
  | _, _, .nil, _ => .nil
  | _, _, .cons r t, f => .cons (f _ _ r) (Paired.mapP t f)
theorem ObjOk.stay (x : ObjOk P w H h a o) (k : ∀ b u, (b = a ∨ H b = some (.own a)) → h.get? b = some u → h'.get? b = some u)
    (ho : ∀ b, H b = some (.own a) → H' b = some (.own a)) (ht : ∀ b xs, H b = some (.tup xs) → H' b = some (.tup xs)) : ObjOk P w H' h' a o := by
  induction o with
  | lst xs => obtain ⟨z, its, n, r, e⟩ := x; exact ⟨z, its, n, r, k _ _ (.inl rfl) e⟩
  | tup xs => obtain ⟨z, its, r, ob, e, c⟩ := x; exact ⟨z, its, r, ob, k _ _ (.inl rfl) e, c⟩
  | dK kvs => obtain ⟨z, y, vs, r, ob, es, ep, e, c⟩ := x; exact ⟨z, y, vs, r, ob, es, ep, k _ _ (.inl rfl) e, c⟩
  | dT kvs =>
    obtain ⟨z, y, xs, r, ob, es, ep, e, c⟩ := x
    exact ⟨z, y, xs, Paired.mapP r fun p q z => ⟨z.1, ht _ _ z.2.1, z.2.2⟩, ob, es, ep, k _ _ (.inl rfl) e, c⟩
  | set S n => obtain ⟨ob, es, ep, t, e, c⟩ := x; exact ⟨ob, es, ep, t, k _ _ (.inl rfl) e, c⟩
  | ins C dx fs =>
    obtain ⟨d, z, ne, e, mA, ⟨od, es, ep, e2, c⟩, r⟩ := x
    exact ⟨ho _ d, z, ne, k _ _ (.inl rfl) e, mA, ⟨od, es, ep, k _ _ (.inr d) e2, c⟩, r⟩
  | own y => obtain ⟨ob, e⟩ := x; exact ⟨ob, k _ _ (.inl rfl) e⟩
  | xd fs => obtain ⟨mA, ⟨od, es, ep, e, c⟩, r⟩ := x; exact ⟨mA, ⟨od, es, ep, k _ _ (.inl rfl) e, c⟩, r⟩
  | rng lo hi => obtain ⟨t, u, v, e⟩ := x; exact ⟨t, u, v, k _ _ (.inl rfl) e⟩
  | frz ob u ih => obtain ⟨e, q⟩ := x; exact ⟨k _ _ (.inl rfl) e, ih q⟩
  | tbl ps =>
    have e : h.get? a = some { cls := .none, data := .fields ps } := x
    show h'.get? a = some { cls := .none, data := .fields ps }
    exact k a _ (.inl rfl) e
  | met f y =>
    have e : h.get? a = some (PySem.W.methodObj (.ref f) (.ref y)) := x
    show h'.get? a = some (PySem.W.methodObj (.ref f) (.ref y))
    exact k a _ (.inl rfl) e
  | ext φ => obtain ⟨p, ⟨o, e⟩, st⟩ := x; exact ⟨st _ _ p fun o q => k _ _ (.inl rfl) q, ⟨o, k _ _ (.inl rfl) e⟩, st⟩
theorem HOk.lt (x : HOk P w H h) (e : H a = some o) : a < h.objs.size := (x a o e).lt
theorem HOk.fresh (x : HOk P w H h) (e : h.objs.size ≤ a) : H a = none := by
  cases q : H a with
  | none => rfl
  | some u => exact absurd (Nat.lt_of_lt_of_le (x.lt q) e) (Nat.lt_irrefl _)
theorem HOk.kept (x : HOk P w H h) (k : ∀ b u, h.get? b = some u → h'.get? b = some u) : HOk P w H h' := fun a o e =>
  (x a o e).stay (fun b u _ q => k b u q) (fun _ q => q) fun _ _ q => q
theorem HOk.laid (x : HOk P w H h) (k : ∀ b u, h.get? b = some u → h'.get? b = some u) (hp : h.objs.size ≤ a) (new : ObjOk P w (upd H a o) h' a o) : HOk P w (upd H a o) h' := fun b u e => by
  have hn := x.fresh hp
  by_cases hb : b = a
  · subst hb; rw [upd_same] at e; cases e; exact new
  · rw [upd_ne hb] at e
    exact (x b u e).stay (fun c v _ q => k c v q) (fun c q => by rw [upd_ne (ne_of_none q hn)]; exact q) fun c xs q => by rw [upd_ne (ne_of_none q hn)]; exact q
end
def Rd (H : Hp) (a : Addr) (u : HO) : Prop := H a = some u ∨ ∃ o, H a = some (.frz o u)
theorem Rd.ok {P : Program} {w : World} {H : Hp} {h : Heap} {a : Addr} {u : HO} (r : Rd H a u) (x : HOk P w H h) : ObjOk P w H h a u := by
  rcases r with r | ⟨o, r⟩
  · exact x a u r
  · obtain ⟨_, q⟩ := x a _ r
    exact q
def Mut : Option HO → Prop
  | some (.lst _) => True
  | some (.dK _) => True
  | some (.dT _) => True
  | some (.set _ _) => True
  | some (.ins _ _ _) => True
  | some (.ext _) => True
  | _ => False
section
variable {P : Program} {w : World} {H : Hp} {h h' : Heap} {x e : Addr} {o' : HO}
theorem HOk.write (ok : HOk P w H h) (mu : Mut (H x)) (he : e = x ∨ H e = some (.own x)) (k : ∀ b u, b ≠ e → h.get? b = some u → h'.get? b = some u) (heo : ∃ u, h'.get? e = some u)
    (new : ObjOk P w (upd H x o') h' x o') : HOk P w (upd H x o') h' := fun b u q => by
  have nown : ∀ c y, H c = some (.own y) → c ≠ x := fun c y r z => by subst z; rw [r] at mu; exact mu
  have ntup : ∀ c xs, H c = some (.tup xs) → c ≠ x := fun c xs r z => by subst z; rw [r] at mu; exact mu
  by_cases hb : b = x
  · subst hb; rw [upd_same] at q; cases q; exact new
  · rw [upd_ne hb] at q
    by_cases hbe : b = e
    · have q' : H b = some (.own x) := by
        rcases he with z | z
        · exact absurd (hbe.trans z) hb
        · rw [hbe]; exact z
      rw [q] at q'; cases q'
      obtain ⟨v, hv⟩ := heo
      exact ⟨v, by rw [hbe]; exact hv⟩
    · refine (ok b u q).stay (fun c v hc r => k c v ?_ r) (fun c r => by rw [upd_ne (nown c b r)]; exact r) fun c xs r => by rw [upd_ne (ntup c xs r)]; exact r
      rcases hc with rfl | hc
      · exact hbe
      · rintro rfl
        rcases he with z | z
        · exact nown c b hc z
        · rw [hc] at z; cases z; exact hb rfl
end
structure Un (fs ex : List Addr) (H H' : Hp) (h h' : Heap) : Prop where
  keep : ∀ b o, h.get? b = some o → H b = none → b ∉ fs → b ∉ ex → h'.get? b = some o
  slot : ∀ b o, h.get? b = some o → H b = none → b ∈ fs → b ∉ ex → ∃ sl, h'.get? b = some { o with slots := sl }
  free : ∀ b o, h.get? b = some o → H b = none → b ∉ ex → H' b = none
  there : ∀ b o, h.get? b = some o → b ∉ ex → ∃ o', h'.get? b = some o'
  tups : ∀ b xs, H b = some (.tup xs) → H' b = some (.tup xs)
  frzs : ∀ b o u, H b = some (.frz o u) → H' b = some (.frz o u)
  tbls : ∀ b ps, H b = some (.tbl ps) → ∃ more, H' b = some (.tbl (ps ++ more))
section
variable {fs fs' ex ex' : List Addr} {H H1 H2 : Hp} {h h1 h2 h' : Heap} {a x e : Addr} {o : HO}
theorem Un.any (u : Un fs ex H H1 h h1) {b : Addr} {ob : Obj} (q : h.get? b = some ob) (n : H b = none) (hx : b ∉ ex) : ∃ sl, h1.get? b = some { ob with slots := sl } := by
  by_cases hb : b ∈ fs
  · exact u.slot b ob q n hb hx
  · exact ⟨ob.slots, u.keep b ob q n hb hx⟩
theorem Un.kept (k : ∀ b u, h.get? b = some u → h'.get? b = some u) : Un fs ex H H h h' :=
  ⟨fun b ob q _ _ _ => k b ob q, fun b ob q _ _ _ => ⟨ob.slots, k b ob q⟩, fun _ _ _ n _ => n, fun b ob q _ => ⟨ob, k b ob q⟩, fun _ _ q => q, fun _ _ _ q => q, fun _ ps q => ⟨#[], by rw [q]; simp⟩⟩
theorem Un.refl : Un fs ex H H h h := Un.kept fun _ _ q => q
theorem Un.laid (k : ∀ b u, h.get? b = some u → h'.get? b = some u) (hp : h.objs.size ≤ a) (hn : H a = none) : Un fs ex H (upd H a o) h h' where
  keep := fun b u q _ _ _ => k b u q
  slot := fun b u q _ _ _ => ⟨u.slots, k b u q⟩
  free := fun b u q n _ => by rw [upd_ne (Nat.ne_of_lt (Nat.lt_of_lt_of_le (Heap.lt_size q) hp))]; exact n
  there := fun b u q _ => ⟨u, k b u q⟩
  tups := fun b xs q => by rw [upd_ne (ne_of_none q hn)]; exact q
  frzs := fun b u xs q => by rw [upd_ne (ne_of_none q hn)]; exact q
  tbls := fun b ps q => ⟨#[], by rw [upd_ne (ne_of_none q hn), q]; simp⟩
theorem Un.write (mu : Mut (H x)) (he : e = x ∨ H e = some (.own x)) (k : ∀ b u, b ≠ e → h.get? b = some u → h'.get? b = some u) (heo : ∃ u, h'.get? e = some u) : Un fs ex H (upd H x o) h h' := by
  have hx : ∀ b, H b = none → b ≠ x := fun b n z => by subst z; rw [n] at mu; exact mu
  have hb : ∀ b, H b = none → b ≠ e := fun b n z => by
    subst z
    rcases he with r | r
    · exact hx b n r
    · rw [n] at r; cases r
  have hm : ∀ b u, H b = some u → ¬ Mut (some u) → b ≠ x := fun b u q nm z => by subst z; rw [q] at mu; exact nm mu
  refine ⟨fun b u q n _ _ => k b u (hb b n) q, fun b u q n _ _ => ⟨u.slots, k b u (hb b n) q⟩, fun b u q n _ => by rw [upd_ne (hx b n)]; exact n, fun b u q _ => ?_,
    fun b xs q => by rw [upd_ne (hm b _ q fun z => z)]; exact q, fun b u xs q => by rw [upd_ne (hm b _ q fun z => z)]; exact q, fun b ps q => ⟨#[], by rw [upd_ne (hm b _ q fun z => z), q]; simp⟩⟩
  by_cases hbe : b = e
  · subst hbe; exact heo
  · exact ⟨u, k b u hbe q⟩
end
def trk (h : Heap) (H : Hp) : List Addr := (List.range h.objs.size).filter fun a => (H a).isSome
def hidT (h : Heap) (H : Hp) : Heap := PySem.W.hideAll h (trk h H)
theorem hidT_size (h : Heap) (H : Hp) : (hidT h H).objs.size = h.objs.size := PySem.W.hideAll_size _ _
theorem hidT_get {h : Heap} {H : Hp} {b : Addr} {o : Obj} (e : h.get? b = some o) (n : H b = none) : (hidT h H).get? b = some o :=
  PySem.W.hideAll_get _ e fun hm => by
    have q : (H b).isSome = true := (List.mem_filter.mp hm).2
    rw [n] at q; simp at q
theorem of_hidT {h : Heap} {H : Hp} {b : Addr} {o : Obj} (e : (hidT h H).get? b = some o) : h.get? b = some o ∧ H b = none := by
  have e' : h.get? b = some o := PySem.W.of_hideAll (trk h H) e
  refine ⟨e', ?_⟩
  cases q : H b with
  | none => rfl
  | some x =>
    have hm : b ∈ trk h H := List.mem_filter.mpr ⟨List.mem_range.mpr (Heap.lt_size e'), by simp [q]⟩
    have z : (hidT h H).get? b = none := PySem.W.hideAll_none (trk h H) hm
    rw [z] at e; cases e
def allNews (g h : Heap) (L : Addr) : List (Addr × Obj) := (List.range h.objs.size).filterMap fun a => if a = L ∨ (g.get? a).isSome = true then none else (h.get? a).map fun o => (a, o)
def rest (g h : Heap) (L d : Addr) : List (Addr × Obj) := (allNews g h L).filter fun p => decide (p.1 ≠ d)
end L2
namespace L2
open PySem PySem.Spec PyProof.Rows
structure Mod (K : PySem.W.Frag) (mg : Str → Option Value) (base : Heap) : Prop where
  kin : K.In base
  glob : base.Ns mainGlobals mg
  blt : ∃ mb, base.Ns builtinsNs mb ∧ ∀ x : Str, x ≠ "__name__" → mb x = bootBuiltins x
  nolimit : base.NoLimit
structure Cx where
  prog : Program
  w : World
  K : PySem.W.Frag
  mg : Str → Option Value
  base : Heap
  A : Around
  N : List Str
  s₀ : Shared
  H₀ : Hp
  env : Env
  outer : List Env
  stack : List Env
  ex : List Addr
  fn : Str → Bool
  calm : Bool
  pn : List (Addr × Obj)
  xe : Value → Shared → Prop
def frs (l : List Env) : List Addr := l.filterMap (·.frame)
abbrev Cx.fs (X : Cx) : List Addr := frs X.outer
def Vis (sc : Scope) (x : Str) : Prop := sc.names.lookup x = some .local ∨ sc.names.lookup x = some .cell ∨ sc.names.lookup x = some .free
def Loc (sc : Scope) (x : Str) : Prop := sc.names.lookup x = some .local ∨ sc.names.lookup x = some .cell
def Look (env : Env) (h : Heap) (m : Str → Option Value) (x : Str) (u : Value) : Prop :=
  (env.kindOf x = some .local ∧ m x = some u) ∨ ((env.kindOf x = some .cell ∨ env.kindOf x = some .free) ∧ ∃ c, env.cells.lookup x = some c ∧ h.IsCell c (some u))
structure Cx.Ok (X : Cx) : Prop where
  mod : Mod X.K X.mg X.base
  kind : X.env.scope.kind = .function
  glob : X.env.globals = mainGlobals
  blt : X.env.builtins = builtinsNs
  above : X.s₀.heap.objs.size ≤ X.env.locals
  inj : ∀ x y c, X.env.cells.lookup x = some c → X.env.cells.lookup y = some c → x = y
  has : ∀ x, (X.env.kindOf x = some .cell ∨ X.env.kindOf x = some .free) → ∃ c, X.env.cells.lookup x = some c
  cab : ∀ x c, X.fn x = true → X.env.cells.lookup x = some c → X.s₀.heap.objs.size ≤ c
  hd : X.calm = true → X.A.handled = none
  frames : X.A.frames = some X.stack
  stk : X.stack = X.outer ∨ (X.stack = X.env :: X.outer ∧ X.env.frame = some X.env.locals)
  exf : ∀ b ∈ X.ex, b ≠ X.env.locals ∧ ∀ x c, X.env.cells.lookup x = some c → c ≠ b
  bs : ∀ b o, X.base.get? b = some o → X.s₀.heap.get? b = some o ∧ X.H₀ b = none
  bsz : X.base.objs.size ≤ X.s₀.heap.objs.size
  noex : ∀ b o, X.base.get? b = some o → b ∉ X.ex
  exfs : ∀ b ∈ X.ex, b ∉ X.fs
  funs : X.s₀.heap.FunFrames X.base X.outer
  frf : ∀ b ∈ X.fs, X.H₀ b = none
structure Inv (X : Cx) (pins : List (Addr × Obj)) (σ : List (Option V)) (H : Hp) (s : Shared) : Prop where
  ok : X.Ok
  os : s.os = X.s₀.os
  bare : AllBare s.gens
  base : Un X.fs X.ex X.H₀ H X.s₀.heap s.heap
  loc : ∃ m, s.heap.Ns X.env.locals m ∧ ∀ (i : Nat) (x : Str) (v : V), X.N[i]? = some x → σ[i]? = some (some v) → Vis X.env.scope x → ∃ u, RelV v u ∧ Look X.env s.heap m x u
  cell : ∀ x c, X.env.cells.lookup x = some c → ∃ v, s.heap.IsCell c v
  free : H X.env.locals = none
  freeC : ∀ x c, X.env.cells.lookup x = some c → H c = none
  pin : ∀ p ∈ X.pn ++ pins, s.heap.get? p.1 = some p.2 ∧ H p.1 = none ∧ p.1 ≠ X.env.locals ∧ p.1 ∉ X.fs ∧ ∀ v, p.2.data ≠ .cell v
  hok : HOk X.prog X.w H s.heap
  len : σ.length = X.N.length
section
variable {X : Cx} {pins : List (Addr × Obj)} {σ : List (Option V)} {H H' : Hp} {s : Shared} {h' : Heap}
theorem Cx.Ok.nofr (ok : X.Ok) {b : Addr} {o : Obj} (e : X.base.get? b = some o) : b ∉ X.fs := fun hb => by
  have := (ok.funs.mem hb).1
  rw [e] at this; cases this
theorem Inv.bs (I : Inv X pins σ H s) : ∀ b o, X.base.get? b = some o → s.heap.get? b = some o ∧ H b = none := fun b o e =>
  ⟨I.base.keep b o (I.ok.bs b o e).1 (I.ok.bs b o e).2 (I.ok.nofr e) (I.ok.noex b o e), I.base.free b o (I.ok.bs b o e).1 (I.ok.bs b o e).2 (I.ok.noex b o e)⟩
theorem Inv.bk (I : Inv X pins σ H s) : ∀ b o, X.base.get? b = some o → s.heap.get? b = some o := fun b o e => (I.bs b o e).1
theorem Inv.mod (I : Inv X pins σ H s) : Mod X.K X.mg X.base := I.ok.mod
theorem Inv.kIn (I : Inv X pins σ H s) : X.K.In s.heap := I.ok.mod.kin.keeps I.bk
theorem Inv.lt (I : Inv X pins σ H s) : X.env.locals < s.heap.objs.size := let ⟨_, hn, _⟩ := I.loc; hn.lt
theorem Inv.sz (I : Inv X pins σ H s) : X.s₀.heap.objs.size ≤ s.heap.objs.size := Nat.le_trans I.ok.above (Nat.le_of_lt I.lt)
theorem Inv.nofs (I : Inv X pins σ H s) {a : Addr} (h : s.heap.objs.size ≤ a) : a ∉ X.fs := fun hb => by
  obtain ⟨_, o, ho, _⟩ := I.ok.funs.mem hb
  exact absurd (Nat.lt_of_lt_of_le (Heap.lt_size ho) (Nat.le_trans I.sz h)) (Nat.lt_irrefl _)
theorem Inv.cne (I : Inv X pins σ H s) : ∀ x c, X.env.cells.lookup x = some c → c ≠ X.env.locals := fun x c e z => by
  obtain ⟨v, o, ho, hd⟩ := I.cell x c e
  obtain ⟨m, ⟨o', es, ep, ho', hd', _⟩, _⟩ := I.loc
  rw [z, ho'] at ho; cases ho; rw [hd'] at hd; cases hd
theorem Inv.funs (I : Inv X pins σ H s) : s.heap.FunFrames X.base X.outer := by
  have all : ∀ (l : List Env), (∀ b ∈ frs l, b ∈ X.fs) → X.s₀.heap.FunFrames X.base l → s.heap.FunFrames X.base l := by
    intro l
    induction l with
    | nil => intro _ _; trivial
    | cons env r ih =>
      intro hs hl
      obtain ⟨hk, ⟨L, o, hf, hn, ho, hd⟩, hr⟩ := hl
      have hL : L ∈ X.fs := hs L (by unfold frs; rw [List.filterMap_cons, hf]; exact List.mem_cons_self)
      obtain ⟨sl, e⟩ := I.base.slot L o ho (I.ok.frf L hL) hL fun z => I.ok.exfs L z hL
      exact ⟨hk, ⟨L, _, hf, hn, e, hd⟩, ih (fun b hb => hs b (by unfold frs; rw [List.filterMap_cons, hf]; exact List.mem_cons_of_mem _ hb)) hr⟩
  exact all X.outer (fun _ hb => hb) I.ok.funs
theorem Inv.stack (I : Inv X pins σ H s) : s.heap.FunFrames X.base X.stack := by
  rcases I.ok.stk with e | ⟨e, hf⟩
  · rw [e]; exact I.funs
  · rw [e]
    obtain ⟨m, hn, _⟩ := I.loc
    refine .cons (by rw [I.ok.kind]; decide) hf hn ?_ I.funs
    exact Heap.get?_none_of_le (Nat.le_trans I.ok.bsz I.ok.above)
theorem Inv.stkSub (I : Inv X pins σ H s) : ∀ b ∈ frs X.stack, b ∈ X.env.locals :: X.fs := fun b hb => by
  rcases I.ok.stk with e | ⟨e, hf⟩
  · rw [e] at hb; exact List.mem_cons_of_mem _ hb
  · rw [e] at hb
    unfold frs at hb
    rw [List.filterMap_cons, hf] at hb
    exact hb
theorem Inv.stkFree (I : Inv X pins σ H s) : ∀ b ∈ frs X.stack, H b = none := fun b hb => by
  rcases List.mem_cons.mp (I.stkSub b hb) with e | hb
  · rw [e]; exact I.free
  · obtain ⟨_, o, ho, _⟩ := I.ok.funs.mem hb
    exact I.base.free b o ho (I.ok.frf b hb) fun z => I.ok.exfs b z hb
theorem Inv.step {g' : Array GenState} {t' : Nat} {d' : Drawn} {ch : List Addr} (I : Inv X pins σ H s)
    (hch : ∀ b ∈ ch, (b ∈ X.ex ∨ X.s₀.heap.objs.size ≤ b) ∧ b ≠ X.env.locals ∧ (∀ x c, X.env.cells.lookup x = some c → c ≠ b) ∧ ∀ p ∈ X.pn ++ pins, p.1 ≠ b)
    (keep : ∀ b o, b ≠ X.env.locals → b ∉ X.fs → b ∉ ch → s.heap.get? b = some o → H b = none → h'.get? b = some o)
    (slot : ∀ b o, b ≠ X.env.locals → b ∈ X.fs → b ∉ ch → s.heap.get? b = some o → H b = none → ∃ sl, h'.get? b = some { o with slots := sl }) (free : ∀ b o, b ∉ ch → s.heap.get? b = some o → H b = none → H' b = none)
    (there : ∀ b o, b ∉ ch → s.heap.get? b = some o → ∃ o', h'.get? b = some o')
    (tups : ∀ b xs, H b = some (.tup xs) → H' b = some (.tup xs)) (frzs : ∀ b o u, H b = some (.frz o u) → H' b = some (.frz o u)) (tbls : ∀ b ps, H b = some (.tbl ps) → ∃ more, H' b = some (.tbl (ps ++ more)))
    (ns : ∀ m, s.heap.Ns X.env.locals m → h'.Ns X.env.locals m) (hok : HOk X.prog X.w H' h') (hg : AllBare g') :
    Inv X pins σ H' { s with heap := h', gens := g', drawn := d', toks := t' } := by
  have neL : ∀ b o, X.s₀.heap.get? b = some o → b ≠ X.env.locals := fun b o e => Nat.ne_of_lt (Nat.lt_of_lt_of_le (Heap.lt_size e) I.ok.above)
  have neC : ∀ b o, X.s₀.heap.get? b = some o → b ∉ X.ex → b ∉ ch := fun b o e hx hb => by
    rcases (hch b hb).1 with z | z
    · exact hx z
    · exact absurd (Nat.lt_of_lt_of_le (Heap.lt_size e) z) (Nat.lt_irrefl _)
  have cellK : ∀ x c, X.env.cells.lookup x = some c → ∀ v, s.heap.IsCell c v → h'.IsCell c v := fun x c e v ⟨o, ho, hd⟩ => by
    have nch : c ∉ ch := fun z => (hch c z).2.2.1 x c e rfl
    by_cases hc : c ∈ X.fs
    · obtain ⟨sl, q⟩ := slot c o (I.cne x c e) hc nch ho (I.freeC x c e)
      exact ⟨_, q, hd⟩
    · exact ⟨o, keep c o (I.cne x c e) hc nch ho (I.freeC x c e), hd⟩
  refine ⟨I.ok, I.os, hg, ⟨fun b o e n hb hx => ?_, fun b o e n hb hx => ?_, fun b o e n hx => ?_, fun b o e hx => ?_, fun b xs e => tups b xs (I.base.tups b xs e), fun b o xs e => frzs b o xs (I.base.frzs b o xs e), fun b ps e => ?_⟩, ?_, fun x c e => ?_, ?_, fun x c e => ?_, fun p hp => ?_, hok, I.len⟩
  · exact keep b o (neL b o e) hb (neC b o e hx) (I.base.keep b o e n hb hx) (I.base.free b o e n hx)
  · obtain ⟨sl, e1⟩ := I.base.slot b o e n hb hx
    obtain ⟨sl', e2⟩ := slot b _ (neL b o e) hb (neC b o e hx) e1 (I.base.free b o e n hx)
    exact ⟨sl', e2⟩
  · obtain ⟨o', e1⟩ := I.base.there b o e hx
    exact free b o' (neC b o e hx) e1 (I.base.free b o e n hx)
  · obtain ⟨o', e1⟩ := I.base.there b o e hx
    exact there b o' (neC b o e hx) e1
  · obtain ⟨m1, e1⟩ := I.base.tbls b ps e
    obtain ⟨m2, e2⟩ := tbls b _ e1
    exact ⟨m1 ++ m2, by rw [e2, Array.append_assoc]⟩
  · obtain ⟨m, hn, hl⟩ := I.loc
    refine ⟨m, ns m hn, fun i x v e1 e2 e3 => ?_⟩
    obtain ⟨u, r, l⟩ := hl i x v e1 e2 e3
    refine ⟨u, r, ?_⟩
    rcases l with l | ⟨k, c, e, z⟩
    · exact .inl l
    · exact .inr ⟨k, c, e, cellK x c e _ z⟩
  · obtain ⟨v, z⟩ := I.cell x c e
    exact ⟨v, cellK x c e v z⟩
  · obtain ⟨m, ⟨o, _, _, ho, _⟩, _⟩ := I.loc
    exact free _ o (fun z => (hch _ z).2.1 rfl) ho I.free
  · obtain ⟨v, o, ho, hd⟩ := I.cell x c e
    exact free c o (fun z => (hch c z).2.2.1 x c e rfl) ho (I.freeC x c e)
  · obtain ⟨e, n, ne, nf, d⟩ := I.pin p hp
    have nch : p.1 ∉ ch := fun z => (hch p.1 z).2.2.2 p hp rfl
    exact ⟨keep p.1 p.2 ne nf nch e n, free p.1 p.2 nch e n, ne, nf, d⟩
theorem Inv.un {t' : Nat} (I : Inv X pins σ H s) (u : Un X.fs [] H H' s.heap h') (hok : HOk X.prog X.w H' h') : Inv X pins σ H' { s with heap := h', toks := t' } := by
  obtain ⟨m, ⟨o, es, ep, ho, r⟩, _⟩ := id I.loc
  obtain ⟨sl, hL⟩ := u.any ho I.free (by simp)
  exact I.step (g' := s.gens) (d' := s.drawn) (ch := []) (fun _ z => nomatch z) (fun b o _ hb _ e n => u.keep b o e n hb (by simp)) (fun b o _ hb _ e n => u.slot b o e n hb (by simp)) (fun b o _ e n => u.free b o e n (by simp)) (fun b o _ e => u.there b o e (by simp)) u.tups u.frzs u.tbls (fun m' hm => by
    obtain ⟨o', es', ep', ho', r'⟩ := hm
    rw [ho] at ho'; cases ho'
    exact ⟨_, es', ep', hL, r'⟩) hok I.bare
theorem Inv.call {g' : Array GenState} {t' : Nat} {d' : Drawn} {ch : List Addr} (I : Inv X pins σ H s) (u : Un (frs X.stack) ch H H' s.heap h') (hok : HOk X.prog X.w H' h') (hg : AllBare g')
    (hch : ∀ b ∈ ch, (b ∈ X.ex ∨ X.s₀.heap.objs.size ≤ b) ∧ b ≠ X.env.locals ∧ (∀ x c, X.env.cells.lookup x = some c → c ≠ b) ∧ ∀ p ∈ X.pn ++ pins, p.1 ≠ b) :
    Inv X pins σ H' { s with heap := h', gens := g', drawn := d', toks := t' } := by
  obtain ⟨m, ⟨o, es, ep, ho, r⟩, _⟩ := id I.loc
  obtain ⟨sl, hL⟩ := u.any ho I.free fun z => (hch _ z).2.1 rfl
  exact I.step (ch := ch) hch (fun b o hL hb hc e n => u.keep b o e n (fun z => (List.mem_cons.mp (I.stkSub b z)).elim hL hb) hc) (fun b o _ _ hc e n => u.any e n hc) (fun b o hc e n => u.free b o e n hc) (fun b o hc e => u.there b o e hc) u.tups u.frzs u.tbls (fun m' hm => by
    obtain ⟨o', es', ep', ho', r'⟩ := hm
    rw [ho] at ho'; cases ho'
    exact ⟨_, es', ep', hL, r'⟩) hok hg
theorem Inv.turned {t' : Nat} {it : Addr} (I : Inv X pins σ H s) (k : ∀ b o, b ≠ it → s.heap.get? b = some o → h'.get? b = some o) (hn : H it = none) (hL : it ≠ X.env.locals)
    (h1 : it ∈ X.ex ∨ X.s₀.heap.objs.size ≤ it) (h2 : ∀ x c, X.env.cells.lookup x = some c → c ≠ it) (h3 : ∀ p ∈ X.pn ++ pins, p.1 ≠ it) : Inv X pins σ H { s with heap := h', toks := t' } := by
  have nit : ∀ b u, H b = some u → b ≠ it := fun b u e z => by rw [z, hn] at e; cases e
  refine I.step (g' := s.gens) (d' := s.drawn) (ch := [it]) (fun b hb => ?_) (fun b o _ _ hc e _ => k b o (fun z => hc (by simp [z])) e) (fun b o _ _ hc e _ => ⟨o.slots, k b o (fun z => hc (by simp [z])) e⟩) (fun _ _ _ _ n => n)
    (fun b o hc e => ⟨o, k b o (fun z => hc (by simp [z])) e⟩) (fun _ _ e => e) (fun _ _ _ e => e) (fun b ps e => ⟨#[], by rw [e]; simp⟩) (fun m hm => ?_) (fun b u e => ?_) I.bare
  · have e : b = it := by simpa using hb
    subst e
    exact ⟨h1, hL, h2, h3⟩
  · obtain ⟨o, es, ep, ho, r⟩ := hm
    exact ⟨o, es, ep, k _ o (Ne.symm hL) ho, r⟩
  · refine (I.hok b u e).stay (fun c v hc q => k c v ?_ q) (fun _ q => q) fun _ _ q => q
    rcases hc with z | z
    · rw [z]; exact nit b u e
    · exact nit c _ z
theorem Inv.tok (I : Inv X pins σ H s) (t : Nat) : Inv X pins σ H { s with toks := t } := I.un (h' := s.heap) (t' := t) Un.refl I.hok
theorem Inv.kept {t' : Nat} (I : Inv X pins σ H s) (k : ∀ b u, s.heap.get? b = some u → h'.get? b = some u) : Inv X pins σ H { s with heap := h', toks := t' } := I.un (Un.kept k) (I.hok.kept k)
theorem Inv.laid {a : Addr} {o : HO} {t' : Nat} (I : Inv X pins σ H s) (k : ∀ b u, s.heap.get? b = some u → h'.get? b = some u) (hp : s.heap.objs.size ≤ a) (new : ObjOk X.prog X.w (upd H a o) h' a o) :
    Inv X pins σ (upd H a o) { s with heap := h', toks := t' } := I.un (Un.laid k hp (I.hok.fresh hp)) (I.hok.laid k hp new)
theorem Inv.write {x e : Addr} {o : HO} {t' : Nat} (I : Inv X pins σ H s) (mu : Mut (H x)) (he : e = x ∨ H e = some (.own x)) (k : ∀ b u, b ≠ e → s.heap.get? b = some u → h'.get? b = some u) (heo : ∃ u, h'.get? e = some u)
    (new : ObjOk X.prog X.w (upd H x o) h' x o) : Inv X pins σ (upd H x o) { s with heap := h', toks := t' } := I.un (Un.write mu he k heo) (I.hok.write mu he k heo new)
theorem Inv.pins_of {pins' : List (Addr × Obj)} (I : Inv X pins σ H s) (h : ∀ p ∈ pins', s.heap.get? p.1 = some p.2 ∧ H p.1 = none ∧ p.1 ≠ X.env.locals ∧ p.1 ∉ X.fs ∧ ∀ v, p.2.data ≠ .cell v) : Inv X pins' σ H s :=
  ⟨I.ok, I.os, I.bare, I.base, I.loc, I.cell, I.free, I.freeC, fun p hp => (List.mem_append.mp hp).elim (fun z => I.pin p (List.mem_append_left _ z)) (h p), I.hok, I.len⟩
theorem nodup_ix {N : List Str} (hN : N.Nodup) {i j : Nat} {x : Str} (a : N[i]? = some x) (b : N[j]? = some x) : i = j := by
  obtain ⟨h1, e1⟩ := List.getElem?_eq_some_iff.mp a
  obtain ⟨h2, e2⟩ := List.getElem?_eq_some_iff.mp b
  exact (List.getElem_inj hN).mp (e1.trans e2.symm)
theorem store_ok2 {M : Model} {A : Around} {E : Value → Shared → Prop} {i : Nat} {x : Str} {v : V} {u : Value} {Q : Unit → Shared → Prop} (I : Inv X pins σ H s) (hN : X.N.Nodup) (hi : X.N[i]? = some x) (hx : Loc X.env.scope x) (r : RelV v u)
    (h : ∀ s', Inv X pins (σ.set i (some v)) H s' → (∃ a, Heap.SameBut a s.heap s'.heap ∧ (a = X.env.locals ∨ X.env.cells.lookup x = some a)) → Q () s') (hf : autoParam (X.fn x = true ∨ X.env.scope.names.lookup x = some .local) autoK1._auto_1) : wpAny M A (storeName X.env x u) Q E s := by
  obtain ⟨m, hn, hl⟩ := id I.loc
  have hcls : (X.env.scope.kind == .class || (X.env.scope.kind == .module && X.env.locals != X.env.globals)) = false := by rw [I.ok.kind]; rfl
  have hiσ : i < σ.length := by rw [I.len]; exact (List.getElem?_eq_some_iff.mp hi).1
  have cne := I.cne
  have tracked : ∀ {a : Addr} {h' : Heap}, (∃ o, s.heap.get? a = some o ∧ H a = none) → Heap.SameBut a s.heap h' → HOk X.prog X.w H h' := fun {a h'} ha hs b ob e => by
    obtain ⟨_, _, hfree⟩ := ha
    refine (I.hok b ob e).stay (fun c w' hc q => (hs.2 c ?_).trans q) (fun _ q => q) fun _ _ q => q
    rintro rfl
    rcases hc with rfl | hc
    · rw [hfree] at e; cases e
    · rw [hfree] at hc; cases hc
  rcases hx with hk | hk
  · refine wpAny_storeName_local hk hn (fun h' hn' hs => ?_) hcls
    obtain ⟨oL, _, _, hoL, _⟩ := id hn
    refine h _ ⟨I.ok, I.os, I.bare, ⟨fun b o e n hb hx => ?_, fun b o e n hb hx => ?_, I.base.free, fun b o e hx => ?_, I.base.tups, I.base.frzs, I.base.tbls⟩, ⟨_, hn', fun j y v' e1 e2 e3 => ?_⟩, fun y c e => ?_, I.free, I.freeC, fun p hp => ?_, tracked ⟨oL, hoL, I.free⟩ hs, by simpa using I.len⟩ ⟨_, hs, .inl rfl⟩
    · exact (hs.2 b (Nat.ne_of_lt (Nat.lt_of_lt_of_le (Heap.lt_size e) I.ok.above))).trans (I.base.keep b o e n hb hx)
    · obtain ⟨sl, e1⟩ := I.base.slot b o e n hb hx
      exact ⟨sl, (hs.2 b (Nat.ne_of_lt (Nat.lt_of_lt_of_le (Heap.lt_size e) I.ok.above))).trans e1⟩
    · obtain ⟨o', e1⟩ := I.base.there b o e hx
      exact ⟨o', (hs.2 b (Nat.ne_of_lt (Nat.lt_of_lt_of_le (Heap.lt_size e) I.ok.above))).trans e1⟩
    · by_cases hj : j = i
      · subst hj
        rw [hi] at e1; cases e1
        rw [List.getElem?_set_self hiσ] at e2
        cases e2
        exact ⟨u, r, .inl ⟨hk, by simp⟩⟩
      · rw [List.getElem?_set_ne (Ne.symm hj)] at e2
        obtain ⟨u', r', q⟩ := hl j y v' e1 e2 e3
        refine ⟨u', r', ?_⟩
        rcases q with ⟨k, e⟩ | ⟨k, c, e, z⟩
        · refine .inl ⟨k, ?_⟩
          have : y ≠ x := fun e => hj (nodup_ix hN e1 (e ▸ hi))
          simp [this, e]
        · exact .inr ⟨k, c, e, z.sameBut hs (cne y c e)⟩
    · obtain ⟨w', z⟩ := I.cell y c e
      exact ⟨w', z.sameBut hs (cne y c e)⟩
    · obtain ⟨e, n, ne, nf, d⟩ := I.pin p hp
      exact ⟨(hs.2 p.1 ne).trans e, n, ne, nf, d⟩
  · have hfn : X.fn x = true := by
      rcases hf with z | z
      · exact z
      · rw [z] at hk; cases hk
    obtain ⟨c, hc⟩ := I.ok.has x (.inl hk)
    obtain ⟨w', z⟩ := I.cell x c hc
    refine wpAny_storeName_cell I.ok.kind hk hc z (fun h' hc' hs => ?_)
    obtain ⟨oc, hoc, hocd⟩ := id z
    refine h { s with heap := h' } ⟨I.ok, I.os, I.bare, ⟨fun b o e n hb hx => ?_, fun b o e n hb hx => ?_, I.base.free, fun b o e hx => ?_, I.base.tups, I.base.frzs, I.base.tbls⟩, ⟨m, hn.sameBut hs (Ne.symm (cne x c hc)), fun j y v' e1 e2 e3 => ?_⟩, fun y c' e => ?_, I.free, I.freeC, fun p hp => ?_, tracked ⟨oc, hoc, I.freeC x c hc⟩ hs, by simpa using I.len⟩ ⟨c, hs, .inr hc⟩
    · exact (hs.2 b (Nat.ne_of_lt (Nat.lt_of_lt_of_le (Heap.lt_size e) (I.ok.cab x c hfn hc)))).trans (I.base.keep b o e n hb hx)
    · obtain ⟨sl, e1⟩ := I.base.slot b o e n hb hx
      exact ⟨sl, (hs.2 b (Nat.ne_of_lt (Nat.lt_of_lt_of_le (Heap.lt_size e) (I.ok.cab x c hfn hc)))).trans e1⟩
    · obtain ⟨o', e1⟩ := I.base.there b o e hx
      exact ⟨o', (hs.2 b (Nat.ne_of_lt (Nat.lt_of_lt_of_le (Heap.lt_size e) (I.ok.cab x c hfn hc)))).trans e1⟩
    · by_cases hj : j = i
      · subst hj
        rw [hi] at e1; cases e1
        rw [List.getElem?_set_self hiσ] at e2
        cases e2
        exact ⟨u, r, .inr ⟨.inl hk, c, hc, hc'⟩⟩
      · rw [List.getElem?_set_ne (Ne.symm hj)] at e2
        obtain ⟨u', r', q⟩ := hl j y v' e1 e2 e3
        refine ⟨u', r', ?_⟩
        rcases q with q | ⟨k, c', e, z'⟩
        · exact .inl q
        · refine .inr ⟨k, c', e, z'.sameBut hs ?_⟩
          rintro rfl
          exact hj (nodup_ix hN e1 (I.ok.inj _ _ _ e hc ▸ hi))
    · by_cases hcc : c' = c
      · subst hcc; exact ⟨_, hc'⟩
      · obtain ⟨w2, z2⟩ := I.cell y c' e
        exact ⟨w2, z2.sameBut hs hcc⟩
    · obtain ⟨e, n, ne, nf, d⟩ := I.pin p hp
      refine ⟨(hs.2 p.1 ?_).trans e, n, ne, nf, d⟩
      intro q
      rw [q, hoc] at e
      have q' : oc = p.2 := Option.some.inj e
      exact d w' (by rw [← q']; exact hocd)
theorem store_ok {M : Model} {A : Around} {E : Value → Shared → Prop} {i : Nat} {x : Str} {v : V} {u : Value} {Q : Unit → Shared → Prop} (I : Inv X pins σ H s) (hN : X.N.Nodup) (hi : X.N[i]? = some x) (hx : Loc X.env.scope x) (r : RelV v u)
    (h : ∀ s', Inv X pins (σ.set i (some v)) H s' → Q () s') (hf : autoParam (X.fn x = true ∨ X.env.scope.names.lookup x = some .local) autoK1._auto_1) : wpAny M A (storeName X.env x u) Q E s :=
  store_ok2 I hN hi hx r (fun s' I' _ => h s' I') hf
theorem Inv.call' {s' : Shared} {ch : List Addr} (I : Inv X pins σ H s) (ho : s'.os = s.os) (u : Un (frs X.stack) ch H H' s.heap s'.heap) (hok : HOk X.prog X.w H' s'.heap) (hg : AllBare s'.gens)
    (hch : ∀ b ∈ ch, (b ∈ X.ex ∨ X.s₀.heap.objs.size ≤ b) ∧ b ≠ X.env.locals ∧ (∀ x c, X.env.cells.lookup x = some c → c ≠ b) ∧ ∀ p ∈ X.pn ++ pins, p.1 ≠ b) : Inv X pins σ H' s' := by
  obtain ⟨h', g', d', t', o'⟩ := s'
  have e : o' = s.os := ho
  subst e
  exact I.call (g' := g') (t' := t') (d' := d') u hok hg hch
end
abbrev XK := Value → Option Addr → Hp → Prop
abbrev St := List (Option V)
abbrev VK := V → Hp → Prop
abbrev TE := St → Hp → VK → Prop
abbrev TT := St → Hp → (Bool → Hp → Prop) → Prop
abbrev TA := St → Hp → (List V → Hp → Prop) → Prop
structure Ends where
  nx : St → Hp → Prop
  rt : VK
  bk : St → Hp → Prop := fun _ _ => False
  ct : St → Hp → Prop := fun _ _ => False
abbrev TS := Ends → St → Hp → Prop
def EP (X : Cx) (pins : List (Addr × Obj)) (σ : St) (Q : VK) (u : Value) (s' : Shared) : Prop := ∃ v H', Inv X pins σ H' s' ∧ RelV v u ∧ Q v H'
def TP (X : Cx) (pins : List (Addr × Obj)) (σ : St) (Q : Bool → Hp → Prop) (b : Bool) (s' : Shared) : Prop := ∃ H', Inv X pins σ H' s' ∧ Q b H'
def AP (X : Cx) (pins : List (Addr × Obj)) (σ : St) (Q : List V → Hp → Prop) (us : List Value) (s' : Shared) : Prop := ∃ vs H', Inv X pins σ H' s' ∧ Vals vs us ∧ Q vs H'
def SP (X : Cx) (pins : List (Addr × Obj)) (D : Ends) (f : Flow) (s' : Shared) : Prop :=
  match f with
  | .next => ∃ σ' H', Inv X pins σ' H' s' ∧ D.nx σ' H'
  | .brk => ∃ σ' H', Inv X pins σ' H' s' ∧ D.bk σ' H'
  | .cont => ∃ σ' H', Inv X pins σ' H' s' ∧ D.ct σ' H'
  | .ret u => ∃ v σ' H', Inv X pins σ' H' s' ∧ RelV v u ∧ D.rt v H'
def PE (X : Cx) (e : Expr) (t : TE) : Prop :=
  ∀ (pins : List (Addr × Obj)) (s : Shared) (σ : St) (H : Hp) (Q : VK), Inv X pins σ H s → t σ H Q → wpAny (model X.prog X.w) X.A (eval e X.env) (EP X pins σ Q) X.xe s
def PT (X : Cx) (e : Expr) (t : TT) : Prop :=
  ∀ (pins : List (Addr × Obj)) (s : Shared) (σ : St) (H : Hp) (Q : Bool → Hp → Prop), Inv X pins σ H s → t σ H Q → wpAny (model X.prog X.w) X.A (isTrue e X.env (eval e X.env)) (TP X pins σ Q) X.xe s
def PW (X : Cx) (e : Expr) (t : TT) : Prop :=
  ∀ (whole : Sem Value) (pins : List (Addr × Obj)) (s : Shared) (σ : St) (H : Hp) (Q : Bool → Hp → Prop), Inv X pins σ H s → t σ H Q → wpAny (model X.prog X.w) X.A (isTrue e X.env whole) (TP X pins σ Q) X.xe s
theorem PW.pt {X : Cx} {e : Expr} {t : TT} (h : PW X e t) : PT X e t := h _
def PA (X : Cx) (es : List Expr) (t : TA) : Prop :=
  ∀ (pos : Pos) (pins : List (Addr × Obj)) (s : Shared) (σ : St) (H : Hp) (Q : List V → Hp → Prop), Inv X pins σ H s → t σ H Q → wpAny (model X.prog X.w) X.A (spliced (backTo pos (starEach es X.env))) (AP X pins σ Q) X.xe s
def PS (X : Cx) (st : Stmt) (t : TS) : Prop :=
  ∀ (pins : List (Addr × Obj)) (s : Shared) (σ : St) (H : Hp) (D : Ends), Inv X pins σ H s → t D σ H → wpAny (model X.prog X.w) X.A (exec st X.env) (SP X pins D) X.xe s
def PSs (X : Cx) (st : List Stmt) (t : TS) : Prop :=
  ∀ (pins : List (Addr × Obj)) (s : Shared) (σ : St) (H : Hp) (D : Ends), Inv X pins σ H s → t D σ H → wpAny (model X.prog X.w) X.A (execs st X.env) (SP X pins D) X.xe s
theorem thn {α : Type} {t : Sem α} {Q Q' : α → Shared → Prop} {M : Model} {A : Around} {E : Value → Shared → Prop} {s : Shared} (h : wpAny M A t Q E s) (hQ : ∀ a s, Q a s → Q' a s) : wpAny M A t Q' E s := wpAny_mono h hQ fun _ _ x => x
end L2
namespace L2
open PySem PySem.Spec PyProof.Rows
section
variable {X : Cx}
theorem bin {a b : Expr} {ta tb : TE} (ha : PE X a ta) (hb : PE X b tb) {pins : List (Addr × Obj)} {s : Shared} {σ : St} {H : Hp} {R : V → V → Hp → Prop} (I : Inv X pins σ H s) (h : ta σ H fun x H1 => tb σ H1 fun y H2 => R x y H2)
    {α : Type} {Q : α → Shared → Prop} {f : Value → Value → Sem α}
    (hf : ∀ v u s2 x y H2, Inv X pins σ H2 s2 → RelV x v → RelV y u → R x y H2 → wpAny (model X.prog X.w) X.A (f v u) Q X.xe s2) :
    wpAny (model X.prog X.w) X.A (eval a X.env) (fun v s₁ => wpAny (model X.prog X.w) X.A (eval b X.env) (fun u s₂ => wpAny (model X.prog X.w) X.A (f v u) Q X.xe s₂) X.xe s₁) X.xe s := by
  refine thn (ha pins s σ H _ I h) fun v s1 ⟨x, H1, I1, r1, q1⟩ => ?_
  refine thn (hb pins s1 σ H1 _ I1 q1) fun u s2 ⟨y, H2, I2, r2, q2⟩ => ?_
  exact hf v u s2 x y H2 I2 r1 r2 q2
def tVar (i : Nat) : TE := fun σ H Q => ∃ v, σ[i]? = some (some v) ∧ Q v H
def tC (v : V) : TE := fun _ H Q => Q v H
theorem pe_var {i : Nat} {x : Str} {pos : Pos} (hN : X.N[i]? = some x) (hv : Vis X.env.scope x) (hd : autoParam ((x == ("__debug__" : Str)) = false) autoK2._auto_1) (hcd : autoParam ((x == ("__classdict__" : Str)) = false) autoK2._auto_1) : PE X (.Name x pos) (tVar i) := by
  intro pins s σ H Q I h
  obtain ⟨v, e, h⟩ := h
  obtain ⟨m, hn, hl⟩ := I.loc
  obtain ⟨u, r, l⟩ := hl i x v hN e hv
  have fin : EP X pins σ Q u s := ⟨v, H, I, r, h⟩
  rcases l with ⟨hk, hm⟩ | ⟨hk, c, hc, hcell⟩
  · exact wpAny_Name (wpAny_loadName_local I.ok.kind hk hn hm fin) hd
  · rcases hk with hk | hk
    · exact wpAny_Name (wpAny_loadName_cell I.ok.kind hk hc hcell fin) hd
    · exact wpAny_Name (wpAny_loadName_free I.ok.kind hk hc hcell fin hcd) hd
theorem pe_int {i j pos} : PE X (.Constant (.int i) j pos) (tC (.int i)) := fun _ _ _ H _ I h => wpAny_Constant_int ⟨.int i, H, I.tok _, ⟨_, rfl⟩, h⟩
theorem pe_bl {b j pos} : PE X (.Constant (.bool b) j pos) (tC (.bl b)) := fun _ _ _ H _ I h => Constant_bool ⟨.bl b, H, I, rfl, h⟩
theorem pe_non {j pos} : PE X (.Constant .none j pos) (tC .non) := fun _ _ _ H _ I h => Constant_none ⟨.non, H, I, rfl, h⟩
theorem pe_str {x j pos} : PE X (.Constant (.str x) j pos) (tC (.str x)) := fun _ _ _ H _ I h => Calls.Constant_str ⟨.str x, H, I.tok _, ⟨_, rfl⟩, h⟩
def Gl (X : Cx) (x : Str) : Prop := X.env.kindOf x = some .globalImplicit
theorem ld_glob {E : Value → Shared → Prop} {pins : List (Addr × Obj)} {s : Shared} {σ : St} {H : Hp} {x : Str} {u : Value} {pos : Pos} {Q : Value → Shared → Prop} (I : Inv X pins σ H s) (hg : Gl X x) (hm : X.mg x = some u) (h : Q u s)
    (hd : autoParam ((x == ("__debug__" : Str)) = false) autoK2._auto_1) : wpAny (model X.prog X.w) X.A (eval (.Name x pos) X.env) Q E s :=
  Calls.Name_function_global I.ok.kind hg (Calls.loadGlobal_global (by rw [I.ok.glob]; exact I.mod.glob.keeps I.bk) hm h) hd
theorem ld_blt {E : Value → Shared → Prop} {pins : List (Addr × Obj)} {s : Shared} {σ : St} {H : Hp} {x : Str} {u : Value} {pos : Pos} {Q : Value → Shared → Prop} (I : Inv X pins σ H s) (hg : Gl X x) (hm : X.mg x = none) (hv : bootBuiltins x = some u) (h : Q u s)
    (hn : autoParam (x ≠ "__name__") autoK2._auto_1) (hd : autoParam ((x == ("__debug__" : Str)) = false) autoK2._auto_1) : wpAny (model X.prog X.w) X.A (eval (.Name x pos) X.env) Q E s := by
  obtain ⟨mb, h1, h2⟩ := I.mod.blt
  exact Calls.Name_function_global I.ok.kind hg (Calls.loadGlobal_builtin (by rw [I.ok.glob]; exact I.mod.glob.keeps I.bk) hm (by rw [I.ok.blt]; exact h1.keeps I.bk) ((h2 x hn).trans hv) h) hd
theorem pe_glob {x : Str} {v : V} {u : Value} {pos : Pos} (hg : Gl X x) (hm : X.mg x = some u) (r : RelV v u) (hd : autoParam ((x == ("__debug__" : Str)) = false) autoK2._auto_1) : PE X (.Name x pos) (tC v) :=
  fun _ _ _ H _ I h => ld_glob I hg hm ⟨v, H, I, r, h⟩ hd
theorem pe_bltn {x : Str} {v : V} {u : Value} {pos : Pos} (hg : Gl X x) (hm : X.mg x = none) (hv : bootBuiltins x = some u) (r : RelV v u) (hn : autoParam (x ≠ "__name__") autoK2._auto_1) (hd : autoParam ((x == ("__debug__" : Str)) = false) autoK2._auto_1) : PE X (.Name x pos) (tC v) :=
  fun _ _ _ H _ I h => ld_blt I hg hm hv ⟨v, H, I, r, h⟩ hn hd
variable {a b : Expr} {ta tb : TE} {pos : Pos}
def PC (X : Cx) (op : CmpOp) (a b : Expr) (t : TE) : Prop :=
  ∀ (pins : List (Addr × Obj)) (s : Shared) (σ : St) (H : Hp) (Q : VK), Inv X pins σ H s → t σ H Q →
    wpAny (model X.prog X.w) X.A (eval a X.env) (fun v s₁ => wpAny (model X.prog X.w) X.A (eval b X.env) (fun u s₂ => wpAny (model X.prog X.w) X.A (compareOp op v u) (EP X pins σ Q) X.xe s₂) X.xe s₁) X.xe s
theorem nobehind (b : Expr) {op : CmpOp} (h : op ≠ .In) (h2 : op ≠ .NotIn) : behindInMarks op b = false := by
  have e1 : (op == CmpOp.In) = false := by cases op <;> first | rfl | exact absurd rfl h
  have e2 : (op == CmpOp.NotIn) = false := by cases op <;> first | rfl | exact absurd rfl h2
  cases b <;> simp [behindInMarks, e1, e2]
def tB (t : TE) : TT := fun σ H Q => t σ H fun x H1 => ∃ c, x = .bl c ∧ Q c H1
theorem pt_cmp {op : CmpOp} {t : TE} (h : PC X op a b t) (h1 : autoParam (behindInMarks op b = false) autoK3._auto_1) : PT X (.Compare a [op] [b] pos) (tB t) := by
  intro pins s σ H Q I hw
  refine wpAny_isTrue_Compare1 (thn (h pins s σ H _ I hw) fun v s1 h1 => thn h1 fun u s2 h2 => thn h2 fun c s3 ⟨x, H1, I1, r1, q1⟩ => ?_) h1
  obtain ⟨d, rfl, q⟩ := q1
  cases r1
  exact wpAny_truthy_bool ⟨H1, I1, q⟩
theorem pt_val {e : Expr} {t : TE} (h : PE X e t) (he : autoParam (∀ whole, isTrue e X.env whole = (do let v ← whole; standAt e.pos; holding [v] (truthy v))) autoK4._auto_1) : PT X e (tB t) := by
  intro pins s σ H Q I hw
  refine isTrue_plain (thn (h pins s σ H _ I hw) fun v s1 ⟨x, H1, I1, r1, q1⟩ => ?_) (he _)
  obtain ⟨d, rfl, q⟩ := q1
  cases r1
  exact wpAny_truthy_bool ⟨H1, I1, q⟩
variable {tA tB' : TT} {rest : List Expr}
def tOr (t u : TT) : TT := fun σ H Q => t σ H fun c H1 => if c = true then Q true H1 else u σ H1 Q
def tNot (t : TT) : TT := fun σ H Q => t σ H fun c H1 => Q (!c) H1
theorem pw_or1 (ha : PT X a tA) : PW X (.BoolOp .Or [a] pos) tA := by
  intro wh pins s σ H Q I h
  refine isTrue_or (thn (ha pins s σ H Q I h) fun c s1 e => ?_)
  cases c with
  | false => exact isTrue_or_nil e
  | true => exact e
theorem pw_or (ha : PT X a tA) (hb : PW X (.BoolOp .Or (b :: rest) pos) tB') : PW X (.BoolOp .Or (a :: b :: rest) pos) (tOr tA tB') := by
  intro wh pins s σ H Q I h
  refine isTrue_or (thn (ha pins s σ H _ I h) fun c s1 ⟨H1, I1, q1⟩ => ?_)
  cases c with
  | true => exact ⟨H1, I1, q1⟩
  | false => exact hb wh pins s1 σ H1 Q I1 q1
theorem pt_not (ha : PT X a tA) : PT X (.UnaryOp .Not a pos) (tNot tA) := by
  intro pins s σ H Q I h
  exact isTrue_not (ha pins s σ H (fun c H1 => Q (!c) H1) I h)
def tAndV (ta tb : TE) : TE := fun σ H Q => ta σ H fun x H1 => ∃ c, x = .bl c ∧ if c = true then tb σ H1 Q else Q (.bl false) H1
theorem pe_one {op} {t : TE} (h : PE X a t) : PE X (.BoolOp op [a] pos) t := fun pins s σ H Q I hw => BoolOp_one (h pins s σ H Q I hw)
theorem pe_and (ha : PE X a ta) (hb : PE X (.BoolOp .And (b :: rest) pos) tb) : PE X (.BoolOp .And (a :: b :: rest) pos) (tAndV ta tb) := by
  intro pins s σ H Q I h
  refine BoolOp_and (thn (ha pins s σ H _ I h) fun v s1 ⟨x, H1, I1, r1, q1⟩ => ?_)
  obtain ⟨c, rfl, q1⟩ := q1
  cases r1
  refine wpAny_truthy_bool ?_
  cases c with
  | true => exact hb pins s1 σ H1 Q I1 q1
  | false => exact ⟨.bl false, H1, I1, rfl, q1⟩
end
end L2
namespace L2
open PySem PySem.Spec PyProof.Rows
def SqL (K : PySem.W.Frag) (H : Hp) (a : Addr) (xs : List V) : Prop :=
  Rd H a (.lst xs) ∨
    ∃ (o : Obj) (its : Array Value) (n : Nat), K.lookup a = some o ∧ o.cls = .type "list" ∧ o.dict = none ∧ o.data = .seq its n ∧ its.size ≤ sizeLine ∧ Vals xs its.toList
def SqT (K : PySem.W.Frag) (H : Hp) (a : Addr) (xs : List V) : Prop :=
  Rd H a (.tup xs) ∨
    ∃ (o : Obj) (its : Array Value) (n : Nat), K.lookup a = some o ∧ o.cls = .type "tuple" ∧ o.data = .seq its n ∧ its.size ≤ sizeLine ∧ Vals xs its.toList
def absV : Value → Option V
  | .none => some .non
  | .bool b => some (.bl b)
  | .int i _ => some (.int i)
  | .str x _ => some (.str x)
  | .bytes b _ => some (.byt b)
  | .float b _ => some (.flt b)
  | .ref a => some (.ref a)
  | .type n => some (.ty n)
  | _ => none
theorem RelV.abs {x : V} {u : Value} (r : RelV x u) : absV u = some x := by
  cases x with
  | non => cases r; rfl
  | bl _ => cases r; rfl
  | int _ => obtain ⟨t, rfl⟩ := r; rfl
  | str _ => obtain ⟨t, rfl⟩ := r; rfl
  | byt _ => obtain ⟨t, rfl⟩ := r; rfl
  | flt _ => obtain ⟨t, rfl⟩ := r; rfl
  | ref _ => cases r; rfl
  | ty _ => cases r; rfl
theorem RelV.inj {x y : V} {u : Value} (r : RelV x u) (q : RelV y u) : x = y := Option.some.inj (r.abs.symm.trans q.abs)
theorem Vals.inj : ∀ {xs ys : List V} {us : List Value}, Vals xs us → Vals ys us → xs = ys
  | _, _, _, .nil, .nil => rfl
  | _, _, _, .cons r t, .cons r' t' => by rw [r.inj r', Vals.inj t t']
section
variable {X : Cx} {pins : List (Addr × Obj)} {σ : St} {H : Hp} {s : Shared} {a : Addr} {xs ys : List V}
theorem SqL.of {K : PySem.W.Frag} (h : H a = some (.lst xs)) : SqL K H a xs := .inl (.inl h)
theorem Inv.list (I : Inv X pins σ H s) (h : SqL X.K H a xs) : ∃ its : List Value, Vals xs its ∧ PlainL s.heap a its.toArray ∧ xs.length ≤ sizeLine := by
  rcases h with h | ⟨o, its, n, hk, hc, hd, hs, hz, r⟩
  · obtain ⟨z, its, n, r, e⟩ := h.ok I.hok
    exact ⟨its, r, ⟨_, n, e, rfl, rfl, rfl⟩, z⟩
  · refine ⟨its.toList, r, ⟨o, n, I.kIn a o hk, hc, hd, by simpa using hs⟩, ?_⟩
    have e := r.length
    simp only [Array.length_toList] at e
    bv_omega
theorem Inv.tuple (I : Inv X pins σ H s) (h : SqT X.K H a xs) : ∃ its : List Value, Vals xs its ∧ IsTup s.heap a its.toArray ∧ xs.length ≤ sizeLine := by
  rcases h with h | ⟨o, its, n, hk, hc, hs, hz, r⟩
  · obtain ⟨z, its, r, p⟩ := h.ok I.hok
    exact ⟨its, r, p.tup, z⟩
  · refine ⟨its.toList, r, ⟨o, I.kIn a o hk, hc, n, by simpa using hs⟩, ?_⟩
    have e := r.length
    simp only [Array.length_toList] at e
    bv_omega
theorem Inv.list_inj (I : Inv X pins σ H s) (h : SqL X.K H a xs) (h' : SqL X.K H a ys) : xs = ys := by
  obtain ⟨its, r, ⟨o, n, e, _, _, d⟩, _⟩ := I.list h
  obtain ⟨its', r', ⟨o', n', e', _, _, d'⟩, _⟩ := I.list h'
  rw [e] at e'; cases e'
  rw [d] at d'
  injection d' with d1 _
  have : its = its' := by simpa using congrArg Array.toList d1
  subst this
  exact r.inj r'
theorem Inv.tuple_inj (I : Inv X pins σ H s) (h : SqT X.K H a xs) (h' : SqT X.K H a ys) : xs = ys := by
  obtain ⟨its, r, ⟨o, e, _, n, d⟩, _⟩ := I.tuple h
  obtain ⟨its', r', ⟨o', e', _, n', d'⟩, _⟩ := I.tuple h'
  rw [e] at e'; cases e'
  rw [d] at d'
  injection d' with d1 _
  have : its = its' := by simpa using congrArg Array.toList d1
  subst this
  exact r.inj r'
end
section
variable {X : Cx} {pins : List (Addr × Obj)} {σ : St} {H : Hp} {s : Shared} {E : Value → Shared → Prop}
end
section
variable {X : Cx} {st : Stmt} {rest : List Stmt} {t u : TS} {e : Expr} {te : TE} {pos : Pos}
def tNext : TS := fun D σ H => D.nx σ H
def tSeq (t u : TS) : TS := fun D σ H => t { D with nx := u D } σ H
theorem pss_nil : PSs X [] tNext := fun _ _ σ H _ I h => wpAny_execs_nil ⟨σ, H, I, h⟩
theorem pss_cons (h1 : PS X st t) (h2 : PSs X rest u) : PSs X (st :: rest) (tSeq t u) := by
  intro pins s σ H D I h
  refine wpAny_execs_cons (thn (h1 pins s σ H { D with nx := u D } I h) fun f s1 q => ?_)
  cases f with
  | next =>
    obtain ⟨σ', H', I', q⟩ := q
    exact h2 pins s1 σ' H' D I' q
  | ret v => exact q
  | brk => exact q
  | cont => exact q
theorem pss_one (h1 : PS X st t) : PSs X [st] t := by
  intro pins s σ H D I h
  refine wpAny_execs_cons (thn (h1 pins s σ H D I h) fun f s1 q => ?_)
  cases f with
  | next => exact wpAny_execs_nil q
  | ret v => exact q
  | brk => exact q
  | cont => exact q
theorem Inv.quiet {pins : List (Addr × Obj)} {σ : St} {H : Hp} {s : Shared} (I : Inv X pins σ H s) : interactive X.env = false := by simp [interactive, I.ok.kind]
def tDrop (te : TE) : TS := fun D σ H => te σ H fun _ H1 => D.nx σ H1
theorem ps_expr (he : PE X e te) (hs : autoParam (swapsWith e none pos.line X.env = pure false) autoK5._auto_1) : PS X (.Expr e pos) (tDrop te) := by
  intro pins s σ H D I h
  exact wpAny_Expr_any (thn (he pins s σ H _ I h) fun v s1 ⟨x, H1, I1, r1, q1⟩ => ⟨σ, H1, I1, q1⟩) I.quiet hs
def tRet (te : TE) : TS := fun D σ H => te σ H D.rt
theorem ps_ret (he : PE X e te) : PS X (.Return (some e) pos) (tRet te) := by
  intro pins s σ H D I h
  exact wpAny_Return_some (thn (he pins s σ H _ I h) fun v s1 ⟨x, H1, I1, r1, q1⟩ => ⟨x, σ, H1, I1, r1, q1⟩)
def tIfS (c : TT) (t u : TS) : TS := fun D σ H => c σ H fun b H1 => if b = true then t D σ H1 else u D σ H1
theorem ps_if {c : Expr} {a b : List Stmt} {tc : TT} (hc : PT X c tc) (ha : PSs X a t) (hb : PSs X b u) : PS X (.If c a b pos) (tIfS tc t u) := by
  intro pins s σ H D I h
  refine wpAny_If (thn (hc pins s σ H _ I h) fun d s1 ⟨H1, I1, q1⟩ => ?_)
  cases d with
  | true => exact ha pins s1 σ H1 D I1 q1
  | false => exact hb pins s1 σ H1 D I1 q1
end
abbrev TG := V → St → Hp → (St → Hp → Prop) → Prop
abbrev TGs := List V → St → Hp → (St → Hp → Prop) → Prop
def PG (X : Cx) (target : Expr) (t : TG) : Prop :=
  ∀ (pins : List (Addr × Obj)) (s : Shared) (σ : St) (H : Hp) (v : V) (u : Value) (Q : St → Hp → Prop), Inv X pins σ H s → RelV v u → t v σ H Q →
    wpAny (model X.prog X.w) X.A (assign target X.env u) (fun _ s' => ∃ σ' H', Inv X pins σ' H' s' ∧ Q σ' H') X.xe s
def PGs (X : Cx) (ts : List Expr) (t : TGs) : Prop :=
  ∀ (pins : List (Addr × Obj)) (s : Shared) (σ : St) (H : Hp) (vs : List V) (us : List Value) (Q : St → Hp → Prop), Inv X pins σ H s → Vals vs us → t vs σ H Q →
    wpAny (model X.prog X.w) X.A (assignInOrder ((assignEach ts X.env).map (·.2)) us) (fun _ s' => ∃ σ' H', Inv X pins σ' H' s' ∧ Q σ' H') X.xe s
abbrev TSet := V → V → V → Hp → (Hp → Prop) → Prop
def PSet (X : Cx) (t : TSet) : Prop :=
  ∀ (pins : List (Addr × Obj)) (s : Shared) (σ : St) (H : Hp) (o i v : V) (ov iv u : Value) (Q : Hp → Prop), Inv X pins σ H s → RelV o ov → RelV i iv → RelV v u → t o i v H Q →
    wpAny (model X.prog X.w) X.A (setItem ov iv u) (fun _ s' => ∃ H', Inv X pins σ H' s' ∧ Q H') X.xe s
abbrev TIp := V → V → Hp → VK → Prop
def PIp (X : Cx) (op : Operator) (t : TIp) : Prop :=
  ∀ (pins : List (Addr × Obj)) (s : Shared) (σ : St) (H : Hp) (x y : V) (v u : Value) (Q : VK), Inv X pins σ H s → RelV x v → RelV y u → t x y H Q →
    wpAny (model X.prog X.w) X.A (inplaceOp op v u) (EP X pins σ Q) X.xe s
section
variable {X : Cx} {pos : Pos}
def gName (i : Nat) : TG := fun v σ H Q => Q (σ.set i (some v)) H
theorem pg_name {i : Nat} {x : Str} (hN : X.N.Nodup) (hi : X.N[i]? = some x) (hx : Loc X.env.scope x) (hf : autoParam (X.fn x = true ∨ X.env.scope.names.lookup x = some .local) autoK1._auto_1) : PG X (.Name x pos) (gName i) := by
  intro pins s σ H v u Q I r h
  exact wpAny_assign_Name (store_ok I hN hi hx r (fun s' I' => ⟨_, H, I', h⟩) hf)
def gNil : TGs := fun vs σ H Q => vs = [] ∧ Q σ H
def gCons (t : TG) (u : TGs) : TGs := fun vs σ H Q => ∃ v r, vs = v :: r ∧ t v σ H fun σ' H' => u r σ' H' Q
theorem pgs_nil : PGs X [] gNil := by
  intro pins s σ H vs us Q I r h
  obtain ⟨e, h⟩ := h
  subst e
  cases r
  exact assignInOrder_nil ⟨σ, H, I, h⟩
theorem pgs_cons {e : Expr} {es : List Expr} {t : TG} {u : TGs} (h1 : PG X e t) (h2 : PGs X es u)
    (hs : autoParam ((assignEach (e :: es) X.env).map (·.2) = assign e X.env :: (assignEach es X.env).map (·.2)) autoK5._auto_1) : PGs X (e :: es) (gCons t u) := by
  intro pins s σ H vs us Q I r h
  obtain ⟨v, vr, e1, h⟩ := h
  subst e1
  cases r with
  | cons r rr =>
    rw [hs]
    refine assignInOrder_cons (thn (h1 pins s σ H _ _ _ I r h) fun _ s1 ⟨σ1, H1, I1, q1⟩ => ?_)
    exact h2 pins s1 σ1 H1 _ _ Q I1 rr q1
def gTup (K : PySem.W.Frag) (n : Nat) (t : TGs) : TG := fun v σ H Q => ∃ a xs, v = .ref a ∧ SqT K H a xs ∧ xs.length = n ∧ t xs σ H Q
theorem pg_tup {es : List Expr} {k : Nat} {t : TGs} {n : Nat} (hc : X.calm = true) (h : PGs X es t)
    (hn : autoParam ((assignEach es X.env).length = n) autoK5._auto_1) (hst : autoParam ((assignEach es X.env).findIdx? (·.1) = none) autoK5._auto_1) : PG X (.Tuple es k pos) (gTup X.K n t) := by
  intro pins s σ H v u Q I r hw
  obtain ⟨a, xs, e1, hq, hl, hw⟩ := hw
  subst e1
  cases r
  obtain ⟨its, rv, ht, hz⟩ := I.tuple hq
  refine assign_Tuple_tuple (I.ok.hd hc) ht (by simp [hn, ← hl, rv.length]) hst fun h' hx => ?_
  have I1 : Inv X pins σ H { s with heap := h' } := I.kept (t' := s.toks) fun b o e => hx b o (Nat.ne_of_lt (Heap.lt_size e)) e
  exact h pins _ σ H xs _ Q I1 (by simpa using rv) hw
def gSub (to ti : TE) (t : TSet) : TG := fun v σ H Q => to σ H fun o H1 => ti σ H1 fun i H2 => t o i v H2 fun H3 => Q σ H3
theorem pg_sub {o i : Expr} {to ti : TE} {t : TSet} (ho : PE X o to) (hi : PE X i ti) (hs : PSet X t)
    (ha : ∀ v, assign (.Subscript o i pos) X.env v = (do
      let ov ← holding [v] (eval o X.env)
      let iv ← holding [v, ov] (eval i X.env)
      standAt pos
      holding [v, ov, iv] (setItem ov iv v)
      release [v, ov, iv] []) := by intro _; rfl) : PG X (.Subscript o i pos) (gSub to ti t) := by
  intro pins s σ H v u Q I r h
  rw [ha]
  refine wpAny_bind (wpAny_holding (thn (ho pins s σ H _ I h) fun ov s1 ⟨x, H1, I1, r1, q1⟩ => ?_))
  refine wpAny_bind (wpAny_holding (thn (hi pins s1 σ H1 _ I1 q1) fun iv s2 ⟨y, H2, I2, r2, q2⟩ => ?_))
  refine wpAny_bind (wpAny_standAt (wpAny_bind (wpAny_holding (thn (hs pins s2 σ H2 x y v ov iv u _ I2 r1 r2 r q2) fun _ s3 ⟨H3, I3, q3⟩ => ?_))))
  exact wpAny_release ⟨σ, H3, I3, q3⟩
def tAsg (te : TE) (g : TG) : TS := fun D σ H => te σ H fun x H1 => g x σ H1 D.nx
theorem ps_asg {tg e : Expr} {te : TE} {g : TG} (he : PE X e te) (hg : PG X tg g) (hs : autoParam (swapsWithSole [tg] e pos.line X.env = pure false) autoK5._auto_1) (hw : autoParam (swappedStores [tg] e X.env = pure none) autoK5._auto_1)
    (h1 : autoParam ((assignEach [tg] X.env).map (·.2) = [assign tg X.env]) autoK5._auto_1) : PS X (.Assign [tg] e pos) (tAsg te g) := by
  intro pins s σ H D I h
  refine wpAny_Assign_stores (thn (he pins s σ H _ I h) fun v s1 ⟨x, H1, I1, r1, q1⟩ => ?_) hs hw
  rw [h1]
  exact thn (hg pins s1 σ H1 x v _ I1 r1 q1) fun _ s2 q => q
theorem ps_set {i : Nat} {x : Str} {e : Expr} {te : TE} {pos' : Pos} (hN : X.N.Nodup) (hi : X.N[i]? = some x) (hx : Loc X.env.scope x) (he : PE X e te) (hs : autoParam (swapsWith e (some (.Name x pos')) pos.line X.env = pure false) autoK5._auto_1) (hf : autoParam (X.fn x = true ∨ X.env.scope.names.lookup x = some .local) autoK1._auto_1) :
    PS X (.Assign [.Name x pos'] e pos) (tAsg te (gName i)) := by
  intro pins s σ H D I h
  refine wpAny_Assign_Name (thn (he pins s σ H _ I h) fun v s1 ⟨y, H1, I1, r1, q1⟩ => ?_) hs
  exact store_ok I1 hN hi hx r1 (fun s2 I2 => ⟨_, H1, I2, q1⟩) hf
def tAug (i : Nat) (te : TE) (ti : TIp) : TS := fun D σ H => ∃ x, σ[i]? = some (some x) ∧ te σ H fun y H1 => ti x y H1 fun z H2 => D.nx (σ.set i (some z)) H2
theorem ps_aug {i : Nat} {x : Str} {e : Expr} {te : TE} {op : Operator} {ti : TIp} {pos' : Pos} (hN : X.N.Nodup) (hi : X.N[i]? = some x) (hx : Loc X.env.scope x) (he : PE X e te) (ho : PIp X op ti) (hf : autoParam (X.fn x = true ∨ X.env.scope.names.lookup x = some .local) autoK1._auto_1) :
    PS X (.AugAssign (.Name x pos') op e pos) (tAug i te ti) := by
  intro pins s σ H D I h
  obtain ⟨v, e1, h⟩ := h
  obtain ⟨m, hn, hl⟩ := I.loc
  have vis : Vis X.env.scope x := by rcases hx with k | k; exact .inl k; exact .inr (.inl k)
  obtain ⟨u, r, l⟩ := hl i x v hi e1 vis
  refine wpAny_AugAssign_Name ?_
  have go : wpAny (model X.prog X.w) X.A (eval e X.env) (fun w s₂ => wpAny (model X.prog X.w) X.A (inplaceOp op u w) (fun r s₃ => wpAny (model X.prog X.w) X.A (storeName X.env x r) (fun _ => SP X pins D .next) X.xe s₃) X.xe s₂) X.xe s := by
    refine thn (he pins s σ H _ I h) fun w s1 ⟨y, H1, I1, r1, q1⟩ => ?_
    refine thn (ho pins s1 σ H1 v y u w _ I1 r r1 q1) fun z s2 ⟨zv, H2, I2, r2, q2⟩ => ?_
    exact store_ok I2 hN hi hx r2 (fun s3 I3 => ⟨_, H2, I3, q2⟩) hf
  rcases l with ⟨hk, hm⟩ | ⟨hk, c, hc, hcell⟩
  · exact wpAny_loadName_local I.ok.kind hk hn hm go
  · rcases hk with hk | hk
    · exact wpAny_loadName_cell I.ok.kind hk hc hcell go
    · rcases hx with k | k
      · have : X.env.scope.names.lookup x = some .free := hk
        rw [k] at this; cases this
      · have : X.env.scope.names.lookup x = some .free := hk
        rw [k] at this; cases this
end
section
variable {X : Cx} {pos : Pos}
def tWhile (c : TT) (tb : TS) : TS := fun D σ H => ∃ W : Nat → St → Hp → Prop, (∃ m, W m σ H) ∧ ∀ m σ H, W m σ H →
  c σ H fun b H1 => if b = true then ∃ N : St → Hp → Prop, (∀ σ' H', N σ' H' → ∃ m', m' < m ∧ W m' σ' H') ∧ tb { D with nx := N, ct := N, bk := D.nx } σ H1 else D.nx σ H1
theorem ps_while {c : Expr} {body : List Stmt} {tc : TT} {tb : TS} (hp : PassesOwn (model X.prog X.w) X.A X.env X.xe) (hc : PT X c tc) (hb : PSs X body tb) : PS X (.While c body [] pos) (tWhile tc tb) := by
  intro pins s σ H D I h
  obtain ⟨W, ⟨m0, w0⟩, turn⟩ := h
  refine wpAny_While (codeAny_whileLoop (fun n s' => ∃ σ' H', Inv X pins σ' H' s' ∧ W n σ' H') ?_ m0 ⟨σ, H, I, w0⟩)
  rintro n s1 ⟨σ1, H1, I1, w1⟩
  refine wpAny_passesOwn hp (thn (hc pins s1 σ1 H1 _ I1 (turn n σ1 H1 w1)) fun b s2 ⟨H2, I2, q2⟩ => ?_)
  cases b with
  | true =>
    obtain ⟨N, hN, q2⟩ := q2
    rw [if_pos rfl]
    refine wpAny_passesOwn hp (thn (hb pins s2 σ1 H2 _ I2 q2) fun f s3 q3 => ?_)
    cases f with
    | next =>
      obtain ⟨σ3, H3, I3, n3⟩ := q3
      obtain ⟨m', hm, w3⟩ := hN σ3 H3 n3
      exact ⟨m', hm, σ3, H3, I3, w3⟩
    | cont =>
      obtain ⟨σ3, H3, I3, n3⟩ := q3
      obtain ⟨m', hm, w3⟩ := hN σ3 H3 n3
      exact ⟨m', hm, σ3, H3, I3, w3⟩
    | brk => exact q3
    | ret v => exact q3
  | false =>
    rw [if_neg Bool.false_ne_true]
    exact wpAny_execs_nil ⟨σ1, H2, I2, q2⟩
end
structure It where
  go : Nat → Hp → Prop
  yld : Nat → Hp → V → Hp → Prop
  stop : Nat → Hp → Prop
def FpOk (X : Cx) (pins : List (Addr × Obj)) (H : Hp) (b : Addr) : Prop :=
  H b = none ∧ b ≠ X.env.locals ∧ b ∉ X.fs ∧ (b ∈ X.ex ∨ X.s₀.heap.objs.size ≤ b) ∧ (∀ x c, X.env.cells.lookup x = some c → c ≠ b) ∧ ∀ p ∈ X.pn ++ pins, p.1 ≠ b
theorem Inv.fpOk {X : Cx} {pins : List (Addr × Obj)} {σ : St} {H H' : Hp} {s : Shared} {b : Addr} (I : Inv X pins σ H s) (hb : s.heap.objs.size ≤ b) (hn : H' b = none) : FpOk X pins H' b := by
  refine ⟨hn, Nat.ne_of_gt (Nat.lt_of_lt_of_le I.lt hb), I.nofs hb, .inr (Nat.le_trans I.sz hb), fun x c e z => ?_, fun p hp z => ?_⟩
  · obtain ⟨v, q⟩ := I.cell x c e
    exact absurd (Nat.lt_of_lt_of_le q.lt (by rw [z]; exact hb)) (Nat.lt_irrefl _)
  · exact absurd (Nat.lt_of_lt_of_le (Heap.lt_size (I.pin p hp).1) (by rw [z]; exact hb)) (Nat.lt_irrefl _)
structure Turn (P : Program) (w : World) (K : PySem.W.Frag) (tg : Expr) (J : It) (fp : List Addr) (it : Addr) (tn : Nat → Heap → Prop) : Prop where
  mem : it ∈ fp
  obj : ∀ i h, tn i h → ∀ b ∈ fp, ∃ o, h.get? b = some o ∧ ∀ v, o.data ≠ .cell v
  keep : ∀ i h h', tn i h → (∀ b ∈ fp, ∀ o, h.get? b = some o → h'.get? b = some o) → tn i h'
  item : ∀ (X : Cx), X.prog = P → X.w = w → X.K = K → X.calm = true → ∀ (i : Nat) (pins : List (Addr × Obj)) (s : Shared) (σ : St) (H : Hp) (E : Value → Shared → Prop), Inv X pins σ H s → (∀ b ∈ fp, FpOk X pins H b) → tn i s.heap → J.go i H →
    wpAny (model P w) X.A (pyNext (.ref it)) (fun r s1 => ∃ u, r = some u ∧
      wpAny (model P w) X.A (letOwnedTupleGo tg (.ref it) u) (fun _ s2 => ∃ x H', Inv X pins σ H' s2 ∧ RelV x u ∧ J.yld i H x H' ∧ tn (i + 1) s2.heap ∧ ∀ b ∈ fp, H' b = none) E s1) E s
  done : ∀ (X : Cx), X.prog = P → X.w = w → X.K = K → X.calm = true → ∀ (i : Nat) (pins : List (Addr × Obj)) (s : Shared) (σ : St) (H : Hp) (E : Value → Shared → Prop), Inv X pins σ H s → (∀ b ∈ fp, FpOk X pins H b) → tn i s.heap → J.stop i H →
    wpAny (model P w) X.A (pyNext (.ref it)) (fun r s1 => r = none ∧ Inv X pins σ H s1) E s
  self : ∀ (A : Around) (i : Nat) (s : Shared) (Q : Value → Shared → Prop) (E : Value → Shared → Prop), tn i s.heap → Q (.ref it) s → wpAny (model P w) A (pyIter (.ref it)) Q E s
abbrev TI := St → Hp → (It → Hp → Prop) → Prop
def PIE (X : Cx) (pins : List (Addr × Obj)) (σ : St) (tg : Expr) (R : It → Hp → Prop) (itv : Value) (s2 : Shared) : Prop :=
  ∃ (it : Addr) (fp : List Addr) (tn : Nat → Heap → Prop) (J : It) (H' : Hp), itv = .ref it ∧ Inv X pins σ H' s2 ∧ Turn X.prog X.w X.K tg J fp it tn ∧ tn 0 s2.heap ∧ (∀ b ∈ fp, FpOk X pins H' b) ∧ R J H'
def PI (X : Cx) (tg iter : Expr) (wi : TI) : Prop :=
  ∀ (pins : List (Addr × Obj)) (s : Shared) (σ : St) (H : Hp) (R : It → Hp → Prop), Inv X pins σ H s → wi σ H R →
    wpAny (model X.prog X.w) X.A (eval iter X.env) (fun v s1 => wpAny (model X.prog X.w) X.A (pyIter v) (PIE X pins σ tg R) X.xe s1) X.xe s
theorem go_of {M : Model} {A : Around} {E : Value → Shared → Prop} {s : Shared} {tg : Expr} {it : Addr} {u : Value} {o : Obj} {n : String} {vs : Array Value} {Q : Unit → Shared → Prop} (ho : s.heap.get? it = some o) (hc : o.cls = .type n) (hd : o.data = .fields vs)
    (hn : ["enumerate", "zip", "dict_itemiterator", "dict_reverseitemiterator", "odict_iterator", "itertools.zip_longest", "itertools.pairwise"].contains n = false) (hQ : Q () s) : wpAny M A (letOwnedTupleGo tg (.ref it) u) Q E s := by
  unfold letOwnedTupleGo
  cases tg <;> first
    | exact wpAny_pure hQ
    | (cases u <;> first
        | exact wpAny_pure hQ
        | (refine wpAny_bind (wpAny_load ho ?_)
           rw [hc, hd]
           show wpAny M A (if (["enumerate", "zip", "dict_itemiterator", "dict_reverseitemiterator", "odict_iterator", "itertools.zip_longest", "itertools.pairwise"].contains n && vs[0]? == some (rawInt _)) = true then _ else _) Q E s
           rw [if_neg (by intro h; rw [hn, Bool.false_and] at h; cases h)]
           exact wpAny_pure hQ))
def Itl (K : PySem.W.Frag) (a : Addr) : It :=
  ⟨fun i H => ∃ xs x, SqL K H a xs ∧ xs[i]? = some x, fun i H x H' => H' = H ∧ ∀ xs, SqL K H a xs → xs[i]? = some x, fun i H => ∃ xs, SqL K H a xs ∧ xs.length ≤ i⟩
def Itt (K : PySem.W.Frag) (a : Addr) : It :=
  ⟨fun i H => ∃ xs x, SqT K H a xs ∧ xs[i]? = some x, fun i H x H' => H' = H ∧ ∀ xs, SqT K H a xs → xs[i]? = some x, fun i H => ∃ xs, SqT K H a xs ∧ xs.length ≤ i⟩
def Itr (lo : Int) (n : Nat) : It := ⟨fun i _ => i < n, fun i H x H' => H' = H ∧ x = .int (lo + i), fun i _ => n ≤ i⟩
theorem turn_list {P : Program} {w : World} {K : PySem.W.Frag} {tg : Expr} (a it : Addr) : Turn P w K tg (Itl K a) [it] it (fun i h => h.IsListIter it a i) where
  mem := by simp
  obj := fun i h st b hb => by
    have e : b = it := by simpa using hb
    subst e
    obtain ⟨o, e, c, d⟩ := st
    exact ⟨o, e, fun v z => by rw [d] at z; cases z⟩
  keep := fun i h h' st k => st.at fun o e => k it (by simp) o e
  item := by
    intro X hP hw hK hc i pins s σ H E I hf st hg
    subst hP hw hK
    obtain ⟨xs, x, hq, hx⟩ := hg
    obtain ⟨its, rv, p, hz⟩ := I.list hq
    obtain ⟨u, hu, ru⟩ := rv.get hx
    obtain ⟨f0, f1, f2, f3, f4, f5⟩ := hf it (by simp)
    refine wpAny_pyNext_list_item st p.isList (x := u) (by simpa using hu) fun h' st' sb => ?_
    have I1 : Inv X pins σ H { s with heap := h' } := I.turned (t' := s.toks) (fun b o hb e => (sb.2 b hb).trans e) f0 f1 f3 f4 f5
    obtain ⟨o, e, c, d⟩ := id st'
    exact ⟨u, rfl, go_of (s := { s with heap := h' }) e c d (by decide) ⟨x, H, I1, ru, ⟨rfl, fun ys hy => by rw [I.list_inj hy hq]; exact hx⟩, st', fun b hb => (hf b hb).1⟩⟩
  done := by
    intro X hP hw hK hc i pins s σ H E I hf st hg
    subst hP hw hK
    obtain ⟨xs, hq, hx⟩ := hg
    obtain ⟨its, rv, p, hz⟩ := I.list hq
    obtain ⟨f0, f1, f2, f3, f4, f5⟩ := hf it (by simp)
    have hl := rv.length
    exact wpAny_pyNext_list_end (I.ok.hd hc) st p.isList (by simp; bv_omega) fun h' eb => ⟨rfl, I.turned (t' := s.toks) (fun b o hb e => eb b o hb e) f0 f1 f3 f4 f5⟩
  self := fun _ _ _ _ _ st h => wpAny_pyIter_listiter st h
theorem turn_tuple {P : Program} {w : World} {K : PySem.W.Frag} {tg : Expr} (a it : Addr) : Turn P w K tg (Itt K a) [it] it (fun i h => h.IsTupleIter it a i) where
  mem := by simp
  obj := fun i h st b hb => by
    have e : b = it := by simpa using hb
    subst e
    obtain ⟨o, e, c, d⟩ := st
    exact ⟨o, e, fun v z => by rw [d] at z; cases z⟩
  keep := fun i h h' st k => st.at fun o e => k it (by simp) o e
  item := by
    intro X hP hw hK hc i pins s σ H E I hf st hg
    subst hP hw hK
    obtain ⟨xs, x, hq, hx⟩ := hg
    obtain ⟨its, rv, p, hz⟩ := I.tuple hq
    obtain ⟨u, hu, ru⟩ := rv.get hx
    obtain ⟨f0, f1, f2, f3, f4, f5⟩ := hf it (by simp)
    refine wpAny_pyNext_tuple_item st (show s.heap.IsTuple a its.toArray from p) (x := u) (by simpa using hu) fun h' st' sb => ?_
    have I1 : Inv X pins σ H { s with heap := h' } := I.turned (t' := s.toks) (fun b o hb e => (sb.2 b hb).trans e) f0 f1 f3 f4 f5
    obtain ⟨o, e, c, d⟩ := id st'
    exact ⟨u, rfl, go_of (s := { s with heap := h' }) e c d (by decide) ⟨x, H, I1, ru, ⟨rfl, fun ys hy => by rw [I.tuple_inj hy hq]; exact hx⟩, st', fun b hb => (hf b hb).1⟩⟩
  done := by
    intro X hP hw hK hc i pins s σ H E I hf st hg
    subst hP hw hK
    obtain ⟨xs, hq, hx⟩ := hg
    obtain ⟨its, rv, p, hz⟩ := I.tuple hq
    obtain ⟨f0, f1, f2, f3, f4, f5⟩ := hf it (by simp)
    have hl := rv.length
    exact wpAny_pyNext_tuple_end (I.ok.hd hc) st (show s.heap.IsTuple a its.toArray from p) (by simp; bv_omega) fun h' eb => ⟨rfl, I.turned (t' := s.toks) (fun b o hb e => eb b o hb e) f0 f1 f3 f4 f5⟩
  self := fun _ _ _ _ _ st h => wpAny_pyIter_tupleiter st h
theorem turn_range {P : Program} {w : World} {K : PySem.W.Frag} {tg : Expr} (it : Addr) (lo : Int) (n : Nat) : Turn P w K tg (Itr lo n) [it] it (fun i h => IsRangeIter h it (lo + (i : Nat) * 1) ((n : Int) - (i : Nat)) 1) where
  mem := by simp
  obj := fun i h st b hb => by
    have e : b = it := by simpa using hb
    subst e
    exact ⟨_, st, fun v z => by
      have z' : Data.fields _ = Data.cell v := z
      cases z'⟩
  keep := fun i h h' st k => k it (by simp) _ st
  item := by
    intro X hP hw hK hc i pins s σ H E I hf st hg
    subst hP hw hK
    obtain ⟨f0, f1, f2, f3, f4, f5⟩ := hf it (by simp)
    have W := Walks.range (prog := X.prog) (w := X.w) (I.ok.hd hc) it lo 1 n
    refine W.item i s _ _ hg st fun v h' tk hv st' kk => ?_
    obtain ⟨t, rfl⟩ := hv
    have I1 : Inv X pins σ H { s with heap := h', toks := tk } := I.turned (fun b o hb e => kk b o (by simpa using hb) e) f0 f1 f3 f4 f5
    refine ⟨_, rfl, go_of (s := { s with heap := h', toks := tk }) (n := "range_iterator") st' rfl rfl (by decide) ⟨.int (lo + i), H, I1, ⟨t, ?_⟩, ⟨rfl, rfl⟩, st', fun b hb => (hf b hb).1⟩⟩
    rw [Int.mul_one]
  done := by
    intro X hP hw hK hc i pins s σ H E I hf st hg
    subst hP hw hK
    obtain ⟨f0, f1, f2, f3, f4, f5⟩ := hf it (by simp)
    exact wpAny_pyNext_range_end (I.ok.hd hc) st (by have : n ≤ i := hg; bv_omega) fun h' eb => ⟨rfl, I.turned (t' := s.toks) (fun b o hb e => eb b o hb e) f0 f1 f3 f4 f5⟩
  self := fun _ _ _ _ _ st h => wpAny_pyIter_rangeiter st h
end L2
namespace L2
open PySem PySem.Spec PyProof.Rows
section
variable {X : Cx} {tg : Expr}
theorem range_it {pins : List (Addr × Obj)} {σ : St} {H : Hp} {s : Shared} {R : It → Hp → Prop} {E : Value → Shared → Prop} {lo hi : Int} {t u v : Tok} {tk : Nat} (I : Inv X pins σ H s) (h1 : -(2 ^ 62) ≤ lo) (h2 : lo < 2 ^ 62) (h3 : -(2 ^ 62) ≤ hi) (h4 : hi < 2 ^ 62)
    (q : R (Itr lo (hi - lo).toNat) H) : wpAny (model X.prog X.w) X.A (pyIter (.ref s.heap.objs.size)) (PIE X pins σ tg R) E { s with heap := s.heap.push { cls := .type "range", data := .fields #[.int lo t, .int hi u, .int 1 v] }, toks := tk } := by
  refine wpAny_pyIter_range (IsRange.new ..) (small_one h1 h2 h3 h4) ?_
  have I1 : Inv X pins σ H { s with heap := s.heap.push { cls := .type "range", data := .fields #[.int lo t, .int hi u, .int 1 v] }, toks := tk } := I.kept fun b o e => Heap.get?_push_of_some _ e
  refine ⟨(s.heap.push { cls := .type "range", data := .fields #[.int lo t, .int hi u, .int 1 v] }).objs.size, [(s.heap.push { cls := .type "range", data := .fields #[.int lo t, .int hi u, .int 1 v] }).objs.size], _, _, H, rfl,
    I1.kept (t' := tk) fun b o e => Heap.get?_push_of_some _ e, turn_range _ lo (hi - lo).toNat, ?_, fun b hb => ?_, q⟩
  · have e1 : lo + ((0 : Nat) : Int) * 1 = lo := by simp
    have e2 : (((hi - lo).toNat : Nat) : Int) - ((0 : Nat) : Int) = Builtin.Range.rangeSize lo hi 1 := by rw [rangeSize_one]; split <;> bv_omega
    show IsRangeIter _ _ (lo + ((0 : Nat) : Int) * 1) ((((hi - lo).toNat : Nat) : Int) - ((0 : Nat) : Int)) 1
    rw [e1, e2]
    exact Heap.get?_push_size _ rfl
  · have e : b = (s.heap.push { cls := .type "range", data := .fields #[.int lo t, .int hi u, .int 1 v] }).objs.size := by simpa using hb
    subst e
    exact I1.fpOk (Nat.le_refl _) (I1.hok.fresh (Nat.le_refl _))
def iRng1 (ta : TA) : TI := fun σ H R => ta σ H fun vs H1 => ∃ j : Int, vs = [.int j] ∧ -(2 ^ 62) ≤ j ∧ j < 2 ^ 62 ∧ R (Itr 0 j.toNat) H1
def iRng2 (ta : TA) : TI := fun σ H R => ta σ H fun vs H1 => ∃ i j : Int, vs = [.int i, .int j] ∧ (-(2 ^ 62) ≤ i ∧ i < 2 ^ 62 ∧ -(2 ^ 62) ≤ j ∧ j < 2 ^ 62) ∧ R (Itr i (j - i).toNat) H1
theorem pi_range1 {a : Expr} {ta : TA} {p pos : Pos} (hg : Gl X "range") (hm : X.mg "range" = none) (ha : PA X [a] ta) (hs : autoParam (starEach [a] X.env = [(false, eval a X.env)]) autoK5._auto_1) : PI X tg (.Call (.Name "range" p) [a] [] pos) (iRng1 ta) := by
  intro pins s σ H R I h
  refine Call_ (ld_blt I hg hm boot_range (PyProof.Rows.callWith_type1 (thn (ha pos pins s σ H _ I h) fun us s1 ⟨vs, H1, I1, r1, q1⟩ => ?_) hs rfl))
  obtain ⟨j, e, q1, q2, q⟩ := q1
  subst e
  cases r1 with
  | cons r rr =>
    cases rr
    obtain ⟨t, rfl⟩ := r
    exact call_range_1 (range_it I1 (by bv_omega) (by bv_omega) q1 q2 (by simpa using q))
theorem pi_range2 {a b : Expr} {ta : TA} {p pos : Pos} (hg : Gl X "range") (hm : X.mg "range" = none) (ha : PA X [a, b] ta) (hs : autoParam (starEach [a, b] X.env = [(false, eval a X.env), (false, eval b X.env)]) autoK5._auto_1) (hs2 : autoParam (starEach [b] X.env = [(false, eval b X.env)]) autoK5._auto_1) :
    PI X tg (.Call (.Name "range" p) [a, b] [] pos) (iRng2 ta) := by
  intro pins s σ H R I h
  refine Call_ (ld_blt I hg hm boot_range (PyProof.Rows.callWith_type1 (thn (ha pos pins s σ H _ I h) fun us s1 ⟨vs, H1, I1, r1, q1⟩ => ?_) (by rw [hs, hs2]) (by rw [hs2]; rfl)))
  obtain ⟨i, j, e, ⟨q1, q2, q3, q4⟩, q⟩ := q1
  subst e
  cases r1 with
  | cons r rr =>
    cases rr with
    | cons r' rr =>
      cases rr
      obtain ⟨t, rfl⟩ := r
      obtain ⟨t', rfl⟩ := r'
      exact call_range_2 (range_it I1 q1 q2 q3 q4 q)
def tFor (wi : TI) (g : TG) (tb : TS) : TS := fun D σ H => wi σ H fun J H1 => ∃ W : Nat → Nat → St → Hp → Prop, (∃ m, W 0 m σ H1) ∧ ∀ i m σ H, W i m σ H →
  (J.stop i H ∧ D.nx σ H) ∨ (J.go i H ∧ ∃ N : St → Hp → Prop, (∀ σ' H', N σ' H' → ∃ m', m' < m ∧ W (i + 1) m' σ' H') ∧ ∀ x H', J.yld i H x H' → g x σ H' fun σ2 H2 => tb { D with nx := N, ct := N, bk := D.nx } σ2 H2)
def pinsAt (fp : List Addr) (h : Heap) : List (Addr × Obj) := fp.filterMap fun b => (h.get? b).map fun o => (b, o)
theorem mem_pinsAt {fp : List Addr} {h : Heap} {b : Addr} {o : Obj} (hb : b ∈ fp) (e : h.get? b = some o) : (b, o) ∈ pinsAt fp h := List.mem_filterMap.mpr ⟨b, hb, by rw [e]; rfl⟩
theorem of_pinsAt {fp : List Addr} {h : Heap} {p : Addr × Obj} (hp : p ∈ pinsAt fp h) : p.1 ∈ fp ∧ h.get? p.1 = some p.2 := by
  obtain ⟨b, hb, e⟩ := List.mem_filterMap.mp hp
  cases q : h.get? b with
  | none => rw [q] at e; cases e
  | some o =>
    rw [q] at e
    have e' : (b, o) = p := Option.some.inj e
    subst e'
    exact ⟨hb, q⟩
theorem Inv.pinned {pins : List (Addr × Obj)} {σ : St} {H : Hp} {s : Shared} {fp : List Addr} (I : Inv X pins σ H s) (hf : ∀ b ∈ fp, FpOk X pins H b) (ho : ∀ b ∈ fp, ∃ o, s.heap.get? b = some o ∧ ∀ v, o.data ≠ .cell v) : Inv X (pins ++ pinsAt fp s.heap) σ H s :=
  I.pins_of fun p hp => (List.mem_append.mp hp).elim (fun z => I.pin p (List.mem_append_right _ z)) fun z => by
    obtain ⟨hb, e⟩ := of_pinsAt z
    obtain ⟨f0, f1, f2, _⟩ := hf p.1 hb
    obtain ⟨o, e', d⟩ := ho p.1 hb
    rw [e] at e'; cases e'
    exact ⟨e, f0, f1, f2, d⟩
theorem Inv.unpinned {pins pl : List (Addr × Obj)} {σ : St} {H : Hp} {s : Shared} (I : Inv X (pins ++ pl) σ H s) : Inv X pins σ H s := I.pins_of fun p hp => I.pin p (List.mem_append_right _ (List.mem_append_left _ hp))
theorem ps_for {iter : Expr} {body : List Stmt} {wi : TI} {g : TG} {tb : TS} {pos : Pos} (hp : PassesOwn (model X.prog X.w) X.A X.env X.xe) (hc : X.calm = true) (hi : PI X tg iter wi) (hg : PG X tg g) (hb : PSs X body tb)
    (hs : autoParam (∀ x, foldedSetIterable iter X.env x = pure x) autoK4._auto_1) : PS X (.For tg iter body [] pos) (tFor wi g tb) := by
  intro pins s σ H D I h
  refine wpAny_For (thn (hi pins s σ H _ I h) fun v s1 h1 => thn h1 fun itv s2 h2 => ?_) hs
  obtain ⟨it, fp, tn, J, H2, e, I2, T, st2, f2, W, ⟨m0, w0⟩, turn⟩ := h2
  subst e
  have stat : ∀ {H' : Hp}, (∀ b ∈ fp, H' b = none) → ∀ b ∈ fp, FpOk X pins H' b := fun hn b hb => ⟨hn b hb, (f2 b hb).2⟩
  refine codeAny_forLoop_any (fun n s' => ∃ i σ' H', Inv X pins σ' H' s' ∧ tn i s'.heap ∧ (∀ b ∈ fp, H' b = none) ∧ W i n σ' H') ?_ m0 ⟨0, σ, H2, I2, st2, fun b hb => (f2 b hb).1, w0⟩
  rintro n s3 ⟨i, σ3, H3, I3, st3, fr3, w3⟩
  rcases turn i n σ3 H3 w3 with ⟨stop, qn⟩ | ⟨go, N, hN, step⟩
  · refine wpAny_passesOwn hp (thn (T.done X rfl rfl rfl hc i pins s3 σ3 H3 X.xe I3 (stat fr3) st3 stop) fun r s4 ⟨hr, I4⟩ => ?_)
    subst hr
    exact wpAny_execs_nil ⟨σ3, H3, I4, qn⟩
  · refine wpAny_passesOwn hp (thn (T.item X rfl rfl rfl hc i pins s3 σ3 H3 X.xe I3 (stat fr3) st3 go) fun r s4 ⟨u, hr, h4⟩ => ?_)
    subst hr
    refine wpAny_passesOwn hp (thn h4 fun _ s5 ⟨x, H5, I5, r5, y5, st5, fr5⟩ => ?_)
    have I5' := I5.pinned (stat fr5) (T.obj _ _ st5)
    refine wpAny_passesOwn hp (thn (hg _ s5 σ3 H5 x u _ I5' r5 (step x H5 y5)) fun _ s6 ⟨σ6, H6, I6, q6⟩ => ?_)
    refine wpAny_passesOwn hp (thn (hb _ s6 σ6 H6 _ I6 q6) fun f s7 q7 => ?_)
    have again : ∀ {σ7 : St} {H7 : Hp}, Inv X (pins ++ pinsAt fp s5.heap) σ7 H7 s7 → N σ7 H7 → ∃ m, m < n ∧ ∃ i σ' H', Inv X pins σ' H' s7 ∧ tn i s7.heap ∧ (∀ b ∈ fp, H' b = none) ∧ W i m σ' H' := fun {σ7 H7} I7 n7 => by
      obtain ⟨m', hm, w7⟩ := hN σ7 H7 n7
      refine ⟨m', hm, i + 1, σ7, H7, I7.unpinned, T.keep _ _ _ st5 fun b hb o e => (I7.pin (b, o) (List.mem_append_right _ (List.mem_append_right _ (mem_pinsAt hb e)))).1, fun b hb => ?_, w7⟩
      obtain ⟨o, e, d⟩ := T.obj _ _ st5 b hb
      exact (I7.pin (b, o) (List.mem_append_right _ (List.mem_append_right _ (mem_pinsAt hb e)))).2.1
    cases f with
    | next => obtain ⟨σ7, H7, I7, n7⟩ := q7; exact again I7 n7
    | cont => obtain ⟨σ7, H7, I7, n7⟩ := q7; exact again I7 n7
    | brk => obtain ⟨σ7, H7, I7, q7⟩ := q7; exact ⟨σ7, H7, I7.unpinned, q7⟩
    | ret v => obtain ⟨x7, σ7, H7, I7, r7, q7⟩ := q7; exact ⟨x7, σ7, H7, I7.unpinned, r7, q7⟩
end
theorem for_range {lo : Int} {n : Nat} {g : TG} {tb : TS} {D : Ends} {σ : St} {H : Hp} (Pv : Nat → St → Hp → Prop) (h0 : Pv 0 σ H)
    (hs : ∀ i σ H, i < n → Pv i σ H → g (.int (lo + i)) σ H fun σ2 H2 => tb { D with nx := Pv (i + 1), ct := Pv (i + 1), bk := D.nx } σ2 H2) (hd : ∀ σ H, Pv n σ H → D.nx σ H) :
    ∃ W : Nat → Nat → St → Hp → Prop, (∃ m, W 0 m σ H) ∧ ∀ i m σ H, W i m σ H →
      ((Itr lo n).stop i H ∧ D.nx σ H) ∨ ((Itr lo n).go i H ∧ ∃ N : St → Hp → Prop, (∀ σ' H', N σ' H' → ∃ m', m' < m ∧ W (i + 1) m' σ' H') ∧ ∀ x H', (Itr lo n).yld i H x H' → g x σ H' fun σ2 H2 => tb { D with nx := N, ct := N, bk := D.nx } σ2 H2) := by
  refine ⟨fun i m σ H => m = n - i ∧ i ≤ n ∧ Pv i σ H, ⟨n, by simp, Nat.zero_le _, h0⟩, ?_⟩
  rintro i m σ H ⟨rfl, hi, p⟩
  by_cases hlt : i < n
  · refine .inr ⟨hlt, Pv (i + 1), fun σ' H' p' => ⟨n - (i + 1), by bv_omega, rfl, hlt, p'⟩, fun x H' y => ?_⟩
    obtain ⟨e, y⟩ := y
    subst e y
    exact hs i σ _ hlt p
  · have e : i = n := by bv_omega
    subst e
    exact .inl ⟨Nat.le_refl _, hd σ H p⟩
end L2
namespace L2
open PySem PySem.Spec PyProof.Rows
abbrev R2 := V → V → Hp → VK → Prop
def OpR (X : Cx) (f : Value → Value → Sem Value) (r : R2) : Prop :=
  ∀ (pins : List (Addr × Obj)) (s : Shared) (σ : St) (H : Hp) (x y : V) (v u : Value) (Q : VK), Inv X pins σ H s → RelV x v → RelV y u → r x y H Q →
    wpAny (model X.prog X.w) X.A (f v u) (EP X pins σ Q) X.xe s
def UnR (X : Cx) (f : Value → Sem Value) (r : V → Hp → VK → Prop) : Prop :=
  ∀ (pins : List (Addr × Obj)) (s : Shared) (σ : St) (H : Hp) (x : V) (v : Value) (Q : VK), Inv X pins σ H s → RelV x v → r x H Q →
    wpAny (model X.prog X.w) X.A (f v) (EP X pins σ Q) X.xe s
def CallR (X : Cx) (f : Value) (r : List V → Hp → VK → Prop) : Prop :=
  ∀ (pins : List (Addr × Obj)) (s : Shared) (σ : St) (H : Hp) (xs : List V) (us : List Value) (Q : VK), Inv X pins σ H s → Vals xs us → r xs H Q →
    wpAny (model X.prog X.w) X.A (call f us) (EP X pins σ Q) X.xe s
def tOp (r : R2) (ta tb : TE) : TE := fun σ H Q => ta σ H fun x H1 => tb σ H1 fun y H2 => r x y H2 Q
def tUn (r : V → Hp → VK → Prop) (ta : TE) : TE := fun σ H Q => ta σ H fun x H1 => r x H1 Q
def rI (C : Int → Int → Prop) (g : Int → Int → V) : R2 := fun x y H Q => ∃ i j, x = .int i ∧ y = .int j ∧ C i j ∧ Q (g i j) H
def rI0 (g : Int → Int → V) : R2 := fun x y H Q => ∃ i j, x = .int i ∧ y = .int j ∧ Q (g i j) H
def rU (g : Int → V) : V → Hp → VK → Prop := fun x H Q => ∃ i, x = .int i ∧ Q (g i) H
section
variable {X : Cx} {a b c : Expr} {ta tb tc : TE} {pos : Pos}
theorem binT (ha : PE X a ta) (hb : PE X b tb) {pins : List (Addr × Obj)} {s : Shared} {σ : St} {H : Hp} {R : V → V → Hp → Prop} (I : Inv X pins σ H s)
    (h : ta σ H fun x H1 => tb σ H1 fun y H2 => R x y H2) {Q : Value → Shared → Prop} {f : Value → Value → Sem Value}
    (hf : ∀ v u s2 x y H2, Inv X pins σ H2 s2 → RelV x v → RelV y u → R x y H2 → wpAny (model X.prog X.w) X.A (f v u) Q X.xe s2) :
    wpAny (model X.prog X.w) X.A (eval a X.env) (fun v s₁ => wpAny (model X.prog X.w) X.A (eval b X.env) (fun u s₂ => wpAny (model X.prog X.w) X.A (f v u) Q X.xe s₂) X.xe s₁) X.xe s := by
  refine thn (ha pins s σ H _ I h) fun v s1 ⟨x, H1, I1, r1, q1⟩ => ?_
  refine thn (hb pins s1 σ H1 _ I1 q1) fun u s2 ⟨y, H2, I2, r2, q2⟩ => ?_
  exact hf v u s2 x y H2 I2 r1 r2 q2
theorem pe_op {op : Operator} {r : R2} (ho : OpR X (binaryOp op) r) (ha : PE X a ta) (hb : PE X b tb) : PE X (.BinOp a op b pos) (tOp r ta tb) := by
  intro pins s σ H Q I h
  exact wpAny_BinOp (binT ha hb I h fun v u s2 x y H2 I2 rx ry q => ho pins s2 σ H2 x y v u Q I2 rx ry q)
theorem pe_un {op : UnaryOp} {r : V → Hp → VK → Prop} (ho : UnR X (unaryOp op) r) (ha : PE X a ta) : PE X (.UnaryOp op a pos) (tUn r ta) := by
  intro pins s σ H Q I h
  exact UnaryOp_ (thn (ha pins s σ H _ I h) fun v s1 ⟨x, H1, I1, r1, q1⟩ => ho pins s1 σ H1 x v Q I1 r1 q1)
theorem opI {f : Value → Value → Sem Value} {C : Int → Int → Prop} {g : Int → Int → Int}
    (rule : ∀ (i j : Int) (t u : Tok) (s : Shared) (Q : Value → Shared → Prop) (E : Value → Shared → Prop), C i j → Q (.int (g i j) s.toks) { s with toks := s.toks + 1 } → wpAny (model X.prog X.w) X.A (f (.int i t) (.int j u)) Q E s) :
    OpR X f (rI C fun i j => .int (g i j)) := by
  intro pins s σ H x y v u Q I rx ry h
  obtain ⟨i, j, rfl, rfl, hc, q⟩ := h
  obtain ⟨t, rfl⟩ := rx
  obtain ⟨t', rfl⟩ := ry
  exact rule i j t t' s _ _ hc ⟨.int (g i j), H, I.tok _, ⟨_, rfl⟩, q⟩
theorem opI0 {f : Value → Value → Sem Value} {g : Int → Int → Int}
    (rule : ∀ (i j : Int) (t u : Tok) (s : Shared) (Q : Value → Shared → Prop) (E : Value → Shared → Prop), Q (.int (g i j) s.toks) { s with toks := s.toks + 1 } → wpAny (model X.prog X.w) X.A (f (.int i t) (.int j u)) Q E s) :
    OpR X f (rI0 fun i j => .int (g i j)) := by
  intro pins s σ H x y v u Q I rx ry h
  obtain ⟨i, j, rfl, rfl, q⟩ := h
  obtain ⟨t, rfl⟩ := rx
  obtain ⟨t', rfl⟩ := ry
  exact rule i j t t' s _ _ ⟨.int (g i j), H, I.tok _, ⟨_, rfl⟩, q⟩
theorem opB0 {f : Value → Value → Sem Value} {g : Int → Int → Bool}
    (rule : ∀ (i j : Int) (t u : Tok) (s : Shared) (Q : Value → Shared → Prop) (E : Value → Shared → Prop), Q (.bool (g i j)) s → wpAny (model X.prog X.w) X.A (f (.int i t) (.int j u)) Q E s) :
    OpR X f (rI0 fun i j => .bl (g i j)) := by
  intro pins s σ H x y v u Q I rx ry h
  obtain ⟨i, j, rfl, rfl, q⟩ := h
  obtain ⟨t, rfl⟩ := rx
  obtain ⟨t', rfl⟩ := ry
  exact rule i j t t' s _ _ ⟨.bl (g i j), H, I, rfl, q⟩
def CPow (i j : Int) : Prop := 0 ≤ j ∧ j ≤ 1000000 ∧ i.natAbs < 2 ^ 64
def CMul (i j : Int) : Prop := (-(2 ^ 64) < i ∧ i < 2 ^ 64) ∨ (-(2 ^ 64) < j ∧ j < 2 ^ 64)
theorem CMul.ok {i j : Int} (h : CMul i j) : IntMulOk i j := by
  rcases h with ⟨h1, h2⟩ | ⟨h1, h2⟩
  · exact .of_left (intBits_le_64 h1 h2)
  · exact .of_right (intBits_le_64 h1 h2)
theorem uZ : OpR X (binaryOp .Add) (rI0 fun i j => .int (i + j)) := opI0 fun _ _ _ _ _ _ _ q => add_int q
theorem vE : OpR X (binaryOp .Sub) (rI0 fun i j => .int (i - j)) := opI0 fun _ _ _ _ _ _ _ q => sub_int q
theorem vF : OpR X (binaryOp .Mod) (rI (fun _ j => 0 < j) fun i j => .int (i % j)) := opI fun i j _ _ _ _ _ hc q => by
  have h1 : (0 : Int) < j := hc
  exact mod_int' (by bv_omega) (by rw [Int.fmod_eq_emod_of_nonneg i (by bv_omega)]; exact q)
theorem op_pow : OpR X (binaryOp .Pow) (rI CPow fun i j => .int (i ^ j.toNat)) := opI fun _ _ _ _ _ _ _ hc q => pow_int_small hc.1 hc.2.1 hc.2.2 q
theorem iop_add : OpR X (inplaceOp .Add) (rI0 fun i j => .int (i + j)) := opI0 fun _ _ _ _ _ _ _ q => iadd_int q
theorem iop_sub : OpR X (inplaceOp .Sub) (rI0 fun i j => .int (i - j)) := opI0 fun _ _ _ _ _ _ _ q => isub_int q
theorem unI {f : Value → Sem Value} {g : Int → Int}
    (rule : ∀ (i : Int) (t : Tok) (s : Shared) (Q : Value → Shared → Prop) (E : Value → Shared → Prop), Q (.int (g i) s.toks) { s with toks := s.toks + 1 } → wpAny (model X.prog X.w) X.A (f (.int i t)) Q E s) :
    UnR X f (rU fun i => .int (g i)) := by
  intro pins s σ H x v Q I rx h
  obtain ⟨i, rfl, q⟩ := h
  obtain ⟨t, rfl⟩ := rx
  exact rule i t s _ _ ⟨.int (g i), H, I.tok _, ⟨_, rfl⟩, q⟩
theorem un_neg : UnR X (unaryOp .USub) (rU fun i => .int (-i)) := unI fun _ _ _ _ _ q => neg_int q
end
section
variable {X : Cx} {a b c : Expr} {ta tb tc : TE} {pos : Pos}
theorem op_lt : OpR X (compareOp .Lt) (rI0 fun i j => .bl (decide (i < j))) := opB0 fun _ _ _ _ _ _ _ q => lt_int q
theorem op_le : OpR X (compareOp .LtE) (rI0 fun i j => .bl (decide (i ≤ j))) := opB0 fun _ _ _ _ _ _ _ q => le_int q
theorem op_gt : OpR X (compareOp .Gt) (rI0 fun i j => .bl (decide (j < i))) := opB0 fun _ _ _ _ _ _ _ q => gt_int q
theorem op_ge : OpR X (compareOp .GtE) (rI0 fun i j => .bl (decide (j ≤ i))) := opB0 fun _ _ _ _ _ _ _ q => ge_int q
def isObj : HO → Bool
  | .lst _ => true
  | .ins _ _ _ => true
  | _ => false
theorem obj_there {pins : List (Addr × Obj)} {s : Shared} {σ : St} {H : Hp} {a : Addr} {o : HO} (I : Inv X pins σ H s) (h : H a = some o) (p : isObj o = true) : ∃ ob, s.heap.get? a = some ob ∧ ob.cls ≠ .type "tuple" := by
  cases o with
  | lst xs =>
    obtain ⟨_, its, n, _, e⟩ : xs.length ≤ sizeLine ∧ ∃ (its : List Value) (n : Nat), Vals xs its ∧ s.heap.get? a = some { cls := .type "list", data := .seq its.toArray n } := I.hok a _ h
    exact ⟨_, e, (by show Value.type "list" ≠ .type "tuple"; decide +kernel)⟩
  | ins C dx fs =>
    have x := I.hok a _ h
    obtain ⟨_, _, _, e, _⟩ := x
    exact ⟨_, e, (by show Value.ref C ≠ .type "tuple"; exact fun z => by cases z)⟩
  | _ => exact absurd (show false = true from p) Bool.false_ne_true
theorem nomark (b : Expr) {op : CmpOp} (h : autoParam (op ≠ .In) autoK2._auto_1) (h2 : autoParam (op ≠ .NotIn) autoK2._auto_1) : behindInMarks op b = false := by
  have e1 : (op == CmpOp.In) = false := by cases op <;> first | rfl | exact absurd rfl h
  have e2 : (op == CmpOp.NotIn) = false := by cases op <;> first | rfl | exact absurd rfl h2
  cases b <;> simp [behindInMarks, e1, e2]
theorem pe_cmpR {op : CmpOp} {r : R2} (ho : OpR X (compareOp op) r) (ha : PE X a ta) (hb : PE X b tb) (hm : behindInMarks op b = false) : PE X (.Compare a [op] [b] pos) (tOp r ta tb) := by
  intro pins s σ H Q I h
  exact wpAny_Compare1 (binT ha hb I h fun v u s2 x y H2 I2 rx ry q => ho pins s2 σ H2 x y v u Q I2 rx ry q) hm
def tTest (t : TE) : TT := fun σ H Q => t σ H fun x H' => ∃ k, x = .bl k ∧ Q k H'
theorem pt_cmpR {op : CmpOp} {r : R2} (ho : OpR X (compareOp op) r) (ha : PE X a ta) (hb : PE X b tb) (hm : behindInMarks op b = false) : PT X (.Compare a [op] [b] pos) (tTest (tOp r ta tb)) := by
  intro pins s σ H Q I h
  refine wpAny_isTrue_Compare1 (thn (ha pins s σ H _ I h) fun v s1 ⟨x, H1, I1, r1, q1⟩ => thn (hb pins s1 σ H1 _ I1 q1) fun u s2 ⟨y, H2, I2, r2, q2⟩ =>
    thn (ho pins s2 σ H2 x y v u _ I2 r1 r2 q2) fun c s3 ⟨z, H3, I3, r3, k, e, q3⟩ => ?_) hm
  subst e
  cases r3
  exact wpAny_truthy_bool ⟨H3, I3, q3⟩
def tChain (r r' : R2) (ta tb tc : TE) : TE := fun σ H Q => ta σ H fun x H1 => tb σ H1 fun y H2 => r x y H2 fun z H3 => ∃ k, z = .bl k ∧
  (if k = true then tc σ H3 fun w' H4 => r' y w' H4 Q else Q (.bl false) H3)
theorem pe_chain {op op' : CmpOp} {r r' : R2} (ho : OpR X (compareOp op) r) (ho' : OpR X (compareOp op') r') (ha : PE X a ta) (hb : PE X b tb) (hc : PE X c tc)
    (hm : autoParam (lastMarks [op, op'] [b, c] = false) autoK7._auto_1) : PE X (.Compare a [op, op'] [b, c] pos) (tChain r r' ta tb tc) := by
  intro pins s σ H Q I h
  refine Compare_chain (thn (ha pins s σ H _ I h) fun v s1 ⟨x, H1, I1, r1, q1⟩ => chain_link (thn (hb pins s1 σ H1 _ I1 q1) fun u s2 ⟨y, H2, I2, r2, q2⟩ =>
    thn (ho pins s2 σ H2 x y v u _ I2 r1 r2 q2) fun d s3 ⟨z, H3, I3, r3, k, e, q3⟩ => ?_)) hm
  subst e
  cases r3
  refine wpAny_truthy_bool ?_
  cases k with
  | false => exact ite_ff ⟨.bl false, H3, I3, rfl, q3⟩
  | true => exact ite_tt (chain_last (thn (hc pins s3 σ H3 _ I3 q3) fun w' s4 ⟨z', H4, I4, r4, q4⟩ => ho' pins s4 σ H4 y z' u w' Q I4 r2 r4 q4))
theorem pt_chain {op op' : CmpOp} {r r' : R2} (ho : OpR X (compareOp op) r) (ho' : OpR X (compareOp op') r') (ha : PE X a ta) (hb : PE X b tb) (hc : PE X c tc)
    (hm : autoParam (lastMarks [op, op'] [b, c] = false) autoK7._auto_1) : PT X (.Compare a [op, op'] [b, c] pos) (tTest (tChain r r' ta tb tc)) := by
  intro pins s σ H Q I h
  refine isTrue_chain (thn (ha pins s σ H _ I h) fun v s1 ⟨x, H1, I1, r1, q1⟩ => test_link (thn (hb pins s1 σ H1 _ I1 q1) fun u s2 ⟨y, H2, I2, r2, q2⟩ =>
    thn (ho pins s2 σ H2 x y v u _ I2 r1 r2 q2) fun d s3 ⟨z, H3, I3, r3, k, e, q3⟩ => ?_)) hm
  subst e
  cases r3
  refine wpAny_truthy_bool ?_
  cases k with
  | false =>
    obtain ⟨k', e', q'⟩ := q3
    cases e'
    exact ite_ff ⟨H3, I3, q'⟩
  | true =>
    refine ite_tt (test_last (thn (hc pins s3 σ H3 _ I3 q3) fun w' s4 ⟨z', H4, I4, r4, q4⟩ => thn (ho' pins s4 σ H4 y z' u w' _ I4 r2 r4 q4) fun d' s5 ⟨z2, H5, I5, r5, k2, e2, q5⟩ => ?_))
    subst e2
    cases r5
    exact wpAny_truthy_bool ⟨H5, I5, q5⟩
theorem line63 : (sizeLine : Nat) < 2 ^ 63 := by rw [sizeLine_eq]; decide
theorem vals1 {x : V} {us : List Value} (r : Vals [x] us) : ∃ u, us = [u] ∧ RelV x u := by
  cases r with
  | cons r1 r2 => cases r2; exact ⟨_, rfl, r1⟩
theorem vals2 {x y : V} {us : List Value} (r : Vals [x, y] us) : ∃ u w', us = [u, w'] ∧ RelV x u ∧ RelV y w' := by
  cases r with
  | cons r1 r2 =>
    cases r2 with
    | cons r3 r4 => cases r4; exact ⟨_, _, rfl, r1, r3⟩
theorem call_abs : CallR X (.builtin "abs") (fun xs H Q => ∃ i, xs = [.int i] ∧ Q (.int (if i < 0 then -i else i)) H) := by
  intro pins s σ H xs us Q I r h
  obtain ⟨i, rfl, q⟩ := h
  obtain ⟨u, rfl, t, rfl⟩ := vals1 r
  exact call_abs_int fun u tk => ⟨.int (if i < 0 then -i else i), H, I.tok _, ⟨_, rfl⟩, q⟩
theorem call_min2 (hc : X.calm = true) : CallR X (.builtin "min") (fun xs H Q => ∃ i j, xs = [.int i, .int j] ∧ Q (.int (if j < i then j else i)) H) := by
  intro pins s σ H xs us Q I r h
  obtain ⟨i, j, rfl, q⟩ := h
  obtain ⟨u, w', rfl, ⟨t, rfl⟩, ⟨t', rfl⟩⟩ := vals2 r
  refine min_two_ints (I.ok.hd hc) fun h' tk k => ⟨_, H, I.kept k, ?_, q⟩
  by_cases hj : j < i
  · rw [if_pos hj, if_pos hj]; exact ⟨_, rfl⟩
  · rw [if_neg hj, if_neg hj]; exact ⟨_, rfl⟩
end
end L2
namespace L2
open PySem PySem.Spec PyProof.Rows
structure ObjM (h : Heap) (x dx C : Addr) (mA : Str → Option Value) : Prop where
  obj : h.get? x = some (PySem.W.instObj C dx)
  ns : h.Ns1 dx mA
  ne : dx ≠ x
section
variable {prog : Program} {w : World} {A : Around} {E : Value → Shared → Prop} {s : Shared} {K : PySem.W.Frag} {x dx C f : Addr} {mA : Str → Option Value} {name : Str} {v : Value}
end
section
variable {P : Program} {w : World} {H H' : Hp} {h h' : Heap} {a C dx : Addr} {fs fs' : List (Str × V)}
end
structure Cls (K : PySem.W.Frag) (C : Addr) : Prop where
  pg : PySem.W.plainGet K C Str.empty = true
  hd : PySem.W.hasDictIn K C = true
  po : PySem.W.plainOver K C = true
  sa : PySem.W.findIn K (.ref C) "__setattr__" = some (some (.builtin "object.__setattr__"))
structure Con (K : PySem.W.Frag) (C : Addr) (f : Str) (v : V) (u : Value) : Prop where
  at_ : PySem.W.findIn K (.ref C) f = some (some u)
  rel : RelV v u
  get : PySem.W.specialIn K u "__get__" = some none
  cp : PySem.W.copiedNames.contains f = false
structure Meth (K : PySem.W.Frag) (C : Addr) (m : Str) (f : Addr) : Prop where
  at_ : PySem.W.findIn K (.ref C) m = some (some (.ref f))
  fn : PySem.W.isFn K (.ref f) = true
  kp : PySem.W.keepIn K (.ref f) = true
section
variable {X : Cx} {pins : List (Addr × Obj)} {σ : St} {H : Hp} {s : Shared} {a C dx : Addr} {fs : List (Str × V)} {f : Str} {v : V} {A : Around} {E : Value → Shared → Prop}
end
section
variable {X : Cx} {o e value : Expr} {f : Str} {pos pos' tpos : Pos} {ta tv : TE}
end
section
variable {X : Cx} {pins : List (Addr × Obj)} {σ : St} {H : Hp} {s : Shared} {A : Around} {E : Value → Shared → Prop} {Q : Value → Shared → Prop} {c : Value} {b : Bool}
inductive TyOf (K : PySem.W.Frag) (H : Hp) : V → Value → Prop where
  | non : TyOf K H .non (.type "NoneType")
  | bl (x : Bool) : TyOf K H (.bl x) (.type "bool")
  | int (i : Int) : TyOf K H (.int i) (.type "int")
  | str (x : Str) : TyOf K H (.str x) (.type "str")
  | flt (x : UInt64) : TyOf K H (.flt x) (.type "float")
  | lst {a : Addr} {xs : List V} (e : H a = some (.lst xs)) : TyOf K H (.ref a) (.type "list")
  | frz {a : Addr} {o : Obj} {xs : List V} (e : H a = some (.frz o (.lst xs))) : TyOf K H (.ref a) (.type "list")
  | tup {a : Addr} {xs : List V} (e : H a = some (.tup xs)) : TyOf K H (.ref a) (.type "tuple")
  | dK {a : Addr} {kvs : List (Key × V)} (e : H a = some (.dK kvs)) : TyOf K H (.ref a) (.type "dict")
  | dT {a : Addr} {kvs : List (List Key × V)} (e : H a = some (.dT kvs)) : TyOf K H (.ref a) (.type "dict")
  | ins {a C dx : Addr} {fs : List (Str × V)} (e : H a = some (.ins C dx fs)) (cl : Cls K C) (ha : PySem.W.findIn K (.ref C) "__class__" = some (some (.builtin "object.__class__")))
      (hn : PySem.W.specialIn K (.builtin "object.__class__") "__get__" = some (some (.builtin "getset_descriptor.__get__"))) (htk : PySem.W.takesIn K (.builtin "object.__class__") = some true)
      (hm : PySem.W.mroIn K C (.type "object") = some true) : TyOf K H (.ref a) (.ref C)
end
end L2
namespace L2
open PySem PySem.Spec PyProof.Rows
structure Room (k : Nat) (A : Around) : Prop where
  hd : A.handled = none
  dp : A.depth + 3 * k + 5 < recursionLimit
  un : A.units + 16 * k + 200 < cLine
theorem Room.mono {j k : Nat} {A : Around} (r : Room k A) (h : j ≤ k) : Room j A := ⟨r.hd, by have := r.dp; bv_omega, by have := r.un; bv_omega⟩
theorem Room.deeper {k : Nat} {A : Around} (r : Room (k + 1) A) (env : Env) : Room k (A.deeper env) :=
  ⟨r.hd, by have := r.dp; show A.depth + 1 + 3 * k + 5 < _; bv_omega, by have := r.un; show A.units + 3 + 16 * k + 200 < _; bv_omega⟩
theorem Room.depth {k : Nat} {A : Around} (r : Room k A) : A.depth < recursionLimit := by have := r.dp; bv_omega
theorem Room.units {k : Nat} {A : Around} (r : Room k A) : A.units + 64 < cLine := by have := r.un; bv_omega
def tNil : TA := fun _ H Q => Q [] H
def tCons (ta : TE) (tr : TA) : TA := fun σ H Q => ta σ H fun x H1 => tr σ H1 fun xs H2 => Q (x :: xs) H2
section
variable {X : Cx} {e : Expr} {es : List Expr} {te : TE} {t : TA} {pos : Pos}
theorem pa_nil : PA X [] tNil := fun _ _ _ _ H Q I h => Calls.spliced_nil ⟨[], H, I, .nil, h⟩
theorem pa_cons (ha : PE X e te) (hr : PA X es t) (hs : autoParam (starEach (e :: es) X.env = (false, eval e X.env) :: starEach es X.env) autoK5._auto_1) : PA X (e :: es) (tCons te t) := by
  intro pos pins s σ H Q I h
  rw [hs]
  show wpAny _ _ (spliced ((false, eval e X.env) :: backTo pos (starEach es X.env))) _ _ s
  refine Calls.spliced_cons (thn (ha pins s σ H _ I h) fun u s1 ⟨x, H1, I1, r1, q1⟩ => ?_)
  exact thn (hr pos pins s1 σ H1 _ I1 q1) fun us s2 ⟨xs, H2, I2, r2, q2⟩ => ⟨x :: xs, H2, I2, .cons r1 r2, q2⟩
def tTup (t : TA) : TE := fun σ H Q => t σ H fun xs H1 => xs.length ≤ sizeLine ∧ ∀ p, H1 p = none → Q (.ref p) (upd H1 p (.tup xs))
def tLst (t : TA) : TE := fun σ H Q => t σ H fun xs H1 => xs.length ≤ sizeLine ∧ ∀ p, H1 p = none → Q (.ref p) (upd H1 p (.lst xs))
theorem pe_tup {x1} (h : PA X es t) : PE X (.Tuple es x1 pos) (tTup t) := by
  intro pins s σ H Q I hq
  refine wpAny_Tuple_spliced (thn (h pos pins s σ H _ I hq) fun us s1 ⟨xs, H1, I1, r, z, q⟩ => ⟨by rw [← r.length]; exact z, ?_⟩)
  have hf : H1 s1.heap.objs.size = none := I1.hok.fresh (Nat.le_refl _)
  refine ⟨.ref s1.heap.objs.size, upd H1 s1.heap.objs.size (.tup xs), I1.laid (t' := s1.toks) (fun b u e => Heap.get?_push_of_some _ e) (Nat.le_refl _) ?_, rfl, q _ hf⟩
  exact ⟨z, us, r, TupAt.new _ _⟩
theorem pe_lst (h : PA X es t) : PE X (.List es pos) (tLst t) := by
  intro pins s σ H Q I hq
  refine wpAny_List_spliced (thn (h pos pins s σ H _ I hq) fun us s1 ⟨xs, H1, I1, r, z, q⟩ => ⟨by rw [← r.length]; exact z, ?_⟩)
  have hf : H1 s1.heap.objs.size = none := I1.hok.fresh (Nat.le_refl _)
  refine ⟨.ref s1.heap.objs.size, upd H1 s1.heap.objs.size (.lst xs), I1.laid (t' := s1.toks) (fun b u e => Heap.get?_push_of_some _ e) (Nat.le_refl _) ?_, rfl, q _ hf⟩
  exact ⟨z, us, 0, r, Heap.get?_push_size _ rfl⟩
end
abbrev Sp := List V → Hp → VK → XK → Prop
abbrev CXT := List Env → Hp → Shared → XK → Value → Shared → Prop
structure Env0 (P : Program) (w : World) (K : PySem.W.Frag) (mg : Str → Option Value) (base : Heap) (A : Around) (outer : List Env) (s : Shared) (H : Hp) : Prop where
  frames : A.frames = some outer
  mod : Mod K mg base
  bs : ∀ b o, base.get? b = some o → s.heap.get? b = some o ∧ H b = none
  bsz : base.objs.size ≤ s.heap.objs.size
  funs : s.heap.FunFrames base outer
  frf : ∀ b ∈ frs outer, H b = none
  hok : HOk P w H s.heap
  bare : AllBare s.gens
def CE (outer : List Env) (P : Program) (w : World) (H : Hp) (s : Shared) (Q : VK) (u : Value) (s' : Shared) : Prop :=
  ∃ v H', s'.os = s.os ∧ AllBare s'.gens ∧ Un (frs outer) [] H H' s.heap s'.heap ∧ HOk P w H' s'.heap ∧ RelV v u ∧ Q v H'
def CR (CX : CXT) (outer : List Env) (P : Program) (w : World) (H : Hp) (s : Shared) (Q : VK) (E : XK) (r : Result) (s' : Shared) : Prop :=
  match r with
  | .ok (.ret u) => CE outer P w H s Q u s'
  | .ok _ => False
  | .error e => CX outer H s E e s'
structure FnOk (P : Program) (w : World) (K : PySem.W.Frag) (mg : Str → Option Value) (base : Heap) (CX : CXT) (k : Nat) (f : Addr) (fd : FuncData) (ps : List Str) (sp : Sp) : Prop where
  len : ∀ vs H Q E, sp vs H Q E → vs.length = ps.length
  run : ∀ (A : Around) (outer : List Env) (s : Shared) (H : Hp) (args : Args) (us : List Value) (vs : List V) (Q : VK) (E : XK), Room k A → Env0 P w K mg base A outer s H → BindsTo s fd args (ps.zip us) → Vals vs us → sp vs H Q E →
    codeAny (model P w) A (.call (.ref f) args) (CR CX outer P w H s Q E) s
section
variable {X : Cx} {pins : List (Addr × Obj)} {σ : St} {H : Hp} {s s' : Shared}
theorem Inv.env0 (I : Inv X pins σ H s) : Env0 X.prog X.w X.K X.mg X.base X.A X.stack s H :=
  ⟨I.ok.frames, I.ok.mod, I.bs, Nat.le_trans I.ok.bsz I.sz, I.stack, I.stkFree, I.hok, I.bare⟩
theorem Inv.after {Q : VK} {u : Value} (I : Inv X pins σ H s) (h : CE X.stack X.prog X.w H s Q u s') : EP X pins σ Q u s' := by
  obtain ⟨v, H', os, bare, un, hok, r, q⟩ := h
  obtain ⟨hh, g, d, t, os'⟩ := s'
  obtain rfl : os' = s.os := os
  exact ⟨v, H', I.call (h' := hh) (g' := g) (d' := d) (t' := t) (ch := []) un hok bare (fun b z => absurd z (by simp)), r, q⟩
end
def tCall (sp : Sp) (dvs : List V) (E : XK) (t : TA) : TE := fun σ H Q => t σ H fun vs H1 => sp (vs ++ dvs) H1 Q E
def Binds (K : PySem.W.Frag) (fd : FuncData) (ps : List Str) (ds : List Value) : Prop :=
  ∀ (s : Shared) (us : List Value), K.In s.heap → (us ++ ds).length = ps.length → BindsTo s fd ⟨us, []⟩ (ps.zip (us ++ ds))
theorem Binds.all {K : PySem.W.Frag} {fd : FuncData} {ps : List Str} (h : ∀ us : List Value, us.length = ps.length → bindArgs fd ⟨us, []⟩ = pure (ps.zip us)) : Binds K fd ps [] := fun s us _ hl => by
  rw [List.append_nil] at hl ⊢
  exact .of_eq (h us hl)
def Passes (CX : CXT) (X : Cx) (E : XK) : Prop := ∀ (pins : List (Addr × Obj)) (σ : St) (H : Hp) (s : Shared) (e : Value) (s' : Shared), Inv X pins σ H s → CX X.stack H s E e s' → X.xe e s'
section
variable {X : Cx} {CX : CXT} {k : Nat} {f C : Addr} {fd : FuncData} {ps : List Str} {sp : Sp} {dvs : List V} {ds : List Value} {E : XK} {x m : Str} {p pos apos : Pos} {e o : Expr} {es : List Expr} {ta : TE} {t : TA}
theorem run_fn {pins : List (Addr × Obj)} {σ : St} {H : Hp} {s : Shared} {Q : VK} {us : List Value} {vs : List V} (F : FnOk X.prog X.w X.K X.mg X.base CX k f fd ps sp) (hr : Room k X.A) (hb : Binds X.K fd ps ds) (hd : Vals dvs ds) (hx : Passes CX X E)
    (I : Inv X pins σ H s) (r : Vals vs us) (h : sp (vs ++ dvs) H Q E) : wpAny (model X.prog X.w) X.A (call (.ref f) us) (EP X pins σ Q) X.xe s := by
  have r2 : Vals (vs ++ dvs) (us ++ ds) := r.append hd
  have hl : (us ++ ds).length = ps.length := by rw [← r2.length]; exact F.len _ _ _ _ h
  refine wpAny_call (codeAny_mono (F.run X.A X.stack s H ⟨us, []⟩ (us ++ ds) (vs ++ dvs) Q E hr I.env0 (hb s us I.kIn hl) r2 h) fun r s' hq => ?_)
  cases r with
  | error e => exact hx pins σ H s e s' I hq
  | ok fl =>
    cases fl with
    | ret u => exact I.after hq
    | next => exact False.elim hq
    | brk => exact False.elim hq
    | cont => exact False.elim hq
theorem pe_call (F : FnOk X.prog X.w X.K X.mg X.base CX k f fd ps sp) (hr : Room k X.A) (hg : Gl X x) (hm : X.mg x = some (.ref f)) (hk : PySem.W.keepIn X.K (.ref f) = true) (hb : Binds X.K fd ps ds) (hd : Vals dvs ds) (hx : Passes CX X E)
    (ha : PA X (e :: es) t) (hdb : autoParam ((x == ("__debug__" : Str)) = false) autoK2._auto_1) (he : autoParam (starEach (e :: es) X.env = (false, eval e X.env) :: starEach es X.env) autoK5._auto_1) (hpl : autoParam ((backTo pos (starEach es X.env)).any (·.1) = false) autoK5._auto_1) :
    PE X (.Call (.Name x p) (e :: es) [] pos) (tCall sp dvs E t) := by
  intro pins s σ H Q I h
  refine wpAny_Call_Name_kw (ld_glob I hg hm ?_ hdb)
  refine PySem.W.callWith_K (h₀ := X.base) I.ok.mod.kin hk (thn (ha pos pins s σ H _ I h) fun us s1 ⟨vs, H1, I1, r, q⟩ => ⟨I1.kIn, ?_⟩) he hpl
  exact run_fn F hr hb hd hx I1 r q
structure Mk (K : PySem.W.Frag) (C f : Addr) : Prop where
  makes : PySem.W.makesIn K C = true
  init : PySem.W.findIn K (.ref C) "__init__" = some (some (.ref f))
  fn : PySem.W.isFn K (.ref f) = true
  kp : PySem.W.keepIn K (.ref C) = true
end
section
variable {X : Cx} {CX : CXT} {k : Nat} {f C : Addr} {fd : FuncData} {ps ks : List Str} {sp : Sp} {E : XK} {x m : Str} {p pos apos kpos : Pos} {e o : Expr} {es : List Expr} {kws : List Keyword} {te ta : TE} {t tk : TA} {nm : Option Str}
structure KBinds (K : PySem.W.Frag) (fd : FuncData) (ps ks : List Str) (g : List Value → List Value → List Value) (gV : List V → List V → List V) : Prop where
  to : ∀ (s : Shared) (us ws : List Value), K.In s.heap → (g us ws).length = ps.length → BindsTo s fd ⟨us, ks.zip ws⟩ (ps.zip (g us ws))
  rel : ∀ {vs : List V} {us : List Value} {zs : List V} {ws : List Value}, Vals vs us → Vals zs ws → Vals (gV vs zs) (g us ws)
variable {g : List Value → List Value → List Value} {gV : List V → List V → List V}
end
structure FnScope (N P : List Str) (sc : Scope) : Prop where
  kind : sc.kind = .function
  co : sc.isCoroutine = false
  gen : sc.isGenerator = false
  nd : N.Nodup
  pre : N.take P.length = P
  par : ∀ x ∈ P, sc.names.lookup x = some .local ∨ sc.names.lookup x = some .cell
  nofree : ∀ y ∈ sc.names, y.2 ≠ .free
theorem bindL_out {kindOf : Str → Option NameKind} {x : Str} : ∀ {binds : List (Str × Value)} {m : Str → Option Value}, (∀ v, (x, v) ∉ binds) → bindL kindOf binds m x = m x
  | [], _, _ => rfl
  | (n, v) :: r, m, h => by
    unfold bindL
    rw [bindL_out fun w hw => h w (List.mem_cons_of_mem _ hw)]
    split
    · have : x ≠ n := by rintro rfl; exact h v List.mem_cons_self
      simp [this]
    · rfl
theorem bindC_out {kindOf : Str → Option NameKind} {x : Str} : ∀ {binds : List (Str × Value)} {m : Str → Option Value}, (∀ v, (x, v) ∉ binds) → bindC kindOf binds m x = m x
  | [], _, _ => rfl
  | (n, v) :: r, m, h => by
    unfold bindC
    rw [bindC_out fun w hw => h w (List.mem_cons_of_mem _ hw)]
    split
    · rfl
    · have : x ≠ n := by rintro rfl; exact h v List.mem_cons_self
      simp [this]
theorem bindL_get {kindOf : Str → Option NameKind} {x : Str} {v : Value} : ∀ {P : List Str} {vs : List Value} {i : Nat} {m : Str → Option Value}, P.Nodup → P[i]? = some x → vs[i]? = some v → kindOf x = some .local →
    bindL kindOf (P.zip vs) m x = some v
  | [], _, _, _, _, h, _, _ => by simp at h
  | _ :: _, [], _, _, _, _, h, _ => by simp at h
  | p :: P, w :: vs, 0, m, nd, h1, h2, hk => by
    simp at h1 h2; subst h1; subst h2
    show bindL kindOf ((p, w) :: P.zip vs) m p = _
    unfold bindL
    rw [bindL_out fun v hv => (List.nodup_cons.mp nd).1 (List.of_mem_zip hv).1, if_pos hk]
    simp
  | p :: P, w :: vs, i + 1, m, nd, h1, h2, hk => by
    show bindL kindOf ((p, w) :: P.zip vs) m x = _
    unfold bindL
    exact bindL_get (i := i) (List.nodup_cons.mp nd).2 (by simpa using h1) (by simpa using h2) hk
theorem bindC_get {kindOf : Str → Option NameKind} {x : Str} {v : Value} : ∀ {P : List Str} {vs : List Value} {i : Nat} {m : Str → Option Value}, P.Nodup → P[i]? = some x → vs[i]? = some v → kindOf x ≠ some .local →
    bindC kindOf (P.zip vs) m x = some v
  | [], _, _, _, _, h, _, _ => by simp at h
  | _ :: _, [], _, _, _, _, h, _ => by simp at h
  | p :: P, w :: vs, 0, m, nd, h1, h2, hk => by
    simp at h1 h2; subst h1; subst h2
    show bindC kindOf ((p, w) :: P.zip vs) m p = _
    unfold bindC
    rw [bindC_out fun v hv => (List.nodup_cons.mp nd).1 (List.of_mem_zip hv).1, if_neg hk]
    simp
  | p :: P, w :: vs, i + 1, m, nd, h1, h2, hk => by
    show bindC kindOf ((p, w) :: P.zip vs) m x = _
    unfold bindC
    exact bindC_get (i := i) (List.nodup_cons.mp nd).2 (by simpa using h1) (by simpa using h2) hk
def start (N : List Str) (vs : List V) : St := vs.map some ++ List.replicate (N.length - vs.length) none
def cxOf (CX : CXT) (P : Program) (w : World) (K : PySem.W.Frag) (mg : Str → Option Value) (base : Heap) (N : List Str) (qual : Str) (scope : Scope) (f : Addr) (cd : Value) (A : Around) (outer : List Env) (s : Shared) (H : Hp) (E : XK) : Cx where
  prog := P
  w := w
  K := K
  mg := mg
  base := base
  A := A.deeper (envOfC qual scope s.heap.objs.size f cd)
  N := N
  s₀ := s
  H₀ := H
  env := envOfC qual scope s.heap.objs.size f cd
  outer := outer
  stack := envOfC qual scope s.heap.objs.size f cd :: outer
  ex := []
  calm := true
  fn := fun _ => true
  pn := []
  xe := fun e s' => wpAny (model P w) (A.deeper (envOfC qual scope s.heap.objs.size f cd)) (leaving (envOfC qual scope s.heap.objs.size f cd) e) (fun _ s'' => CX outer H s E e s'') (fun e' s'' => CX outer H s E e' s'') s'
theorem cell_has {sc : Scope} {n : Nat} {x : Str} (h : sc.names.lookup x = some .cell) : ∃ c, (cellsFrom n sc.names []).lookup x = some c := by
  have q := PySem.W.cellsFrom_some sc.names n [] (.inl h)
  exact Option.isSome_iff_exists.mp q
theorem inv_start {CX : CXT} {P : Program} {w : World} {K : PySem.W.Frag} {mg : Str → Option Value} {base : Heap} {N ps : List Str} {qual : Str} {scope : Scope} {f : Addr} {cd : Value} {A : Around} {outer : List Env} {s s1 : Shared} {H : Hp} {E : XK} {us : List Value} {vs : List V}
    (S : FnScope N ps scope) (hd : A.handled = none) (e0 : Env0 P w K mg base A outer s H) (hl : vs.length = ps.length) (r : Vals vs us)
    (x : InCallC s s.heap.objs.size (bindL (envOfC qual scope s.heap.objs.size f cd).kindOf (ps.zip us) fun _ => none) (cellsFrom (s.heap.objs.size + 1) scope.names []) (bindC (envOfC qual scope s.heap.objs.size f cd).kindOf (ps.zip us) fun _ => none) s1) :
    Inv (cxOf CX P w K mg base N qual scope f cd A outer s H E) [] (start N vs) H s1 := by
  have hpl : ps.length ≤ N.length := by have := congrArg List.length S.pre; rw [List.length_take] at this; bv_omega
  obtain ⟨h1, tk, rfl, hk⟩ := x.done
  have noA : ∀ b : Addr, b ∉ (cxOf CX P w K mg base N qual scope f cd A outer s H E).ex := fun b z => absurd (show b ∈ ([] : List Addr) from z) (by simp)
  refine ⟨⟨e0.mod, S.kind, rfl, rfl, Nat.le_refl _, fun y z c h1 h2 => ?_, fun y hy => ?_, fun y c _ h => ?_, fun _ => hd, Around.frames_deeper e0.frames, .inr ⟨rfl, rfl⟩, fun b z => absurd z (noA b), e0.bs, e0.bsz, fun b _ _ => noA b, fun b z => absurd z (noA b), e0.funs, e0.frf⟩,
    rfl, e0.bare, Un.kept hk, ⟨_, x.toInCall.ns, fun i y v h1 h2 h3 => ?_⟩, fun y c h => ⟨_, x.cell y c h⟩, e0.hok.fresh (Nat.le_refl _), fun y c h => ?_, fun p hp => absurd (show p ∈ ([] : List (Addr × Obj)) from hp) (by simp), e0.hok.kept hk, ?_⟩
  · exact name_of_addr x.apart (PySem.mem_of_lookup h1) (PySem.mem_of_lookup h2)
  · have hy : scope.names.lookup y = some .cell ∨ scope.names.lookup y = some .free := hy
    rcases hy with hy | hy
    · exact cell_has hy
    · exact absurd rfl (S.nofree _ (PySem.mem_of_lookup hy))
  · exact Nat.le_of_lt (x.above y c (PySem.mem_of_lookup h))
  · have hi : i < vs.length := by
      unfold start at h2
      by_cases hi : i < vs.length
      · exact hi
      · rw [List.getElem?_append_right (by simpa using hi)] at h2
        rw [List.getElem?_replicate] at h2
        split at h2 <;> cases h2
    have ha : vs[i]? = some v := by
      unfold start at h2
      rw [List.getElem?_append_left (by simpa using hi), List.getElem?_map] at h2
      cases e : vs[i]? with
      | none => rw [e] at h2; cases h2
      | some a => rw [e] at h2; cases h2; rfl
    obtain ⟨u, hu, rv⟩ := r.get ha
    have hp : ps[i]? = some y := by
      rw [← S.pre, List.getElem?_take_of_lt (by bv_omega)]; exact h1
    have ndP : ps.Nodup := by rw [← S.pre]; exact S.nd.sublist (List.take_sublist _ _)
    refine ⟨u, rv, ?_⟩
    rcases S.par y (List.mem_of_getElem? hp) with k | k
    · exact .inl ⟨k, bindL_get ndP hp hu k⟩
    · obtain ⟨c, e⟩ := cell_has (n := s.heap.objs.size + 1) k
      refine .inr ⟨.inl k, c, e, ?_⟩
      have q := x.cell y c e
      rw [bindC_get ndP hp hu (by show scope.names.lookup y ≠ _; rw [k]; decide)] at q
      exact q
  · exact e0.hok.fresh (Nat.le_of_lt (x.above y c (PySem.mem_of_lookup h)))
  · unfold start
    show _ = N.length
    rw [List.length_append, List.length_map, List.length_replicate]
    bv_omega
theorem fn_of {CX : CXT} {P : Program} {w : World} {K : PySem.W.Frag} {mg : Str → Option Value} {base : Heap} {k : Nat} {f : Addr} {name qual : Str} {params : Arguments} {body : List Stmt} {scope : Scope} {dV kV doc pm cdv ct oc : Value} {an od : Option Addr}
    {osl : Array (Option Value)} {N ps : List Str} {sp : Sp} (lk : K.lookup f = some ⟨oc, od, .func (PySem.W.fnOf name qual params body scope dV kV doc pm an cdv ct), osl⟩) (hcd : PySem.W.codeIn K cdv qual = true) (S : FnScope N ps scope)
    (len : ∀ vs H Q E, sp vs H Q E → vs.length = ps.length)
    (hbody : ∀ (A : Around) (outer : List Env) (s : Shared) (H : Hp) (vs : List V) (Q : VK) (E : XK), Room k (A.deeper (envOfC qual scope s.heap.objs.size f cdv)) → sp vs H Q E →
      ∃ t, PSs (cxOf CX P w K mg base N qual scope f cdv A outer s H E) body t ∧ t { nx := fun _ H' => Q .non H', rt := Q } (start N vs) H) :
    FnOk P w K mg base CX (k + 1) f (PySem.W.fnOf name qual params body scope dV kV doc pm an cdv ct) ps sp := by
  refine ⟨len, fun A outer s H args us vs Q E hr e0 hb r hsp => ?_⟩
  have hl := len _ _ _ _ hsp
  have KX : K.In s.heap := e0.mod.kin.keeps fun b o e => (e0.bs b o e).1
  have lim : s.heap.NoLimit := e0.mod.nolimit.keeps fun b o e => (e0.bs b o e).1
  have hkind : ∀ y ∈ ps.zip us, scope.names.lookup y.1 = some .local ∨ (scope.names.lookup y.1 = some .cell ∧ ((cellsFrom (s.heap.objs.size + 1) scope.names []).lookup y.1).isSome = true) := fun ⟨n, v⟩ hy => by
    rcases S.par n (List.of_mem_zip hy).1 with q | q
    · exact .inl q
    · exact .inr ⟨q, PySem.W.cellsFrom_some _ _ _ (.inl q)⟩
  refine codeAny_call_function hr.depth (KX _ _ lk) rfl S.co S.gen rfl (PySem.W.codeRec_of KX hcd) (hb _ _ _ _ ?_)
  refine wpAny_newFunctionEnv_cells S.kind hkind fun env he s1 x => ?_
  subst he
  refine ⟨lim.keeps x.toInCall.keep, codeAny_func ?_⟩
  obtain ⟨t, ht, hq⟩ := hbody A outer s H vs Q E (hr.deeper _) hsp
  have I : Inv (cxOf CX P w K mg base N qual scope f cdv A outer s H E) [] (start N vs) H s1 := inv_start S hr.hd e0 hl r x
  refine wpAny_mono (ht [] s1 (start N vs) H _ I hq) (fun fl s' hs => ?_) fun e s' hs => hs
  have fin : ∀ {σ' : St} {H' : Hp} {v : V} {u : Value}, Inv (cxOf CX P w K mg base N qual scope f cdv A outer s H E) [] σ' H' s' → RelV v u → Q v H' → CE outer P w H s Q u s' :=
    fun {σ' H' v u} J rv q => ⟨v, H', J.os, J.bare, J.base, J.hok, rv, q⟩
  cases fl with
  | ret u =>
    obtain ⟨v, σ', H', J, rv, q⟩ := hs
    exact fin J rv q
  | next =>
    obtain ⟨σ', H', J, q⟩ := hs
    exact fin (v := V.non) (u := Value.none) J rfl q
  | brk =>
    obtain ⟨_, _, _, q⟩ := hs
    exact False.elim q
  | cont =>
    obtain ⟨_, _, _, q⟩ := hs
    exact False.elim q
end L2
namespace L2
open PySem PySem.Spec PyProof.Rows
section
variable {X : Cx} {x : Str} {p pos : Pos} {e : Expr} {es : List Expr} {t : TA} {id T : String} {r : List V → Hp → VK → Prop}
def tCB (r : List V → Hp → VK → Prop) (t : TA) : TE := fun σ H Q => t σ H fun vs H1 => r vs H1 Q
theorem pe_callB (hc : CallR X (.builtin id) r) (hg : Gl X x) (hm : X.mg x = none) (hv : bootBuiltins x = some (.builtin id)) (ha : PA X (e :: es) t) (hn : autoParam (x ≠ "__name__") autoK2._auto_1) (hdb : autoParam ((x == ("__debug__" : Str)) = false) autoK2._auto_1)
    (he : autoParam (starEach (e :: es) X.env = (false, eval e X.env) :: starEach es X.env) autoK5._auto_1) (hpl : autoParam ((backTo pos (starEach es X.env)).any (·.1) = false) autoK5._auto_1) : PE X (.Call (.Name x p) (e :: es) [] pos) (tCB r t) := by
  intro pins s σ H Q I h
  refine wpAny_Call_Name_kw (ld_blt I hg hm hv ?_ hn hdb)
  exact PyProof.Rows.callWith_builtin1 (thn (ha pos pins s σ H _ I h) fun us s1 ⟨vs, H1, I1, r1, q1⟩ => hc pins s1 σ H1 vs us Q I1 r1 q1) he hpl
theorem pe_callTy (hc : CallR X (.type T) r) (hg : Gl X x) (hm : X.mg x = none) (hv : bootBuiltins x = some (.type T)) (ha : PA X (e :: es) t) (hn : autoParam (x ≠ "__name__") autoK2._auto_1) (hdb : autoParam ((x == ("__debug__" : Str)) = false) autoK2._auto_1)
    (he : autoParam (starEach (e :: es) X.env = (false, eval e X.env) :: starEach es X.env) autoK5._auto_1) (hpl : autoParam ((backTo pos (starEach es X.env)).any (·.1) = false) autoK5._auto_1) : PE X (.Call (.Name x p) (e :: es) [] pos) (tCB r t) := by
  intro pins s σ H Q I h
  refine wpAny_Call_Name_kw (ld_blt I hg hm hv ?_ hn hdb)
  exact PyProof.Rows.callWith_type1 (thn (ha pos pins s σ H _ I h) fun us s1 ⟨vs, H1, I1, r1, q1⟩ => hc pins s1 σ H1 vs us Q I1 r1 q1) he hpl
end
end L2
namespace HT
open PySem PyProof.Rows
section
open PySem.SeqAt
open PySem.AutoSeq1 (wpAny_loadPart')
open PySem.MeetsSeq PySem.MeetsSeq2 PySem.MeetsSeq3
end
section
variable {prog : Program} {w : World} {A : Around} {E : Value → Shared → Prop} {s : Shared}
theorem cat_tup {t b : Addr} {vs ws : List Value} {Q : Value → Shared → Prop} (ht : IsTup s.heap t vs.toArray) (hb : IsTup s.heap b ws.toArray) (hv : vs ≠ [])
    (h1 : ws = [] → Q (.ref t) s) (h2 : ws ≠ [] → Q (.ref s.heap.objs.size) { s with heap := s.heap.push { cls := .type "tuple", data := .seq (vs ++ ws).toArray } })
    (hsz : vs.length + ws.length ≤ sizeLine) : wpAny (model prog w) A (binaryOp .Add (.ref t) (.ref b)) Q E s := by
  obtain ⟨⟨cls, dd, data, sl⟩, ho, hc, n, hd⟩ := id ht
  obtain ⟨⟨cls2, dd2, data2, sl2⟩, ho2, hc2, n2, hd2⟩ := id hb
  simp only at hc hd hc2 hd2
  subst hc hd hc2 hd2
  have e : vs.toArray ++ ws.toArray = (vs ++ ws).toArray := by simp
  by_cases hw : ws = []
  · exact concat_meets ⟨_, ho, rfl⟩ ⟨_, ho2, rfl⟩ noFill_tuple_add seq_tuple_add PySem.F.slot_tuple_add PySem.F.entry_tuple_add (PySem.F.args_tuple_add_2 _ _)
      (tuple_addW1 t b vs.toArray ws.toArray n n2 dd dd2 sl sl2 (by simpa using hv) (by simp [hw])) ⟨ho, ho2, h1 hw⟩
  · refine concat_meets ⟨_, ho, rfl⟩ ⟨_, ho2, rfl⟩ noFill_tuple_add seq_tuple_add PySem.F.slot_tuple_add PySem.F.entry_tuple_add (PySem.F.args_tuple_add_2 _ _)
      (tuple_addW2 t b vs.toArray ws.toArray n n2 dd dd2 sl sl2 (by simpa using hv) (by simpa using hw) (by rw [List.size_toArray, List.size_toArray]; exact hsz)) ⟨ho, ho2, ?_⟩
    rw [e]
    exact h2 hw
def sIx (n d : Nat) : Option Int → Nat
  | none => d
  | some v => if v < 0 then (v + (n : Int)).toNat else min v.toNat n
theorem sIx_none (n d : Nat) : sIx n d none = d := rfl
theorem sIx_nat (n d k : Nat) : sIx n d (some (k : Int)) = min k n := by
  show (if (k : Int) < 0 then ((k : Int) + (n : Int)).toNat else min (k : Int).toNat n) = min k n
  rw [if_neg (by bv_omega), Int.toNat_natCast]
theorem sIx_le (n d : Nat) (hd : d ≤ n) (o : Option Int) : sIx n d o ≤ n := by
  cases o with
  | none => exact hd
  | some v =>
    show (if v < 0 then (v + (n : Int)).toNat else min v.toNat n) ≤ n
    by_cases hv : v < 0
    · rw [if_pos hv]; bv_omega
    · rw [if_neg hv]; exact Nat.min_le_right _ _
theorem clip_eq (v : Int) (n d : Nat) : (if v < 0 then max (v + (n : Int)) 0 else min v (n : Int)) = ((sIx n d (some v) : Nat) : Int) := by
  show (if v < 0 then max (v + (n : Int)) 0 else min v (n : Int)) = (((if v < 0 then (v + (n : Int)).toNat else min v.toNat n) : Nat) : Int)
  by_cases hv : v < 0
  · simp only [if_pos hv]; bv_omega
  · simp only [if_neg hv]; bv_omega
theorem adjust_gen (lo hi : Option Int) (n : Nat) : Builtin.Slice.sliceAdjust lo hi 1 (n : Int) = (((sIx n 0 lo : Nat) : Int), ((sIx n n hi : Nat) : Int)) := by
  have h1 : ¬ ((1 : Int) < 0) := by bv_omega
  unfold Builtin.Slice.sliceAdjust
  simp only [h1, if_false]
  refine Prod.ext ?_ ?_
  · cases lo with
    | none => rfl
    | some v => exact clip_eq v n 0
  · cases hi with
    | none => rfl
    | some v => exact clip_eq v n n
theorem places_gen (i j : Nat) : Builtin.Slice.slicePlaces (i : Int) (j : Int) 1 = j - i := by
  unfold Builtin.Slice.slicePlaces
  have h1 : (1 : Int) > 0 := by bv_omega
  simp only [h1, if_true, Int.ediv_one]
  split <;> bv_omega
theorem slicePart_ {v : Value} {o : Option Int} {Q : Option Int → Shared → Prop} (p : IsPart v o) (h : Q o s) : wpAny (model prog w) A (Builtin.Slice.slicePartIndex v) Q E s := by
  cases p with
  | none => exact slicePart_none h
  | int i t => exact slicePart_int h
theorem sliceApplied_gen {sl : Addr} {vl vu : Value} {lo hi : Option Int} {n : Nat} {Q : Int × Int × Nat → Shared → Prop} (hs : s.heap.IsSliceOf sl vl vu .none) (pl : IsPart vl lo) (pu : IsPart vu hi)
    (h : Q (((sIx n 0 lo : Nat) : Int), 1, sIx n n hi - sIx n 0 lo) s) : wpAny (model prog w) A (Builtin.Slice.sliceApplied (.ref sl) (pure (n : Int))) Q E s := by
  obtain ⟨os, hos, hcs, hds⟩ := id hs
  unfold Builtin.Slice.sliceApplied Builtin.Slice.sliceFields
  refine wpAny_bind (wpAny_bind (wpAny_field hos hds (x := vl) rfl (wpAny_bind (wpAny_field hos hds (x := vu) rfl (wpAny_bind (wpAny_field hos hds (x := .none) rfl (wpAny_pure ?_)))))))
  refine wpAny_bind (slicePart_none ?_)
  show wpAny _ _ (if ((1 : Int) == 0) = true then _ else _) _ _ s
  rw [if_neg (by decide)]
  refine wpAny_bind (slicePart_ pl (wpAny_bind (slicePart_ pu (wpAny_bind (wpAny_pure ?_)))))
  show wpAny _ _ (match Builtin.Slice.sliceAdjust lo hi 1 (n : Int) with | (lo, hi) => pure (lo, (1 : Int), Builtin.Slice.slicePlaces lo hi 1)) _ _ s
  rw [adjust_gen lo hi n]
  show wpAny _ _ (pure (((sIx n 0 lo : Nat) : Int), (1 : Int), Builtin.Slice.slicePlaces ((sIx n 0 lo : Nat) : Int) ((sIx n n hi : Nat) : Int) 1)) _ _ s
  rw [places_gen]
  exact wpAny_pure h
theorem pick_gen (xs : Array Value) (i k : Nat) : ((List.range k).filterMap fun (m : Nat) => xs[((i : Int) + (m : Int) * 1).toNat]?).toArray = ((xs.toList.drop i).take k).toArray := by
  have e : (fun (m : Nat) => xs[((i : Int) + (m : Int) * 1).toNat]?) = fun m => xs[i + m]? := by
    funext m
    have : ((i : Int) + (m : Int) * 1).toNat = i + m := by bv_omega
    rw [this]
  rw [e]
  have := pick_run xs i k
  rw [List.filterMap_map] at this
  have e2 : ((fun x => xs[x]?) ∘ fun x => i + x) = fun m => xs[i + m]? := rfl
  rw [e2] at this
  rw [this]
theorem getItem_tuple_cut {t sl : Addr} {items : Array Value} {vl vu : Value} {lo hi : Option Int} {Q : Value → Shared → Prop} (ht : IsTup s.heap t items) (hs : s.heap.IsSliceOf sl vl vu .none) (pl : IsPart vl lo) (pu : IsPart vu hi)
    (hw : ¬ (sIx items.size 0 lo = 0 ∧ sIx items.size items.size hi = items.size))
    (h : Q (.ref s.heap.objs.size) { s with heap := s.heap.push { cls := .type "tuple", data := .seq ((items.toList.drop (sIx items.size 0 lo)).take (sIx items.size items.size hi - sIx items.size 0 lo)).toArray } })
    (hsz : items.size ≤ sizeLine) : wpAny (model prog w) A (getItem (.ref t) (.ref sl)) Q E s := by
  have htake : sizeOk (.seq ((items.toList.drop (sIx items.size 0 lo)).take (sIx items.size items.size hi - sIx items.size 0 lo)).toArray) := by
    show ((items.toList.drop (sIx items.size 0 lo)).take (sIx items.size items.size hi - sIx items.size 0 lo)).toArray.size ≤ sizeLine
    rw [List.size_toArray, List.length_take, List.length_drop, Array.length_toList]
    bv_omega
  have hj : sIx items.size items.size hi ≤ items.size := sIx_le _ _ (Nat.le_refl _) hi
  obtain ⟨os, hos, hcs, hds⟩ := id hs
  have hTs : s.TypeIs (.ref sl) "slice" := ⟨os, hos, hcs⟩
  unfold getItem
  try with_reducible refine wpAny_holding ?_
  first | refine wpAny_bind (wpAny_pure ?_) | skip
  refine wpAny_bind (wpAny_sequenceKey ht.typeIs (by decide) ?_)
  refine wpAny_bind (wpAny_callSpecial?_slot (name := Str.ofString "__getitem__") ht.typeIs PyProof.Rows.slot_tuple_getitem
    (wpAny_call_entry PyProof.Rows.slot_tuple_getitem ht.typeIs entry_tuple_getitem ?_ (args_tuple_getitem _ _)))
  show wpAny _ _ (Builtin.Tuple.tupleItemsOf (.ref t) >>= _) _ _ s
  refine wpAny_bind (tupleItemsOf_ ht ?_)
  refine wpAny_bind (wpAny_typeOf hTs ?_)
  rw [if_pos (by decide)]
  refine wpAny_bind (sliceApplied_gen hs pl pu ?_)
  have hno : ¬ ((((sIx items.size 0 lo : Nat) : Int) == 0 && (1 : Int) == 1 && (sIx items.size items.size hi - sIx items.size 0 lo) == items.size) = true) := by
    intro q
    rw [Bool.and_eq_true, Bool.and_eq_true] at q
    have q1 : ((sIx items.size 0 lo : Nat) : Int) = 0 := eq_of_beq q.1.1
    have q2 : sIx items.size items.size hi - sIx items.size 0 lo = items.size := eq_of_beq q.2
    exact hw ⟨by bv_omega, by bv_omega⟩
  show wpAny _ _ (if (((sIx items.size 0 lo : Nat) : Int) == 0 && (1 : Int) == 1 && (sIx items.size items.size hi - sIx items.size 0 lo) == items.size) = true then _ else _) _ _ s
  rw [if_neg hno, pick_gen]
  first
    | exact wpAny_bind (m := Builtin.Tuple.tupleExact _) (wpAny_newObj_type (wpAny_pure ⟨_, rfl, wpAny_pure h⟩) htake)
    | exact wpAny_bind (m := Builtin.Tuple.tupleExact _) (wpAny_newObj_type (wpAny_bind (wpAny_pure (wpAny_pure ⟨_, rfl, wpAny_pure h⟩))) htake)
    | exact wpAny_bind (wpAny_bind (m := Builtin.Tuple.tupleExact _) (wpAny_newObj_type (wpAny_pure (wpAny_pure ⟨_, rfl, wpAny_pure h⟩)) htake))
    | exact wpAny_bind (wpAny_bind (m := Builtin.Tuple.tupleExact _) (wpAny_newObj_type (wpAny_pure ⟨_, rfl, wpAny_pure h⟩) htake))
end
end HT
namespace L2
open PySem PySem.Spec PyProof.Rows
abbrev TO := St → Hp → (Option Int → Hp → Prop) → Prop
def PO (X : Cx) (e : Option Expr) (t : TO) : Prop :=
  ∀ (pins : List (Addr × Obj)) (s : Shared) (σ : St) (H : Hp) (Q : Option Int → Hp → Prop), Inv X pins σ H s → t σ H Q →
    wpAny (model X.prog X.w) X.A (evalPart e X.env) (fun u s' => ∃ o H', Inv X pins σ H' s' ∧ IsPart u o ∧ Q o H') X.xe s
def tNoPart : TO := fun _ H Q => Q none H
def tPart (t : TE) : TO := fun σ H Q => t σ H fun x H1 => ∃ i, x = .int i ∧ Q (some i) H1
theorem intsAre_of {ns : List Int} : ∀ {us : List Value}, Vals (ns.map V.int) us → IntsAre us ns := by
  induction ns with
  | nil => intro us r; rw [List.map_nil] at r; cases r; exact .nil
  | cons n ns ih =>
    intro us r
    rw [List.map_cons] at r
    cases r with
    | cons r1 r2 =>
      obtain ⟨t, e⟩ := r1
      subst e
      exact .cons n t (ih r2)
section
variable {X : Cx} {e : Expr} {te : TE} {lo hi : Option Expr} {tl th : TO} {pos p2 : Pos}
theorem po_none : PO X none tNoPart := by
  intro pins s σ H Q I h
  rw [evalPart_none]
  exact wpAny_pure ⟨none, H, I, .none, h⟩
theorem po_some (h : PE X e te) : PO X (some e) (tPart te) := by
  intro pins s σ H Q I hw
  rw [evalPart_some]
  refine thn (h pins s σ H _ I hw) fun u s1 ⟨x, H1, I1, r1, q1⟩ => ?_
  obtain ⟨i, rfl, q⟩ := q1
  obtain ⟨t, rfl⟩ := r1
  exact ⟨some i, H1, I1, .int i t, q⟩
def SlR (X : Cx) (r : V → Option Int → Option Int → Hp → VK → Prop) : Prop :=
  ∀ (pins : List (Addr × Obj)) (s : Shared) (σ : St) (H : Hp) (x : V) (v vl vu : Value) (lo hi : Option Int) (sl : Addr) (Q : VK), Inv X pins σ H s → RelV x v → s.heap.IsSliceOf sl vl vu .none → IsPart vl lo → IsPart vu hi → r x lo hi H Q →
    ∃ T id, typeLookup (.type T) "__getitem__" = pure (some (.builtin id)) ∧ s.TypeIs v T ∧ wpAny (model X.prog X.w) X.A (getItem v (.ref sl)) (EP X pins σ Q) X.xe s
theorem SlR.or {r r' : V → Option Int → Option Int → Hp → VK → Prop} (h : SlR X r) (h' : SlR X r') : SlR X (fun x lo hi H Q => r x lo hi H Q ∨ r' x lo hi H Q) := by
  intro pins s σ H x v vl vu lo hi sl Q I rx hs pl pu q
  rcases q with q | q
  · exact h pins s σ H x v vl vu lo hi sl Q I rx hs pl pu q
  · exact h' pins s σ H x v vl vu lo hi sl Q I rx hs pl pu q
def tSl (r : V → Option Int → Option Int → Hp → VK → Prop) (te : TE) (tl th : TO) : TE := fun σ H Q => te σ H fun x H1 => tl σ H1 fun l H2 => th σ H2 fun u H3 => r x l u H3 Q
theorem pe_slice {r : V → Option Int → Option Int → Hp → VK → Prop} (hr : SlR X r) (he : PE X e te) (hl : PO X lo tl) (hu : PO X hi th) : PE X (.Subscript e (.Slice lo hi none p2) pos) (tSl r te tl th) := by
  intro pins s σ H Q I h
  refine Subscript_ (thn (he pins s σ H _ I h) fun v s1 ⟨x, H1, I1, r1, q1⟩ => ?_)
  refine wpAny_Slice (thn (hl pins s1 σ H1 _ I1 q1) fun vl s2 ⟨l, H2, I2, pl, q2⟩ => thn (hu pins s2 σ H2 _ I2 q2) fun vu s3 ⟨u, H3, I3, pu, q3⟩ => ?_)
  rw [evalPart_none]
  refine wpAny_pure ?_
  have I4 : Inv X pins σ H3 { s3 with heap := s3.heap.push { cls := .type "slice", data := .fields #[vl, vu, .none] } } := I3.kept (t' := s3.toks) fun b ob q => Heap.get?_push_of_some _ q
  obtain ⟨T, id, hT, ht, hg⟩ := hr pins { s3 with heap := s3.heap.push { cls := .type "slice", data := .fields #[vl, vu, .none] } } σ H3 x v vl vu l u s3.heap.objs.size Q I4 r1 (Heap.IsSliceOf.new ..) pl pu q3
  show wpAny (model X.prog X.w) X.A (subscriptTail e (.Slice lo hi none p2) v (.ref s3.heap.objs.size)) (EP X pins σ Q) X.xe { s3 with heap := s3.heap.push { cls := .type "slice", data := .fields #[vl, vu, .none] } }
  exact tail_any (ops := [.ref s3.heap.objs.size, v]) ht hT hg (by with_unfolding_all rfl)
def cutV (xs : List V) (lo hi : Option Int) : List V := (xs.drop (HT.sIx xs.length 0 lo)).take (HT.sIx xs.length xs.length hi - HT.sIx xs.length 0 lo)
theorem cutV_length (xs : List V) (lo hi : Option Int) : (cutV xs lo hi).length ≤ xs.length := by
  unfold cutV
  rw [List.length_take, List.length_drop]
  bv_omega
def rSlT (K : PySem.W.Frag) : V → Option Int → Option Int → Hp → VK → Prop := fun x lo hi H Q => ∃ a xs, x = .ref a ∧ SqT K H a xs ∧
  ¬ (HT.sIx xs.length 0 lo = 0 ∧ HT.sIx xs.length xs.length hi = xs.length) ∧ ∀ p, H p = none → Q (.ref p) (upd H p (.tup (cutV xs lo hi)))
theorem sl_tup : SlR X (rSlT X.K) := by
  intro pins s σ H x v vl vu lo hi sl Q I rx hs pl pu h
  obtain ⟨a, xs, rfl, hx, hw, q⟩ := h
  cases rx
  obtain ⟨its, r, ht, hz⟩ := I.tuple hx
  have hlen : its.toArray.size = xs.length := by rw [List.size_toArray]; exact r.length.symm
  refine ⟨"tuple", _, PyProof.Rows.slot_tuple_getitem.lookup, ht.typeIs, ?_⟩
  refine HT.getItem_tuple_cut ht hs pl pu (by rw [hlen]; exact hw) ?_ (by rw [hlen]; exact hz)
  rw [hlen]
  refine ⟨.ref s.heap.objs.size, _, I.laid (t' := s.toks) (o := .tup (cutV xs lo hi)) (fun b ob q => Heap.get?_push_of_some _ q) (Nat.le_refl _) ?_, rfl, q _ (I.hok.fresh (Nat.le_refl _))⟩
  exact ⟨Nat.le_trans (cutV_length xs lo hi) hz, _, (r.drop (HT.sIx xs.length 0 lo)).take (HT.sIx xs.length xs.length hi - HT.sIx xs.length 0 lo), TupAt.new _ _⟩
def rCatT (K : PySem.W.Frag) : R2 := fun x y H Q => ∃ a b xs ys, x = .ref a ∧ y = .ref b ∧ SqT K H a xs ∧ SqT K H b ys ∧ xs ≠ [] ∧ xs.length + ys.length ≤ sizeLine ∧
  (ys = [] → Q (.ref a) H) ∧ (ys ≠ [] → ∀ p, H p = none → Q (.ref p) (upd H p (.tup (xs ++ ys))))
theorem Vals.nil_iff {xs : List V} {us : List Value} (r : Vals xs us) : us = [] ↔ xs = [] := by
  cases r with
  | nil => simp
  | cons _ _ => simp
theorem op_catT : OpR X (binaryOp .Add) (rCatT X.K) := by
  intro pins s σ H x y v u Q I rx ry h
  obtain ⟨a, b, xs, ys, rfl, rfl, ha, hb, hx, hz, q1, q2⟩ := h
  cases rx
  cases ry
  obtain ⟨its, r1, p1, _⟩ := I.tuple ha
  obtain ⟨its2, r2, p2, _⟩ := I.tuple hb
  refine HT.cat_tup p1 p2 (fun z => hx (r1.nil_iff.mp z)) (fun z => ⟨.ref a, H, I, rfl, q1 (r2.nil_iff.mp z)⟩) (fun z => ?_) (by rw [← r1.length, ← r2.length]; exact hz)
  refine ⟨.ref s.heap.objs.size, _, I.laid (t' := s.toks) (o := .tup (xs ++ ys)) (fun b ob q => Heap.get?_push_of_some _ q) (Nat.le_refl _) ?_, rfl, q2 (fun w => z (r2.nil_iff.mpr w)) _ (I.hok.fresh (Nat.le_refl _))⟩
  exact ⟨by rw [List.length_append]; exact hz, _, r1.append r2, TupAt.new _ _⟩
end
end L2
namespace L2
open PySem PySem.Spec PyProof.Rows
def ixN (n : Nat) (i : Int) : Option Nat := if 0 ≤ i then (if i < n then some i.toNat else none) else if -(n : Int) ≤ i then some (i + n).toNat else none
def atI {α : Type} (xs : List α) (i : Int) : Option α := (ixN xs.length i).bind fun j => xs[j]?
theorem ixN_seq {n : Nat} {i : Int} {j : Nat} (h : ixN n i = some j) : seqIndex? i n = some j ∧ j < n ∧ -(n : Int) ≤ i ∧ i < n := by
  unfold ixN at h
  by_cases h0 : 0 ≤ i
  · rw [if_pos h0] at h
    by_cases h1 : i < n
    · rw [if_pos h1] at h
      have e : i.toNat = j := Option.some.inj h
      exact ⟨by rw [seqIndex_of h0 h1, e], by bv_omega, by bv_omega, h1⟩
    · rw [if_neg h1] at h; cases h
  · rw [if_neg h0] at h
    by_cases h1 : -(n : Int) ≤ i
    · rw [if_pos h1] at h
      have e : (i + n).toNat = j := Option.some.inj h
      exact ⟨by rw [seqIndex_neg (by bv_omega) h1, e], by bv_omega, h1, by bv_omega⟩
    · rw [if_neg h1] at h; cases h
theorem atI_get {α : Type} {xs : List α} {i : Int} {v : α} (h : atI xs i = some v) : ∃ j, seqIndex? i xs.length = some j ∧ xs[j]? = some v ∧ j < xs.length ∧ -(xs.length : Int) ≤ i ∧ i < xs.length := by
  unfold atI at h
  cases e : ixN xs.length i with
  | none => rw [e] at h; cases h
  | some j =>
    rw [e] at h
    obtain ⟨h1, h2, h3, h4⟩ := ixN_seq e
    exact ⟨j, h1, h, h2, h3, h4⟩
theorem atI_nat {α : Type} {xs : List α} {j : Nat} {v : α} (h : xs[j]? = some v) : atI xs (j : Int) = some v := by
  have hj : j < xs.length := (List.getElem?_eq_some_iff.mp h).1
  have e : ixN xs.length (j : Int) = some j := by
    unfold ixN
    rw [if_pos (by bv_omega), if_pos (by bv_omega)]; simp
  unfold atI; rw [e]; exact h
theorem atI_last {α : Type} (xs : List α) (v : α) : atI (xs ++ [v]) (-1) = some v := by
  have hl : (xs ++ [v]).length = xs.length + 1 := by simp
  have e : ixN (xs ++ [v]).length (-1) = some xs.length := by
    unfold ixN
    rw [hl, if_neg (by decide), if_pos (by bv_omega)]
    congr 1
    bv_omega
  unfold atI
  rw [e]
  show (xs ++ [v])[xs.length]? = some v
  simp
def PlainIx (b : Expr) : Prop := ∀ o i, subscripted b false o i = operate [o, i] (getItem o i)
def IxR (X : Cx) (r : R2) : Prop :=
  ∀ (value slice : Expr) (pins : List (Addr × Obj)) (s : Shared) (σ : St) (H : Hp) (x y : V) (v u : Value) (Q : VK), Inv X pins σ H s → RelV x v → RelV y u → r x y H Q →
    subscripted slice false v u = operate [v, u] (getItem v u) → wpAny (model X.prog X.w) X.A (subscriptTail value slice v u) (EP X pins σ Q) X.xe s
def MtR (X : Cx) (id : String) (r : V → List V → Hp → VK → Prop) : Prop :=
  ∀ (pins : List (Addr × Obj)) (s : Shared) (σ : St) (H : Hp) (x : V) (xs : List V) (v : Value) (us : List Value) (Q : VK), Inv X pins σ H s → RelV x v → Vals xs us → r x xs H Q →
    wpAny (model X.prog X.w) X.A (call (.builtin id) (v :: us)) (EP X pins σ Q) X.xe s
section
variable {X : Cx} {a b : Expr} {ta tb : TE} {pos : Pos}
theorem IxR.or {r r' : R2} (h : IxR X r) (h' : IxR X r') : IxR X (fun x y H Q => r x y H Q ∨ r' x y H Q) := by
  intro value slice pins s σ H x y v u Q I rx ry q hs
  rcases q with q | q
  · exact h value slice pins s σ H x y v u Q I rx ry q hs
  · exact h' value slice pins s σ H x y v u Q I rx ry q hs
theorem pe_ix {r : R2} (hr : IxR X r) (ha : PE X a ta) (hb : PE X b tb) (hs : PlainIx b) : PE X (.Subscript a b pos) (tOp r ta tb) := by
  intro pins s σ H Q I h
  exact Subscript_ (binT ha hb I h fun v u s2 x y H2 I2 rx ry q => hr a b pins s2 σ H2 x y v u Q I2 rx ry q (hs _ _))
def rIxL (K : PySem.W.Frag) : R2 := fun x y H Q => ∃ p xs i v, x = .ref p ∧ y = .int i ∧ SqL K H p xs ∧ atI xs i = some v ∧ Q v H
def rIxT (K : PySem.W.Frag) : R2 := fun x y H Q => ∃ p xs i v, x = .ref p ∧ y = .int i ∧ SqT K H p xs ∧ atI xs i = some v ∧ Q v H
def rIxS : R2 := fun x y H Q => ∃ z i c, x = .str z ∧ y = .int i ∧ z.length ≤ sizeLine ∧ atI z.cps.toList i = some c ∧ Q (.str ⟨#[c]⟩) H
theorem ix_list : IxR X (rIxL X.K) := by
  intro value slice pins s σ H x y v u Q I rx ry h hs
  obtain ⟨p, xs, i, z, rfl, rfl, hq, he, q⟩ := h
  cases rx
  obtain ⟨t, rfl⟩ := ry
  obtain ⟨its, r, pl, hz⟩ := I.list hq
  obtain ⟨j, h1, h2, h3, h4, h5⟩ := atI_get he
  obtain ⟨w, ew, rw'⟩ := r.get h2
  have hl := r.length
  have hn := line63
  have fin : EP X pins σ Q w s := ⟨z, H, I, rw', q⟩
  by_cases h0 : 0 ≤ i
  · have hj : i.toNat = j := by
      rw [seqIndex_of h0 h5] at h1
      exact Option.some.inj h1
    exact item_listR pl.isList h0 (by bv_omega) (by rw [hj]; simpa using ew) fin hs
  · have hj : (i + (its.toArray.size : Int)).toNat = j := by
      rw [seqIndex_neg (by bv_omega) h4] at h1
      rw [List.size_toArray, ← hl]
      exact Option.some.inj h1
    exact subscriptTail_builtinR (x := w) pl.isList.typeIs slot_list_getitem.lookup
      (wpAny_getItem_list_neg (Q := fun r s' => r = w ∧ EP X pins σ Q r s') pl.isList (by bv_omega) (by rw [List.size_toArray] <;> bv_omega) (by bv_omega) (by rw [hj]; simpa using ew) ⟨rfl, fin⟩) hs
theorem ix_tup : IxR X (rIxT X.K) := by
  intro value slice pins s σ H x y v u Q I rx ry h hs
  obtain ⟨p, xs, i, z, rfl, rfl, hq, he, q⟩ := h
  cases rx
  obtain ⟨t, rfl⟩ := ry
  obtain ⟨its, r, pl, hz⟩ := I.tuple hq
  obtain ⟨j, h1, h2, h3, h4, h5⟩ := atI_get he
  obtain ⟨w, ew, rw'⟩ := r.get h2
  have hl := r.length
  have hn := line63
  have fin : EP X pins σ Q w s := ⟨z, H, I, rw', q⟩
  exact subscriptTail_builtinR (x := w) pl.typeIs slot_tuple_getitem.lookup
    (getItem_tuple (j := j) (Q := fun r s' => r = w ∧ EP X pins σ Q r s') pl (by bv_omega) (by bv_omega) (by rw [List.size_toArray, ← hl]; exact h1) (by simpa using ew) ⟨rfl, fin⟩) hs
theorem ix_str : IxR X rIxS := by
  intro value slice pins s σ H x y v u Q I rx ry h hs
  obtain ⟨z, i, c, rfl, rfl, hz, he, q⟩ := h
  obtain ⟨t, rfl⟩ := rx
  obtain ⟨t', rfl⟩ := ry
  obtain ⟨j, h1, h2, h3, h4, h5⟩ := atI_get he
  have hl : z.cps.toList.length = z.length := by simp [Str.length]
  rw [hl] at h1 h4 h5
  have hn := line63
  exact tail_any (typeIs_str s z t) slot_str_getitem.lookup (getItem_str (c := c) (by
    have e1 : decide (i < -(2 ^ 63 : Int)) = false := decide_eq_false (by bv_omega)
    have e2 : decide (i ≥ 2 ^ 63) = false := decide_eq_false (by bv_omega)
    rw [e1, e2, Bool.or_false]) (by rw [h1]; simpa using h2) ⟨.str ⟨#[c]⟩, H, I.tok _, ⟨_, rfl⟩, q⟩) hs
def rIx (K : PySem.W.Frag) : R2 := fun x y H Q => rIxL K x y H Q ∨ rIxT K x y H Q ∨ rIxS x y H Q
theorem ix_seq : IxR X (rIx X.K) := ix_list.or (ix_tup.or ix_str)
theorem mapSeq_set (its : List Value) (n j : Nat) (u : Value) : Obj.mapSeq (·.setIfInBounds j u) { cls := .type "list", data := .seq its.toArray n } = { cls := .type "list", data := .seq (its.set j u).toArray n } := by
  simp [Obj.mapSeq]
theorem Inv.lst {pins : List (Addr × Obj)} {σ : St} {H : Hp} {s : Shared} {p : Addr} {xs : List V} (I : Inv X pins σ H s) (h : H p = some (.lst xs)) :
    ∃ (its : List Value) (n : Nat), Vals xs its ∧ s.heap.get? p = some { cls := .type "list", data := .seq its.toArray n } ∧ xs.length ≤ sizeLine := by
  obtain ⟨z, its, n, r, e⟩ := I.hok p _ h
  exact ⟨its, n, r, e, z⟩
theorem Inv.lstUpd {pins : List (Addr × Obj)} {σ : St} {H : Hp} {s : Shared} {p : Addr} {xs ys : List V} {its its' : List Value} {n n' : Nat} {f : Obj → Obj} (I : Inv X pins σ H s) (h : H p = some (.lst xs))
    (ho : s.heap.get? p = some { cls := .type "list", data := .seq its.toArray n }) (hf : f { cls := .type "list", data := .seq its.toArray n } = { cls := .type "list", data := .seq its'.toArray n' }) (r : Vals ys its') (hz : ys.length ≤ sizeLine) (t : Nat) :
    Inv X pins σ (upd H p (.lst ys)) { s with heap := s.heap.update p f, toks := t } := by
  have e : (s.heap.update p f).get? p = some { cls := .type "list", data := .seq its'.toArray n' } := by
    rw [Heap.get?_update_self f ho (by rw [hf] <;> rfl), hf]
  refine I.write (x := p) (e := p) (by rw [h]; trivial) (.inl rfl) (fun b u hb q => (Heap.get?_update_other _ _ (Ne.symm hb)).trans q) ⟨_, e⟩ ?_
  exact ⟨hz, its', n', r, e⟩
def rSetL : V → V → V → Hp → (Hp → Prop) → Prop := fun o i v H Q => ∃ p xs k j, o = .ref p ∧ i = .int k ∧ H p = some (.lst xs) ∧ ixN xs.length k = some j ∧ Q (upd H p (.lst (xs.set j v)))
theorem set_list : PSet X rSetL := by
  intro pins s σ H o i v ov iv u Q I ro ri rv h
  obtain ⟨p, xs, k, j, rfl, rfl, hp, hj, q⟩ := h
  cases ro
  obtain ⟨t, rfl⟩ := ri
  obtain ⟨its, n, r, ho, hz⟩ := I.lst hp
  obtain ⟨h1, h2, h3, h4⟩ := ixN_seq hj
  have hl := r.length
  have hn := line63
  have I' : Inv X pins σ (upd H p (.lst (xs.set j v))) { s with heap := s.heap.update p (Obj.mapSeq (·.setIfInBounds j u)) } :=
    I.lstUpd hp ho (mapSeq_set its n j u) (r.set rv j) (by rw [List.length_set]; exact hz) s.toks
  by_cases h0 : 0 ≤ k
  · have hk : k.toNat = j := by
      rw [seqIndex_of h0 h4] at h1
      exact Option.some.inj h1
    exact PySem.W.ki_setAt ho h0 (by bv_omega) (by rw [List.size_toArray, ← hl]; exact h4) (by rw [hk]; exact ⟨_, I', q⟩)
  · have hk : (k + (its.toArray.size : Int)).toNat = j := by
      rw [seqIndex_neg (by bv_omega) h3] at h1
      rw [List.size_toArray, ← hl]
      exact Option.some.inj h1
    exact PySem.W.ki_setBack ho (by bv_omega) (by rw [List.size_toArray, ← hl]; exact h3) (by bv_omega) (by rw [hk]; exact ⟨_, I', q⟩)
theorem slice_bounds (lo hi : Option Int) (n : Nat) : (sliceBounds lo hi none n).1 = ((HT.sIx n 0 lo : Nat) : Int) ∧ (sliceBounds lo hi none n).2.1 = ((HT.sIx n n hi : Nat) : Int) ∧ (sliceBounds lo hi none n).2.2 = 1 := by
  refine ⟨?_, ?_, rfl⟩
  · cases lo with
    | none => simp [sliceBounds, HT.sIx]
    | some i =>
      simp only [sliceBounds, HT.sIx, Option.getD_none, show (1 : Int) > 0 by decide, if_true]
      by_cases h : i < 0
      · simp only [h, if_true] <;> bv_omega
      · simp only [h, if_false] <;> bv_omega
  · cases hi with
    | none => simp [sliceBounds, HT.sIx]
    | some i =>
      simp only [sliceBounds, HT.sIx, Option.getD_none, show (1 : Int) > 0 by decide, if_true]
      by_cases h : i < 0
      · simp only [h, if_true] <;> bv_omega
      · simp only [h, if_false] <;> bv_omega
theorem slicePick_cut (its : List Value) (lo hi : Option Int) : slicePick its.toArray lo hi none = ((its.drop (HT.sIx its.length 0 lo)).take (HT.sIx its.length its.length hi - HT.sIx its.length 0 lo)).toArray := by
  obtain ⟨h1, h2, h3⟩ := slice_bounds lo hi its.toArray.size
  unfold slicePick
  rw [h1, h2, h3]
  simp only [sliceRange_one, pick_run, List.size_toArray] <;> rfl
def rSlL (K : PySem.W.Frag) : V → Option Int → Option Int → Hp → VK → Prop := fun x lo hi H Q => ∃ a xs, x = .ref a ∧ SqL K H a xs ∧ ∀ p, H p = none → Q (.ref p) (upd H p (.lst (cutV xs lo hi)))
theorem sl_list : SlR X (rSlL X.K) := by
  intro pins s σ H x v vl vu lo hi sl Q I rx hs pl pu h
  obtain ⟨a, xs, rfl, hx, q⟩ := h
  cases rx
  obtain ⟨its, r, ht, hz⟩ := I.list hx
  have hlen := r.length
  refine ⟨"list", _, slot_list_getitem.lookup, ht.isList.typeIs, ?_⟩
  refine wpAny_getItem_list_slice ht.isList hs pl pu .none (by simp) ?_ (by rw [List.size_toArray] <;> bv_omega)
  rw [slicePick_cut, ← hlen]
  refine ⟨.ref s.heap.objs.size, _, I.laid (t' := s.toks) (o := .lst (cutV xs lo hi)) (fun b ob q => Heap.get?_push_of_some _ q) (Nat.le_refl _) ?_, rfl, q _ (I.hok.fresh (Nat.le_refl _))⟩
  exact ⟨Nat.le_trans (cutV_length xs lo hi) hz, _, 0, (r.drop (HT.sIx xs.length 0 lo)).take (HT.sIx xs.length xs.length hi - HT.sIx xs.length 0 lo), Heap.get?_push_size _ rfl⟩
def flatV : V → Bool
  | .non => true
  | .bl _ => true
  | .int _ => true
  | .str _ => true
  | _ => false
def eqV : V → V → Bool
  | .non, .non => true
  | .bl a, .bl b => a == b
  | .bl a, .int b => (if a then 1 else 0) == b
  | .int a, .bl b => a == (if b then 1 else 0)
  | .int a, .int b => a == b
  | .str a, .str b => a == b
  | _, _ => false
theorem eqAt_V {A : Around} {s : Shared} {y x : V} {u v : Value} (ry : RelV y u) (rx : RelV x v) (fy : flatV y = true) (fx : flatV x = true) : SeqAt.EqAt A s u v (eqV y x) := by
  cases y with
  | non =>
    cases ry
    cases x with
    | non => cases rx; exact SeqAt.EqAt.same _
    | bl b => cases rx; exact SeqAt.EqAt.none_bool b
    | int b => obtain ⟨t, rfl⟩ := rx; exact SeqAt.EqAt.none_int b t
    | str b => obtain ⟨t, rfl⟩ := rx; exact SeqAt.EqAt.none_str b t
    | _ => exact absurd (show false = true from fx) Bool.false_ne_true
  | bl a =>
    cases ry
    cases x with
    | non => cases rx; exact SeqAt.EqAt.bool_none a
    | bl b => cases rx; exact SeqAt.EqAt.bool_bool a b
    | int b => obtain ⟨t, rfl⟩ := rx; exact SeqAt.EqAt.bool_int a b t
    | str b => obtain ⟨t, rfl⟩ := rx; exact SeqAt.EqAt.bool_str a b t
    | _ => exact absurd (show false = true from fx) Bool.false_ne_true
  | int a =>
    obtain ⟨t', rfl⟩ := ry
    cases x with
    | non => cases rx; exact SeqAt.EqAt.int_none a t'
    | bl b => cases rx; exact SeqAt.EqAt.int_bool a t' b
    | int b => obtain ⟨t, rfl⟩ := rx; exact SeqAt.EqAt.int_int a t' b t
    | str b => obtain ⟨t, rfl⟩ := rx; exact SeqAt.EqAt.int_str a t' b t
    | _ => exact absurd (show false = true from fx) Bool.false_ne_true
  | str a =>
    obtain ⟨t', rfl⟩ := ry
    cases x with
    | non => cases rx; exact SeqAt.EqAt.str_none a t'
    | bl b => cases rx; exact SeqAt.EqAt.str_bool a t' b
    | int b => obtain ⟨t, rfl⟩ := rx; exact SeqAt.EqAt.str_int a t' b t
    | str b => obtain ⟨t, rfl⟩ := rx; exact SeqAt.EqAt.str_str a t' b t
    | _ => exact absurd (show false = true from fx) Bool.false_ne_true
  | _ => exact absurd (show false = true from fy) Bool.false_ne_true
def eqU (x : V) (u : Value) : Bool := match u with
  | .none => eqV .non x
  | .bool b => eqV (.bl b) x
  | .int i _ => eqV (.int i) x
  | .str z _ => eqV (.str z) x
  | _ => false
theorem eqU_of {x y : V} {u : Value} (r : RelV y u) (f : flatV y = true) : eqU x u = eqV y x := by
  cases y with
  | non => cases r; rfl
  | bl b => cases r; rfl
  | int i => obtain ⟨t, rfl⟩ := r; rfl
  | str z => obtain ⟨t, rfl⟩ := r; rfl
  | _ => exact absurd (show false = true from f) Bool.false_ne_true
theorem any_eqU {x : V} : ∀ {xs : List V} {us : List Value}, Vals xs us → xs.all flatV = true → us.any (eqU x) = xs.any fun y => eqV y x
  | _, _, .nil, _ => rfl
  | y :: xs, u :: us, .cons r t, f => by
    rw [List.all_cons, Bool.and_eq_true] at f
    rw [List.any_cons, List.any_cons, eqU_of r f.1, any_eqU t f.2]
theorem mem_eqAt {A : Around} {s : Shared} {x : V} {v : Value} (rx : RelV x v) (fx : flatV x = true) : ∀ {xs : List V} {us : List Value}, Vals xs us → xs.all flatV = true → ∀ u ∈ us, SeqAt.EqAt A s u v (eqU x u)
  | _, _, .nil, _ => fun u hu => by cases hu
  | y :: xs, u :: us, .cons r t, f => fun u' hu => by
    rw [List.all_cons, Bool.and_eq_true] at f
    rcases List.mem_cons.mp hu with rfl | hu
    · rw [eqU_of r f.1]; exact eqAt_V r rx f.1 fx
    · exact mem_eqAt rx fx t f.2 u' hu
def inV (x : V) (xs : List V) : Bool := xs.any fun y => eqV y x
def rIn (K : PySem.W.Frag) (neg : Bool) : R2 := fun x y H Q => ∃ p xs, y = .ref p ∧ (SqL K H p xs ∨ SqT K H p xs) ∧ flatV x = true ∧ xs.all flatV = true ∧ Q (.bl (if neg then !inV x xs else inV x xs)) H
theorem op_notIn_seq : OpR X (compareOp .NotIn) (rIn X.K true) := by
  intro pins s σ H x y v u Q I rx ry h
  obtain ⟨p, xs, rfl, hq, fx, fs, q⟩ := h
  cases ry
  rcases hq with hq | hq
  · obtain ⟨its, r, pl, hz⟩ := I.list hq
    refine SeqAt.notIn_listAt (eqU x) pl.isList (fun w hw => mem_eqAt rx fx r fs w (by simpa using hw)) ⟨.bl _, H, I, rfl, ?_⟩
    rw [show its.toArray.any (eqU x) = its.any (eqU x) by simp, any_eqU r fs]
    exact q
  · obtain ⟨its, r, pl, hz⟩ := I.tuple hq
    refine SeqAt.notIn_tupleAt (eqU x) pl (fun w hw => mem_eqAt rx fx r fs w (by simpa using hw)) ⟨.bl _, H, I, rfl, ?_⟩
    rw [show its.toArray.any (eqU x) = its.any (eqU x) by simp, any_eqU r fs]
    exact q
theorem call_len_seq : CallR X (.builtin "len") (fun xs H Q => ∃ p ys, xs = [.ref p] ∧ (SqL X.K H p ys ∨ SqT X.K H p ys) ∧ Q (.int ys.length) H) := by
  intro pins s σ H xs us Q I r h
  obtain ⟨p, ys, rfl, hq, q⟩ := h
  obtain ⟨u, rfl, rx⟩ := vals1 r
  cases rx
  have hn := line63
  rcases hq with hq | hq
  · obtain ⟨its, r', pl, hz⟩ := I.list hq
    have hlen := r'.length
    exact Calls.call_len_list pl.isList (by simp only [List.size_toArray] <;> bv_omega) ⟨.int ys.length, H, I.tok _, ⟨s.toks + 1, by rw [List.size_toArray, hlen]⟩, q⟩
  · obtain ⟨its, r', pl, hz⟩ := I.tuple hq
    have hlen := r'.length
    exact len_tuple pl (by simp only [List.size_toArray] <;> bv_omega) ⟨.int ys.length, H, I.tok _, ⟨s.toks + 1, by rw [List.size_toArray, hlen]⟩, q⟩
theorem call_list_of : CallR X (.type "list") (fun xs H Q => ∃ p ys, xs = [.ref p] ∧ (SqL X.K H p ys ∨ SqT X.K H p ys) ∧ ∀ l, H l = none → Q (.ref l) (upd H l (.lst ys))) := by
  intro pins s σ H xs us Q I r h
  obtain ⟨p, ys, rfl, hq, q⟩ := h
  obtain ⟨u, rfl, rx⟩ := vals1 r
  cases rx
  have fin : ∀ (its : List Value), Vals ys its → ys.length ≤ sizeLine → ∀ (h' : Heap) (c' : Nat), (∀ b o', s.heap.get? b = some o' → h'.get? b = some o') →
      h'.get? s.heap.objs.size = some { cls := .type "list", dict := none, data := .seq its.toArray c', slots := #[] } → EP X pins σ Q (.ref s.heap.objs.size) { s with heap := h' } := fun its r' hz h' c' kp e =>
    ⟨.ref s.heap.objs.size, _, I.laid (t' := s.toks) kp (Nat.le_refl _) (show ObjOk X.prog X.w _ h' _ (.lst ys) from ⟨hz, its, c', r', e⟩), rfl, q _ (I.hok.fresh (Nat.le_refl _))⟩
  rcases hq with hq | hq
  · obtain ⟨its, r', pl, hz⟩ := I.list hq
    have hlen := r'.length
    obtain ⟨o, ho, hc, n, hd⟩ := pl.isList
    exact call_list_seq p (.inl rfl) ho hc hd (fun h' c' kp e => fin its r' hz h' c' kp e) (by simp only [List.size_toArray] <;> bv_omega)
  · obtain ⟨its, r', pl, hz⟩ := I.tuple hq
    have hlen := r'.length
    obtain ⟨o, ho, hc, n, hd⟩ := pl
    exact call_list_seq p (.inr rfl) ho hc hd (fun h' c' kp e => fin its r' hz h' c' kp e) (by simp only [List.size_toArray] <;> bv_omega)
theorem call_tuple_of : CallR X (.type "tuple") (fun xs H Q => ∃ p ys, xs = [.ref p] ∧ ((SqL X.K H p ys ∧ ∀ l, H l = none → Q (.ref l) (upd H l (.tup ys))) ∨ (SqT X.K H p ys ∧ Q (.ref p) H))) := by
  intro pins s σ H xs us Q I r h
  obtain ⟨p, ys, rfl, h⟩ := h
  obtain ⟨u, rfl, rx⟩ := vals1 r
  cases rx
  rcases h with ⟨hq, q⟩ | ⟨hq, q⟩
  · obtain ⟨its, r', pl, hz⟩ := I.list hq
    have hlen := r'.length
    refine call_tuple_list pl.isList (fun h' kp => ?_) (by simp only [List.size_toArray] <;> bv_omega)
    have I1 : Inv X pins σ H { s with heap := h' } := I.kept (t' := s.toks) kp
    have I2 : Inv X pins σ (upd H h'.objs.size (.tup ys)) { s with heap := h'.push { cls := .type "tuple", data := .seq its.toArray } } :=
      I1.laid (t' := s.toks) (fun b o e => Heap.get?_push_of_some _ e) (Nat.le_refl _) (show ObjOk X.prog X.w _ _ _ (.tup ys) from ⟨hz, its, r', TupAt.new _ _⟩)
    exact ⟨.ref h'.objs.size, _, I2, rfl, q _ (I1.hok.fresh (Nat.le_refl _))⟩
  · obtain ⟨its, r', pl, hz⟩ := I.tuple hq
    exact call_tuple_same pl ⟨.ref p, H, I, rfl, q⟩
def tyV (K : PySem.W.Frag) (T : String) (x : V) (H : Hp) : Prop := match x with
  | .str _ => T = "str"
  | .int _ => T = "int"
  | .ref p => (T = "list" ∧ ∃ xs, SqL K H p xs) ∨ (T = "tuple" ∧ ((∃ o, K.lookup p = some o ∧ o.cls = .type "tuple" ∧ o.dict = none) ∨ ∃ xs, Rd H p (.tup xs))) ∨
      (T = "dict" ∧ ((∃ kvs, H p = some (.dK kvs)) ∨ ∃ kvs, H p = some (.dT kvs))) ∨ (T = "set" ∧ ∃ S n, H p = some (.set S n))
  | _ => False
theorem tyV_is {pins : List (Addr × Obj)} {σ : St} {H : Hp} {s : Shared} {T : String} {x : V} {v : Value} (I : Inv X pins σ H s) (r : RelV x v) (ty : tyV X.K T x H) :
    s.TypeIs v T ∧ ∀ a, v = .ref a → ∃ ob, s.heap.get? a = some ob ∧ ob.dict = none := by
  cases x with
  | str z =>
    obtain ⟨t, rfl⟩ := r
    cases (show T = "str" from ty)
    exact ⟨typeIs_str s z t, fun _ e => nomatch e⟩
  | int i =>
    obtain ⟨t, rfl⟩ := r
    cases (show T = "int" from ty)
    exact ⟨typeIs_int s i t, fun _ e => nomatch e⟩
  | ref p =>
    cases r
    rcases ty with ⟨rfl, xs, hq⟩ | ⟨rfl, ⟨o, hk, hc, hd⟩ | ⟨xs, hq⟩⟩ | ⟨rfl, hk⟩ | ⟨rfl, S, n, hk⟩
    · obtain ⟨its, _, pl, _⟩ := I.list hq
      refine ⟨pl.isList.typeIs, fun a e => ?_⟩
      cases e
      obtain ⟨o, n, e, c, hd, _⟩ := pl
      exact ⟨o, e, hd⟩
    · refine ⟨⟨o, I.kIn p o hk, hc⟩, fun a e => ?_⟩
      cases e
      exact ⟨o, I.kIn _ o hk, hd⟩
    · obtain ⟨_, its, _, o, e, c, _, hd⟩ := hq.ok I.hok
      refine ⟨⟨o, e, c⟩, fun a e2 => ?_⟩
      cases e2
      exact ⟨o, e, hd⟩
    · have z : ∃ o, s.heap.get? p = some o ∧ o.ExactDict := by
        rcases hk with ⟨kvs, hk⟩ | ⟨kvs, hk⟩
        · obtain ⟨_, _, _, _, o, _, _, e, ex, _⟩ := I.hok p _ hk
          exact ⟨o, e, ex⟩
        · obtain ⟨_, _, _, _, o, _, _, e, ex, _⟩ := I.hok p _ hk
          exact ⟨o, e, ex⟩
      obtain ⟨o, e, ex⟩ := z
      refine ⟨⟨o, e, ex.1⟩, fun a e2 => ?_⟩
      cases e2
      exact ⟨o, e, ex.2.1⟩
    · obtain ⟨o, _, _, _, e, ex, _⟩ := I.hok p _ hk
      refine ⟨⟨o, e, ex.1⟩, fun a e2 => ?_⟩
      cases e2
      exact ⟨o, e, ex.2.1⟩
  | _ => exact False.elim ty
def tBM (K : PySem.W.Frag) (T : String) (r : V → List V → Hp → VK → Prop) (to : TE) (t : TA) : TE := fun σ H Q => to σ H fun x H1 => tyV K T x H1 ∧ t σ H1 fun xs H2 => r x xs H2 Q
variable {o e : Expr} {es : List Expr} {to : TE} {t : TA} {name : Str} {apos cpos : Pos} {T id : String} {r : V → List V → Hp → VK → Prop}
theorem pe_bm (pa : PlainAttrs T) (slot : Slot T name id) (hty : typeOf (.builtin id) = pure (.type "method_descriptor")) (hm : MtR X id r) (ho : PE X o to) (ha : PA X (e :: es) t)
    (hbase : autoParam (attributeBase o name X.env (eval o X.env) = eval o X.env) autoK5._auto_1)
    (hfew : ((backTo cpos (starEach (e :: es) X.env)).all (fun x => !x.1) && (backToKw cpos (keywordEach [] X.env)).all (fun x => x.1.isSome)
      && decide ((e :: es).length + ([] : List Keyword).length + (if ([] : List Keyword).isEmpty then 0 else 1) < 30)) = true := by rfl)
    (hline : autoParam ((apos.endLine == cpos.line) = true) autoK5._auto_1) (hs : autoParam (starEach (e :: es) X.env = (false, eval e X.env) :: starEach es X.env) autoK5._auto_1) (hplain : autoParam ((backTo cpos (starEach es X.env)).any (·.1) = false) autoK5._auto_1) :
    PE X (.Call (.Attribute o name apos) (e :: es) [] cpos) (tBM X.K T r to t) := by
  intro pins s σ H Q I h
  refine wpAny_Call_method_late hbase hfew hline rfl (thn (ho pins s σ H _ I h) fun v s1 ⟨x, H1, I1, r1, ty, q1⟩ => ?_)
  obtain ⟨h1, h2⟩ := tyV_is I1 r1 ty
  refine ⟨T, id, pa, slot, hty, h1, h2, ?_⟩
  have hA := ha cpos pins s1 σ H1 _ I1 q1
  rw [hs] at hA ⊢
  refine Calls.callWith_builtin (by show (false || (backTo cpos (starEach es X.env)).any (·.1)) = false; rw [hplain] <;> rfl) (Calls.evalArgs_plain ?_)
  exact thn hA fun us s2 ⟨vs, H2, I2, r2, q2⟩ => hm pins s2 σ H2 x vs v us Q I2 r1 r2 q2
end
end L2
namespace L2
open PySem PySem.Spec PyProof.Rows
def MtM (X : Cx) (id : String) (r : V → List V → Hp → VK → Prop) : Prop :=
  ∀ (pins : List (Addr × Obj)) (s : Shared) (σ : St) (H : Hp) (x : V) (xs : List V) (v : Value) (us : List Value) (Q : VK), Inv X pins σ H s → RelV x v → Vals xs us → r x xs H Q →
    wpAny (model X.prog X.w) X.A (call (.builtin id) (v :: us)) (EP X pins σ Q) X.xe s
theorem Vals.one : ∀ {x : V} {us : List Value}, Vals [x] us → ∃ u, us = [u] ∧ RelV x u
  | _, _, .cons r .nil => ⟨_, rfl, r⟩
theorem Vals.two : ∀ {x y : V} {us : List Value}, Vals [x, y] us → ∃ u v, us = [u, v] ∧ RelV x u ∧ RelV y v
  | _, _, _, .cons r (.cons q .nil) => ⟨_, _, rfl, r, q⟩
theorem Vals.eraseIdx : ∀ {xs : List V} {us : List Value} (i : Nat), Vals xs us → Vals (xs.eraseIdx i) (us.eraseIdx i)
  | _, _, _, .nil => .nil
  | _, _, 0, .cons _ t => t
  | _, _, i + 1, .cons r t => .cons r (Vals.eraseIdx i t)
theorem Vals.rep {xs : List V} {us : List Value} (h : Vals xs us) : ∀ k : Nat, Vals (List.replicate k xs).flatten (List.replicate k us).flatten
  | 0 => .nil
  | k + 1 => by
    rw [List.replicate_succ, List.replicate_succ, List.flatten_cons, List.flatten_cons]
    exact Vals.append h (Vals.rep h k)
theorem len_erase {α : Type} : ∀ (l : List α) (i : Nat), (l.eraseIdx i).length ≤ l.length
  | [], _ => Nat.le_refl _
  | _ :: _, 0 => Nat.le_succ _
  | _ :: r, i + 1 => Nat.succ_le_succ (len_erase r i)
theorem foldl_rep (its : List Value) : ∀ (k : Nat) (acc : List Value),
    List.foldl (fun x1 x2 => x1 ++ x2) acc.toArray (List.replicate k its.toArray) = (acc ++ (List.replicate k its).flatten).toArray
  | 0, acc => by simp
  | k + 1, acc => by
    have e : acc.toArray ++ its.toArray = (acc ++ its).toArray := by simp
    have e2 : (acc ++ its) ++ (List.replicate k its).flatten = acc ++ (List.replicate (k + 1) its).flatten := by
      rw [List.replicate_succ, List.flatten_cons, List.append_assoc]
    rw [← e2, ← foldl_rep its k (acc ++ its), ← e, List.replicate_succ, List.foldl_cons]
section
variable {X : Cx} {pins : List (Addr × Obj)} {σ : St} {H : Hp} {s : Shared} {l b : Addr} {xs ys zs : List V}
theorem Inv.lset {its its' : List Value} {n : Nat} {f : Array Value → Array Value} {t' : Nat} (I : Inv X pins σ H s) (hH : H l = some (.lst xs))
    (e : s.heap.get? l = some { cls := .type "list", data := .seq its.toArray n }) (hf : f its.toArray = its'.toArray) (hv : Vals ys its') (hz : ys.length ≤ sizeLine) :
    Inv X pins σ (upd H l (.lst ys)) { s with heap := s.heap.update l (Obj.mapSeq f), toks := t' } := by
  have q := PySem.IsL.update e f
  rw [hf] at q
  refine I.write (x := l) (e := l) (by rw [hH]; exact trivial) (.inl rfl) (fun b' u hb hu => (Heap.get?_update_other s.heap (Obj.mapSeq f) (Ne.symm hb)).trans hu) ⟨_, q⟩ ?_
  exact ⟨hz, its', _, hv, q⟩
theorem Inv.lnew {its : List Value} {t' : Nat} (I : Inv X pins σ H s) (hv : Vals ys its) (hz : ys.length ≤ sizeLine) :
    Inv X pins σ (upd H s.heap.objs.size (.lst ys)) { s with heap := s.heap.push { cls := .type "list", data := .seq its.toArray }, toks := t' } :=
  I.laid (fun _ _ q => Heap.get?_push_of_some _ q) (Nat.le_refl _) ⟨hz, its, 0, hv, Heap.get?_push_size _ rfl⟩
theorem Inv.fresh (I : Inv X pins σ H s) : H s.heap.objs.size = none := I.hok.fresh (Nat.le_refl _)
theorem Inv.lstM (I : Inv X pins σ H s) (hH : H l = some (.lst xs)) : xs.length ≤ sizeLine ∧ ∃ (its : List Value) (n : Nat), Vals xs its ∧ xs.length = its.length ∧ s.heap.get? l = some { cls := .type "list", data := .seq its.toArray n } := by
  obtain ⟨z, its, n, r, e⟩ := I.hok l _ hH
  exact ⟨z, its, n, r, r.length, e⟩
theorem notLongL {n : Nat} (h : n ≤ sizeLine) : Builtin.List.listTooLong n = false := by
  unfold Builtin.List.listTooLong
  exact decide_eq_false (by bv_omega)
end
section
variable {X : Cx}
def rAppend : V → List V → Hp → VK → Prop := fun x vs H Q => ∃ l xs y, x = .ref l ∧ vs = [y] ∧ H l = some (.lst xs) ∧ xs.length < sizeLine ∧ Q .non (upd H l (.lst (xs ++ [y])))
theorem mt_append : MtM X "list.append" rAppend := by
  intro pins s σ H x vs v us Q I rx rv h
  obtain ⟨l, xs, y, rfl, rfl, hH, hz, q⟩ := h
  cases rx
  obtain ⟨u, rfl, ru⟩ := rv.one
  obtain ⟨z, its, n, r, hl, e⟩ := I.lstM hH
  refine call_meets F.slot_list_append ⟨_, e, rfl⟩ F.entry_list_append (F.args_list_append_2 _ _) (PySem.list_append l its.toArray n u (by rw [List.size_toArray]; bv_omega)) ⟨e, ?_⟩
  refine ⟨.non, _, I.lset (its' := its ++ [u]) hH e (by simp) (r.append (.cons ru .nil)) ?_, rfl, q⟩
  rw [List.length_append, List.length_singleton]
  bv_omega
def rPopAt : V → List V → Hp → VK → Prop := fun x vs H Q => ∃ l xs i k y, x = .ref l ∧ vs = [.int i] ∧ H l = some (.lst xs) ∧ -(2 ^ 63) ≤ i ∧ i < 2 ^ 63 ∧ seqIndex? i xs.length = some k ∧ xs[k]? = some y ∧ Q y (upd H l (.lst (xs.eraseIdx k)))
theorem mt_popAt : MtM X "list.pop" rPopAt := by
  intro pins s σ H x vs v us Q I rx rv h
  obtain ⟨l, xs, i, k, y, rfl, rfl, hH, h1, h2, hk, hy, q⟩ := h
  cases rx
  obtain ⟨u, rfl, ru⟩ := rv.one
  obtain ⟨t, rfl⟩ := ru
  obtain ⟨z, its, n, r, hl, e⟩ := I.lstM hH
  obtain ⟨w, hw, rw'⟩ := r.get hy
  refine call_meets F.slot_list_pop ⟨_, e, rfl⟩ F.entry_list_pop (F.args_list_pop_2 _ _)
    (MeetsSeq.list_pop_at l its.toArray n i t k w (fitsIndex_both h1 h2) (by rw [List.size_toArray, ← hl]; exact hk) (by rw [← Array.getElem?_toList]; exact hw) (by rw [List.size_toArray]; bv_omega)) ⟨e, ?_⟩
  refine ⟨y, _, I.lset (its' := its.eraseIdx k) hH e ?_ (r.eraseIdx k) ?_, rw', q⟩
  · show its.toArray.eraseIdxIfInBounds k = (its.eraseIdx k).toArray
    rw [List.eraseIdxIfInBounds_toArray]
  · have := len_erase xs k
    bv_omega
theorem len_rep {α : Type} (xs : List α) (k : Nat) : (List.replicate k xs).flatten.length = k * xs.length := by
  induction k with
  | zero => simp
  | succ k ih => rw [List.replicate_succ, List.flatten_cons, List.length_append, ih, Nat.succ_mul, Nat.add_comm]
end
section
variable {prog : Program} {w : World} {A : Around} {E : Value → Shared → Prop} {s : Shared}
end
section
variable {X : Cx}
end
end L2
namespace Att
open PySem PySem.W PySem.Calls PyProof.Rows
theorem ints_of_wellAll {P : Params} {h : Heap} : ∀ (ns : List Int) (vs : List Value), WellAll P h vs (ns.map WData.int) → IntsAre vs ns := by
  intro ns
  induction ns with
  | nil =>
    intro vs w
    rw [List.map_nil] at w
    cases w
    exact .nil
  | cons n ns ih =>
    intro vs w
    rw [List.map_cons] at w
    cases w with
    | cons a b =>
      cases a
      exact .cons _ _ (ih _ b)
theorem script_of {l : OpenLaw} {n : Nat} (hn : l.most = some n) {P : Params} {h : Heap} {args : List WData} {vals : List Value}
    (hpre : l.row.toRowW.claim.pre args = true) (hwl : WellAll P h vals args) :
    ∃ a vs ns, vals = [Value.ref a] ∧ args = [WData.list (ns.map WData.int)] ∧ h.get? a = some { cls := .type "list", data := .seq vs.toArray } ∧ IntsAre vs ns ∧ ns.length ≤ n := by
  have hsh : WShape.hasAll [] args [.list .int] = true := (pre_splitW hpre).1
  have hc : l.pre.holds [] { args := args } = true := (pre_splitW hpre).2
  obtain ⟨d, r, rfl, h1, h2⟩ := hasAllW_cons hsh
  obtain rfl := hasAllW_nil h2
  obtain ⟨xs, rfl, h3⟩ := hasW_list h1
  obtain ⟨ns, rfl⟩ := items_int h3
  have hlen : ns.length ≤ n := by
    unfold OpenLaw.pre at hc
    have h4 : (WTm.not (.lt (.lit (.int (n : Int))) (.len (.arg 0)))).holds [] { args := [.list (ns.map .int)] } = true := by
      have h4 := (holds_andW hc).1
      rw [hn] at h4
      exact h4
    have h5 := condW_of h4 (w_not (w_lt w_lit (w_len_list (w_arg rfl))))
    rw [List.length_map] at h5
    refine Nat.le_of_not_lt fun q => ?_
    have q' : (n : Int) < ((ns.length : Nat) : Int) := by bv_omega
    first
      | (rw [decide_eq_true q'] at h5; exact absurd h5 (by decide))
      | (simp at h5; bv_omega)
  cases hwl with
  | cons w1 w2 =>
    cases w2
    cases w1 with
    | list ho hall => exact ⟨_, _, ns, rfl, rfl, ho, ints_of_wellAll ns _ hall, hlen⟩
theorem post_true (l : OpenLaw) (args : List WData) : l.row.toRowW.claim.post args (.bool true) args = true :=
  postW_of (r := l.row.toRowW) (X := (true == true))
    (show WShape.has [] (.bool true) .bool = true by first | rfl | decide | simp [WShape.has, WShape.arms, WShape.armsAll])
    (show (WTm.eq .res (.lit (.bool true))).value [] { args := args, res := some (.bool true), after := args } = some (.bool (true == true)) from w_eq_bool (w_res rfl) w_lit) rfl
theorem attach_call {l : OpenLaw} {n : Nat} {q : Program} {loose : List Str} {XP : (Str → Option Value) → Heap → Prop} {YP : World → Heap → Prop} {d : DefRec}
    (hn : l.most = some n) (hdf : d.params.defaults = [])
    (call : ∀ (w : World) (s₀ s₁ : Shared) (mg mb : Str → Option Value) (fa : Addr) (o : Obj) (pm cd doc : Value) (a : Addr) (vs : List Value) (ns : List Int),
      Ground q loose [] XP w s₀ mg mb s₁.heap → YP w s₁.heap →
      s₁.heap.get? fa = some o → o.data = .func (docDef d.name d.params d.body d.scope pm cd doc) → s₁.heap.CodeRec cd d.name → mg d.name = some (.ref fa) →
      s₁.heap.get? a = some { cls := .type "list", data := .seq vs.toArray } → IntsAre vs ns → ns.length ≤ n → s₁.gens = #[] →
      codeAny (model l.prog w) callerA (.call (.ref fa) ⟨[.ref a], []⟩) (fun r s' => r = .ok (.ret (.bool true)) ∧ OldK s₁.heap s'.heap ∧ s'.os = s₁.os ∧ AllBare s'.gens) s₁) :
    WalkO q loose XP YP l.row.toRowW d [] (fun f vs => PySem.call f vs) := by
  intro w s₀ s₁ mg mb G Y fa o pm cd doc dV kV ho hd hcd hD hmg hg args vals as hpre hlay hrd hwl hlo
  obtain rfl : dV = .none := Dflts.none hD hdf
  obtain rfl : kV = .none := Dflts.noKw hD
  obtain ⟨a, vs, ns, rfl, rfl, hobj, hints, hlen⟩ := script_of hn hpre hwl
  refine enter_call (codeAny_mono (call w s₀ s₁ mg mb fa o pm cd doc a vs ns G Y ho (fd_plain hd) hcd hmg hobj hints hlen hg) fun r s' hq => ?_)
  obtain ⟨rfl, h2, h3, h4⟩ := hq
  exact ⟨.inl ⟨.bool true, .bool true, [], rfl, fun _ => rfl, .bool true, post_true l _, fun _ => ⟨List.Pairwise.nil, fun _ hm => (nomatch hm)⟩⟩, h2, h3, h4⟩
section
variable {prog : Program} {w : World} {A : Around} {E : Value → Shared → Prop} {s : Shared} {K : Frag}
end
end Att
namespace L2
open PySem PySem.Spec PyProof.Rows
theorem vals_ints : ∀ {vs : List Value} {ns : List Int}, IntsAre vs ns → Vals (ns.map V.int) vs
  | _, _, .nil => .nil
  | _, _, .cons n t h => .cons ⟨t, rfl⟩ (vals_ints h)
def Only (H : Hp) : Prop := ∀ b, H b = none ∨ ∃ o xs, H b = some (.frz o (.lst xs))
theorem law_call {P : Program} {w : World} {K : PySem.W.Frag} {mg mb : Str → Option Value} {CX : CXT} {k : Nat} {fa a : Addr} {fd : FuncData} {x : Str} {sp : Sp} {s₁ : Shared} {vs : List Value} {ns : List Int}
    (KX : K.In s₁.heap) (hns : s₁.heap.Ns mainGlobals mg) (hb : s₁.heap.Ns builtinsNs mb) (hbb : ∀ x : Str, x ≠ "__name__" → mb x = bootBuiltins x) (hlim : s₁.heap.NoLimit) (hg : s₁.gens = #[])
    (ha : s₁.heap.get? a = some { cls := .type "list", data := .seq vs.toArray }) (hi : IntsAre vs ns) (hl : ns.length ≤ sizeLine) (hr : Room k callerA)
    (F : ∀ base : Heap, K.In base → base.Ns mainGlobals mg → FnOk P w K mg base CX k fa fd [x] sp) (hbind : ∀ (s : Shared) (u : Value), BindsTo s fd ⟨[u], []⟩ [(x, u)])
    (hsp : ∀ H : Hp, Only H → SqL K H a (ns.map V.int) → sp [.ref a] H (fun v _ => v = .bl true) fun _ _ _ => False)
    (hCX : ∀ H e s', CX [] H s₁ (fun _ _ _ => False) e s' → False) :
    codeAny (model P w) callerA (.call (.ref fa) ⟨[.ref a], []⟩) (fun r s' => r = .ok (.ret (.bool true)) ∧ OldK s₁.heap s'.heap ∧ s'.os = s₁.os ∧ AllBare s'.gens) s₁ := by
  have rv := vals_ints hi
  have lenV := hi.length
  have core : ∀ H : Hp, Only H → SqL K H a (ns.map V.int) → HOk P w H s₁.heap → (∀ b, H b ≠ none → b = a) → (H a ≠ none → K.lookup a = none) →
      codeAny (model P w) callerA (.call (.ref fa) ⟨[.ref a], []⟩) (fun r s' => r = .ok (.ret (.bool true)) ∧ OldK s₁.heap s'.heap ∧ s'.os = s₁.os ∧ AllBare s'.gens) s₁ := by
    intro H hO hS hok hA hK
    have base_of : ∀ {b : Addr} {o : Obj}, s₁.heap.get? b = some o → H b = none → (hidT s₁.heap H).get? b = some o := fun e n => hidT_get e n
    have noA : ∀ {b : Addr} {o : Obj} {es : Array DictEntry} {ep : Nat}, s₁.heap.get? b = some o → o.data = .dict es ep → H b = none := fun {b o es ep} e d => by
      cases q : H b with
      | none => rfl
      | some u =>
        have e' : b = a := hA b (by rw [q]; simp)
        subst e'
        rw [ha] at e; cases e
        have d' : Data.seq vs.toArray _ = Data.dict es ep := d
        cases d'
    have nsK : ∀ {b : Addr} {m : Str → Option Value}, s₁.heap.Ns b m → (hidT s₁.heap H).Ns b m := fun {b m} ⟨o, es, ep, e, d, r⟩ => ⟨o, es, ep, base_of e (noA e d), d, r⟩
    have hKb : K.In (hidT s₁.heap H) := fun b o e => base_of (KX b o e) (by
      cases q : H b with
      | none => rfl
      | some u =>
        have e' : b = a := hA b (by rw [q]; simp)
        subst e'
        rw [hK (by rw [q]; simp)] at e; cases e)
    have hM : Mod K mg (hidT s₁.heap H) := ⟨hKb, nsK hns, ⟨mb, nsK hb, hbb⟩, let ⟨mc, h1, h2⟩ := hlim; ⟨mc, nsK h1, h2⟩⟩
    have e0 : Env0 P w K mg (hidT s₁.heap H) callerA [] s₁ H := ⟨rfl, hM, fun b o e => of_hidT e, Nat.le_of_eq (hidT_size _ _), trivial, fun b hb => absurd (show b ∈ ([] : List Addr) from hb) (by simp), hok, .of_eq hg⟩
    refine codeAny_mono ((F _ hKb (nsK hns)).run callerA [] s₁ H ⟨[.ref a], []⟩ [.ref a] [.ref a] _ _ hr e0 (hbind s₁ (.ref a)) (.cons rfl .nil) (hsp H hO hS)) fun r s' h => ?_
    cases r with
    | error e => exact (hCX H e s' h).elim
    | ok fl =>
      cases fl with
      | next => exact False.elim h
      | brk => exact False.elim h
      | cont => exact False.elim h
      | ret u =>
        obtain ⟨v, H', os, bare, un, hok', r', q⟩ := h
        have q' : v = .bl true := q
        subst q'
        obtain rfl : u = Value.bool true := r'
        refine ⟨rfl, OldK.of_keep fun b o e => ?_, os, bare⟩
        cases q : H b with
        | none => exact un.keep b o e q (by intro z; exact absurd (show b ∈ ([] : List Addr) from z) (by simp)) (by simp)
        | some u =>
          rcases hO b with z | ⟨ob, xs, z⟩
          · rw [q] at z; cases z
          · have z2 := un.frzs b ob _ z
            obtain ⟨e1, _⟩ := hok b _ z
            obtain ⟨e2, _⟩ := hok' b _ z2
            rw [e] at e1; cases e1
            exact e2
  cases hk : K.lookup a with
  | some o =>
    have e := KX a o hk
    rw [ha] at e
    cases e
    refine core (fun _ => none) (fun _ => .inl rfl) (.inr ⟨_, vs.toArray, _, hk, rfl, rfl, rfl, by rw [List.size_toArray, lenV]; exact hl, by simpa using rv⟩) (fun b u z => by have z' : (none : Option HO) = some u := z; cases z') (fun b z => absurd rfl z) fun z => absurd rfl z
  | none =>
    refine core (fun b => if b = a then some (.frz { cls := .type "list", data := .seq vs.toArray } (.lst (ns.map V.int))) else none) (fun b => ?_) (.inl (.inr ⟨{ cls := .type "list", data := .seq vs.toArray }, if_pos rfl⟩)) (fun b u z => ?_) (fun b z => ?_) fun _ => hk
    · by_cases hb : b = a
      · exact .inr ⟨_, _, if_pos hb⟩
      · exact .inl (if_neg hb)
    · by_cases hb : b = a
      · have z' := (if_pos hb).symm.trans z
        cases z'
        subst hb
        exact ⟨ha, by rw [List.length_map]; exact hl, vs, _, rv, ha⟩
      · have z' := (if_neg hb).symm.trans z
        cases z'
    · by_cases hb : b = a
      · exact hb
      · exact absurd (if_neg hb) z
end L2
namespace L2
open PySem PySem.Spec PyProof.Rows
abbrev KOf {K : PySem.W.Frag} {h : Heap} (_ : K.In h) : PySem.W.Frag := K
theorem walk_of {l : PySem.W.OpenLaw} {n k : Nat} {q : Program} {loose : List Str} {XP : (Str → Option Value) → Heap → Prop} {YP : World → Heap → Prop} {d : DefRec} {K : Params → PySem.W.Frag} {CX : World → CXT} {sp : World → Sp} {x : Str}
    (hn : l.most = some n) (hn2 : n ≤ sizeLine) (hdf : d.params.defaults = []) (hr : Room k callerA)
    (hY : ∀ (w : World) (h : Heap), YP w h → (K w.params).In h)
    (F : ∀ (w : World) (mg : Str → Option Value) (fa : Addr) (h : Heap), (K w.params).In h → h.Ns mainGlobals mg → mg d.name = some (.ref fa) →
      ∃ fd : FuncData, (∀ (s : Shared) (u : Value), BindsTo s fd ⟨[u], []⟩ [(x, u)]) ∧
        ∀ base : Heap, (K w.params).In base → base.Ns mainGlobals mg → FnOk l.prog w (K w.params) mg base (CX w) k fa fd [x] (sp w))
    (hsp : ∀ (w : World) (H : Hp) (a : Addr) (ns : List Int), ns.length ≤ n → Only H → SqL (K w.params) H a (ns.map V.int) → sp w [.ref a] H (fun v _ => v = .bl true) fun _ _ _ => False)
    (hCX : ∀ (w : World) (H : Hp) (s : Shared) (e : Value) (s' : Shared), CX w [] H s (fun _ _ _ => False) e s' → False) :
    PySem.W.WalkO q loose XP YP l.row.toRowW d [] (fun f vs => PySem.call f vs) := by
  refine Att.attach_call hn hdf fun w s₀ s₁ mg mb fa o pm cd doc a vs ns G Y ho hd hcd hmg hobj hints hlen hg => ?_
  have KX := hY w _ Y
  obtain ⟨fd, hb, hF⟩ := F w mg fa _ KX G.T.g hmg
  exact law_call KX G.T.g G.T.b G.T.builtins G.T.nolimit hg hobj hints (Nat.le_trans hlen hn2) hr hF hb (fun H hO hS => hsp w H a ns hlen hO hS) fun H e s' => hCX w H s₁ e s'
end L2
namespace L2
open PySem PySem.Spec PyProof.Rows
def defArgs (s : Stmt) : Arguments := match s with
  | .FunctionDef _ a _ _ _ _ _ _ _ _ => a
  | _ => { posonlyargs := [], args := [], vararg := none, kwonlyargs := [], kw_defaults := [], kwarg := none, defaults := [] }
def defBody (s : Stmt) : List Stmt := match s with
  | .FunctionDef _ _ b _ _ _ _ _ _ _ => b
  | _ => []
def defScope (s : Stmt) : Scope := match s with
  | .FunctionDef _ _ _ _ _ _ sc _ _ _ => sc
  | _ => { kind := .function, names := [], isGenerator := false, isCoroutine := false }
structure Fun (K : PySem.W.Frag) (x qual : Str) (st : Stmt) (f : Addr) (fd : FuncData) : Prop where
  ex : ∃ (oc : Value) (od : Option Addr) (kV doc pm : Value) (an : Option Addr) (cdv ct : Value) (osl : Array (Option Value)),
    fd = PySem.W.fnOf x qual (defArgs st) (defBody st) (defScope st) .none kV doc pm an cdv ct ∧ K.lookup f = some ⟨oc, od, .func fd, osl⟩ ∧ PySem.W.codeIn K cdv qual = true
  kp : PySem.W.keepIn K (.ref f) = true
section
variable {P : Program} {w : World} {K : PySem.W.Frag} {mg : Str → Option Value} {base : Heap}
theorem Fun.binds {x qual : Str} {st : Stmt} {f : Addr} {fd : FuncData} {ps : List Str} (F : Fun K x qual st f fd)
    (h : ∀ (kV doc pm : Value) (an : Option Addr) (cdv ct : Value) (us : List Value), us.length = ps.length → bindArgs (PySem.W.fnOf x qual (defArgs st) (defBody st) (defScope st) .none kV doc pm an cdv ct) ⟨us, []⟩ = pure (ps.zip us)) : Binds K fd ps [] := by
  obtain ⟨oc, od, kV, doc, pm, an, cdv, ct, osl, rfl, lk, hcd⟩ := F.ex
  exact .all (h kV doc pm an cdv ct)
theorem fun_mk {x qual : Str} {st : Stmt} {f : Addr} {oc : Value} {od an : Option Addr} {osl : Array (Option Value)} {kV doc pm cdv ct : Value} (l : K.lookup f = some ⟨oc, od, .func (PySem.W.fnOf x qual (defArgs st) (defBody st) (defScope st) .none kV doc pm an cdv ct), osl⟩)
    (c : PySem.W.codeIn K cdv qual = true) (k : PySem.W.keepIn K (.ref f) = true) : Fun K x qual st f (PySem.W.fnOf x qual (defArgs st) (defBody st) (defScope st) .none kV doc pm an cdv ct) := ⟨⟨oc, od, kV, doc, pm, an, cdv, ct, osl, rfl, l, c⟩, k⟩
end
theorem hu_of {A : Around} {k : Nat} (hr : Room k A) : A.units + 1 < cLine := Nat.lt_of_le_of_lt (Nat.add_le_add_left (by decide : 1 ≤ 64) _) hr.units
theorem small1000 {n : Nat} (h : n ≤ 1000) : n < sizeLine := Nat.lt_of_le_of_lt h (by decide)
section
variable {X : Cx}
theorem pv (i : Nat) {x : Str} {pos : Pos} (hN : autoParam (X.N[i]? = some x) autoK5._auto_1) (hv : autoParam (Vis X.env.scope x) autoK8._auto_1) (hd : autoParam ((x == ("__debug__" : Str)) = false) autoK2._auto_1)
    (hcd : autoParam ((x == ("__classdict__" : Str)) = false) autoK2._auto_1) : PE X (.Name x pos) (tVar i) := pe_var hN hv hd hcd
end
theorem iteF {A B : Prop} (h : B) : if false = true then A else B := by
  rw [if_neg Bool.false_ne_true]
  exact h
theorem iteT {A B : Prop} (h : A) : if true = true then A else B := by
  rw [if_pos rfl]
  exact h
def Same (H H' : Hp) : Prop := ∀ b o, H b = some o → H' b = some o
theorem Same.refl (H : Hp) : Same H H := fun _ _ h => h
theorem Same.trans {H H1 H2 : Hp} (a : Same H H1) (b : Same H1 H2) : Same H H2 := fun c o h => b c o (a c o h)
theorem Same.free {H H' : Hp} (e : Same H H') {l : Addr} (h : H' l = Option.none) : H l = Option.none := by
  cases q : H l with
  | none => rfl
  | some o =>
    rw [e l o q] at h
    cases h
end L2
set_option maxHeartbeats 2000000
namespace PySem
section
variable {prog : Program} {w : World} {A : Around} {E : Value → Shared → Prop} {s : Shared}
theorem walk_tup {l : Addr} {its : Array Value} {P : Value → Shared → Prop} (hh : A.handled = none) (hl : s.heap.IsTuple l its)
    (k : ∀ (I : Addr) (hp : Heap) (St : Nat → Heap → Prop), Walks prog w A I [I, l] [I] its.size (fun i v => its[i]? = some v) St → St 0 hp → I < hp.objs.size → l < hp.objs.size → (∀ b o, s.heap.get? b = some o → b ≠ I ∧ hp.get? b = some o) → P (.ref I) { s with heap := hp }) :
    wpAny (model prog w) A (pyIter (.ref l)) P E s := by
  have on : ∀ {b : Addr} {o : Obj}, s.heap.get? b = some o → b < s.heap.objs.size := fun g => Heap.lt_size g
  have ll : l < s.heap.objs.size := let ⟨_, g, _⟩ := hl; on g
  refine wpAny_pyIter_tuple hl (k _ _ _ (Walks.tuple hh _ l (Nat.ne_of_lt ll) its) ⟨⟨_, Heap.get?_push_size _ rfl, rfl, rfl⟩, hl.at fun _ g => Heap.get?_push_of_some _ g⟩ ?_ ?_ fun b o g => ⟨Nat.ne_of_lt (on g), Heap.get?_push_of_some _ g⟩)
  · exact Nat.lt_of_lt_of_eq (Nat.lt_succ_self _) (Heap.size_push ..).symm
  · exact Nat.lt_of_lt_of_eq (Nat.lt_succ_of_lt ll) (Heap.size_push ..).symm
theorem ext_tup {l b : Addr} {xs ys : Array Value} {n m : Nat} {o : Obj} (hc : o.cls = .type "tuple") (hd : o.data = .seq ys m) (fit : xs.size + ys.size ≤ sizeLine) :
    Meets (Builtin.«list.extend» ⟨[.ref l, .ref b], []⟩) (fun _ R x => x.heap.get? l = some { cls := .type "list", data := .seq xs n } ∧ x.heap.get? b = some o ∧ R (.ok (.ret .none)) { x with heap := x.heap.update l (Obj.mapSeq (· ++ ys)) }) :=
  .of_wp fun prog w A R x ⟨hl, hb, k⟩ => by
    have t : x.TypeIs (.ref b) "tuple" := ⟨o, hb, hc⟩
    have e1 : Builtin.List.listTooLong (xs.size + ys.size) = false := by
      unfold Builtin.List.listTooLong
      simpa using fit
    have e2 : (xs ++ ys).size ≤ sizeLine + 1 := by rw [Array.size_append]; bv_omega
    have e3 : xs.size ≤ sizeLine := by bv_omega
    wp_walk using wpAny_typeOf t, wpAny_seqItems hl rfl, wpAny_seqItems hb hd, wpAny_updateSeq hl rfl
    exact ⟨_, rfl, k⟩
theorem tup_next {it : Addr} {P : Value → Shared → Prop} (ty : s.TypeIs (.ref it) "tuple_iterator")
    (k : wpAny (model prog w) A.in1 (Builtin.«tuple_iterator.__next__» ⟨[.ref it], []⟩) (fun f x => ∃ v, f = .done (.ret v) ∧ P v x) E s) : wpAny (model prog w) A (Builtin.SmallTypes.nextOf (.ref it)) P E s := by
  have sl := F.slot_tuple_iterator_next
  have en := F.entry_tuple_iterator_next
  have ok := F.args_tuple_iterator_next_1 (.ref it)
  have c : wpAny (model prog w) A (call (.builtin "tuple_iterator.__next__") [.ref it]) P E s := wpAny_call_entry sl ty en k ok
  unfold Builtin.SmallTypes.nextOf
  exact wpAny_bind (wpAny_callSpecial?_slot ty sl (wpAny_mono c (fun v x z => wpAny_pure z) fun _ _ z => z))
section
variable {it t : Addr} {i : Nat} {its : Array Value}
theorem tup_item {v : Value} {P : Value → Shared → Prop} (hI : s.heap.IsTupleIter it t i) (hT : s.heap.IsTuple t its) (at_ : its[i]? = some v)
    (k : ∀ h', h'.IsTupleIter it t (i + 1) → Heap.SameBut it s.heap h' → P v { s with heap := h' }) : wpAny (model prog w) A (Builtin.SmallTypes.nextOf (.ref it)) P E s := by
  refine tup_next hI.typeIs ?_
  obtain ⟨o, a1, a2, a3⟩ := hI
  obtain ⟨ot, b1, b2, n, b3⟩ := hT
  have f0 : ∀ (P : Value → Shared → Prop) (E' : Value → Shared → Prop), P (.ref t) s → wpAny (model prog w) A.in1 (field (.ref it) 0) P E' s := fun P E' p => wpAny_field a1 a3 rfl p
  have f1 : ∀ (P : Value → Shared → Prop) (E' : Value → Shared → Prop), P (.int i 0) s → wpAny (model prog w) A.in1 (field (.ref it) 1) P E' s := fun P E' p => wpAny_field a1 a3 rfl p
  have at' : its[(i : Int).toNat]? = some v := at_
  wp_walk using f0, f1, wpAny_seqItems b1 b3, wpAny_setField a1 a3
  rw [at']
  refine wpAny_bind (wpAny_setField a1 a3 (by simp) (wpAny_pure ⟨v, rfl, k _ ⟨_, Heap.get?_update_self _ a1 ?_, ?_, ?_⟩ (Heap.SameBut.update ..)⟩))
  · exact Obj.isFreed_of_fields (Obj.data_mapFields a3 _)
  · rw [Obj.cls_mapFields, a2]
  · rw [Obj.data_mapFields a3]; rfl
theorem tup_end {P : Value → Shared → Prop} (hA : A.handled = none) (hI : s.heap.IsTupleIter it t i) (hT : s.heap.IsTuple t its) (at_ : its[i]? = none)
    (k : ∀ h' e, Heap.ExtBut it s.heap h' → (∃ o, h'.get? e = some o ∧ o.cls = .type "StopIteration") → E (.ref e) { s with heap := h' }) : wpAny (model prog w) A (Builtin.SmallTypes.nextOf (.ref it)) P E s := by
  refine tup_next hI.typeIs ?_
  obtain ⟨o, a1, a2, a3⟩ := hI
  obtain ⟨ot, b1, b2, n, b3⟩ := hT
  have f0 : ∀ (P : Value → Shared → Prop) (E' : Value → Shared → Prop), P (.ref t) s → wpAny (model prog w) A.in1 (field (.ref it) 0) P E' s := fun P E' p => wpAny_field a1 a3 rfl p
  have f1 : ∀ (P : Value → Shared → Prop) (E' : Value → Shared → Prop), P (.int i 0) s → wpAny (model prog w) A.in1 (field (.ref it) 1) P E' s := fun P E' p => wpAny_field a1 a3 rfl p
  have at' : its[(i : Int).toNat]? = none := at_
  have hA' : A.in1.handled = none := hA
  wp_walk using f0, f1, wpAny_seqItems b1 b3, wpAny_setField a1 a3, wpAny_raiseNew_none hA'
  rw [at']
  refine wpAny_bind (wpAny_rule (wpAny_bind (wpAny_setField a1 a3 (by simp) ?_)))
  unfold Builtin.SmallTypes.stopIteration
  wp_walk using wpAny_raiseNew_none hA'
  exact k _ _ (((Heap.SameBut.update ..).extBut.push _).push _) ⟨_, Heap.get?_push_size _ rfl, rfl⟩
end
theorem block_new {M : Model} {scope : Scope} {g bi : Addr} {cl : List (Str × Addr)} {qual : Str} {cd : Value} {outer : Env} {P : Value → Env → Shared → Prop} (nocell : ∀ y ∈ scope.names, y.2 ≠ .cell) (kind : scope.kind = .function)
    (k : ∀ (D C : Addr) (hp : Heap) (m : Str → Option Value), s.heap.objs.size ≤ D → s.heap.objs.size ≤ C → D ≠ C → (∀ b o, s.heap.get? b = some o → hp.get? b = some o) → hp.get? D = some { cls := .type "list", data := .seq #[] } → hp.Ns C m → P (.ref D) (newEnv scope C g cl qual none cd (some outer) bi) { s with heap := hp }) :
    wpAny M A (newList []) (fun acc x => wpAny M A (newFunctionEnv scope g cl [] qual none cd (some outer) bi) (fun e y => P acc e y) E x) E s := by
  unfold newList
  refine wpAny_newObj_type (wpAny_newFunctionEnv nocell (fun _ z => nomatch z) (fun hp ns sb => ?_) kind)
  have z : (s.heap.push { cls := .type "list", data := .seq #[] }).objs.size = s.heap.objs.size + 1 := Heap.size_push ..
  have up : ∀ b o, (s.heap.push { cls := .type "list", data := .seq #[] }).get? b = some o → hp.get? b = some o := fun b o q => sb.extBut b o (Nat.ne_of_lt (Heap.lt_size q)) (Heap.get?_push_of_some _ q)
  exact k _ _ hp _ (Nat.le_refl _) (by show _ ≤ (s.heap.push _).objs.size; rw [Heap.size_push]; bv_omega) (by show _ ≠ (s.heap.push _).objs.size; rw [Heap.size_push]; bv_omega) (fun b o q => up b o (Heap.get?_push_of_some _ q)) (up _ _ (Heap.get?_push_size _ rfl)) ns
theorem enum_by {x : Value} {oI : Obj} {Q : Value → Shared → Prop} (alive : oI.isFreed = false) (it : ∀ (B : Around) (P E' : Value → Shared → Prop), P (.ref s.heap.objs.size) { s with heap := s.heap.push oI } → wpAny (model prog w) B (pyIter x) P E' s)
    (k : ∀ h', IsEnum h' (s.heap.objs.size + 1) s.heap.objs.size 0 .none → h'.get? s.heap.objs.size = some oI → (∀ b o, s.heap.get? b = some o → h'.get? b = some o) → Q (.ref (s.heap.objs.size + 1)) { s with heap := h' }) : wpAny (model prog w) A (call (.type "enumerate") [x]) Q E s := by
  refine callType_newIn F.called_enumerate (by decide) (F.typeCall_enumerate_1 _) (F.newCall_enumerate_1 _) (fun o => F.args_object_init_2 o _) F.entry_enumerate_new
    (S := fun B R t => t = s ∧ B = A.in1 ∧ R = wants (fun v y => y.TypeIs v "enumerate" ∧ Q v y) E) (.of_wp fun B R t h => ?_) ⟨rfl, rfl, rfl⟩
  obtain ⟨rfl, rfl, rfl⟩ := h
  have u := sub_enumerate
  have sz : (t.heap.push oI).objs.size = t.heap.objs.size + 1 := Heap.size_push ..
  have fin : ∀ v : Value, v = .ref (t.heap.push oI).objs.size → Q v { t with heap := (t.heap.push oI).push { cls := .type "enumerate", data := .fields #[.none, .bool false, .ref t.heap.objs.size, rawInt 0, .none, .none] } } := fun v e => by
    subst e
    rw [sz]
    exact k _ (by rw [← sz]; exact Heap.get?_push_size _ rfl) (Heap.get?_push_of_some _ (Heap.get?_push_size _ alive)) fun b o g => Heap.get?_push_of_some _ (Heap.get?_push_of_some _ g)
  wp_walk
  refine wpAny_stack_any (fun st => wpAny_pure ?_)
  split
  · generalize (_ == Value.type "enumerate") = b
    cases b
    all_goals
      wp_walk using it A.in1.in1
      exact ⟨_, rfl, ⟨_, Heap.get?_push_size _ rfl, rfl⟩, fin _ rfl⟩
  · wp_walk using it A.in1.in1
    exact ⟨_, rfl, ⟨_, Heap.get?_push_size _ rfl, rfl⟩, fin _ rfl⟩
end
end PySem
set_option maxHeartbeats 2000000
namespace PySem
section
variable {prog : Program} {w : World} {A : Around} {E : Value → Shared → Prop} {s : Shared}
end
end PySem
set_option maxHeartbeats 4000000
namespace L2
open PySem PySem.Spec PyProof.Rows
theorem HOk.track {P : Program} {w : World} {H : Hp} {h : Heap} {a : Addr} {o : HO} (x : HOk P w H h) (hn : H a = none) (new : ObjOk P w (upd H a o) h a o) : HOk P w (upd H a o) h := fun b u e => by
  by_cases hb : b = a
  · subst hb; rw [upd_same] at e; cases e; exact new
  · rw [upd_ne hb] at e
    exact (x b u e).stay (fun c v _ q => q) (fun c q => by rw [upd_ne (ne_of_none q hn)]; exact q) fun c xs q => by rw [upd_ne (ne_of_none q hn)]; exact q
def clos (cells : List (Str × Addr)) : List (Str × NameKind) → List (Str × Addr) → List (Str × Addr)
  | [], acc => acc
  | (n, k) :: r, acc => if k == .free then clos cells r ((n, (cells.lookup n).getD 0) :: acc) else clos cells r acc
theorem closureLoop_eq {env : Env} : ∀ (names : List (Str × NameKind)) (acc : List (Str × Addr)), (∀ n, (n, NameKind.free) ∈ names → ∃ c, env.cells.lookup n = some c) →
    (forIn names acc fun (x : Str × NameKind) (r : List (Str × Addr)) => (do
      let (name, kind) := x
      if kind == .free then do
        let c ← cellOf env name
        pure (ForInStep.yield ((name, c) :: r))
      else pure (ForInStep.yield r) : Sem (ForInStep (List (Str × Addr))))) = pure (clos env.cells names acc)
  | [], acc, _ => rfl
  | (n, k) :: r, acc, h => by
    rw [List.forIn_cons]
    by_cases hk : (k == NameKind.free) = true
    · have ek : k = NameKind.free := by simpa using hk
      obtain ⟨c, hc⟩ := h n (by rw [ek]; exact List.mem_cons_self)
      have e1 : cellOf env n = pure c := by unfold cellOf; rw [hc]
      simp only [hk, if_true, e1, pure_bind]
      rw [closureLoop_eq r _ fun m hm => h m (List.mem_cons_of_mem _ hm)]
      show _ = pure (if (k == NameKind.free) = true then clos env.cells r ((n, (env.cells.lookup n).getD 0) :: acc) else clos env.cells r acc)
      rw [if_pos hk, hc]
      rfl
    · simp only [hk, if_false, pure_bind, Bool.false_eq_true]
      rw [closureLoop_eq r _ fun m hm => h m (List.mem_cons_of_mem _ hm)]
      show _ = pure (if (k == NameKind.free) = true then clos env.cells r ((n, (env.cells.lookup n).getD 0) :: acc) else clos env.cells r acc)
      rw [if_neg hk]
theorem closureFor_eq {scope : Scope} {env : Env} (h : ∀ n, (n, NameKind.free) ∈ scope.names → ∃ c, env.cells.lookup n = some c) : closureFor scope env = pure (clos env.cells scope.names []) := by
  unfold closureFor
  have := closureLoop_eq (env := env) scope.names [] h
  simp only [] at this ⊢
  rw [show (forIn scope.names ([] : List (Str × Addr)) fun (x : Str × NameKind) (r : List (Str × Addr)) => (do
      if x.2 == .free then do
        let c ← cellOf env x.1
        pure (ForInStep.yield ((x.1, c) :: r))
      else pure (ForInStep.yield r) : Sem (ForInStep (List (Str × Addr))))) = pure (clos env.cells scope.names []) from this]
  rfl
theorem clos_sub {cells : List (Str × Addr)} : ∀ (names : List (Str × NameKind)) (acc : List (Str × Addr)), (∀ n, (n, NameKind.free) ∈ names → ∃ c, cells.lookup n = some c) → (∀ x c, acc.lookup x = some c → cells.lookup x = some c) →
    ∀ x c, (clos cells names acc).lookup x = some c → cells.lookup x = some c
  | [], acc, _, ha, x, c, e => ha x c e
  | (n, k) :: r, acc, h, ha, x, c, e => by
    unfold clos at e
    by_cases hk : (k == NameKind.free) = true
    · rw [if_pos hk] at e
      have ek : k = NameKind.free := by simpa using hk
      obtain ⟨d, hd⟩ := h n (by rw [ek]; exact List.mem_cons_self)
      refine clos_sub r _ (fun m hm => h m (List.mem_cons_of_mem _ hm)) (fun y z q => ?_) x c e
      rw [hd, Option.getD_some, List.lookup_cons] at q
      by_cases hy : (y == n) = true
      · simp only [hy] at q
        have ey : y = n := by simpa using hy
        cases q
        rw [ey]; exact hd
      · simp only [hy] at q
        exact ha y z q
    · rw [if_neg hk] at e
      exact clos_sub r _ (fun m hm => h m (List.mem_cons_of_mem _ hm)) ha x c e
theorem clos_acc {cells : List (Str × Addr)} : ∀ (names : List (Str × NameKind)) (acc : List (Str × Addr)) (x : Str), (∃ c, acc.lookup x = some c) → ∃ c, (clos cells names acc).lookup x = some c
  | [], acc, x, h => h
  | (n, k) :: r, acc, x, h => by
    unfold clos
    by_cases hk : (k == NameKind.free) = true
    · rw [if_pos hk]
      refine clos_acc r _ x ?_
      rw [List.lookup_cons]
      by_cases hy : (x == n) = true
      · simp only [hy]; exact ⟨_, rfl⟩
      · simp only [hy]; exact h
    · rw [if_neg hk]; exact clos_acc r _ x h
theorem clos_has {cells : List (Str × Addr)} : ∀ (names : List (Str × NameKind)) (acc : List (Str × Addr)) (x : Str), (x, NameKind.free) ∈ names → ∃ c, (clos cells names acc).lookup x = some c
  | (n, k) :: r, acc, x, h => by
    unfold clos
    rcases List.mem_cons.mp h with e | e
    · cases e
      rw [if_pos (by rfl)]
      refine clos_acc r _ _ ?_
      rw [List.lookup_cons]
      simp only [beq_self_eq_true]
      exact ⟨_, rfl⟩
    · by_cases hk : (k == NameKind.free) = true
      · rw [if_pos hk]; exact clos_has r _ x e
      · rw [if_neg hk]; exact clos_has r _ x e
theorem relabel_by (env : Env) : ∃ f : Str × NameKind → Str × NameKind, (∀ sc : Scope, (relabel sc env).names = sc.names.map f) ∧ ∀ q, f q = q ∨ (q.2 = .free ∧ f q = (q.1, .cell)) := by
  refine ⟨_, fun _ => rfl, fun q => ?_⟩
  dsimp only
  split
  · rename_i z
    exact .inr ⟨eq_of_beq (Bool.and_eq_true_iff.mp (Bool.and_eq_true_iff.mp z).1).1, rfl⟩
  · exact .inl rfl
theorem lookup_by {f : Str × NameKind → Str × NameKind} (hf : ∀ q, f q = q ∨ (q.2 = .free ∧ f q = (q.1, .cell))) (x : Str) : ∀ l : List (Str × NameKind), (l.map f).lookup x = l.lookup x ∨ (l.lookup x = some .free ∧ (l.map f).lookup x = some .cell)
  | [] => .inl rfl
  | (n, k) :: r => by
    have ih := lookup_by hf x r
    rw [List.map_cons]
    rcases hf (n, k) with e | ⟨e1, e⟩
    · rw [e]
      cases q : x == n with
      | true => exact .inl (by rw [List.lookup_cons, List.lookup_cons, q])
      | false => simpa only [List.lookup_cons, q] using ih
    · cases e1
      rw [e]
      cases q : x == n with
      | true => exact .inr ⟨by rw [List.lookup_cons, q], by rw [List.lookup_cons, q]⟩
      | false => simpa only [List.lookup_cons, q] using ih
theorem relabel_look (sc : Scope) (env : Env) (x : Str) : (relabel sc env).names.lookup x = sc.names.lookup x ∨ (sc.names.lookup x = some .free ∧ (relabel sc env).names.lookup x = some .cell) := by
  obtain ⟨f, e, hf⟩ := relabel_by env
  rw [e sc]
  exact lookup_by hf x sc.names
theorem relabel_back {sc : Scope} {env : Env} {x : Str} {k : NameKind} (h : (relabel sc env).names.lookup x = some k) : sc.names.lookup x = some k ∨ (k = .cell ∧ sc.names.lookup x = some .free) := by
  rcases relabel_look sc env x with e | ⟨e1, e2⟩
  · exact .inl (e.symm.trans h)
  · exact .inr ⟨Option.some.inj (h.symm.trans e2), e1⟩
theorem relabel_free {sc : Scope} {env : Env} {x : Str} (h : sc.names.lookup x = some .free) : (relabel sc env).names.lookup x = some .cell ∨ (relabel sc env).names.lookup x = some .free := by
  rcases relabel_look sc env x with e | ⟨_, e⟩
  · exact .inr (e.trans h)
  · exact .inl e
def cxComp (X : Cx) (N : List Str) (scope : Scope) (C : Addr) (fp : List Addr) (s₂ : Shared) (H : Hp) : Cx where
  prog := X.prog
  w := X.w
  K := X.K
  mg := X.mg
  base := X.base
  A := X.A
  N := N
  s₀ := s₂
  H₀ := H
  env := compEnvC scope (clos X.env.cells scope.names []) C X.env
  outer := X.stack
  stack := X.stack
  ex := fp
  fn := fun _ => false
  calm := X.calm
  pn := []
  xe := fun _ _ => False
structure CompScope (sc0 scope : Scope) (N0 : List Str) (xt : Str) (fs : List Str) (js : List Nat) : Prop where
  kind : scope.kind = .function
  nocell : ∀ y ∈ scope.names, y.2 ≠ .cell
  names : ∀ y ∈ scope.names, y.2 = .local → scope.names.lookup y.1 = some .local
  tgt : scope.names.lookup xt = some .local
  frees : ∀ y ∈ scope.names, y.2 = .free → sc0.names.lookup y.1 = some .cell ∨ sc0.names.lookup y.1 = some .free
  len : js.length = fs.length
  slots : ∀ p ∈ fs.zip js, N0[p.2]? = some p.1 ∧ scope.names.lookup p.1 = some .free
  nd : (xt :: fs).Nodup
theorem zip_mem {α β : Type} : ∀ {fs : List α} {js : List β} {i : Nat} {y : α} {j : β}, fs[i]? = some y → js[i]? = some j → (y, j) ∈ fs.zip js
  | [], _, _, _, _, h, _ => by simp at h
  | _ :: _, [], _, _, _, _, h => by simp at h
  | a :: fs, b :: js, 0, y, j, h, h' => by
    simp at h h'
    subst h h'
    exact List.mem_cons_self
  | a :: fs, b :: js, i + 1, y, j, h, h' => by
    rw [List.zip_cons_cons]
    exact List.mem_cons_of_mem _ (zip_mem (i := i) (by simpa using h) (by simpa using h'))
def compSt (σ : St) (js : List Nat) (v : Option V) : St := v :: js.map fun j => (σ[j]?).join
section
variable {X : Cx} {pins : List (Addr × Obj)} {σ : St} {H : Hp} {s₂ s₄ : Shared} {sc0 scope : Scope} {N0 : List Str} {xt : Str} {fs : List Str} {js : List Nat} {fp : List Addr}
theorem CompScope.cells (S : CompScope sc0 scope N0 xt fs js) (h0 : X.env.scope = sc0) (ok : X.Ok) : ∀ n, (n, NameKind.free) ∈ scope.names → ∃ c, X.env.cells.lookup n = some c := fun n hn => ok.has n (by subst h0; exact S.frees _ hn rfl)
theorem CompScope.sub (S : CompScope sc0 scope N0 xt fs js) (h0 : X.env.scope = sc0) (ok : X.Ok) : ∀ x c, (clos X.env.cells scope.names []).lookup x = some c → X.env.cells.lookup x = some c :=
  clos_sub scope.names [] (S.cells h0 ok) fun x c e => by simp at e
theorem Inv.block (S : CompScope sc0 scope N0 xt fs js) (h0 : X.env.scope = sc0) (hN0 : X.N = N0) (I : Inv X pins σ H s₂) (hf : ∀ b ∈ fp, FpOk X pins H b) (hfo : ∀ b ∈ fp, ∃ o, s₂.heap.get? b = some o)
    (hos : s₄.os = s₂.os) (hg : AllBare s₄.gens) (hk : ∀ b o, s₂.heap.get? b = some o → s₄.heap.get? b = some o) {C : Addr} (hC : s₂.heap.objs.size ≤ C) {m : Str → Option Value} (hn : s₄.heap.Ns C m) :
    Inv (cxComp X (xt :: fs) scope C fp s₂ H) [] (compSt σ js none) H s₄ := by
  have sub := S.sub h0 I.ok
  have blt : ∀ b ∈ fp, b < s₂.heap.objs.size := fun b hb => let ⟨o, e⟩ := hfo b hb; Heap.lt_size e
  have ok : (cxComp X (xt :: fs) scope C fp s₂ H).Ok := by
    refine ⟨I.ok.mod, S.kind, I.ok.glob, I.ok.blt, hC, fun x y c h1 h2 => I.ok.inj x y c (sub x c h1) (sub y c h2), fun x hx => ?_, fun x c h => (nomatch h), I.ok.hd, I.ok.frames, .inl rfl, fun b hb => ⟨?_, fun x c h => (hf b hb).2.2.2.2.1 x c (sub x c h)⟩, I.bs, Nat.le_trans I.ok.bsz I.sz, fun b o e hb => ?_, fun b hb hs => ?_, I.stack, I.stkFree⟩
    · have hx : (relabel scope X.env).names.lookup x = some .cell ∨ (relabel scope X.env).names.lookup x = some .free := hx
      have hfree : scope.names.lookup x = some .free := by
        rcases hx with hx | hx
        · rcases relabel_back hx with q | ⟨_, q⟩
          · exact absurd rfl (S.nocell _ (PySem.mem_of_lookup q))
          · exact q
        · rcases relabel_back hx with q | ⟨q, _⟩
          · exact q
          · cases q
      exact clos_has scope.names [] x (PySem.mem_of_lookup hfree)
    · exact Nat.ne_of_lt (Nat.lt_of_lt_of_le (blt b hb) hC)
    · rcases (hf b hb).2.2.2.1 with z | z
      · exact I.ok.noex b o e z
      · exact absurd (Nat.lt_of_lt_of_le (Heap.lt_size (I.ok.bs b o e).1) z) (Nat.lt_irrefl _)
    · rcases List.mem_cons.mp (I.stkSub b hs) with z | z
      · exact (hf b hb).2.1 z
      · exact (hf b hb).2.2.1 z
  refine ⟨ok, hos, hg, Un.kept hk, ⟨m, hn, fun i x v e1 e2 e3 => ?_⟩, fun x c e => ?_, I.hok.fresh hC, fun x c e => I.freeC x c (sub x c e), fun p hp => absurd (show p ∈ ([] : List (Addr × Obj)) from hp) (by simp), I.hok.kept hk, ?_⟩
  · cases i with
    | zero => cases e2
    | succ i =>
      have e1 : fs[i]? = some x := e1
      have e2 : (js.map fun j => (σ[j]?).join)[i]? = some (some v) := e2
      rw [List.getElem?_map] at e2
      cases ej : js[i]? with
      | none => rw [ej] at e2; cases e2
      | some j =>
        rw [ej] at e2
        have e2 : (σ[j]?).join = some v := Option.some.inj e2
        obtain ⟨hN, hfr⟩ := S.slots _ (zip_mem e1 ej)
        have hN : X.N[j]? = some x := by rw [hN0]; exact hN
        have hk2 : X.env.kindOf x = some .cell ∨ X.env.kindOf x = some .free := by subst h0; exact S.frees _ (PySem.mem_of_lookup hfr) rfl
        have hs : σ[j]? = some (some v) := by
          cases q : σ[j]? with
          | none => rw [q] at e2; cases e2
          | some z => rw [q] at e2; rw [show z = some v from e2]
        obtain ⟨m0, hn0, hl⟩ := I.loc
        obtain ⟨u, r, l⟩ := hl j x v hN hs (by rcases hk2 with z | z; exact .inr (.inl z); exact .inr (.inr z))
        refine ⟨u, r, ?_⟩
        rcases l with ⟨hloc, _⟩ | ⟨_, c, hc, hcell⟩
        · rcases hk2 with z | z
          · rw [z] at hloc; cases hloc
          · rw [z] at hloc; cases hloc
        · obtain ⟨c', hc'⟩ := clos_has (cells := X.env.cells) scope.names [] x (PySem.mem_of_lookup hfr)
          have : c' = c := Option.some.inj ((sub x c' hc').symm.trans hc)
          subst this
          exact .inr ⟨relabel_free hfr, c', hc', hcell.keeps hk⟩
  · obtain ⟨v, z⟩ := I.cell x c (sub x c e)
    exact ⟨v, z.keeps hk⟩
  · show (compSt σ js none).length = (xt :: fs).length
    unfold compSt
    rw [List.length_cons, List.length_map, List.length_cons, S.len]
theorem Inv.unblock {pins' : List (Addr × Obj)} {σ' : St} {H' : Hp} {s' : Shared} {h'' : Heap} {C D : Addr} {its : List Value} {n : Nat} {acc : List V} {N : List Str} (I : Inv X pins σ H s₂) (hf : ∀ b ∈ fp, FpOk X pins H b)
    (J : Inv (cxComp X N scope C fp s₂ H) pins' σ' H' s') (hC : s₂.heap.objs.size ≤ C) (hD : s₂.heap.objs.size ≤ D) (hDC : D ≠ C) (hHD : H' D = none)
    (hd : s'.heap.get? D = some { cls := .type "list", data := .seq its.toArray n }) (hv : Vals acc its) (hz : acc.length ≤ sizeLine) (hsb : Heap.SameBut C s'.heap h'') :
    Inv X pins σ (upd H' D (.lst acc)) { s' with heap := h'' } := by
  have hd2 : h''.get? D = some { cls := .type "list", data := .seq its.toArray n } := (hsb.2 D hDC).trans hd
  have keep : ∀ b o, b < s₂.heap.objs.size → s'.heap.get? b = some o → h''.get? b = some o := fun b o hb e => (hsb.2 b (Nat.ne_of_lt (Nat.lt_of_lt_of_le hb hC))).trans e
  have hHC : H' C = none := J.free
  have ok1 : HOk X.prog X.w H' h'' := fun b o e => (J.hok b o e).stay (fun c v hc q => (hsb.2 c (by
      rcases hc with z | z
      · rw [z]; exact fun w => by rw [w, hHC] at e; cases e
      · exact fun w => by rw [w, hHC] at z; cases z)).trans q) (fun _ q => q) fun _ _ q => q
  have ok2 : HOk X.prog X.w (upd H' D (.lst acc)) h'' := ok1.track hHD ⟨hz, its, n, hv, hd2⟩
  have un : Un (frs X.stack) fp H (upd H' D (.lst acc)) s₂.heap h'' := by
    have u := J.base
    refine ⟨fun b o e nb h1 h2 => keep b o (Heap.lt_size e) (u.keep b o e nb h1 h2), fun b o e nb h1 h2 => ?_, fun b o e nb h2 => ?_, fun b o e h2 => ?_, fun b xs e => ?_, fun b o v e => ?_, fun b ps e => ?_⟩
    · obtain ⟨sl, q⟩ := u.slot b o e nb h1 h2
      exact ⟨sl, keep b _ (Heap.lt_size e) q⟩
    · rw [upd_ne (Nat.ne_of_lt (Nat.lt_of_lt_of_le (Heap.lt_size e) hD))]
      exact u.free b o e nb h2
    · obtain ⟨o', q⟩ := u.there b o e h2
      exact ⟨o', keep b _ (Heap.lt_size e) q⟩
    · have q := u.tups b xs e
      rw [upd_ne (ne_of_none q hHD)]; exact q
    · have q := u.frzs b o v e
      rw [upd_ne (ne_of_none q hHD)]; exact q
    · obtain ⟨more, q⟩ := u.tbls b ps e
      exact ⟨more, by rw [upd_ne (ne_of_none q hHD)]; exact q⟩
  obtain ⟨hh, g, d, t, os'⟩ := s'
  obtain rfl : os' = s₂.os := J.os
  exact Inv.call (s := s₂) I (h' := h'') (g' := g) (d' := d) (t' := t) (ch := fp) un ok2 J.bare fun b hb => ⟨(hf b hb).2.2.2.1, (hf b hb).2.1, (hf b hb).2.2.2.2.1, (hf b hb).2.2.2.2.2⟩
end
def tTrue : TT := fun _ H Q => Q true H
inductive PTs (X : Cx) : List Expr → TT → Prop
  | nil : PTs X [] tTrue
  | one {c : Expr} {t : TT} : PT X c t → PTs X [c] t
def tComp (wi : TI) (tt : Addr → List Addr → Shared → Hp → TT) (te : Addr → List Addr → Shared → Hp → TE) (js : List Nat) : TE := fun σ H Q => wi σ H fun J H1 => ∀ C fp s₂ H₂, ∃ W : Nat → Nat → List V → Hp → Prop, (∃ m, W 0 m [] H1) ∧ ∀ i m acc H, W i m acc H →
  (J.stop i H ∧ ∀ p, H p = none → Q (.ref p) (upd H p (.lst acc))) ∨
  (J.go i H ∧ ∃ N : List V → Hp → Prop, (∀ acc' H', N acc' H' → ∃ m', m' < m ∧ W (i + 1) m' acc' H') ∧
    ∀ x H', J.yld i H x H' → tt C fp s₂ H₂ (compSt σ js (some x)) H' fun b H2 => if b = true then te C fp s₂ H₂ (compSt σ js (some x)) H2 fun v H3 => acc.length < sizeLine ∧ N (acc ++ [v]) H3 else N acc H2)
theorem comp_core {X : Cx} {elt iter : Expr} {ifs : List Expr} {sc0 scope : Scope} {N0 : List Str} {px pos : Pos} {xt : Str} {fs : List Str} {js : List Nat} {wi : TI} {tt : Addr → List Addr → Shared → Hp → TT} {te : Addr → List Addr → Shared → Hp → TE} (S : CompScope sc0 scope N0 xt fs js) (h0 : X.env.scope = sc0) (hN0 : X.N = N0) (hc : X.calm = true)
    (hi : PI X (.Name xt px) iter wi) (ht : ∀ C fp s₂ H, PTs (cxComp X (xt :: fs) scope C fp s₂ H) ifs (tt C fp s₂ H)) (he : ∀ C fp s₂ H, PE (cxComp X (xt :: fs) scope C fp s₂ H) elt (te C fp s₂ H))
    (hs : autoParam (∀ x, foldedSetIterable iter X.env x = pure x) autoK4._auto_1)
    {pins : List (Addr × Obj)} {cpos : Pos} {s : Shared} {σ : St} {H : Hp} {Q : VK} {use : Option (Value → Sem Unit)} {Qv : Value → Shared → Prop} (I : Inv X pins σ H s) (h : tComp wi tt te js σ H Q)
    (hfin : ∀ (s' : Shared) (C D : Addr) (Ha : Hp) (fl : Flow), (∀ h'', Heap.SameBut C s'.heap h'' → Inv X pins σ Ha { s' with heap := h'' }) → (∃ m, s'.heap.Ns C m) → FpOk X pins Ha C → Q (.ref D) Ha → compPost (model X.prog X.w) X.A X.xe use Qv (.ref D) C (.ok fl) s') :
    wpAny (model X.prog X.w) X.A (comprehension (.ListComp elt [⟨.Name xt px, iter, ifs, 0⟩] scope pos) scope X.env cpos (newList []) false (eval iter X.env) use) Qv X.xe s := by
  refine wpAny_comprehension_free (use := use) rfl hs (closureFor_eq (S.cells h0 I.ok)) S.kind S.names ?_
  refine thn (hi pins s σ H _ I h) fun v s1 h1 => thn h1 fun itv s2 h2 => ?_
  obtain ⟨it, fp, tn, J, H2, e, I2, T, st2, f2, hW⟩ := h2
  subst e
  have fo : ∀ b ∈ fp, ∃ o, s2.heap.get? b = some o := fun b hb => let ⟨o, e, _⟩ := T.obj 0 s2.heap st2 b hb; ⟨o, e⟩
  have blt : ∀ b ∈ fp, b < s2.heap.objs.size := fun b hb => let ⟨o, e⟩ := fo b hb; Heap.lt_size e
  refine block_new S.nocell S.kind fun D C h₁ mC hDle hCle hDC old hacc hns₁ => ?_
  have bC : ∀ b o, s2.heap.get? b = some o → b ≠ C := fun b o q z => Nat.not_lt.mpr hCle (z ▸ Heap.lt_size q)
  have bD : ∀ b o, s2.heap.get? b = some o → b ≠ D := fun b o q z => Nat.not_lt.mpr hDle (z ▸ Heap.lt_size q)
  obtain ⟨W, ⟨m0, w0⟩, turn⟩ := hW C fp s2 H2
  have fpk : ∀ {H' : Hp} (ob : Obj), (∀ b ∈ fp, H' b = none) → ∀ b ∈ fp, FpOk (cxComp X (xt :: fs) scope C fp s2 H2) [(D, ob)] H' b := fun {H'} ob hn b hb => by
    refine ⟨hn b hb, Nat.ne_of_lt (Nat.lt_of_lt_of_le (blt b hb) hCle), fun z => ?_, .inl hb, fun x c e => (f2 b hb).2.2.2.2.1 x c (S.sub h0 I2.ok x c e), fun p hp => ?_⟩
    · rcases List.mem_cons.mp (I2.stkSub b z) with q | q
      · exact (f2 b hb).2.1 q
      · exact (f2 b hb).2.2.1 q
    · have : p = (D, ob) := by
        have hp : p ∈ [] ++ [(D, ob)] := hp
        simpa using hp
      subst this
      exact Nat.ne_of_gt (Nat.lt_of_lt_of_le (blt b hb) hDle)
  have loop : codeAny (model X.prog X.w) X.A (.compLoop (.ListComp elt [⟨.Name xt px, iter, ifs, 0⟩] scope pos) 0 (.ref it) (.ref D) (compEnvC scope (clos X.env.cells scope.names []) C X.env))
        (compPost (model X.prog X.w) X.A X.xe use Qv (.ref D) C) { s2 with heap := h₁ } := by
    have J0 : Inv (cxComp X (xt :: fs) scope C fp s2 H2) [] (compSt σ js none) H2 { s2 with heap := h₁ } :=
      Inv.block (s₂ := s2) (s₄ := { s2 with heap := h₁ }) S h0 hN0 I2 f2 fo rfl I2.bare old hCle hns₁
    have H2D : H2 D = none := I2.hok.fresh hDle
    have ofD : D ∉ frs X.stack := fun z => by
      rcases List.mem_cons.mp (I2.stkSub D z) with q | q
      · exact absurd I2.lt (by rw [← q]; exact Nat.not_lt.mpr hDle)
      · exact I2.nofs (a := D) hDle q
    refine codeAny_loop rfl (fun n s' => ∃ (i : Nat) (σ' : St) (H' : Hp) (acc : List V) (its : List Value) (k : Nat), (∃ v0, σ' = compSt σ js v0) ∧ Inv (cxComp X (xt :: fs) scope C fp s2 H2) [] σ' H' s' ∧ tn i s'.heap ∧ (∀ b ∈ fp, H' b = none) ∧ H' D = none ∧
        s'.heap.get? D = some { cls := .type "list", data := .seq its.toArray k } ∧ Vals acc its ∧ acc.length ≤ sizeLine ∧ W i n acc H') ?_ m0
      ⟨0, _, H2, [], [], 0, ⟨none, rfl⟩, J0, T.keep 0 _ _ st2 fun b hb o e => old b o e, fun b hb => (f2 b hb).1, H2D, hacc, .nil, Nat.zero_le _, w0⟩
    rintro n s3 ⟨i, σ3, H3, acc, its, k, ⟨v0, rfl⟩, I3, st3, fr3, hD3, d3, va, hz, w3⟩
    show wpAny _ X.A ((compTurn (.ListComp elt [⟨.Name xt px, iter, ifs, 0⟩] scope pos) 0 (.ref it) (.ref D) (compEnvC scope (clos X.env.cells scope.names []) C X.env)).onRaise (fun x => do noteFrame x (compEnvC scope (clos X.env.cells scope.names []) C X.env); theTreesLotGoes x)) _ _ s3
    refine wpAny_noted ?_
    rw [compTurn_list]
    refine wpAny_bind (wpAny_standAt ?_)
    have pinD : Inv (cxComp X (xt :: fs) scope C fp s2 H2) [(D, { cls := .type "list", data := .seq its.toArray k })] (compSt σ js v0) H3 s3 := I3.pins_of fun p hp => by
      have : p = (D, { cls := .type "list", data := .seq its.toArray k }) := by simpa using hp
      subst this
      exact ⟨d3, hD3, hDC, ofD, fun v z => by cases z⟩
    refine wpAny_bind ?_
    rcases turn i n acc H3 w3 with ⟨stop, qn⟩ | ⟨go, N, hN, step⟩
    · refine thn (T.done (cxComp X (xt :: fs) scope C fp s2 H2) rfl rfl rfl hc i _ s3 _ H3 _ pinD (fpk _ fr3) st3 stop) fun r s4 ⟨hr, I4⟩ => ?_
      subst hr
      refine wpAny_pure ?_
      obtain ⟨m4, hn4, _⟩ := I4.loc
      have hHC : H3 C = none := I4.free
      refine hfin s4 C D (upd H3 D (.lst acc)) _ (fun h'' hsb => I2.unblock f2 I4 hCle hDle hDC hD3 ((I4.pin (D, { cls := .type "list", data := .seq its.toArray k }) (List.mem_append_right _ List.mem_cons_self)).1) va hz hsb) ⟨m4, hn4⟩ (I2.fpOk hCle (by rw [upd_ne (Ne.symm hDC)]; exact hHC)) (qn D hD3)
    · refine thn (T.item (cxComp X (xt :: fs) scope C fp s2 H2) rfl rfl rfl hc i _ s3 _ H3 _ pinD (fpk _ fr3) st3 go) fun r s4 ⟨u, hr, h4⟩ => ?_
      subst hr
      refine wpAny_bind (thn h4 fun _ s5 ⟨x, H5, I5, r5, y5, st5, fr5⟩ => ?_)
      have I5' := I5.pinned (fpk _ fr5) (T.obj _ _ st5)
      have gok : PG (cxComp X (xt :: fs) scope C fp s2 H2) (.Name xt px) (gName 0) := pg_name S.nd rfl (.inl (lookup_relabel_local S.tgt)) (.inr (lookup_relabel_local S.tgt))
      have noE : ∀ (a : Value) (s' : Shared), (cxComp X (xt :: fs) scope C fp s2 H2).xe a s' → notedBy (model X.prog X.w) X.A (compEnvC scope (clos X.env.cells scope.names []) C X.env) (fun e s' => compPost (model X.prog X.w) X.A X.xe use Qv (.ref D) C (.error e) s') a s' := fun _ _ z => False.elim z
      refine wpAny_bind (wpAny_mono (gok _ s5 (compSt σ js v0) H5 x u (fun σ' H' => σ' = compSt σ js (some x) ∧ H' = H5) I5' r5 ⟨rfl, rfl⟩) (fun _ s6 ⟨σ6, H6, I6, e6, e6'⟩ => ?_) noE)
      subst e6 e6'
      have fin : ∀ {acc' : List V} {its' : List Value} {k' : Nat} {H7 : Hp} {s7 : Shared}, Inv (cxComp X (xt :: fs) scope C fp s2 H2) [] (compSt σ js (some x)) H7 s7 → tn (i + 1) s7.heap → (∀ b ∈ fp, H7 b = none) → H7 D = none → s7.heap.get? D = some { cls := .type "list", data := .seq its'.toArray k' } → Vals acc' its' → acc'.length ≤ sizeLine → N acc' H7 →
          ∃ m, m < n ∧ ∃ (i : Nat) (σ' : St) (H' : Hp) (acc : List V) (its : List Value) (k : Nat), (∃ v0, σ' = compSt σ js v0) ∧ Inv (cxComp X (xt :: fs) scope C fp s2 H2) [] σ' H' s7 ∧ tn i s7.heap ∧ (∀ b ∈ fp, H' b = none) ∧ H' D = none ∧
            s7.heap.get? D = some { cls := .type "list", data := .seq its.toArray k } ∧ Vals acc its ∧ acc.length ≤ sizeLine ∧ W i m acc H' := fun {acc' its' k' H7 s7} a1 a2 a3 a4 a5 a6 a7 a8 => by
        obtain ⟨m', hm, w7⟩ := hN _ _ a8
        exact ⟨m', hm, i + 1, _, H7, acc', its', k', ⟨_, rfl⟩, a1, a2, a3, a4, a5, a6, a7, w7⟩
      have rest : ∀ {H7 : Hp} {s7 : Shared}, Inv (cxComp X (xt :: fs) scope C fp s2 H2) ([(D, { cls := .type "list", data := .seq its.toArray k })] ++ pinsAt fp s5.heap) (compSt σ js (some x)) H7 s7 →
          tn (i + 1) s7.heap ∧ (∀ b ∈ fp, H7 b = none) ∧ H7 D = none ∧ s7.heap.get? D = some { cls := .type "list", data := .seq its.toArray k } := fun {H7 s7} I7 => by
        refine ⟨T.keep _ _ _ st5 fun b hb o e => (I7.pin (b, o) (List.mem_append_right _ (List.mem_append_right _ (mem_pinsAt hb e)))).1, fun b hb => ?_, (I7.pin (D, { cls := .type "list", data := .seq its.toArray k }) (List.mem_append_right _ (List.mem_append_left _ List.mem_cons_self))).2.1, (I7.pin (D, { cls := .type "list", data := .seq its.toArray k }) (List.mem_append_right _ (List.mem_append_left _ List.mem_cons_self))).1⟩
        obtain ⟨o, e, d⟩ := T.obj _ _ st5 b hb
        exact (I7.pin (b, o) (List.mem_append_right _ (List.mem_append_right _ (mem_pinsAt hb e)))).2.1
      have elem : ∀ {H7 : Hp} {s7 : Shared}, Inv (cxComp X (xt :: fs) scope C fp s2 H2) ([(D, { cls := .type "list", data := .seq its.toArray k })] ++ pinsAt fp s5.heap) (compSt σ js (some x)) H7 s7 →
          (te C fp s2 H2 (compSt σ js (some x)) H7 fun v H3 => acc.length < sizeLine ∧ N (acc ++ [v]) H3) →
          wpAny (model X.prog X.w) X.A (eval elt (compEnvC scope (clos X.env.cells scope.names []) C X.env)) (fun y s8 => wpAny (model X.prog X.w) X.A (call (.builtin "list.append") [.ref D, y]) (fun _ s9 => ∃ m, m < n ∧ ∃ (i : Nat) (σ' : St) (H' : Hp) (acc : List V) (its : List Value) (k : Nat), (∃ v0, σ' = compSt σ js v0) ∧ Inv (cxComp X (xt :: fs) scope C fp s2 H2) [] σ' H' s9 ∧ tn i s9.heap ∧ (∀ b ∈ fp, H' b = none) ∧ H' D = none ∧
            s9.heap.get? D = some { cls := .type "list", data := .seq its.toArray k } ∧ Vals acc its ∧ acc.length ≤ sizeLine ∧ W i m acc H')
            (fun _ _ => False) s8) (fun _ _ => False) s7 := fun {H7 s7} I7 q7 => by
        refine thn (he C fp s2 H2 _ s7 _ H7 _ I7 q7) fun y s8 ⟨v, H8, I8, r8, hl8, n8⟩ => ?_
        obtain ⟨t8, fr8, hD8, d8⟩ := rest I8
        have hsz := va.length
        refine call_meets F.slot_list_append ⟨_, d8, rfl⟩ F.entry_list_append (F.args_list_append_2 _ _) (PySem.list_append D its.toArray k y (by rw [List.size_toArray]; bv_omega)) ⟨d8, ?_⟩
        have q := PySem.IsL.update d8 (·.push y)
        rw [show (its.toArray.push y) = (its ++ [y]).toArray by simp] at q
        have kk : ∀ b o, b ≠ D → s8.heap.get? b = some o → (s8.heap.update D (Obj.mapSeq (·.push y))).get? b = some o := fun b o hb e => (Heap.get?_update_other s8.heap _ (Ne.symm hb)).trans e
        have I9 : Inv (cxComp X (xt :: fs) scope C fp s2 H2) [] (compSt σ js (some x)) H8 { s8 with heap := s8.heap.update D (Obj.mapSeq (·.push y)) } := by
          refine Inv.turned (it := D) (t' := s8.toks) (I8.pins_of (pins' := []) fun p hp => nomatch hp) kk hD8 hDC (.inr hDle) (fun x c e z => ?_) fun p hp => absurd (show p ∈ ([] : List (Addr × Obj)) from hp) (by simp)
          obtain ⟨v, o, ho, _⟩ := I2.cell x c (S.sub h0 I2.ok x c e)
          exact bD c o ho z
        refine fin I9 (T.keep _ _ _ t8 fun b hb o e => kk b o (Nat.ne_of_lt (Nat.lt_of_lt_of_le (blt b hb) hDle)) e) fr8 hD8 q (va.append (.cons r8 .nil)) ?_ n8
        rw [List.length_append, List.length_singleton]
        bv_omega
      have q6 := step x H6 y5
      have htt := ht C fp s2 H2
      generalize tt C fp s2 H2 = tt' at htt q6
      cases htt with
      | nil =>
        refine wpAny_bind (wpAny_pure ?_)
        dsimp only [tTrue] at q6
        rw [if_pos rfl] at q6
        refine wpAny_mono (wpAny_bind (wpAny_bind (thn (elem I6 q6) fun y s8 h8 => wpAny_bind (thn h8 fun _ s9 h9 => wpAny_pure (wpAny_pure ⟨rfl, h9⟩))))) (fun _ _ z => z) fun _ _ z => False.elim z
      | one ht1 =>
        refine wpAny_bind (wpAny_tests_one (wpAny_mono (ht1 _ s6 _ H6 _ I6 q6) (fun b s7 ⟨H7, I7, q7⟩ => ?_) noE))
        cases b with
        | false =>
          rw [if_neg Bool.false_ne_true] at q7
          obtain ⟨t8, fr8, hD8, d8⟩ := rest I7
          exact wpAny_pure ⟨rfl, fin (I7.pins_of (pins' := []) fun p hp => nomatch hp) t8 fr8 hD8 d8 va hz q7⟩
        | true =>
          rw [if_pos rfl] at q7
          refine wpAny_mono (wpAny_bind (wpAny_bind (thn (elem I7 q7) fun y s8 h8 => wpAny_bind (thn h8 fun _ s9 h9 => wpAny_pure (wpAny_pure ⟨rfl, h9⟩))))) (fun _ _ z => z) fun _ _ z => False.elim z
  exact codeAny_compStart_list loop (T.self X.A 0 _ _ _ (T.keep 0 _ _ st2 fun b hb o e => old b o e) loop)
theorem pe_comp {X : Cx} {elt iter : Expr} {ifs : List Expr} {sc0 scope : Scope} {N0 : List Str} {px pos : Pos} {xt : Str} {fs : List Str} {js : List Nat} {wi : TI} {tt : Addr → List Addr → Shared → Hp → TT} {te : Addr → List Addr → Shared → Hp → TE} (S : CompScope sc0 scope N0 xt fs js) (h0 : X.env.scope = sc0) (hN0 : X.N = N0) (hc : X.calm = true)
    (hi : PI X (.Name xt px) iter wi) (ht : ∀ C fp s₂ H, PTs (cxComp X (xt :: fs) scope C fp s₂ H) ifs (tt C fp s₂ H)) (he : ∀ C fp s₂ H, PE (cxComp X (xt :: fs) scope C fp s₂ H) elt (te C fp s₂ H))
    (hs : autoParam (∀ x, foldedSetIterable iter X.env x = pure x) autoK4._auto_1) :
    PE X (.ListComp elt [⟨.Name xt px, iter, ifs, 0⟩] scope pos) (tComp wi tt te js) := by
  intro pins s σ H Q I h
  rw [eval_ListComp]
  refine comp_core S h0 hN0 hc hi ht he hs (use := none) (Qv := EP X pins σ Q) I h fun s' C D Ha fl hI hns hC q => ?_
  obtain ⟨m, hn⟩ := hns
  exact ⟨m, hn, fun h' hsb => ⟨.ref D, Ha, hI h' hsb, rfl, q⟩⟩
theorem Same.new {H : Hp} {p : Addr} {o : HO} (h : H p = none) : Same H (upd H p o) := fun b u e => by rw [upd_ne (ne_of_none e h)]; exact e
end L2
set_option maxHeartbeats 4000000
namespace L2
open PySem PySem.Spec PyProof.Rows
def Small (i : Int) : Prop := ∃ k, k ≤ 1000000 ∧ i.natAbs < 2 ^ k
theorem Small.bits {i : Int} (h : Small i) : Builtin.Int.intBits i ≤ 2 ^ 20 := by
  obtain ⟨k, hk, hi⟩ := h
  unfold Builtin.Int.intBits
  by_cases h0 : (i == 0) = true
  · rw [if_pos h0]; exact Nat.zero_le _
  · rw [if_neg h0]
    have hn : i.natAbs ≠ 0 := by
      intro z
      have : i = 0 := by bv_omega
      rw [this] at h0
      exact h0 rfl
    have := (Nat.log2_lt hn).mpr hi
    have e : (2 : Nat) ^ 20 = 1048576 := by decide
    bv_omega
section
variable {X : Cx}
def clsV : V → Option Value
  | .ty n => some (.type n)
  | .ref a => some (.ref a)
  | _ => none
theorem clsV_rel {c : V} {u cv : Value} (r : RelV c u) (e : clsV c = some cv) : u = cv := by
  cases c with
  | ty n => cases e; exact r
  | ref a => cases e; exact r
  | non => cases e
  | bl _ => cases e
  | int _ => cases e
  | str _ => cases e
  | byt _ => cases e
  | flt _ => cases e
end
end L2
set_option maxHeartbeats 4000000
namespace L2
open PySem PySem.Spec PyProof.Rows
mutual
inductive DatV (K : PySem.W.Frag) (H : Hp) : V → PyData → Prop
  | non : DatV K H .non .none
  | bl (b : Bool) : DatV K H (.bl b) (.bool b)
  | int (i : Int) : DatV K H (.int i) (.int i)
  | str (x : Str) : DatV K H (.str x) (.str x)
  | lst {a : Addr} {xs : List V} {ds : List PyData} : SqL K H a xs → DatAll K H xs ds → DatV K H (.ref a) (.list ds)
  | tup {a : Addr} {xs : List V} {ds : List PyData} : SqT K H a xs → DatAll K H xs ds → DatV K H (.ref a) (.tuple ds)
inductive DatAll (K : PySem.W.Frag) (H : Hp) : List V → List PyData → Prop
  | nil : DatAll K H [] []
  | cons {v : V} {d : PyData} {vs : List V} {ds : List PyData} : DatV K H v d → DatAll K H vs ds → DatAll K H (v :: vs) (d :: ds)
end
section
variable {X : Cx} {pins : List (Addr × Obj)} {σ : St} {H : Hp} {s : Shared}
mutual
theorem Inv.reads (I : Inv X pins σ H s) : ∀ {v : V} {d : PyData} {u : Value}, DatV X.K H v d → RelV v u → ∃ as, Reads s.heap u d as
  | _, _, _, .non, r => by cases r; exact ⟨_, .none⟩
  | _, _, _, .bl b, r => by cases r; exact ⟨_, .bool b⟩
  | _, _, _, .int i, r => by obtain ⟨t, rfl⟩ := r; exact ⟨_, .int i t⟩
  | _, _, _, .str x, r => by obtain ⟨t, rfl⟩ := r; exact ⟨_, .str x t⟩
  | _, _, _, .lst hq ha, r => by
    cases r
    obtain ⟨its, rv, ⟨o, n, ho, hc, _, hd⟩, _⟩ := I.list hq
    obtain ⟨as, z⟩ := Inv.readsAll I ha rv
    exact ⟨_, .list ho hc hd (by simpa using z)⟩
  | _, _, _, .tup hq ha, r => by
    cases r
    obtain ⟨its, rv, ⟨o, ho, hc, n, hd⟩, _⟩ := I.tuple hq
    obtain ⟨as, z⟩ := Inv.readsAll I ha rv
    exact ⟨_, .tuple ho hc hd (by simpa using z)⟩
theorem Inv.readsAll (I : Inv X pins σ H s) : ∀ {vs : List V} {ds : List PyData} {us : List Value}, DatAll X.K H vs ds → Vals vs us → ∃ as, ReadsAll s.heap us ds as
  | _, _, _, .nil, r => by cases r; exact ⟨_, .nil⟩
  | _, _, _, .cons h t, r => by
    cases r with
    | cons r1 r2 =>
      obtain ⟨as, z⟩ := Inv.reads I h r1
      obtain ⟨bs, z'⟩ := Inv.readsAll I t r2
      exact ⟨_, .cons z z'⟩
end
end
section
variable {X : Cx}
def rEqD (K : PySem.W.Frag) (neg : Bool) : R2 := fun x y H Q => ∃ dx dy, DatV K H x dx ∧ DatV K H y dy ∧ SeqAt.shaped dx = true ∧ SeqAt.shaped dy = true ∧ Q (.bl (if neg then !PyData.eqv dx dy else PyData.eqv dx dy)) H
theorem op_eqD (hu : X.A.units + 64 < cLine) : OpR X (compareOp .Eq) (rEqD X.K false) := by
  intro pins s σ H x y v u Q I rx ry h
  obtain ⟨dx, dy, h1, h2, s1, s2, q⟩ := h
  obtain ⟨as, z1⟩ := I.reads h1 rx
  obtain ⟨bs, z2⟩ := I.reads h2 ry
  exact eq_dataH z1 z2 s1 s2 hu ⟨.bl _, H, I, rfl, q⟩
theorem op_neD (hu : X.A.units + 64 < cLine) : OpR X (compareOp .NotEq) (rEqD X.K true) := by
  intro pins s σ H x y v u Q I rx ry h
  obtain ⟨dx, dy, h1, h2, s1, s2, q⟩ := h
  obtain ⟨as, z1⟩ := I.reads h1 rx
  obtain ⟨bs, z2⟩ := I.reads h2 ry
  exact ne_dataH z1 z2 s1 s2 hu ⟨.bl _, H, I, rfl, q⟩
end
theorem sorted_is (x : Value) (kw : List (Str × Value)) : Builtin.«sorted» ⟨[x], kw⟩ = collect x >>= fun xs => newList xs >>= fun l => holding [l] (call (.builtin "list.sort") [l] kw) >>= fun _ => ret l := rfl
section
variable {X : Cx}
theorem call_sortedI : CallR X (.builtin "sorted") (fun xs H Q => ∃ (p : Addr) (ns : List Int), xs = [.ref p] ∧ (SqL X.K H p (ns.map V.int) ∨ SqT X.K H p (ns.map V.int)) ∧ ns.length < 64 ∧
    ∀ (l : Addr) (ms : List Int), H l = none → ms.Perm ns → ms.Pairwise (· ≤ ·) → Q (.ref l) (upd H l (.lst (ms.map V.int)))) := by
  intro pins s σ H xs us Q I r h
  obtain ⟨p, ns, rfl, hq, h64, q⟩ := h
  obtain ⟨u, rfl, ru⟩ := vals1 r
  cases ru
  obtain ⟨T, o, its, n, hT, ho, hc, hd, rv, hz⟩ : ∃ T o its n, (T = "list" ∨ T = "tuple") ∧ s.heap.get? p = some o ∧ o.cls = .type T ∧ o.data = .seq its n ∧ Vals (ns.map V.int) its.toList ∧ (ns.map V.int).length ≤ sizeLine := by
    rcases hq with hq | hq
    · obtain ⟨its, rv, ⟨o, n, ho, hc, _, hd⟩, hz⟩ := I.list hq
      exact ⟨"list", o, its.toArray, n, .inl rfl, ho, hc, hd, by simpa using rv, hz⟩
    · obtain ⟨its, rv, ⟨o, ho, hc, n, hd⟩, hz⟩ := I.tuple hq
      exact ⟨"tuple", o, its.toArray, n, .inr rfl, ho, hc, hd, by simpa using rv, hz⟩
  have hl := rv.length
  have hI : IntsAre its.toList ns := intsAre_of rv
  rw [List.length_map] at hl hz
  have fits : its.size ≤ sizeLine := by have z := its.length_toList; bv_omega
  refine Calls.call_function_entry kind_sorted plain_sorted entry_sorted (args_sorted1 (.ref p)) ?_
  rw [sorted_is]
  refine wpAny_bind (wpAny_collect_seq p hT ho hc hd (fun h' kp => wpAny_bind (wpAny_newList ?_)) fits)
  have hoL : (h'.push (seqObj "list" its.toList.toArray 0)).get? h'.objs.size = some (seqObj "list" its.toList.toArray 0) := Heap.get?_push_size _ rfl
  refine wpAny_bind (wpAny_holding (wpAny_call_entry slot_list_sort ⟨_, hoL, rfl⟩ entry_list_sort (list_sort_tree hoL hI (by bv_omega) fun out ns' a1 a2 a3 => ⟨_, rfl, ?_⟩) (args_list_sort _)))
  refine wpAny_pure ⟨_, rfl, ?_⟩
  have I1 : Inv X pins σ H { s with heap := h' } := I.kept (t' := s.toks) kp
  have hfresh : H h'.objs.size = none := I1.hok.fresh (Nat.le_refl _)
  have ov : Vals (ns'.map V.int) out.toList := vals_ints a1
  have hlen : ns'.length = ns.length := a2.length_eq
  refine ⟨.ref h'.objs.size, _, I1.laid (t' := s.toks) (o := .lst (ns'.map V.int)) (fun b ob e => ?_) (Nat.le_refl _) ?_, rfl, q _ ns' hfresh a2 a3⟩
  · have hb := Heap.lt_size e
    rw [sortedHeap_old (Nat.ne_of_lt hb) (by rw [size_push']; exact Nat.lt_succ_of_lt hb)]
    exact Heap.get?_push_of_some _ e
  · obtain ⟨e, he⟩ : ∃ e, (sortedHeap (h'.push (seqObj "list" its.toList.toArray 0)) h'.objs.size its.toList out).get? h'.objs.size = some (seqObj "list" out e) := by
      exact sortedHeap_at hoL
    exact ⟨by rw [List.length_map]; bv_omega, out.toList, e, ov, by simpa using he⟩
end
section
variable {X : Cx}
end
end L2
set_option maxHeartbeats 4000000
namespace L2.L3
open PySem PySem.Spec PyProof.Rows
abbrev D := PyData
inductive Res (α : Type) where
  | ok (a : α)
  | ex (c : Str)
  | no
namespace Res
def bind {α β : Type} : Res α → (α → Res β) → Res β
  | .ok a, f => f a
  | .ex c, _ => .ex c
  | .no, _ => .no
def post {α : Type} : Res α → (α → Prop) → (Str → Prop) → Prop
  | .ok a, Q, _ => Q a
  | .ex c, _, E => E c
  | .no, _, _ => False
theorem post_bind {α β : Type} {r : Res α} {f : α → Res β} {Q : β → Prop} {E : Str → Prop} (h : (r.bind f).post Q E) : r.post (fun a => (f a).post Q E) E := by
  cases r <;> exact h
theorem post_mono {α : Type} {r : Res α} {Q Q' : α → Prop} {E E' : Str → Prop} (h : r.post Q E) (hQ : ∀ a, r = .ok a → Q a → Q' a) (hE : ∀ c, E c → E' c) : r.post Q' E' := by
  cases r with
  | ok a => exact hQ a rfl h
  | ex c => exact hE c h
  | no => exact h
def lft {α : Type} : Option α → Res α
  | some a => .ok a
  | none => .no
theorem post_lft {α : Type} {o : Option α} {Q : α → Prop} {E : Str → Prop} (h : (lft o).post Q E) : ∃ a, o = some a ∧ Q a := by
  cases o with
  | none => exact h.elim
  | some a => exact ⟨a, rfl, h⟩
@[simp] theorem bind_ok {α β : Type} (a : α) (f : α → Res β) : (Res.ok a).bind f = f a := rfl
@[simp] theorem bind_no {α β : Type} (f : α → Res β) : (Res.no : Res α).bind f = .no := rfl
@[simp] theorem bind_ex {α β : Type} (c : Str) (f : α → Res β) : (Res.ex c : Res α).bind f = .ex c := rfl
@[simp] theorem lft_some {α : Type} (a : α) : lft (some a) = .ok a := rfl
@[simp] theorem lft_none {α : Type} : lft (none : Option α) = .no := rfl
end Res
class CN where
  ad : Str → Addr
instance (priority := low) cn0 : CN := ⟨fun _ => 0⟩
abbrev excD (c : Str) : D := .dict [(.list [], .str c)]
variable [CN]
def excP (a : Addr) (c : Str) : Heap → Prop := fun h => ∃ o, h.get? a = some o ∧ o.cls = .ref (CN.ad c)
mutual
inductive Rep (H : Hp) (O : Addr → Prop) : V → D → Prop
  | non : Rep H O .non .none
  | bl (b : Bool) : Rep H O (.bl b) (.bool b)
  | int (i : Int) : Rep H O (.int i) (.int i)
  | str (x : Str) : Rep H O (.str x) (.str x)
  | lst {a : Addr} {xs : List V} {ds : List D} : Rd H a (.lst xs) → ¬ O a → Reps H O xs ds → Rep H O (.ref a) (.list ds)
  | tup {a : Addr} {xs : List V} {ds : List D} : Rd H a (.tup xs) → ¬ O a → Reps H O xs ds → Rep H O (.ref a) (.tuple ds)
  | exc {a : Addr} {c : Str} : H a = some (.ext (excP a c)) → ¬ O a → Rep H O (.ref a) (.dict [(.list [], .str c)])
inductive Reps (H : Hp) (O : Addr → Prop) : List V → List D → Prop
  | nil : Reps H O [] []
  | cons {v : V} {d : D} {vs : List V} {ds : List D} : Rep H O v d → Reps H O vs ds → Reps H O (v :: vs) (d :: ds)
end
theorem rd_some {H : Hp} {a : Addr} {u : HO} (h : Rd H a u) : H a ≠ none := by
  rcases h with h | ⟨o, h⟩ <;> (rw [h]; exact fun z => nomatch z)
theorem rd_keep {H H' : Hp} {a : Addr} {u : HO} (h : Rd H a u) (k : ∀ o, H a = some o → H' a = some o) : Rd H' a u := by
  rcases h with h | ⟨o, h⟩
  · exact .inl (k _ h)
  · exact .inr ⟨o, k _ h⟩
section
variable {H H' : Hp} {O O' : Addr → Prop}
mutual
theorem Rep.keep (k : ∀ b o, H b = some o → ¬ O b → H' b = some o) (s : ∀ b, H b ≠ none → O' b → O b) : ∀ {v : V} {d : D}, Rep H O v d → Rep H' O' v d
  | _, _, .non => .non
  | _, _, .bl b => .bl b
  | _, _, .int i => .int i
  | _, _, .str x => .str x
  | _, _, .lst r n t => .lst (rd_keep r fun o e => k _ o e n) (fun z => n (s _ (rd_some r) z)) (Reps.keep k s t)
  | _, _, .tup r n t => .tup (rd_keep r fun o e => k _ o e n) (fun z => n (s _ (rd_some r) z)) (Reps.keep k s t)
  | _, _, .exc r n => .exc (k _ _ r n) (fun z => n (s _ (by rw [r]; exact fun z => nomatch z) z))
theorem Reps.keep (k : ∀ b o, H b = some o → ¬ O b → H' b = some o) (s : ∀ b, H b ≠ none → O' b → O b) : ∀ {vs : List V} {ds : List D}, Reps H O vs ds → Reps H' O' vs ds
  | _, _, .nil => .nil
  | _, _, .cons h t => .cons (Rep.keep k s h) (Reps.keep k s t)
end
mutual
theorem Rep.dat {K : PySem.W.Frag} : ∀ {v : V} {d : D}, Rep H O v d → PyData.canLay0 d = true → DatV K H v d
  | _, _, .non, _ => .non
  | _, _, .bl b, _ => .bl b
  | _, _, .int i, _ => .int i
  | _, _, .str x, _ => .str x
  | _, _, .lst r n t, c => .lst (.inl r) (Reps.dat t c)
  | _, _, .tup r n t, c => .tup (.inl r) (Reps.dat t c)
  | _, _, .exc r n, c => by cases c
theorem Reps.dat {K : PySem.W.Frag} : ∀ {vs : List V} {ds : List D}, Reps H O vs ds → PyData.canLayAll0 ds = true → DatAll K H vs ds
  | _, _, .nil, _ => .nil
  | _, _, .cons h t, c => .cons (Rep.dat h (Bool.and_eq_true_iff.mp c).1) (Reps.dat t (Bool.and_eq_true_iff.mp c).2)
end
theorem Rep.same {v : V} {d : D} (h : Rep H O v d) (s : Same H H') : Rep H' O v d := h.keep (fun b o e _ => s b o e) fun _ _ z => z
theorem Reps.same {v : List V} {d : List D} (h : Reps H O v d) (s : Same H H') : Reps H' O v d := h.keep (fun b o e _ => s b o e) fun _ _ z => z
theorem Rep.less {v : V} {d : D} (h : Rep H O v d) (s : ∀ b, O' b → O b) : Rep H O' v d := h.keep (fun b o e _ => e) fun b _ z => s b z
theorem Reps.less {v : List V} {d : List D} (h : Reps H O v d) (s : ∀ b, O' b → O b) : Reps H O' v d := h.keep (fun b o e _ => e) fun b _ z => s b z
theorem Reps.length : ∀ {vs : List V} {ds : List D}, Reps H O vs ds → vs.length = ds.length
  | _, _, .nil => rfl
  | _, _, .cons _ t => congrArg (· + 1) (Reps.length t)
theorem Reps.get : ∀ {vs : List V} {ds : List D} {i : Nat} {d : D}, Reps H O vs ds → ds[i]? = some d → ∃ v, vs[i]? = some v ∧ Rep H O v d
  | _, _, _, _, .nil, e => by simp at e
  | _, _, 0, _, .cons r _, e => by simp at e; subst e; exact ⟨_, rfl, r⟩
  | _, _, i + 1, d, .cons _ t, e => by
    obtain ⟨u, h1, h2⟩ := Reps.get (i := i) (d := d) t (by simpa using e)
    exact ⟨u, by simpa using h1, h2⟩
theorem Reps.of : ∀ {vs : List V} {ds : List D} {i : Nat} {v : V}, Reps H O vs ds → vs[i]? = some v → ∃ d, ds[i]? = some d ∧ Rep H O v d
  | _, _, _, _, .nil, e => by simp at e
  | _, _, 0, _, .cons r _, e => by simp at e; subst e; exact ⟨_, rfl, r⟩
  | _, _, i + 1, v, .cons _ t, e => by
    obtain ⟨u, h1, h2⟩ := Reps.of (i := i) (v := v) t (by simpa using e)
    exact ⟨u, by simpa using h1, h2⟩
theorem Reps.append : ∀ {vs ws : List V} {ds es : List D}, Reps H O vs ds → Reps H O ws es → Reps H O (vs ++ ws) (ds ++ es)
  | _, _, _, _, .nil, s => s
  | _, _, _, _, .cons r t, s => .cons r (Reps.append t s)
theorem Reps.one {v : V} {d : D} (h : Rep H O v d) : Reps H O [v] [d] := .cons h .nil
theorem Reps.set {x : V} {u : D} (r : Rep H O x u) : ∀ {vs : List V} {ds : List D} (i : Nat), Reps H O vs ds → Reps H O (vs.set i x) (ds.set i u)
  | _, _, _, .nil => .nil
  | _, _, 0, .cons _ t => .cons r t
  | _, _, i + 1, .cons q t => .cons q (Reps.set r i t)
theorem Reps.take : ∀ {vs : List V} {ds : List D} (n : Nat), Reps H O vs ds → Reps H O (vs.take n) (ds.take n)
  | _, _, 0, _ => .nil
  | _, _, _ + 1, .nil => .nil
  | _, _, n + 1, .cons r t => .cons r (Reps.take n t)
theorem Reps.drop : ∀ {vs : List V} {ds : List D} (n : Nat), Reps H O vs ds → Reps H O (vs.drop n) (ds.drop n)
  | _, _, 0, r => r
  | _, _, _ + 1, .nil => .nil
  | _, _, n + 1, .cons _ t => Reps.drop n t
theorem Reps.erase : ∀ {vs : List V} {ds : List D} (i : Nat), Reps H O vs ds → Reps H O (vs.eraseIdx i) (ds.eraseIdx i)
  | _, _, _, .nil => .nil
  | _, _, 0, .cons _ t => t
  | _, _, i + 1, .cons r t => .cons r (Reps.erase i t)
theorem Reps.rep {vs : List V} {ds : List D} (h : Reps H O vs ds) : ∀ k : Nat, Reps H O (List.replicate k vs).flatten (List.replicate k ds).flatten
  | 0 => .nil
  | k + 1 => by
    rw [List.replicate_succ, List.replicate_succ, List.flatten_cons, List.flatten_cons]
    exact h.append (Reps.rep h k)
theorem Reps.insert {x : V} {u : D} (r : Rep H O x u) {vs : List V} {ds : List D} (i : Nat) (h : Reps H O vs ds) : Reps H O (vs.take i ++ x :: vs.drop i) (ds.take i ++ u :: ds.drop i) :=
  (h.take i).append (.cons r (h.drop i))
theorem reps_ints : ∀ (ns : List Int), Reps H O (ns.map V.int) (ns.map PyData.int)
  | [] => .nil
  | n :: ns => .cons (.int n) (reps_ints ns)
theorem Reps.ints : ∀ {ns : List Int} {vs : List V}, Reps H O vs (ns.map PyData.int) → vs = ns.map V.int
  | [], _, h => by cases h; rfl
  | n :: ns, _, h => by
    cases h with
    | cons r t => cases r; rw [Reps.ints t]; rfl
end
abbrev Ev := List (Option D)
structure Wd where
  o : Addr → Prop
  la : Nat → Addr
instance : CoeFun Wd (fun _ => Addr → Prop) := ⟨Wd.o⟩
abbrev Uni (Oc : Wd) (Ob : Addr → Prop) : Addr → Prop := fun b => Oc b ∨ Ob b
def OwnAt (H : Hp) (Oc : Wd) (Ob : Addr → Prop) (v : V) (d : D) : Prop := ∃ a ys ds, v = .ref a ∧ d = .list ds ∧ H a = some (.lst ys) ∧ Ob a ∧ Reps H (Uni Oc Ob) ys ds
def LentAt (i : Nat) (H : Hp) (Oc : Wd) (Ob : Addr → Prop) (v : V) (d : D) : Prop := ∃ ys ds, v = .ref (Oc.la i) ∧ d = .list ds ∧ H (Oc.la i) = some (.lst ys) ∧ Oc (Oc.la i) ∧ Reps H (Uni Oc Ob) ys ds
structure Rel (Oc : Wd) (Ob : Addr → Prop) (om ln : List Nat) (σ : St) (H : Hp) (ρ : Ev) : Prop where
  len : σ.length = ρ.length
  val : ∀ i d, ρ[i]? = some (some d) → i ∉ om → i ∉ ln → ∃ v, σ[i]? = some (some v) ∧ Rep H (Uni Oc Ob) v d
  own : ∀ i d, ρ[i]? = some (some d) → i ∈ om → ∃ v, σ[i]? = some (some v) ∧ OwnAt H Oc Ob v d
  lnt : ∀ i d, ρ[i]? = some (some d) → i ∉ om → i ∈ ln → ∃ v, σ[i]? = some (some v) ∧ LentAt i H Oc Ob v d
  inj : ∀ i j di dj a, ρ[i]? = some (some di) → ρ[j]? = some (some dj) → i ∈ om → j ∈ om → σ[i]? = some (some (.ref a)) → σ[j]? = some (some (.ref a)) → i = j
  oh : ∀ a, Oc a ∨ Ob a → H a ≠ none
  ap : ∀ a, Ob a → ¬ Oc a
section
variable {Oc : Wd} {Ob : Addr → Prop} {om ln : List Nat} {σ : St} {H H' : Hp} {ρ : Ev}
theorem Same.ne {b : Addr} (s : Same H H') (h : H b ≠ none) : H' b ≠ none := by
  cases e : H b with
  | none => exact absurd e h
  | some o => rw [s b o e]; exact fun z => nomatch z
theorem Rel.same (R : Rel Oc Ob om ln σ H ρ) (s : Same H H') : Rel Oc Ob om ln σ H' ρ where
  len := R.len
  val := fun i d e h1 h2 => let ⟨v, a, b⟩ := R.val i d e h1 h2; ⟨v, a, b.same s⟩
  own := fun i d e h1 => let ⟨v, q, a, ys, ds, e1, e2, e3, e4, e5⟩ := R.own i d e h1; ⟨v, q, a, ys, ds, e1, e2, s _ _ e3, e4, e5.same s⟩
  lnt := fun i d e h1 h2 => let ⟨v, q, ys, ds, e1, e2, e3, e4, e5⟩ := R.lnt i d e h1 h2; ⟨v, q, ys, ds, e1, e2, s _ _ e3, e4, e5.same s⟩
  inj := R.inj
  oh := fun a h => Same.ne s (R.oh a h)
  ap := R.ap
end
inductive Md where
  | cl
  | rd
  | any
  | new
def VA (Oc : Wd) (Ob : Addr → Prop) (H : Hp) (v : V) (d : D) : Prop :=
  Rep H (Uni Oc Ob) v d ∨ ∃ a ys ds, v = .ref a ∧ d = .list ds ∧ H a = some (.lst ys) ∧ Reps H (Uni Oc Ob) ys ds
def VR : Md → Wd → (Addr → Prop) → Hp → Hp → V → D → Prop
  | .cl, Oc, Ob, _, H', v, d => Rep H' (Uni Oc Ob) v d
  | .rd, Oc, Ob, _, H', v, d => Rep H' (Uni Oc Ob) v d ∨ ∃ a ys ds, v = .ref a ∧ d = .list ds ∧ H' a = some (.lst ys) ∧ ¬ Ob a ∧ Reps H' (Uni Oc Ob) ys ds
  | .any, Oc, Ob, _, H', v, d => VA Oc Ob H' v d
  | .new, Oc, Ob, H, H', v, d => ∃ a ys ds, v = .ref a ∧ d = .list ds ∧ H a = none ∧ H' a = some (.lst ys) ∧ Reps H' (fun b => Uni Oc Ob b ∨ b = a) ys ds
section
variable {Oc : Wd} {Ob : Addr → Prop} {H H1 H2 : Hp} {v : V} {d : D} {md : Md}
theorem VR.same (h : VR md Oc Ob H H1 v d) (s : Same H1 H2) : VR md Oc Ob H H2 v d := by
  cases md with
  | cl => exact Rep.same h s
  | rd =>
    rcases h with h | ⟨a, ys, ds, e1, e2, e3, e4, e5⟩
    · exact .inl (Rep.same h s)
    · exact .inr ⟨a, ys, ds, e1, e2, s _ _ e3, e4, e5.same s⟩
  | any =>
    rcases h with h | ⟨a, ys, ds, e1, e2, e3, e5⟩
    · exact .inl (Rep.same h s)
    · exact .inr ⟨a, ys, ds, e1, e2, s _ _ e3, e5.same s⟩
  | new =>
    obtain ⟨a, ys, ds, e1, e2, e3, e4, e5⟩ := h
    exact ⟨a, ys, ds, e1, e2, e3, s _ _ e4, e5.same s⟩
theorem VR.from (h : VR md Oc Ob H1 H2 v d) (s : Same H H1) : VR md Oc Ob H H2 v d := by
  cases md with
  | new =>
    obtain ⟨a, ys, ds, e1, e2, e3, e4, e5⟩ := h
    exact ⟨a, ys, ds, e1, e2, s.free e3, e4, e5⟩
  | _ => exact h
theorem VR.clean (h : VR .new Oc Ob H H1 v d) (oh : ∀ a, Oc a ∨ Ob a → H a ≠ none) : VR .cl Oc Ob H H1 v d := by
  obtain ⟨a, ys, ds, rfl, rfl, e3, e4, e5⟩ := h
  exact .lst (.inl e4) (fun z => oh a z e3) (e5.less fun b z => .inl z)
theorem VR.va (h : VR md Oc Ob H H1 v d) (oh : ∀ a, Oc a ∨ Ob a → H a ≠ none) : VA Oc Ob H1 v d := by
  cases md with
  | cl => exact .inl h
  | rd =>
    rcases h with h | ⟨a, ys, ds, e1, e2, e3, e4, e5⟩
    · exact .inl h
    · exact .inr ⟨a, ys, ds, e1, e2, e3, e5⟩
  | any => exact h
  | new => exact .inl (VR.clean h oh)
theorem VA.dat {K : PySem.W.Frag} (h : VA Oc Ob H v d) (c : PyData.canLay0 d = true) : DatV K H v d := by
  rcases h with h | ⟨a, ys, ds, rfl, rfl, e3, e5⟩
  · exact h.dat c
  · exact .lst (SqL.of e3) (e5.dat c)
theorem VA.datS {K : PySem.W.Frag} (h : VA Oc Ob H v d) (c : SeqAt.shaped d = true) : DatV K H v d := h.dat (SeqAt.canLay_of_shaped c)
theorem VA.list {ds : List D} (h : VA Oc Ob H v (.list ds)) : ∃ a ys, v = .ref a ∧ Rd H a (.lst ys) ∧ Reps H (Uni Oc Ob) ys ds := by
  rcases h with h | ⟨a, ys, ds, rfl, e, e3, e5⟩
  · cases h with
    | lst r n t => exact ⟨_, _, rfl, r, t⟩
  · cases e
    exact ⟨a, ys, rfl, .inl e3, e5⟩
theorem VA.tuple {ds : List D} (h : VA Oc Ob H v (.tuple ds)) : ∃ a ys, v = .ref a ∧ Rd H a (.tup ys) ∧ Reps H (Uni Oc Ob) ys ds := by
  rcases h with h | ⟨a, ys, ds, rfl, e, e3, e5⟩
  · cases h with
    | tup r n t => exact ⟨_, _, rfl, r, t⟩
  · cases e
theorem VA.int {i : Int} (h : VA Oc Ob H v (.int i)) : v = .int i := by
  rcases h with h | ⟨a, ys, ds, rfl, e, e3, e5⟩
  · cases h; rfl
  · cases e
theorem VA.bool {i : Bool} (h : VA Oc Ob H v (.bool i)) : v = .bl i := by
  rcases h with h | ⟨a, ys, ds, rfl, e, e3, e5⟩
  · cases h; rfl
  · cases e
theorem VA.rep (h : VA Oc Ob H v d) : Rep H (fun _ => False) v d := by
  rcases h with h | ⟨a, ys, ds, rfl, rfl, e3, e5⟩
  · exact h.less fun _ z => z.elim
  · exact .lst (.inl e3) (fun z => z) (e5.less fun _ z => z.elim)
end
structure Ct where
  X : Cx
  XE : Str → Hp → Prop
  om : List Nat
  ln : List Nat
def RE (C : Ct) (md : Md) (e : Expr) (m : Ev → Res D) : Prop :=
  ∃ t, PE C.X e t ∧ ∀ (Oc : Wd) (Ob : Addr → Prop) (σ : St) (H : Hp) (ρ : Ev) (Q : VK), Rel Oc Ob C.om C.ln σ H ρ →
    (m ρ).post (fun d => ∀ v H', Same H H' → VR md Oc Ob H H' v d → Q v H') (fun c => ∀ H', Same H H' → C.XE c H') → t σ H Q
def RT (C : Ct) (e : Expr) (m : Ev → Res Bool) : Prop :=
  ∃ t, PT C.X e t ∧ ∀ (Oc : Wd) (Ob : Addr → Prop) (σ : St) (H : Hp) (ρ : Ev) (Q : Bool → Hp → Prop), Rel Oc Ob C.om C.ln σ H ρ →
    (m ρ).post (fun b => ∀ H', Same H H' → Q b H') (fun c => ∀ H', Same H H' → C.XE c H') → t σ H Q
def RW (C : Ct) (e : Expr) (m : Ev → Res Bool) : Prop :=
  ∃ t, PW C.X e t ∧ ∀ (Oc : Wd) (Ob : Addr → Prop) (σ : St) (H : Hp) (ρ : Ev) (Q : Bool → Hp → Prop), Rel Oc Ob C.om C.ln σ H ρ →
    (m ρ).post (fun b => ∀ H', Same H H' → Q b H') (fun c => ∀ H', Same H H' → C.XE c H') → t σ H Q
inductive Out where
  | nx (ρ : Ev)
  | rt (d : D)
def Frm (Ob : Addr → Prop) (H H' : Hp) : Prop := ∀ b o, H b = some o → ¬ Ob b → H' b = some o
theorem Same.frm {Ob : Addr → Prop} {H H' : Hp} (s : Same H H') : Frm Ob H H' := fun b o e _ => s b o e
def RetOk : Bool → Wd → (Addr → Prop) → Hp → Hp → V → D → Prop
  | true, Oc, Ob, H, H', v, d => ∃ a ys ds, v = .ref a ∧ d = .list ds ∧ (H a = none ∨ Ob a) ∧ ¬ Oc a ∧ H' a = some (.lst ys) ∧ Reps H' (fun b => Oc b ∨ b = a) ys ds
  | false, Oc, _, _, H', v, d => Rep H' Oc.o v d
def SPost (C : Ct) (fr : Bool) (Oc : Wd) (Ob : Addr → Prop) (H : Hp) (E : Ends) (r : Res Out) : Prop :=
  r.post (fun o => match o with
    | .nx ρ' => ∀ σ' H' Ob', Rel Oc Ob' C.om C.ln σ' H' ρ' → Frm Ob H H' → (∀ b, Ob' b → Ob b ∨ H b = none) → E.nx σ' H'
    | .rt d => ∀ v H', Frm Ob H H' → RetOk fr Oc Ob H H' v d → E.rt v H') (fun c => ∀ H', Frm Ob H H' → C.XE c H')
def RS (C : Ct) (fr : Bool) (st : Stmt) (m : Ev → Res Out) : Prop :=
  ∃ t, PS C.X st t ∧ ∀ (Oc : Wd) (Ob : Addr → Prop) (σ : St) (H : Hp) (ρ : Ev) (E : Ends), Rel Oc Ob C.om C.ln σ H ρ → SPost C fr Oc Ob H E (m ρ) → t E σ H
def RSs (C : Ct) (fr : Bool) (st : List Stmt) (m : Ev → Res Out) : Prop :=
  ∃ t, PSs C.X st t ∧ ∀ (Oc : Wd) (Ob : Addr → Prop) (σ : St) (H : Hp) (ρ : Ev) (E : Ends), Rel Oc Ob C.om C.ln σ H ρ → SPost C fr Oc Ob H E (m ρ) → t E σ H
section
variable {C : Ct} {fr : Bool} {Oc : Wd} {Ob Ob1 Ob2 : Addr → Prop} {H H1 H2 : Hp} {E : Ends} {r : Res Out}
theorem Frm.trans (f : Frm Ob H H1) (s : ∀ b, Ob1 b → Ob b ∨ H b = none) (g : Frm Ob1 H1 H2) : Frm Ob H H2 := fun b o e n =>
  g b o (f b o e n) fun z => (s b z).elim n fun q => by rw [e] at q; cases q
theorem Frm.none (f : Frm Ob H H1) {b : Addr} (h : H1 b = none) : Ob b ∨ H b = none := by
  by_cases n : Ob b
  · exact .inl n
  · cases e : H b with
    | none => exact .inr rfl
    | some o => rw [f b o e n] at h; cases h
theorem SPost.step (f : Frm Ob H H1) (s : ∀ b, Ob1 b → Ob b ∨ H b = none) (h : SPost C fr Oc Ob H E r) : SPost C fr Oc Ob1 H1 E r := by
  refine Res.post_mono h (fun o _ q => ?_) fun c q H' g => q H' (f.trans s g)
  cases o with
  | nx ρ' => exact fun σ' H' Ob' R g s' => q σ' H' Ob' R (f.trans s g) fun b z => (s' b z).elim (s b) fun z => f.none z
  | rt d =>
    refine fun v H' g k => q v H' (f.trans s g) ?_
    cases fr with
    | false => exact k
    | true =>
      obtain ⟨a, ys, ds, e1, e2, e3, e4, e5, e6⟩ := k
      refine ⟨a, ys, ds, e1, e2, ?_, e4, e5, e6⟩
      rcases e3 with e3 | e3
      · exact (f.none e3).symm
      · exact (s a e3).symm
theorem SPost.same (f : Same H H1) (h : SPost C fr Oc Ob H E r) : SPost C fr Oc Ob H1 E r := h.step (Same.frm f) fun b z => .inl z
end
end L2.L3
set_option maxHeartbeats 4000000
namespace L2.L3
open PySem PySem.Spec PyProof.Rows
variable [CN]
section
variable {C : Ct} {a b c e : Expr} {es : List Expr} {pos : Pos} {md mda mdb mdc : Md} {ma mb mc : Ev → Res D}
theorem RE.cl (h : RE C .new e ma) : RE C .cl e ma := by
  obtain ⟨t, p, q⟩ := h
  exact ⟨t, p, fun Oc Ob σ H ρ Q R h => q Oc Ob σ H ρ Q R (Res.post_mono h (fun d _ k v H' s r => k v H' s (VR.clean r R.oh)) fun _ z => z)⟩
theorem RE.rd (h : RE C .cl e ma) : RE C .rd e ma := by
  obtain ⟨t, p, q⟩ := h
  exact ⟨t, p, fun Oc Ob σ H ρ Q R h => q Oc Ob σ H ρ Q R (Res.post_mono h (fun d _ k v H' s r => k v H' s (.inl r)) fun _ z => z)⟩
def eC (d : D) : Ev → Res D := fun _ => .ok d
theorem yF {i j} : RE C .cl (.Constant (.int i) j pos) (eC (.int i)) := ⟨_, pe_int, fun Oc Ob σ H ρ Q R h => h _ H (Same.refl H) (Rep.int i)⟩
theorem uX {i j} : RE C .cl (.Constant (.bool i) j pos) (eC (.bool i)) := ⟨_, pe_bl, fun Oc Ob σ H ρ Q R h => h _ H (Same.refl H) (Rep.bl i)⟩
theorem re_non {j} : RE C .cl (.Constant .none j pos) (eC .none) := ⟨_, pe_non, fun Oc Ob σ H ρ Q R h => h _ H (Same.refl H) Rep.non⟩
theorem vV {i j} : RE C .cl (.Constant (.str i) j pos) (eC (.str i)) := ⟨_, pe_str, fun Oc Ob σ H ρ Q R h => h _ H (Same.refl H) (Rep.str i)⟩
def eV (i : Nat) : Ev → Res D := fun ρ => match ρ[i]? with
  | some (some d) => .ok d
  | _ => .no
theorem eV_post {i : Nat} {ρ : Ev} {Q : D → Prop} {E : Str → Prop} (h : (eV i ρ).post Q E) : ∃ d, ρ[i]? = some (some d) ∧ Q d := by
  unfold eV at h
  split at h
  · exact ⟨_, by assumption, h⟩
  · exact h.elim
theorem not_mem_of {i : Nat} {l : List Nat} (h : l.contains i = false) : i ∉ l := by
  intro z
  rw [List.contains_iff_mem.mpr z] at h
  cases h
theorem mem_of {i : Nat} {l : List Nat} (h : l.contains i = true) : i ∈ l := List.contains_iff_mem.mp h
theorem zZ (i : Nat) {x : Str} (hN : autoParam (C.X.N[i]? = some x) autoK5._auto_1) (ho : autoParam (C.om.contains i = false) autoK5._auto_1) (hl : autoParam (C.ln.contains i = false) autoK5._auto_1) (hv : autoParam (Vis C.X.env.scope x) autoK8._auto_1) (hd : autoParam ((x == ("__debug__" : Str)) = false) autoK2._auto_1)
    (hcd : autoParam ((x == ("__classdict__" : Str)) = false) autoK2._auto_1) : RE C .cl (.Name x pos) (eV i) := by
  refine ⟨_, pe_var hN hv hd hcd, fun Oc Ob σ H ρ Q R h => ?_⟩
  obtain ⟨d, e, k⟩ := eV_post h
  obtain ⟨v, q, r⟩ := R.val i d e (not_mem_of ho) (not_mem_of hl)
  exact ⟨v, q, k v H (Same.refl H) r⟩
theorem vP (i : Nat) {x : Str} (hN : autoParam (C.X.N[i]? = some x) autoK5._auto_1) (ho : autoParam (C.om.contains i = true) autoK5._auto_1) (hv : autoParam (Vis C.X.env.scope x) autoK8._auto_1) (hd : autoParam ((x == ("__debug__" : Str)) = false) autoK2._auto_1)
    (hcd : autoParam ((x == ("__classdict__" : Str)) = false) autoK2._auto_1) : RE C .any (.Name x pos) (eV i) := by
  refine ⟨_, pe_var hN hv hd hcd, fun Oc Ob σ H ρ Q R h => ?_⟩
  obtain ⟨d, e, k⟩ := eV_post h
  obtain ⟨v, q, a, ys, ds, e1, e2, e3, e4, e5⟩ := R.own i d e (mem_of ho)
  exact ⟨v, q, k v H (Same.refl H) (.inr ⟨a, ys, ds, e1, e2, e3, e5⟩)⟩
theorem re_globI {x : Str} {i : Int} {u : Value} (hm : C.X.mg x = some u) (r : RelV (.int i) u) (hg : autoParam (Gl C.X x) autoK5._auto_1) (hd : autoParam ((x == ("__debug__" : Str)) = false) autoK2._auto_1) : RE C .cl (.Name x pos) (eC (.int i)) :=
  ⟨_, pe_glob hg hm r hd, fun Oc Ob σ H ρ Q R h => h _ H (Same.refl H) (Rep.int i)⟩
def e2 (f : D → D → Option D) (m n : Ev → Res D) : Ev → Res D := fun ρ => (m ρ).bind fun x => (n ρ).bind fun y => Res.lft (f x y)
def Pr2 (r : R2) (md : Md) (f : D → D → Option D) : Prop :=
  ∀ (Oc : Wd) (Ob : Addr → Prop) (H : Hp) (x y : V) (dx dy d : D) (Q : VK), (∀ a, Oc a ∨ Ob a → H a ≠ none) → VA Oc Ob H x dx → VA Oc Ob H y dy → f dx dy = some d → (∀ v H', Same H H' → VR md Oc Ob H H' v d → Q v H') → r x y H Q
theorem two {ta tb : TE} {f : D → D → Option D} {r : R2} (ha : ∀ (Oc : Wd) (Ob : Addr → Prop) (σ : St) (H : Hp) (ρ : Ev) (Q : VK), Rel Oc Ob C.om C.ln σ H ρ → (ma ρ).post (fun d => ∀ v H', Same H H' → VR mda Oc Ob H H' v d → Q v H') (fun c => ∀ H', Same H H' → C.XE c H') → ta σ H Q)
    (hb : ∀ (Oc : Wd) (Ob : Addr → Prop) (σ : St) (H : Hp) (ρ : Ev) (Q : VK), Rel Oc Ob C.om C.ln σ H ρ → (mb ρ).post (fun d => ∀ v H', Same H H' → VR mdb Oc Ob H H' v d → Q v H') (fun c => ∀ H', Same H H' → C.XE c H') → tb σ H Q) (hp : Pr2 r md f)
    {Oc : Wd} {Ob : Addr → Prop} {σ : St} {H : Hp} {ρ : Ev} {Q : VK} (R : Rel Oc Ob C.om C.ln σ H ρ) (h : (e2 f ma mb ρ).post (fun d => ∀ v H', Same H H' → VR md Oc Ob H H' v d → Q v H') (fun c => ∀ H', Same H H' → C.XE c H')) :
    ta σ H fun x H1 => tb σ H1 fun y H2 => r x y H2 Q := by
  refine ha Oc Ob σ H ρ _ R (Res.post_mono (Res.post_bind h) (fun dx _ q x H1 s1 vx => ?_) fun _ z => z)
  refine hb Oc Ob σ H1 ρ _ (R.same s1) (Res.post_mono (Res.post_bind q) (fun dy _ q y H2 s2 vy => ?_) fun c z H' s' => z H' (s1.trans s'))
  obtain ⟨d, e, q⟩ := Res.post_lft q
  have oh2 := ((R.same s1).same s2).oh
  refine hp Oc Ob H2 x y dx dy d Q oh2 ((vx.same s2).va R.oh) (vy.va (R.same s1).oh) e fun v H' s3 r => ?_
  exact q v H' ((s1.trans s2).trans s3) (r.from (s1.trans s2))
theorem wF {op : Operator} {r : R2} {f : D → D → Option D} (ho : OpR C.X (binaryOp op) r) (hp : Pr2 r md f) (ha : RE C mda a ma) (hb : RE C mdb b mb) : RE C md (.BinOp a op b pos) (e2 f ma mb) := by
  obtain ⟨ta, pa, qa⟩ := ha
  obtain ⟨tb, pb, qb⟩ := hb
  exact ⟨_, pe_op ho pa pb, fun Oc Ob σ H ρ Q R h => two qa qb hp R h⟩
theorem vS {r : R2} {f : D → D → Option D} (ho : IxR C.X r) (hp : Pr2 r md f) (ha : RE C mda a ma) (hb : RE C mdb b mb) (hs : autoParam (PlainIx b) autoK9._auto_1) : RE C md (.Subscript a b pos) (e2 f ma mb) := by
  obtain ⟨ta, pa, qa⟩ := ha
  obtain ⟨tb, pb, qb⟩ := hb
  exact ⟨_, pe_ix ho pa pb hs, fun Oc Ob σ H ρ Q R h => two qa qb hp R h⟩
def PrB (r : R2) (f : D → D → Option Bool) : Prop :=
  ∀ (Oc : Wd) (Ob : Addr → Prop) (H : Hp) (x y : V) (dx dy : D) (k : Bool) (Q : VK), VA Oc Ob H x dx → VA Oc Ob H y dy → f dx dy = some k → Q (.bl k) H → r x y H Q
def bD (o : Option Bool) : Option D := o.map PyData.bool
theorem PrB.pr {r : R2} {f : D → D → Option Bool} (h : PrB r f) : Pr2 r .cl (fun x y => bD (f x y)) := by
  intro Oc Ob H x y dx dy d Q oh vx vy e k
  cases ef : f dx dy with
  | none => simp only [ef] at e; cases e
  | some b =>
    simp only [ef] at e
    cases e
    exact h Oc Ob H x y dx dy b Q vx vy ef (k _ H (Same.refl H) (Rep.bl b))
theorem re_cmp {op : CmpOp} {r : R2} {f : D → D → Option Bool} (ho : OpR C.X (compareOp op) r) (hp : PrB r f) (ha : RE C mda a ma) (hb : RE C mdb b mb) (hm : autoParam (behindInMarks op b = false) autoK10._auto_1) : RE C .cl (.Compare a [op] [b] pos) (e2 (fun x y => bD (f x y)) ma mb) := by
  obtain ⟨ta, pa, qa⟩ := ha
  obtain ⟨tb, pb, qb⟩ := hb
  exact ⟨_, pe_cmpR ho pa pb hm, fun Oc Ob σ H ρ Q R h => two qa qb hp.pr R h⟩
def b2 (f : D → D → Option Bool) (m n : Ev → Res D) : Ev → Res Bool := fun ρ => (m ρ).bind fun x => (n ρ).bind fun y => Res.lft (f x y)
theorem two_bl {f : D → D → Option Bool} {ρ : Ev} {Q : Bool → Hp → Prop} {H : Hp} {E : Str → Prop} {Oc : Wd} {Ob : Addr → Prop} (h : (b2 f ma mb ρ).post (fun b => ∀ H', Same H H' → Q b H') E) :
    (e2 (fun x y => bD (f x y)) ma mb ρ).post (fun d => ∀ v H', Same H H' → VR .cl Oc Ob H H' v d → ∃ k, v = .bl k ∧ Q k H') E := by
  unfold e2
  unfold b2 at h
  cases ea : ma ρ with
  | no => rw [ea] at h; exact h
  | ex c => rw [ea] at h; exact h
  | ok x =>
    rw [ea] at h
    simp only [Res.bind_ok] at h ⊢
    cases eb : mb ρ with
    | no => rw [eb] at h; exact h
    | ex c => rw [eb] at h; exact h
    | ok y =>
      rw [eb] at h
      simp only [Res.bind_ok] at h ⊢
      obtain ⟨k, ek, q⟩ := Res.post_lft h
      rw [ek]
      intro v H' s r
      have : v = .bl k := by cases r; rfl
      exact ⟨k, this, q H' s⟩
theorem vU {op : CmpOp} {r : R2} {f : D → D → Option Bool} (ho : OpR C.X (compareOp op) r) (hp : PrB r f) (ha : RE C mda a ma) (hb : RE C mdb b mb) (hm : autoParam (behindInMarks op b = false) autoK10._auto_1) : RT C (.Compare a [op] [b] pos) (b2 f ma mb) := by
  obtain ⟨ta, pa, qa⟩ := ha
  obtain ⟨tb, pb, qb⟩ := hb
  exact ⟨_, pt_cmpR ho pa pb hm, fun Oc Ob σ H ρ Q R h => two qa qb hp.pr R (two_bl h)⟩
def b3 (f g : D → D → Option Bool) (m n o : Ev → Res D) : Ev → Res Bool := fun ρ => (m ρ).bind fun x => (n ρ).bind fun y => (Res.lft (f x y)).bind fun k => if k then (o ρ).bind fun z => Res.lft (g y z) else .ok false
theorem chain3 {ta tb tc : TE} {f g : D → D → Option Bool} {r r' : R2} (ha : ∀ (Oc : Wd) (Ob : Addr → Prop) (σ : St) (H : Hp) (ρ : Ev) (Q : VK), Rel Oc Ob C.om C.ln σ H ρ → (ma ρ).post (fun d => ∀ v H', Same H H' → VR mda Oc Ob H H' v d → Q v H') (fun c => ∀ H', Same H H' → C.XE c H') → ta σ H Q)
    (hb : ∀ (Oc : Wd) (Ob : Addr → Prop) (σ : St) (H : Hp) (ρ : Ev) (Q : VK), Rel Oc Ob C.om C.ln σ H ρ → (mb ρ).post (fun d => ∀ v H', Same H H' → VR mdb Oc Ob H H' v d → Q v H') (fun c => ∀ H', Same H H' → C.XE c H') → tb σ H Q)
    (hc : ∀ (Oc : Wd) (Ob : Addr → Prop) (σ : St) (H : Hp) (ρ : Ev) (Q : VK), Rel Oc Ob C.om C.ln σ H ρ → (mc ρ).post (fun d => ∀ v H', Same H H' → VR mdc Oc Ob H H' v d → Q v H') (fun c => ∀ H', Same H H' → C.XE c H') → tc σ H Q) (hp : PrB r f) (hp' : PrB r' g)
    {Oc : Wd} {Ob : Addr → Prop} {σ : St} {H : Hp} {ρ : Ev} {Q : VK} (R : Rel Oc Ob C.om C.ln σ H ρ) (h : (b3 f g ma mb mc ρ).post (fun d => ∀ H', Same H H' → Q (.bl d) H') (fun c => ∀ H', Same H H' → C.XE c H')) :
    tChain r r' ta tb tc σ H Q := by
  refine ha Oc Ob σ H ρ _ R (Res.post_mono (Res.post_bind h) (fun dx _ q x H1 s1 vx => ?_) fun _ z => z)
  refine hb Oc Ob σ H1 ρ _ (R.same s1) (Res.post_mono (Res.post_bind q) (fun dy _ q y H2 s2 vy => ?_) fun c z H' s' => z H' (s1.trans s'))
  obtain ⟨k, e, q⟩ := Res.post_lft (Res.post_bind q)
  have R2 := (R.same s1).same s2
  refine hp Oc Ob H2 x y dx dy k _ ((vx.same s2).va R.oh) (vy.va (R.same s1).oh) e ⟨k, rfl, ?_⟩
  cases k with
  | false => exact iteF (q H2 (s1.trans s2))
  | true =>
    refine iteT (hc Oc Ob σ H2 ρ _ R2 (Res.post_mono (Res.post_bind q) (fun dz _ q z H3 s3 vz => ?_) fun c z H' s' => z H' ((s1.trans s2).trans s')))
    obtain ⟨k, e, q⟩ := Res.post_lft q
    exact hp' Oc Ob H3 y z dy dz k _ ((vy.same s3).va (R.same s1).oh) (vz.va R2.oh) e (q H3 ((s1.trans s2).trans s3))
theorem rt_chain {op op' : CmpOp} {r r' : R2} {f g : D → D → Option Bool} (ho : OpR C.X (compareOp op) r) (ho' : OpR C.X (compareOp op') r') (hp : PrB r f) (hp' : PrB r' g) (ha : RE C mda a ma) (hb : RE C mdb b mb) (hc : RE C mdc c mc)
    (hm : autoParam (lastMarks [op, op'] [b, c] = false) autoK7._auto_1) : RT C (.Compare a [op, op'] [b, c] pos) (b3 f g ma mb mc) := by
  obtain ⟨ta, pa, qa⟩ := ha
  obtain ⟨tb, pb, qb⟩ := hb
  obtain ⟨tc, pc, qc⟩ := hc
  exact ⟨_, pt_chain ho ho' pa pb pc hm, fun Oc Ob σ H ρ Q R h => chain3 qa qb qc hp hp' R (Res.post_mono h (fun b _ q H' s => ⟨b, rfl, q H' s⟩) fun _ z => z)⟩
def vB (m : Ev → Res Bool) : Ev → Res D := fun ρ => (m ρ).bind fun b => .ok (.bool b)
theorem re_chain {op op' : CmpOp} {r r' : R2} {f g : D → D → Option Bool} (ho : OpR C.X (compareOp op) r) (ho' : OpR C.X (compareOp op') r') (hp : PrB r f) (hp' : PrB r' g) (ha : RE C mda a ma) (hb : RE C mdb b mb) (hc : RE C mdc c mc)
    (hm : autoParam (lastMarks [op, op'] [b, c] = false) autoK7._auto_1) : RE C .cl (.Compare a [op, op'] [b, c] pos) (vB (b3 f g ma mb mc)) := by
  obtain ⟨ta, pa, qa⟩ := ha
  obtain ⟨tb, pb, qb⟩ := hb
  obtain ⟨tc, pc, qc⟩ := hc
  exact ⟨_, pe_chain ho ho' pa pb pc hm, fun Oc Ob σ H ρ Q R h => chain3 qa qb qc hp hp' R (Res.post_mono (Res.post_bind h) (fun b _ q H' s => q _ H' s (Rep.bl b)) fun _ z => z)⟩
variable {ta' tb' : Ev → Res Bool} {rest : List Expr}
def isB : D → Option Bool
  | .bool b => some b
  | _ => none
def tV (m : Ev → Res D) : Ev → Res Bool := fun ρ => (m ρ).bind fun d => Res.lft (isB d)
theorem isB_some {d : D} {b : Bool} (h : isB d = some b) : d = .bool b := by
  cases d <;> simp [isB] at h ⊢
  exact h
theorem rt_val (h : RE C md a ma) (he : autoParam (∀ whole, isTrue a C.X.env whole = (do let v ← whole; standAt a.pos; holding [v] (truthy v))) autoK4._auto_1) : RT C a (tV ma) := by
  obtain ⟨t, p, q⟩ := h
  refine ⟨_, pt_val p he, fun Oc Ob σ H ρ Q R h => q Oc Ob σ H ρ _ R (Res.post_mono (Res.post_bind h) (fun d _ k v H' s r => ?_) fun _ z => z)⟩
  obtain ⟨b, e, k⟩ := Res.post_lft k
  obtain rfl := isB_some e
  exact ⟨b, (r.va R.oh).bool, k H' s⟩
def tNt (m : Ev → Res Bool) : Ev → Res Bool := fun ρ => (m ρ).bind fun b => .ok (!b)
theorem rt_not (h : RT C a ta') : RT C (.UnaryOp .Not a pos) (tNt ta') := by
  obtain ⟨t, p, q⟩ := h
  exact ⟨_, pt_not p, fun Oc Ob σ H ρ Q R h => q Oc Ob σ H ρ _ R (Res.post_mono (Res.post_bind h) (fun d _ k => k) fun _ z => z)⟩
def tAn (m n : Ev → Res Bool) : Ev → Res Bool := fun ρ => (m ρ).bind fun b => if b then n ρ else .ok false
def tO (m n : Ev → Res Bool) : Ev → Res Bool := fun ρ => (m ρ).bind fun b => if b then .ok true else n ρ
theorem rw_or1 (h : RT C a ta') : RW C (.BoolOp .Or [a] pos) ta' := by
  obtain ⟨t, p, q⟩ := h
  exact ⟨_, pw_or1 p, q⟩
theorem rw_or (ha : RT C a ta') (hb : RW C (.BoolOp .Or (b :: rest) pos) tb') : RW C (.BoolOp .Or (a :: b :: rest) pos) (tO ta' tb') := by
  obtain ⟨t, p, q⟩ := ha
  obtain ⟨t', p', q'⟩ := hb
  refine ⟨_, pw_or p p', fun Oc Ob σ H ρ Q R h => q Oc Ob σ H ρ _ R (Res.post_mono (Res.post_bind h) (fun b _ k H' s => ?_) fun _ z => z)⟩
  cases b with
  | false => exact iteF (q' Oc Ob σ H' ρ Q (R.same s) (Res.post_mono k (fun b _ k H2 s2 => k H2 (s.trans s2)) fun c z H2 s2 => z H2 (s.trans s2)))
  | true => exact iteT (k H' s)
theorem RW.rt (h : RW C a ta') : RT C a ta' := by
  obtain ⟨t, p, q⟩ := h
  exact ⟨_, p.pt, q⟩
theorem re_one {op} (h : RE C md a ma) : RE C md (.BoolOp op [a] pos) ma := by
  obtain ⟨t, p, q⟩ := h
  exact ⟨_, pe_one p, q⟩
def vAn (m n : Ev → Res D) : Ev → Res D := fun ρ => (m ρ).bind fun d => (Res.lft (isB d)).bind fun b => if b then n ρ else .ok (.bool false)
def vO (m n : Ev → Res D) : Ev → Res D := fun ρ => (m ρ).bind fun d => (Res.lft (isB d)).bind fun b => if b then .ok (.bool true) else n ρ
def vNt (m : Ev → Res D) : Ev → Res D := fun ρ => (m ρ).bind fun d => (Res.lft (isB d)).bind fun b => .ok (.bool (!b))
theorem re_and (ha : RE C mda a ma) (hb : RE C .cl (.BoolOp .And (b :: rest) pos) mb) : RE C .cl (.BoolOp .And (a :: b :: rest) pos) (vAn ma mb) := by
  obtain ⟨t, p, q⟩ := ha
  obtain ⟨t', p', q'⟩ := hb
  refine ⟨_, pe_and p p', fun Oc Ob σ H ρ Q R h => q Oc Ob σ H ρ _ R (Res.post_mono (Res.post_bind h) (fun d _ k v H' s r => ?_) fun _ z => z)⟩
  obtain ⟨b, e, k⟩ := Res.post_lft (Res.post_bind k)
  obtain rfl := isB_some e
  refine ⟨b, (r.va R.oh).bool, ?_⟩
  cases b with
  | true => exact iteT (q' Oc Ob σ H' ρ Q (R.same s) (Res.post_mono k (fun b _ k v H2 s2 r => k v H2 (s.trans s2) r) fun c z H2 s2 => z H2 (s.trans s2)))
  | false => exact iteF (k _ H' s (Rep.bl false))
def eIf (m : Ev → Res Bool) (n o : Ev → Res D) : Ev → Res D := fun ρ => (m ρ).bind fun b => if b then n ρ else o ρ
def e1 (f : D → Option D) (m : Ev → Res D) : Ev → Res D := fun ρ => (m ρ).bind fun x => Res.lft (f x)
def negD : D → Option D
  | .int i => some (.int (-i))
  | _ => none
theorem uY (ha : RE C mda a ma) : RE C .cl (.UnaryOp .USub a pos) (e1 negD ma) := by
  obtain ⟨t, p, q⟩ := ha
  refine ⟨_, pe_un un_neg p, fun Oc Ob σ H ρ Q R h => q Oc Ob σ H ρ _ R (Res.post_mono (Res.post_bind h) (fun d _ k v H' s r => ?_) fun _ z => z)⟩
  obtain ⟨d', e, k⟩ := Res.post_lft k
  cases d with
  | int i =>
    cases e
    exact ⟨i, (r.va R.oh).int, k _ H' s (Rep.int _)⟩
  | _ => cases e
end
end L2.L3
set_option maxHeartbeats 4000000
namespace L2.L3
open PySem PySem.Spec PyProof.Rows
variable [CN]
inductive VAs (Oc : Wd) (Ob : Addr → Prop) (H : Hp) : List V → List D → Prop
  | nil : VAs Oc Ob H [] []
  | cons {v : V} {d : D} {vs : List V} {ds : List D} : VA Oc Ob H v d → VAs Oc Ob H vs ds → VAs Oc Ob H (v :: vs) (d :: ds)
section
variable {Oc : Wd} {Ob : Addr → Prop} {H H' : Hp}
theorem VAs.rep : ∀ {vs : List V} {ds : List D}, VAs Oc Ob H vs ds → Reps H (fun _ => False) vs ds
  | _, _, .nil => .nil
  | _, _, .cons h t => .cons h.rep (VAs.rep t)
theorem VA.same {v : V} {d : D} (h : VA Oc Ob H v d) (s : Same H H') : VA Oc Ob H' v d := VR.same (md := .any) (H := H) h s
end
def VQ : Bool → Wd → (Addr → Prop) → Hp → List V → List D → Prop
  | true, Oc, Ob, H, vs, ds => Reps H (Uni Oc Ob) vs ds
  | false, Oc, Ob, H, vs, ds => VAs Oc Ob H vs ds
def RArg (C : Ct) (cl : Bool) (es : List Expr) (m : Ev → Res (List D)) : Prop :=
  ∃ t, PA C.X es t ∧ ∀ (Oc : Wd) (Ob : Addr → Prop) (σ : St) (H : Hp) (ρ : Ev) (Q : List V → Hp → Prop), Rel Oc Ob C.om C.ln σ H ρ →
    (m ρ).post (fun ds => ∀ vs H', Same H H' → VQ cl Oc Ob H' vs ds → Q vs H') (fun c => ∀ H', Same H H' → C.XE c H') → t σ H Q
section
variable {C : Ct} {a b c e : Expr} {es : List Expr} {pos p : Pos} {md mda mdb mdc : Md} {ma mb mc : Ev → Res D} {ms : Ev → Res (List D)} {cl : Bool}
def aN : Ev → Res (List D) := fun _ => .ok []
def aC (m : Ev → Res D) (n : Ev → Res (List D)) : Ev → Res (List D) := fun ρ => (m ρ).bind fun x => (n ρ).bind fun xs => .ok (x :: xs)
theorem zV : RArg C cl [] aN := ⟨_, pa_nil, fun Oc Ob σ H ρ Q R h => h [] H (Same.refl H) (by cases cl; exact VAs.nil; exact Reps.nil)⟩
theorem zX (ha : RE C .cl e ma) (hr : RArg C true es ms) (hs : autoParam (starEach (e :: es) C.X.env = (false, eval e C.X.env) :: starEach es C.X.env) autoK5._auto_1) : RArg C true (e :: es) (aC ma ms) := by
  obtain ⟨t, p, q⟩ := ha
  obtain ⟨t', p', q'⟩ := hr
  refine ⟨_, pa_cons p p' hs, fun Oc Ob σ H ρ Q R h => q Oc Ob σ H ρ _ R (Res.post_mono (Res.post_bind h) (fun d _ k v H' s r => ?_) fun _ z => z)⟩
  refine q' Oc Ob σ H' ρ _ (R.same s) (Res.post_mono (Res.post_bind k) (fun ds _ k vs H2 s2 r2 => ?_) fun c z H2 s2 => z H2 (s.trans s2))
  exact k _ H2 (s.trans s2) (Reps.cons (r.same s2) r2)
theorem zM (ha : RE C md e ma) (hr : RArg C false es ms) (hs : autoParam (starEach (e :: es) C.X.env = (false, eval e C.X.env) :: starEach es C.X.env) autoK5._auto_1) : RArg C false (e :: es) (aC ma ms) := by
  obtain ⟨t, p, q⟩ := ha
  obtain ⟨t', p', q'⟩ := hr
  refine ⟨_, pa_cons p p' hs, fun Oc Ob σ H ρ Q R h => q Oc Ob σ H ρ _ R (Res.post_mono (Res.post_bind h) (fun d _ k v H' s r => ?_) fun _ z => z)⟩
  refine q' Oc Ob σ H' ρ _ (R.same s) (Res.post_mono (Res.post_bind k) (fun ds _ k vs H2 s2 r2 => ?_) fun c z H2 s2 => z H2 (s.trans s2))
  exact k _ H2 (s.trans s2) (VAs.cons ((r.va R.oh).same s2) r2)
def mkL (ds : List D) : Option D := if ds.length ≤ sizeLine then some (.list ds) else none
def mkT (ds : List D) : Option D := if ds.length ≤ sizeLine then some (.tuple ds) else none
def eB (f : List D → Option D) (m : Ev → Res (List D)) : Ev → Res D := fun ρ => (m ρ).bind fun ds => Res.lft (f ds)
theorem new_list {Oc : Wd} {Ob : Addr → Prop} {H H1 : Hp} {p : Addr} {vs : List V} {ds : List D} (s : Same H H1) (hp : H1 p = none) (r : Reps H1 (Uni Oc Ob) vs ds) : VR .new Oc Ob H (upd H1 p (.lst vs)) (.ref p) (.list ds) :=
  ⟨p, vs, ds, rfl, rfl, s.free hp, upd_same, r.keep (fun b o e _ => by rw [upd_ne (ne_of_none e hp)]; exact e) fun b n z => z.elim id fun z => by subst z; exact absurd hp n⟩
theorem new_tup {Oc : Wd} {Ob : Addr → Prop} {H1 : Hp} {p : Addr} {vs : List V} {ds : List D} (oh : ∀ a, Oc a ∨ Ob a → H1 a ≠ none) (hp : H1 p = none) (r : Reps H1 (Uni Oc Ob) vs ds) : Rep (upd H1 p (.tup vs)) (Uni Oc Ob) (.ref p) (.tuple ds) :=
  .tup (.inl upd_same) (fun z => oh p z hp) (r.same (Same.new hp))
theorem vW (h : RArg C true es ms) : RE C .new (.List es pos) (eB mkL ms) := by
  obtain ⟨t, p, q⟩ := h
  refine ⟨_, pe_lst p, fun Oc Ob σ H ρ Q R h => q Oc Ob σ H ρ _ R (Res.post_mono (Res.post_bind h) (fun ds _ k vs H' s r => ?_) fun _ z => z)⟩
  obtain ⟨d, e, k⟩ := Res.post_lft k
  unfold mkL at e
  split at e
  · rename_i hl
    cases e
    exact ⟨by rw [Reps.length r]; exact hl, fun p hp => k _ _ (s.trans (Same.new hp)) (new_list s hp r)⟩
  · cases e
theorem re_tup {x1} (h : RArg C true es ms) : RE C .cl (.Tuple es x1 pos) (eB mkT ms) := by
  obtain ⟨t, p, q⟩ := h
  refine ⟨_, pe_tup p, fun Oc Ob σ H ρ Q R h => q Oc Ob σ H ρ _ R (Res.post_mono (Res.post_bind h) (fun ds _ k vs H' s r => ?_) fun _ z => z)⟩
  obtain ⟨d, e, k⟩ := Res.post_lft k
  unfold mkT at e
  split at e
  · rename_i hl
    cases e
    exact ⟨by rw [Reps.length r]; exact hl, fun p hp => k _ _ (s.trans (Same.new hp)) (new_tup (R.same s).oh hp r)⟩
  · cases e
def PrC (r : List V → Hp → VK → Prop) (md : Md) (f : List D → Option D) : Prop :=
  ∀ (Oc : Wd) (Ob : Addr → Prop) (H : Hp) (vs : List V) (ds : List D) (d : D) (Q : VK), (∀ a, Oc a ∨ Ob a → H a ≠ none) → VAs Oc Ob H vs ds → f ds = some d → (∀ v H', Same H H' → VR md Oc Ob H H' v d → Q v H') → r vs H Q
theorem prim_call {t : TA} {r : List V → Hp → VK → Prop} {f : List D → Option D} (q : ∀ (Oc : Wd) (Ob : Addr → Prop) (σ : St) (H : Hp) (ρ : Ev) (Q : List V → Hp → Prop), Rel Oc Ob C.om C.ln σ H ρ →
    (ms ρ).post (fun ds => ∀ vs H', Same H H' → VQ false Oc Ob H' vs ds → Q vs H') (fun c => ∀ H', Same H H' → C.XE c H') → t σ H Q) (hp : PrC r md f)
    {Oc : Wd} {Ob : Addr → Prop} {σ : St} {H : Hp} {ρ : Ev} {Q : VK} (R : Rel Oc Ob C.om C.ln σ H ρ) (h : (eB f ms ρ).post (fun d => ∀ v H', Same H H' → VR md Oc Ob H H' v d → Q v H') (fun c => ∀ H', Same H H' → C.XE c H')) : tCB r t σ H Q := by
  refine q Oc Ob σ H ρ _ R (Res.post_mono (Res.post_bind h) (fun ds _ k vs H' s r => ?_) fun _ z => z)
  obtain ⟨d, e, k⟩ := Res.post_lft k
  exact hp Oc Ob H' vs ds d Q (R.same s).oh r e fun v H2 s2 r2 => k v H2 (s.trans s2) (r2.from s)
theorem wG {x : Str} {id : String} {r : List V → Hp → VK → Prop} {f : List D → Option D} (hc : CallR C.X (.builtin id) r) (hp : PrC r md f) (hm : C.X.mg x = none) (hv : bootBuiltins x = some (.builtin id)) (ha : RArg C false (e :: es) ms) (hg : autoParam (Gl C.X x) autoK5._auto_1) (hn : autoParam (x ≠ "__name__") autoK2._auto_1) (hdb : autoParam ((x == ("__debug__" : Str)) = false) autoK2._auto_1)
    (he : autoParam (starEach (e :: es) C.X.env = (false, eval e C.X.env) :: starEach es C.X.env) autoK5._auto_1) (hpl : autoParam ((backTo pos (starEach es C.X.env)).any (·.1) = false) autoK5._auto_1) : RE C md (.Call (.Name x p) (e :: es) [] pos) (eB f ms) := by
  obtain ⟨t, pa, q⟩ := ha
  exact ⟨_, pe_callB hc hg hm hv pa hn hdb he hpl, fun Oc Ob σ H ρ Q R h => prim_call q hp R h⟩
theorem vQ {x : Str} {T : String} {r : List V → Hp → VK → Prop} {f : List D → Option D} (hc : CallR C.X (.type T) r) (hp : PrC r md f) (hm : C.X.mg x = none) (hv : bootBuiltins x = some (.type T)) (ha : RArg C false (e :: es) ms) (hg : autoParam (Gl C.X x) autoK5._auto_1) (hn : autoParam (x ≠ "__name__") autoK2._auto_1) (hdb : autoParam ((x == ("__debug__" : Str)) = false) autoK2._auto_1)
    (he : autoParam (starEach (e :: es) C.X.env = (false, eval e C.X.env) :: starEach es C.X.env) autoK5._auto_1) (hpl : autoParam ((backTo pos (starEach es C.X.env)).any (·.1) = false) autoK5._auto_1) : RE C md (.Call (.Name x p) (e :: es) [] pos) (eB f ms) := by
  obtain ⟨t, pa, q⟩ := ha
  exact ⟨_, pe_callTy hc hg hm hv pa hn hdb he hpl, fun Oc Ob σ H ρ Q R h => prim_call q hp R h⟩
def Walks (Oc : Wd) (Ob : Addr → Prop) (J : It) (H1 : Hp) (ds : List D) : Prop :=
  ∀ (H2 : Hp) (Ob2 : Addr → Prop), Frm Ob H1 H2 → (∀ b, Ob2 b → Ob b ∨ H1 b = none) → ∀ i, (∀ d, ds[i]? = some d → J.go i H2 ∧ ∀ x H3, J.yld i H2 x H3 → Same H2 H3 ∧ Rep H3 (Uni Oc Ob2) x d) ∧ (ds.length ≤ i → J.stop i H2)
def RI (C : Ct) (tg iter : Expr) (m : Ev → Res (List D)) : Prop :=
  ∃ wi, PI C.X tg iter wi ∧ ∀ (Oc : Wd) (Ob : Addr → Prop) (σ : St) (H : Hp) (ρ : Ev) (R : It → Hp → Prop), Rel Oc Ob C.om C.ln σ H ρ →
    (m ρ).post (fun ds => ∀ J H1, Same H H1 → Walks Oc Ob J H1 ds → R J H1) (fun c => ∀ H', Same H H' → C.XE c H') → wi σ H R
def iSeq (K : PySem.W.Frag) (tl : TE) : TI := fun σ H R => tl σ H fun x H1 => ∃ a, x = .ref a ∧ (((∃ xs, SqL K H1 a xs) ∧ R (Itl K a) H1) ∨ ((∃ xs, SqT K H1 a xs) ∧ R (Itt K a) H1))
theorem pi_seq {X : Cx} {tg l : Expr} {tl : TE} (hl : PE X l tl) : PI X tg l (iSeq X.K tl) := by
  intro pins s σ H R I h
  refine thn (hl pins s σ H _ I h) fun v s1 ⟨x, H1, I1, r1, q1⟩ => ?_
  obtain ⟨a, e, q1⟩ := q1
  subst e
  cases r1
  rcases q1 with ⟨⟨xs, hq⟩, q⟩ | ⟨⟨xs, hq⟩, q⟩
  · obtain ⟨its, rv, p, hz⟩ := I1.list hq
    refine wpAny_pyIter_list p.isList ?_
    refine ⟨s1.heap.objs.size, [s1.heap.objs.size], _, _, H1, rfl, I1.kept (t' := s1.toks) fun b o e => Heap.get?_push_of_some _ e, turn_list a _, ⟨_, Heap.get?_push_size _ rfl, rfl, rfl⟩, fun b hb => ?_, q⟩
    have e : b = s1.heap.objs.size := by simpa using hb
    subst e
    exact I1.fpOk (Nat.le_refl _) (I1.hok.fresh (Nat.le_refl _))
  · obtain ⟨its, rv, p, hz⟩ := I1.tuple hq
    refine wpAny_pyIter_tuple (show s1.heap.IsTuple a its.toArray from p) ?_
    refine ⟨s1.heap.objs.size, [s1.heap.objs.size], _, _, H1, rfl, I1.kept (t' := s1.toks) fun b o e => Heap.get?_push_of_some _ e, turn_tuple a _, ⟨_, Heap.get?_push_size _ rfl, rfl, rfl⟩, fun b hb => ?_, q⟩
    have e : b = s1.heap.objs.size := by simpa using hb
    subst e
    exact I1.fpOk (Nat.le_refl _) (I1.hok.fresh (Nat.le_refl _))
def seqD : D → Option (List D)
  | .list ds => some ds
  | .tuple ds => some ds
  | _ => none
def iS (m : Ev → Res D) : Ev → Res (List D) := fun ρ => (m ρ).bind fun d => Res.lft (seqD d)
theorem Reps.step {Oc : Wd} {Ob Ob2 : Addr → Prop} {H1 H2 : Hp} {vs : List V} {ds : List D} (r : Reps H1 (Uni Oc Ob) vs ds) (f : Frm Ob H1 H2) (s : ∀ b, Ob2 b → Ob b ∨ H1 b = none) : Reps H2 (Uni Oc Ob2) vs ds :=
  r.keep (fun b o e n => f b o e fun z => n (.inr z)) fun b n z => z.elim .inl fun z => (s b z).elim .inr fun q => absurd q n
end
theorem walks_list {K : PySem.W.Frag} {Oc : Wd} {Ob : Addr → Prop} {H1 : Hp} {a : Addr} {ys : List V} {ds : List D} (r : Rd H1 a (.lst ys)) (n : ¬ Ob a) (rs : Reps H1 (Uni Oc Ob) ys ds) : Walks Oc Ob (Itl K a) H1 ds := by
  intro H2 Ob2 f s i
  have r2 : Rd H2 a (.lst ys) := rd_keep r fun o e => f a o e n
  have rs2 := rs.step f s
  refine ⟨fun d e => ?_, fun h => ⟨ys, .inl r2, by rw [rs2.length]; exact h⟩⟩
  obtain ⟨v, ev, rv⟩ := rs2.get e
  refine ⟨⟨ys, v, .inl r2, ev⟩, fun x H3 hy => ?_⟩
  obtain ⟨rfl, hy⟩ := hy
  have := hy ys (.inl r2)
  rw [ev] at this
  cases this
  exact ⟨Same.refl _, rv⟩
theorem walks_tuple {K : PySem.W.Frag} {Oc : Wd} {Ob : Addr → Prop} {H1 : Hp} {a : Addr} {ys : List V} {ds : List D} (r : Rd H1 a (.tup ys)) (n : ¬ Ob a) (rs : Reps H1 (Uni Oc Ob) ys ds) : Walks Oc Ob (Itt K a) H1 ds := by
  intro H2 Ob2 f s i
  have r2 : Rd H2 a (.tup ys) := rd_keep r fun o e => f a o e n
  have rs2 := rs.step f s
  refine ⟨fun d e => ?_, fun h => ⟨ys, .inl r2, by rw [rs2.length]; exact h⟩⟩
  obtain ⟨v, ev, rv⟩ := rs2.get e
  refine ⟨⟨ys, v, .inl r2, ev⟩, fun x H3 hy => ?_⟩
  obtain ⟨rfl, hy⟩ := hy
  have := hy ys (.inl r2)
  rw [ev] at this
  cases this
  exact ⟨Same.refl _, rv⟩
theorem walks_range {Oc : Wd} {Ob : Addr → Prop} {H1 : Hp} {lo : Int} {n : Nat} {ds : List D} (e : ds = (List.range n).map fun (i : Nat) => PyData.int (lo + (i : Int))) : Walks Oc Ob (Itr lo n) H1 ds := by
  intro H2 Ob2 f s i
  subst e
  refine ⟨fun d e => ?_, fun h => by show n ≤ i; simpa using h⟩
  rw [List.getElem?_map] at e
  by_cases hi : i < n
  · rw [List.getElem?_range hi] at e
    cases e
    refine ⟨hi, fun x H3 hy => ?_⟩
    obtain ⟨rfl, rfl⟩ := hy
    exact ⟨Same.refl _, .int _⟩
  · rw [List.getElem?_eq_none (by simpa using hi)] at e
    cases e
section
variable {C : Ct} {a b c e : Expr} {es : List Expr} {pos p : Pos} {md mda mdb mdc : Md} {ma mb mc : Ev → Res D} {ms : Ev → Res (List D)} {cl : Bool} {tg : Expr}
theorem vC (h : RE C .rd e ma) : RI C tg e (iS ma) := by
  obtain ⟨t, p, q⟩ := h
  refine ⟨_, pi_seq p, fun Oc Ob σ H ρ W R h => q Oc Ob σ H ρ _ R (Res.post_mono (Res.post_bind h) (fun d _ k v H' s r => ?_) fun _ z => z)⟩
  obtain ⟨ds, e, k⟩ := Res.post_lft k
  rcases r with r | ⟨a, ys, ds', rfl, rfl, e3, e4, e5⟩
  · cases r with
    | lst r n t => cases e; exact ⟨_, rfl, .inl ⟨⟨_, .inl r⟩, k _ H' s (walks_list r (fun z => n (.inr z)) t)⟩⟩
    | tup r n t => cases e; exact ⟨_, rfl, .inr ⟨⟨_, .inl r⟩, k _ H' s (walks_tuple r (fun z => n (.inr z)) t)⟩⟩
    | _ => cases e
  · cases e
    exact ⟨_, rfl, .inl ⟨⟨_, SqL.of e3⟩, k _ H' s (walks_list (.inl e3) e4 e5)⟩⟩
def rng1 : List D → Option (List D)
  | [.int j] => if -(2 ^ 62) ≤ j ∧ j < 2 ^ 62 then some ((List.range j.toNat).map fun (i : Nat) => PyData.int (i : Int)) else none
  | _ => none
def rng2 : List D → Option (List D)
  | [.int i, .int j] => if -(2 ^ 62) ≤ i ∧ i < 2 ^ 62 ∧ -(2 ^ 62) ≤ j ∧ j < 2 ^ 62 then some ((List.range (j - i).toNat).map fun (k : Nat) => PyData.int (i + (k : Int))) else none
  | _ => none
def iR (f : List D → Option (List D)) (m : Ev → Res (List D)) : Ev → Res (List D) := fun ρ => (m ρ).bind fun ds => Res.lft (f ds)
theorem VAs.one {Oc : Wd} {Ob : Addr → Prop} {H : Hp} {vs : List V} {d : D} (h : VAs Oc Ob H vs [d]) : ∃ v, vs = [v] ∧ VA Oc Ob H v d := by
  cases h with
  | cons a t => cases t; exact ⟨_, rfl, a⟩
theorem VAs.two {Oc : Wd} {Ob : Addr → Prop} {H : Hp} {vs : List V} {d d' : D} (h : VAs Oc Ob H vs [d, d']) : ∃ v v', vs = [v, v'] ∧ VA Oc Ob H v d ∧ VA Oc Ob H v' d' := by
  cases h with
  | cons a t =>
    obtain ⟨v, rfl, q⟩ := VAs.one t
    exact ⟨_, _, rfl, a, q⟩
theorem ri_range1 (hm : C.X.mg "range" = none) (ha : RArg C false [a] ms) (hg : autoParam (Gl C.X "range") autoK5._auto_1) (hs : autoParam (starEach [a] C.X.env = [(false, eval a C.X.env)]) autoK5._auto_1) : RI C tg (.Call (.Name "range" p) [a] [] pos) (iR rng1 ms) := by
  obtain ⟨t, pa, q⟩ := ha
  refine ⟨_, pi_range1 hg hm pa hs, fun Oc Ob σ H ρ W R h => q Oc Ob σ H ρ _ R (Res.post_mono (Res.post_bind h) (fun ds _ k vs H' s r => ?_) fun _ z => z)⟩
  obtain ⟨xs, e, k⟩ := Res.post_lft k
  unfold rng1 at e
  split at e
  · split at e
    · rename_i hb
      cases e
      obtain ⟨v, rfl, va⟩ := VAs.one r
      obtain rfl := va.int
      exact ⟨_, rfl, hb.1, hb.2, k _ H' s (walks_range (by simp))⟩
    · cases e
  · cases e
theorem ri_range2 (hm : C.X.mg "range" = none) (ha : RArg C false [a, b] ms) (hg : autoParam (Gl C.X "range") autoK5._auto_1) (hs : autoParam (starEach [a, b] C.X.env = [(false, eval a C.X.env), (false, eval b C.X.env)]) autoK5._auto_1) (hs2 : autoParam (starEach [b] C.X.env = [(false, eval b C.X.env)]) autoK5._auto_1) : RI C tg (.Call (.Name "range" p) [a, b] [] pos) (iR rng2 ms) := by
  obtain ⟨t, pa, q⟩ := ha
  refine ⟨_, pi_range2 hg hm pa hs hs2, fun Oc Ob σ H ρ W R h => q Oc Ob σ H ρ _ R (Res.post_mono (Res.post_bind h) (fun ds _ k vs H' s r => ?_) fun _ z => z)⟩
  obtain ⟨xs, e, k⟩ := Res.post_lft k
  unfold rng2 at e
  split at e
  · split at e
    · rename_i hb
      cases e
      obtain ⟨v, v', rfl, va, va'⟩ := VAs.two r
      obtain rfl := va.int
      obtain rfl := va'.int
      exact ⟨_, _, rfl, hb, k _ H' s (walks_range rfl)⟩
    · cases e
  · cases e
end
end L2.L3
set_option maxHeartbeats 4000000
namespace L2.L3
open PySem PySem.Spec PyProof.Rows
variable [CN]
def cEnv (ρ : Ev) (js : List Nat) (x : D) : Ev := some x :: js.map fun j => (ρ[j]?).join
def capt (js l : List Nat) : List Nat := ((List.range js.length).filter fun i => l.contains (js.getD i 0)).map (· + 1)
def noEx {α : Type} : Res α → Res α
  | .ok a => .ok a
  | _ => .no
theorem noEx_ok {α : Type} {r : Res α} {a : α} (h : noEx r = .ok a) : r = .ok a := by
  cases r with
  | ok b => exact h
  | ex c => cases h
  | no => cases h
def compM (t : D → Res Bool) (f : D → Res D) : List D → Res (List D)
  | [] => .ok []
  | x :: xs => (noEx (t x)).bind fun b => if b then (noEx (f x)).bind fun y => (compM t f xs).bind fun ys => .ok (y :: ys) else compM t f xs
def eComp (mi : Ev → Res (List D)) (mt : Ev → Res Bool) (me : Ev → Res D) (js : List Nat) : Ev → Res D := fun ρ => (mi ρ).bind fun ds => if ds.length ≤ sizeLine then (compM (fun x => mt (cEnv ρ js x)) (fun x => me (cEnv ρ js x)) ds).bind fun out => .ok (.list out) else .no
theorem capt_mem {js l : List Nat} {i : Nat} (h : i ∈ capt js l) : ∃ k, i = k + 1 ∧ k < js.length ∧ js.getD k 0 ∈ l := by
  unfold capt at h
  obtain ⟨k, hk, rfl⟩ := List.mem_map.mp h
  obtain ⟨h1, h2⟩ := List.mem_filter.mp hk
  exact ⟨k, rfl, List.mem_range.mp h1, List.contains_iff_mem.mp h2⟩
theorem mem_capt {js l : List Nat} {k j : Nat} (h : js[k]? = some j) (hl : j ∈ l) : k + 1 ∈ capt js l := by
  unfold capt
  refine List.mem_map.mpr ⟨k, List.mem_filter.mpr ⟨List.mem_range.mpr ?_, ?_⟩, rfl⟩
  · exact (List.getElem?_eq_some_iff.mp h).1
  · rw [List.getD_eq_getElem?_getD, h]
    exact List.contains_iff_mem.mpr hl
theorem cEnv_succ {ρ : Ev} {js : List Nat} {x d : D} {k : Nat} (h : (cEnv ρ js x)[k + 1]? = some (some d)) : ∃ j, js[k]? = some j ∧ ρ[j]? = some (some d) := by
  unfold cEnv at h
  rw [List.getElem?_cons_succ, List.getElem?_map] at h
  cases e : js[k]? with
  | none => rw [e] at h; cases h
  | some j =>
    rw [e] at h
    refine ⟨j, rfl, ?_⟩
    have h : (ρ[j]?).join = some d := Option.some.inj h
    cases q : ρ[j]? with
    | none => rw [q] at h; cases h
    | some z => rw [q] at h; rw [show z = some d from h]
theorem compSt_succ {σ : St} {js : List Nat} {v0 : Option V} {v : V} {k j : Nat} (h : js[k]? = some j) (e : σ[j]? = some (some v)) : (compSt σ js v0)[k + 1]? = some (some v) := by
  unfold compSt
  rw [List.getElem?_cons_succ, List.getElem?_map, h]
  show some ((σ[j]?).join) = _
  rw [e]
  rfl
def adr : Option (Option V) → Addr
  | some (some (.ref a)) => a
  | _ => 0
def cW (Oc : Wd) (Ob : Addr → Prop) (σ : St) (js : List Nat) : Wd := ⟨Uni Oc Ob, fun i => adr ((compSt σ js none)[i]?)⟩
theorem Rel.comp {Oc : Wd} {Ob : Addr → Prop} {om ln : List Nat} {σ : St} {H : Hp} {ρ : Ev} {js : List Nat} {x : V} {d : D} (R : Rel Oc Ob om ln σ H ρ) (r : Rep H (Uni Oc Ob) x d) : Rel (cW Oc Ob σ js) (fun _ => False) [] (capt js (om ++ ln)) (compSt σ js (some x)) H (cEnv ρ js d) where
  len := by unfold compSt cEnv; simp
  val := fun i d' e _ hl => by
    cases i with
    | zero =>
      cases e
      exact ⟨x, rfl, r.less fun b z => z.elim id fun z => z.elim⟩
    | succ k =>
      obtain ⟨j, e1, e2⟩ := cEnv_succ e
      have h1 : j ∉ om := fun z => hl (mem_capt e1 (List.mem_append_left _ z))
      have h2 : j ∉ ln := fun z => hl (mem_capt e1 (List.mem_append_right _ z))
      obtain ⟨v, q, rv⟩ := R.val j d' e2 h1 h2
      exact ⟨v, compSt_succ e1 q, rv.less fun b z => z.elim id fun z => z.elim⟩
  own := fun i d' e h => nomatch h
  lnt := fun i d' e _ hl => by
    obtain ⟨k, rfl, hk, hj⟩ := capt_mem hl
    obtain ⟨j, e1, e2⟩ := cEnv_succ e
    rw [List.getD_eq_getElem?_getD, e1, Option.getD_some] at hj
    by_cases ho : j ∈ om
    · obtain ⟨v, q, a, ys, ds, z1, z2, z3, z4, z5⟩ := R.own j d' e2 ho
      have ea : (cW Oc Ob σ js).la (k + 1) = a := by show adr _ = a; rw [compSt_succ e1 q, z1]; rfl
      exact ⟨v, compSt_succ e1 q, ys, ds, by rw [ea]; exact z1, z2, by rw [ea]; exact z3, by rw [ea]; exact .inr z4, z5.less fun b z => z.elim id fun z => z.elim⟩
    · have hl2 : j ∈ ln := (List.mem_append.mp hj).elim (fun z => absurd z ho) id
      obtain ⟨v, q, ys, ds, z1, z2, z3, z4, z5⟩ := R.lnt j d' e2 ho hl2
      have ea : (cW Oc Ob σ js).la (k + 1) = Oc.la j := by show adr _ = _; rw [compSt_succ e1 q, z1]; rfl
      exact ⟨v, compSt_succ e1 q, ys, ds, by rw [ea]; exact z1, z2, by rw [ea]; exact z3, by rw [ea]; exact .inl z4, z5.less fun b z => z.elim id fun z => z.elim⟩
  inj := fun i j di dj a _ _ h => nomatch h
  oh := fun a z => R.oh a (z.elim id fun z => z.elim)
  ap := fun a z => z.elim
abbrev cC (C : Ct) (N : List Str) (scope : Scope) (A : Addr) (fp : List Addr) (s₂ : Shared) (H : Hp) (js : List Nat) : Ct := ⟨cxComp C.X N scope A fp s₂ H, fun _ _ => False, [], capt js (C.om ++ C.ln)⟩
def RTs (C : Ct) (ifs : List Expr) (m : Ev → Res Bool) : Prop := ∃ t, PTs C.X ifs t ∧ ∀ (Oc : Wd) (Ob : Addr → Prop) (σ : St) (H : Hp) (ρ : Ev) (Q : Bool → Hp → Prop), Rel Oc Ob C.om C.ln σ H ρ →
    (m ρ).post (fun b => ∀ H', Same H H' → Q b H') (fun c => ∀ H', Same H H' → C.XE c H') → t σ H Q
def tYes : Ev → Res Bool := fun _ => .ok true
theorem rts_nil {C : Ct} : RTs C [] tYes := ⟨_, .nil, fun Oc Ob σ H ρ Q R h => h H (Same.refl H)⟩
theorem rts_one {C : Ct} {c : Expr} {m : Ev → Res Bool} (h : RT C c m) : RTs C [c] m := by
  obtain ⟨t, p, q⟩ := h
  exact ⟨t, .one p, q⟩
def WalksS (Oc : Wd) (Ob : Addr → Prop) (J : It) (H1 : Hp) (ds : List D) : Prop :=
  ∀ (H2 : Hp), Same H1 H2 → ∀ i, (∀ d, ds[i]? = some d → J.go i H2 ∧ ∀ x H3, J.yld i H2 x H3 → Same H2 H3 ∧ Rep H3 (Uni Oc Ob) x d) ∧ (ds.length ≤ i → J.stop i H2)
def RIc (C : Ct) (tg iter : Expr) (m : Ev → Res (List D)) : Prop :=
  ∃ wi, PI C.X tg iter wi ∧ ∀ (Oc : Wd) (Ob : Addr → Prop) (σ : St) (H : Hp) (ρ : Ev) (R : It → Hp → Prop), Rel Oc Ob C.om C.ln σ H ρ →
    (m ρ).post (fun ds => ∀ J H1, Same H H1 → WalksS Oc Ob J H1 ds → R J H1) (fun c => ∀ H', Same H H' → C.XE c H') → wi σ H R
theorem RI.c {C : Ct} {tg iter : Expr} {m : Ev → Res (List D)} (h : RI C tg iter m) : RIc C tg iter m := by
  obtain ⟨wi, p, q⟩ := h
  exact ⟨wi, p, fun Oc Ob σ H ρ W R h => q Oc Ob σ H ρ W R (Res.post_mono h (fun ds _ k J H1 s w => k J H1 s fun H2 s2 => w H2 Ob (Same.frm s2) fun b z => .inl z) fun _ z => z)⟩
theorem comp_read {C : Ct} {elt : Expr} {ifs : List Expr} {scope : Scope} {N : List Str} {js : List Nat} {mi : Ev → Res (List D)} {mt : Ev → Res Bool} {me : Ev → Res D} {wi : TI}
    (qi : ∀ (Oc : Wd) (Ob : Addr → Prop) (σ : St) (H : Hp) (ρ : Ev) (R : It → Hp → Prop), Rel Oc Ob C.om C.ln σ H ρ → (mi ρ).post (fun ds => ∀ J H1, Same H H1 → WalksS Oc Ob J H1 ds → R J H1) (fun c => ∀ H', Same H H' → C.XE c H') → wi σ H R)
    (ht : ∀ A fp s₂ H, RTs (cC C N scope A fp s₂ H js) ifs mt) (he : ∀ A fp s₂ H, RE (cC C N scope A fp s₂ H js) .cl elt me)
    {Oc : Wd} {Ob : Addr → Prop} {σ : St} {H : Hp} {ρ : Ev} {Q : VK} (R : Rel Oc Ob C.om C.ln σ H ρ) (h : (eComp mi mt me js ρ).post (fun d => ∀ v H', Same H H' → VR .new Oc Ob H H' v d → Q v H') (fun c => ∀ H', Same H H' → C.XE c H')) :
    tComp wi (fun A fp s H => Classical.choose (ht A fp s H)) (fun A fp s H => Classical.choose (he A fp s H)) js σ H Q := by
  refine qi Oc Ob σ H ρ _ R (Res.post_mono (Res.post_bind h) (fun ds _ k J H1 s1 wk => ?_) fun _ z => z)
  intro A fp s₂ H₂
  have qt := (Classical.choose_spec (ht A fp s₂ H₂)).2
  have qe := (Classical.choose_spec (he A fp s₂ H₂)).2
  have k : (if ds.length ≤ sizeLine then (compM (fun x => mt (cEnv ρ js x)) (fun x => me (cEnv ρ js x)) ds).bind fun out => Res.ok (PyData.list out) else .no).post (fun d => ∀ v H', Same H H' → VR .new Oc Ob H H' v d → Q v H') (fun c => ∀ H', Same H H' → C.XE c H') := k
  by_cases hlen : ds.length ≤ sizeLine
  · rw [if_pos hlen] at k
    generalize hT : (fun x => mt (cEnv ρ js x)) = T at k
    generalize hF : (fun x => me (cEnv ρ js x)) = F at k
    cases ec : compM T F ds with
    | no => rw [ec] at k; exact k.elim
    | ex c =>
      exfalso
      have nex : ∀ xs c, compM T F xs ≠ .ex c := by
        intro xs
        induction xs with
        | nil => intro c z; cases z
        | cons x xs ih =>
          intro c z
          rw [compM] at z
          cases e1 : noEx (T x) with
          | no => rw [e1] at z; cases z
          | ex c' => cases hx : T x <;> rw [hx] at e1 <;> cases e1
          | ok b =>
            rw [e1, Res.bind_ok] at z
            cases b with
            | false => exact ih c z
            | true =>
              simp only [if_true] at z
              cases e2 : noEx (F x) with
              | no => rw [e2] at z; cases z
              | ex c' => cases hx : F x <;> rw [hx] at e2 <;> cases e2
              | ok y =>
                rw [e2, Res.bind_ok] at z
                cases e3 : compM T F xs with
                | no => rw [e3] at z; cases z
                | ex c' => exact ih c' e3
                | ok ys => rw [e3] at z; cases z
      exact nex ds c ec
    | ok out =>
      rw [ec, Res.bind_ok] at k
      refine ⟨fun i m acc H => m = ds.length - i ∧ i ≤ ds.length ∧ Same H1 H ∧ ∃ done rest, Reps H (Uni Oc Ob) acc done ∧ acc.length ≤ i ∧ compM T F (ds.drop i) = .ok rest ∧ done ++ rest = out, ⟨_, rfl, Nat.zero_le _, Same.refl _, [], out, .nil, Nat.le_refl _, ec, rfl⟩, ?_⟩
      rintro i m acc H2 ⟨rfl, hi, s2, done, rest, ra, la, er, eo⟩
      obtain ⟨w1, w2⟩ := wk H2 s2 i
      have R2 := (R.same s1).same s2
      by_cases hlt : i < ds.length
      · obtain ⟨go, yl⟩ := w1 ds[i] (List.getElem?_eq_getElem hlt)
        have ed : ds.drop i = ds[i] :: ds.drop (i + 1) := List.drop_eq_getElem_cons hlt
        rw [ed, compM] at er
        have nxt : ∀ (acc' : List V) (H3 : Hp) (done' rest' : List D), Same H2 H3 → Reps H3 (Uni Oc Ob) acc' done' → acc'.length ≤ i + 1 → compM T F (ds.drop (i + 1)) = .ok rest' → done' ++ rest' = out →
            ∃ m', m' < ds.length - i ∧ (m' = ds.length - (i + 1) ∧ i + 1 ≤ ds.length ∧ Same H1 H3 ∧ ∃ done rest, Reps H3 (Uni Oc Ob) acc' done ∧ acc'.length ≤ i + 1 ∧ compM T F (ds.drop (i + 1)) = .ok rest ∧ done ++ rest = out) :=
          fun acc' H3 done' rest' s3 r3 l3 c3 o3 => ⟨_, by bv_omega, rfl, hlt, s2.trans s3, done', rest', r3, l3, c3, o3⟩
        refine .inr ⟨go, fun acc' H' => ∃ m', m' < ds.length - i ∧ (m' = ds.length - (i + 1) ∧ i + 1 ≤ ds.length ∧ Same H1 H' ∧ ∃ done rest, Reps H' (Uni Oc Ob) acc' done ∧ acc'.length ≤ i + 1 ∧ compM T F (ds.drop (i + 1)) = .ok rest ∧ done ++ rest = out), fun acc' H' z => z, fun x H3 hy => ?_⟩
        obtain ⟨s3, rx⟩ := yl x H3 hy
        have R3 := (R2.same s3).comp (js := js) rx
        cases e1 : noEx (T ds[i]) with
        | no => rw [e1] at er; cases er
        | ex c => rw [e1] at er; cases er
        | ok b =>
          rw [e1, Res.bind_ok] at er
          have t1 : mt (cEnv ρ js ds[i]) = .ok b := by
            have t1 := noEx_ok e1
            rw [← hT] at t1
            exact t1
          refine qt _ _ _ H3 _ _ R3 ?_
          show (mt (cEnv ρ js ds[i])).post _ _
          rw [t1]
          intro H4 s4
          cases b with
          | false => exact iteF (nxt acc H4 done rest (s3.trans s4) (ra.same (s3.trans s4)) (by bv_omega) er eo)
          | true =>
            refine iteT ?_
            simp only [if_true] at er
            cases e2 : noEx (F ds[i]) with
            | no => rw [e2] at er; cases er
            | ex c => rw [e2] at er; cases er
            | ok y =>
              rw [e2, Res.bind_ok] at er
              have t2 : me (cEnv ρ js ds[i]) = .ok y := by
                have t2 := noEx_ok e2
                rw [← hF] at t2
                exact t2
              refine qe _ _ _ H4 _ _ (R3.same s4) ?_
              show (me (cEnv ρ js ds[i])).post _ _
              rw [t2]
              intro v H5 s5 rv
              refine ⟨by bv_omega, ?_⟩
              obtain ⟨ys, e3⟩ : ∃ ys, compM T F (ds.drop (i + 1)) = .ok ys := by
                cases e3 : compM T F (ds.drop (i + 1)) with
                | no => rw [e3] at er; cases er
                | ex c => rw [e3] at er; cases er
                | ok ys => exact ⟨ys, rfl⟩
              rw [e3, Res.bind_ok] at er
              cases er
              have rv' : Rep H5 (Uni Oc Ob) v y := Rep.less rv fun b z => .inl z
              refine nxt (acc ++ [v]) H5 (done ++ [y]) ys ((s3.trans s4).trans s5) ((ra.same ((s3.trans s4).trans s5)).append (.one rv')) (by rw [List.length_append, List.length_singleton]; bv_omega) e3 ?_
              rw [List.append_assoc]
              exact eo
      · have ei : i = ds.length := by bv_omega
        subst ei
        refine .inl ⟨w2 (Nat.le_refl _), fun p hp => ?_⟩
        rw [List.drop_length] at er
        cases er
        rw [List.append_nil] at eo
        subst eo
        exact k _ _ ((s1.trans s2).trans (Same.new hp)) (new_list (s1.trans s2) hp ra)
  · rw [if_neg hlen] at k
    exact k.elim
theorem re_comp {C : Ct} {elt iter : Expr} {ifs : List Expr} {sc0 scope : Scope} {N0 : List Str} {px pos : Pos} {xt : Str} {fs : List Str} {js : List Nat} {mi : Ev → Res (List D)} {mt : Ev → Res Bool} {me : Ev → Res D} (S : CompScope sc0 scope N0 xt fs js) (h0 : C.X.env.scope = sc0) (hN0 : C.X.N = N0) (hc : C.X.calm = true)
    (hi : RIc C (.Name xt px) iter mi) (ht : ∀ A fp s₂ H, RTs (cC C (xt :: fs) scope A fp s₂ H js) ifs mt) (he : ∀ A fp s₂ H, RE (cC C (xt :: fs) scope A fp s₂ H js) .cl elt me)
    (hs : autoParam (∀ x, foldedSetIterable iter C.X.env x = pure x) autoK4._auto_1) :
    RE C .new (.ListComp elt [⟨.Name xt px, iter, ifs, 0⟩] scope pos) (eComp mi mt me js) := by
  obtain ⟨wi, pi, qi⟩ := hi
  refine ⟨_, pe_comp (tt := fun A fp s H => Classical.choose (ht A fp s H)) (te := fun A fp s H => Classical.choose (he A fp s H)) S h0 hN0 hc pi (fun A fp s H => (Classical.choose_spec (ht A fp s H)).1) (fun A fp s H => (Classical.choose_spec (he A fp s H)).1) hs, fun Oc Ob σ H ρ Q R h => comp_read qi ht he R h⟩
end L2.L3
set_option maxHeartbeats 4000000
namespace L2.L3
open PySem PySem.Spec PyProof.Rows
variable [CN]
section
variable {C : Ct} {fr : Bool} {e c : Expr} {pos : Pos} {md : Md} {me : Ev → Res D} {mt : Ev → Res Bool} {st : Stmt} {sts rest : List Stmt} {m n : Ev → Res Out}
def sN : Ev → Res Out := fun ρ => .ok (.nx ρ)
def sQ (m n : Ev → Res Out) : Ev → Res Out := fun ρ => (m ρ).bind fun o => match o with
  | .nx ρ' => n ρ'
  | .rt d => .ok (.rt d)
theorem vX : RSs C fr [] sN := ⟨_, pss_nil, fun Oc Ob σ H ρ E R h => h σ H Ob R (Same.frm (Same.refl H)) fun b z => .inl z⟩
theorem yE (h : RS C fr st m) : RSs C fr [st] m := by
  obtain ⟨t, p, q⟩ := h
  exact ⟨_, pss_one p, q⟩
theorem zR (h : RS C fr st m) (hr : RSs C fr rest n) : RSs C fr (st :: rest) (sQ m n) := by
  obtain ⟨t, p, q⟩ := h
  obtain ⟨t', p', q'⟩ := hr
  refine ⟨_, pss_cons p p', fun Oc Ob σ H ρ E R h => q Oc Ob σ H ρ _ R (Res.post_mono (Res.post_bind h) (fun o _ k => ?_) fun _ z => z)⟩
  cases o with
  | rt d => exact k
  | nx ρ' => exact fun σ' H' Ob' R' f s => q' Oc Ob' σ' H' ρ' E R' (SPost.step f s k)
def sX : Ev → Res Out := fun _ => .no
def sIf (t : Ev → Res Bool) (m n : Ev → Res Out) : Ev → Res Out := fun ρ => (t ρ).bind fun b => if b then m ρ else n ρ
theorem vR {x y : List Stmt} (hc : RT C c mt) (hx : RSs C fr x m) (hy : RSs C fr y n) : RS C fr (.If c x y pos) (sIf mt m n) := by
  obtain ⟨t, p, q⟩ := hc
  obtain ⟨t1, p1, q1⟩ := hx
  obtain ⟨t2, p2, q2⟩ := hy
  refine ⟨_, ps_if p p1 p2, fun Oc Ob σ H ρ E R h => q Oc Ob σ H ρ _ R (Res.post_mono (Res.post_bind h) (fun b _ k H' s => ?_) fun c z H' s => z H' (Same.frm s))⟩
  cases b with
  | true => exact iteT (q1 Oc Ob σ H' ρ E (R.same s) (SPost.same s k))
  | false => exact iteF (q2 Oc Ob σ H' ρ E (R.same s) (SPost.same s k))
def sR (m : Ev → Res D) : Ev → Res Out := fun ρ => (m ρ).bind fun d => .ok (.rt d)
theorem vY (he : RE C .cl e me) : RS C false (.Return (some e) pos) (sR me) := by
  obtain ⟨t, p, q⟩ := he
  refine ⟨_, ps_ret p, fun Oc Ob σ H ρ E R h => q Oc Ob σ H ρ _ R (Res.post_mono (Res.post_bind h) (fun d _ k v H' s r => ?_) fun c z H' s => z H' (Same.frm s))⟩
  exact k v H' (Same.frm s) (Rep.less r fun b z => .inl z)
theorem rs_retW (he : RE C .new e me) : RS C true (.Return (some e) pos) (sR me) := by
  obtain ⟨t, p, q⟩ := he
  refine ⟨_, ps_ret p, fun Oc Ob σ H ρ E R h => q Oc Ob σ H ρ _ R (Res.post_mono (Res.post_bind h) (fun d _ k v H' s r => ?_) fun c z H' s => z H' (Same.frm s))⟩
  obtain ⟨a, ys, ds, e1, e2, e3, e4, e5⟩ := r
  exact k v H' (Same.frm s) ⟨a, ys, ds, e1, e2, .inl e3, fun z => R.oh a (.inl z) e3, e4, e5.less fun b z => z.elim (fun z => .inl (.inl z)) .inr⟩
theorem rs_retO (i : Nat) {x : Str} {p' : Pos} (hN : autoParam (C.X.N[i]? = some x) autoK5._auto_1) (ho : autoParam (C.om.contains i = true) autoK5._auto_1) (hv : autoParam (Vis C.X.env.scope x) autoK8._auto_1) (hd : autoParam ((x == ("__debug__" : Str)) = false) autoK2._auto_1)
    (hcd : autoParam ((x == ("__classdict__" : Str)) = false) autoK2._auto_1) : RS C true (.Return (some (.Name x p')) pos) (sR (eV i)) := by
  refine ⟨_, ps_ret (pe_var hN hv hd hcd), fun Oc Ob σ H ρ E R h => ?_⟩
  obtain ⟨d, e, k⟩ := eV_post (Res.post_bind h)
  obtain ⟨v, q, a, ys, ds, e1, e2, e3, e4, e5⟩ := R.own i d e (mem_of ho)
  exact ⟨v, q, k v H (Same.frm (Same.refl H)) ⟨a, ys, ds, e1, e2, .inr e4, R.ap a e4, e3, e5.less fun b z => z.elim .inl fun z => .inr (by subst z; exact e4)⟩⟩
theorem set_get {α : Type} {l : List (Option α)} {i j : Nat} {v d : α} (h : (l.set i (some v))[j]? = some (some d)) : (j = i ∧ d = v) ∨ (j ≠ i ∧ l[j]? = some (some d)) := by
  by_cases e : i = j
  · subst e
    rw [List.getElem?_set_self'] at h
    cases q : l[i]? with
    | none => rw [q] at h; cases h
    | some z => rw [q] at h; cases h; exact .inl ⟨rfl, rfl⟩
  · rw [List.getElem?_set_ne e] at h
    exact .inr ⟨fun z => e z.symm, h⟩
theorem set_lt {α : Type} {l : List (Option α)} {i j : Nat} {v d : α} (h : (l.set i (some v))[j]? = some (some d)) : j < l.length := by
  have := (List.getElem?_eq_some_iff.mp h).1
  simpa using this
theorem Rel.set {Oc : Wd} {Ob : Addr → Prop} {om ln : List Nat} {σ : St} {H : Hp} {ρ : Ev} {i : Nat} {v : V} {d : D} (R : Rel Oc Ob om ln σ H ρ) (ho : i ∉ om) (hl : i ∉ ln) (r : Rep H (Uni Oc Ob) v d) : Rel Oc Ob om ln (σ.set i (some v)) H (ρ.set i (some d)) where
  len := by rw [List.length_set, List.length_set]; exact R.len
  val := fun j d' e h1 h2 => by
    have hj := set_lt e
    rcases set_get e with ⟨rfl, rfl⟩ | ⟨ne, e⟩
    · exact ⟨v, by rw [List.getElem?_set_self (by rw [R.len]; exact hj)], r⟩
    · obtain ⟨w, q, k⟩ := R.val j d' e h1 h2
      exact ⟨w, by rw [List.getElem?_set_ne (fun z => ne z.symm)]; exact q, k⟩
  own := fun j d' e h1 => by
    rcases set_get e with ⟨rfl, rfl⟩ | ⟨ne, e⟩
    · exact absurd h1 ho
    · obtain ⟨w, q, k⟩ := R.own j d' e h1
      exact ⟨w, by rw [List.getElem?_set_ne (fun z => ne z.symm)]; exact q, k⟩
  lnt := fun j d' e h1 h2 => by
    rcases set_get e with ⟨rfl, rfl⟩ | ⟨ne, e⟩
    · exact absurd h2 hl
    · obtain ⟨w, q, k⟩ := R.lnt j d' e h1 h2
      exact ⟨w, by rw [List.getElem?_set_ne (fun z => ne z.symm)]; exact q, k⟩
  inj := fun j k dj dk a ej ek hj hk qj qk => by
    rcases set_get ej with ⟨rfl, rfl⟩ | ⟨nj, ej⟩
    · exact absurd hj ho
    · rcases set_get ek with ⟨rfl, rfl⟩ | ⟨nk, ek⟩
      · exact absurd hk ho
      · rw [List.getElem?_set_ne (fun z => nj z.symm)] at qj
        rw [List.getElem?_set_ne (fun z => nk z.symm)] at qk
        exact R.inj j k dj dk a ej ek hj hk qj qk
  oh := R.oh
  ap := R.ap
theorem Rel.setO {Oc : Wd} {Ob : Addr → Prop} {om ln : List Nat} {σ : St} {H H' : Hp} {ρ : Ev} {i : Nat} {v : V} {d : D} (R : Rel Oc Ob om ln σ H ρ) (s : Same H H') (ho : i ∈ om) (r : VR .new Oc Ob H H' v d) : ∃ a, H a = none ∧ Rel Oc (fun b => Ob b ∨ b = a) om ln (σ.set i (some v)) H' (ρ.set i (some d)) := by
  obtain ⟨a, ys, ds, rfl, rfl, e3, e4, e5⟩ := r
  have up : ∀ {vs : List V} {es : List D}, Reps H (Uni Oc Ob) vs es → Reps H' (Uni Oc fun b => Ob b ∨ b = a) vs es := fun r => r.keep (fun b o e _ => s b o e) fun b n z => z.elim .inl fun z => z.elim .inr fun z => by subst z; exact absurd e3 n
  have up1 : ∀ {v : V} {e : D}, Rep H (Uni Oc Ob) v e → Rep H' (Uni Oc fun b => Ob b ∨ b = a) v e := fun r => r.keep (fun b o e _ => s b o e) fun b n z => z.elim .inl fun z => z.elim .inr fun z => by subst z; exact absurd e3 n
  refine ⟨a, e3, ?_, fun j d' e h1 h2 => ?_, fun j d' e h1 => ?_, fun j d' e h1 h2 => ?_, fun j k dj dk b ej ek hj hk qj qk => ?_, fun b z => ?_, fun b z => ?_⟩
  · rw [List.length_set, List.length_set]; exact R.len
  · rcases set_get e with ⟨rfl, rfl⟩ | ⟨ne, e⟩
    · exact absurd ho h1
    · obtain ⟨w, q, k⟩ := R.val j d' e h1 h2
      exact ⟨w, by rw [List.getElem?_set_ne (fun z => ne z.symm)]; exact q, up1 k⟩
  · have hj := set_lt e
    rcases set_get e with ⟨rfl, rfl⟩ | ⟨ne, e⟩
    · refine ⟨.ref a, by rw [List.getElem?_set_self (by rw [R.len]; exact hj)], a, ys, ds, rfl, rfl, e4, .inr rfl, e5.less fun b z => z.elim (fun z => .inl (.inl z)) fun z => z.elim (fun z => .inl (.inr z)) .inr⟩
    · obtain ⟨w, q, b, zs, fs, z1, z2, z3, z4, z5⟩ := R.own j d' e h1
      exact ⟨w, by rw [List.getElem?_set_ne (fun z => ne z.symm)]; exact q, b, zs, fs, z1, z2, s _ _ z3, .inl z4, up z5⟩
  · rcases set_get e with ⟨rfl, rfl⟩ | ⟨ne, e⟩
    · exact absurd ho h1
    · obtain ⟨w, q, zs, fs, z1, z2, z3, z4, z5⟩ := R.lnt j d' e h1 h2
      exact ⟨w, by rw [List.getElem?_set_ne (fun z => ne z.symm)]; exact q, zs, fs, z1, z2, s _ _ z3, z4, up z5⟩
  · have lj := set_lt ej
    have lk := set_lt ek
    rcases set_get ej with ⟨rfl, rfl⟩ | ⟨nj, ej'⟩
    · rw [List.getElem?_set_self (by rw [R.len]; exact lj)] at qj
      cases qj
      rcases set_get ek with ⟨rfl, rfl⟩ | ⟨nk, ek'⟩
      · rfl
      · rw [List.getElem?_set_ne (fun z => nk z.symm)] at qk
        obtain ⟨w, q, b, zs, fs, z1, z2, z3, z4, z5⟩ := R.own k dk ek' hk
        rw [qk] at q
        cases q
        cases z1
        rw [e3] at z3
        cases z3
    · rw [List.getElem?_set_ne (fun z => nj z.symm)] at qj
      rcases set_get ek with ⟨rfl, rfl⟩ | ⟨nk, ek'⟩
      · rw [List.getElem?_set_self (by rw [R.len]; exact lk)] at qk
        cases qk
        obtain ⟨w, q, b, zs, fs, z1, z2, z3, z4, z5⟩ := R.own j dj ej' hj
        rw [qj] at q
        cases q
        cases z1
        rw [e3] at z3
        cases z3
      · rw [List.getElem?_set_ne (fun z => nk z.symm)] at qk
        exact R.inj j k dj dk b ej' ek' hj hk qj qk
  · rcases z with z | z | rfl
    · exact Same.ne s (R.oh b (.inl z))
    · exact Same.ne s (R.oh b (.inr z))
    · rw [e4]; exact fun z => nomatch z
  · rcases z with z | rfl
    · exact R.ap b z
    · exact fun z => R.oh b (.inl z) e3
def sS (i : Nat) (m : Ev → Res D) : Ev → Res Out := fun ρ => (m ρ).bind fun d => .ok (.nx (ρ.set i (some d)))
theorem wB (i : Nat) {x : Str} {p' : Pos} (nd : C.X.N.Nodup) (he : RE C .cl e me) (hi : autoParam (C.X.N[i]? = some x) autoK5._auto_1) (ho : autoParam (C.om.contains i = false) autoK5._auto_1) (hl : autoParam (C.ln.contains i = false) autoK5._auto_1) (hx : autoParam (Loc C.X.env.scope x) autoK11._auto_1)
    (hs : autoParam (swapsWith e (some (.Name x p')) pos.line C.X.env = pure false) autoK5._auto_1) (hf : autoParam (C.X.fn x = true ∨ C.X.env.scope.names.lookup x = some .local) autoK12._auto_1) : RS C fr (.Assign [.Name x p'] e pos) (sS i me) := by
  obtain ⟨t, p, q⟩ := he
  refine ⟨_, ps_set nd hi hx p hs hf, fun Oc Ob σ H ρ E R h => q Oc Ob σ H ρ _ R (Res.post_mono (Res.post_bind h) (fun d _ k v H' s r => ?_) fun c z H' s => z H' (Same.frm s))⟩
  exact k _ H' Ob ((R.same s).set (not_mem_of ho) (not_mem_of hl) r) (Same.frm s) fun b z => .inl z
theorem vN (i : Nat) {x : Str} {p' : Pos} (nd : C.X.N.Nodup) (he : RE C .new e me) (hi : autoParam (C.X.N[i]? = some x) autoK5._auto_1) (ho : autoParam (C.om.contains i = true) autoK5._auto_1) (hx : autoParam (Loc C.X.env.scope x) autoK11._auto_1)
    (hs : autoParam (swapsWith e (some (.Name x p')) pos.line C.X.env = pure false) autoK5._auto_1) (hf : autoParam (C.X.fn x = true ∨ C.X.env.scope.names.lookup x = some .local) autoK12._auto_1) : RS C fr (.Assign [.Name x p'] e pos) (sS i me) := by
  obtain ⟨t, p, q⟩ := he
  refine ⟨_, ps_set nd hi hx p hs hf, fun Oc Ob σ H ρ E R h => q Oc Ob σ H ρ _ R (Res.post_mono (Res.post_bind h) (fun d _ k v H' s r => ?_) fun c z H' s => z H' (Same.frm s))⟩
  obtain ⟨a, ha, R'⟩ := R.setO s (mem_of ho) r
  exact k _ H' _ R' (Same.frm s) fun b z => z.elim .inl fun z => .inr (by subst z; exact ha)
theorem rs_aug (i : Nat) {x : Str} {p' : Pos} {op : Operator} {r : R2} {f : D → D → Option D} (nd : C.X.N.Nodup) (hop : OpR C.X (inplaceOp op) r) (hp : Pr2 r .cl f) (he : RE C md e me) (hi : autoParam (C.X.N[i]? = some x) autoK5._auto_1) (ho : autoParam (C.om.contains i = false) autoK5._auto_1) (hl : autoParam (C.ln.contains i = false) autoK5._auto_1) (hx : autoParam (Loc C.X.env.scope x) autoK11._auto_1)
    (hf : autoParam (C.X.fn x = true ∨ C.X.env.scope.names.lookup x = some .local) autoK12._auto_1) : RS C fr (.AugAssign (.Name x p') op e pos) (sS i (e2 f (eV i) me)) := by
  obtain ⟨t, p, q⟩ := he
  refine ⟨_, ps_aug (ti := r) nd hi hx p hop hf, fun Oc Ob σ H ρ E R h => ?_⟩
  obtain ⟨d, ed, k⟩ := eV_post (Res.post_bind (Res.post_bind h))
  obtain ⟨v, qv, rv⟩ := R.val i d ed (not_mem_of ho) (not_mem_of hl)
  refine ⟨v, qv, q Oc Ob σ H ρ _ R (Res.post_mono (Res.post_bind k) (fun d' _ k v' H' s r' => ?_) fun c z H' s => z H' (Same.frm s))⟩
  obtain ⟨d2, e, k⟩ := Res.post_lft k
  refine hp Oc Ob H' v v' d d' d2 _ (R.same s).oh (.inl (rv.same s)) (r'.va R.oh) e fun w H2 s2 rw' => ?_
  exact k _ H2 Ob ((R.same (s.trans s2)).set (not_mem_of ho) (not_mem_of hl) rw') (Same.frm (s.trans s2)) fun b z => .inl z
def sE (m : Ev → Res D) : Ev → Res Out := fun ρ => (m ρ).bind fun _ => .ok (.nx ρ)
theorem rs_expr (he : RE C md e me) (hs : autoParam (swapsWith e none pos.line C.X.env = pure false) autoK5._auto_1) : RS C fr (.Expr e pos) (sE me) := by
  obtain ⟨t, p, q⟩ := he
  refine ⟨_, ps_expr p hs, fun Oc Ob σ H ρ E R h => q Oc Ob σ H ρ _ R (Res.post_mono (Res.post_bind h) (fun d _ k v H' s r => ?_) fun c z H' s => z H' (Same.frm s))⟩
  exact k σ H' Ob (R.same s) (Same.frm s) fun b z => .inl z
theorem Rel.write {Oc : Wd} {Ob : Addr → Prop} {om ln : List Nat} {σ : St} {H : Hp} {ρ : Ev} {i : Nat} {a : Addr} {ys ys' : List V} {d : D} {ds' : List D} (R : Rel Oc Ob om ln σ H ρ) (ho : i ∈ om) (ed : ρ[i]? = some (some d)) (es : σ[i]? = some (some (.ref a))) (ha : H a = some (.lst ys)) (hb : Ob a)
    (r : Reps H (Uni Oc Ob) ys' ds') : Rel Oc Ob om ln σ (upd H a (.lst ys')) (ρ.set i (some (.list ds'))) := by
  have kp : ∀ b o, H b = some o → ¬ Uni Oc Ob b → upd H a (.lst ys') b = some o := fun b o e n => by
    rw [upd_ne (fun z => n (by subst z; exact .inr hb))]; exact e
  have up : ∀ {vs : List V} {es : List D}, Reps H (Uni Oc Ob) vs es → Reps (upd H a (.lst ys')) (Uni Oc Ob) vs es := fun r => r.keep kp fun b n z => z
  have up1 : ∀ {v : V} {e : D}, Rep H (Uni Oc Ob) v e → Rep (upd H a (.lst ys')) (Uni Oc Ob) v e := fun r => r.keep kp fun b n z => z
  have li : i < σ.length := (List.getElem?_eq_some_iff.mp es).1
  refine ⟨by rw [List.length_set]; exact R.len, fun j d' e h1 h2 => ?_, fun j d' e h1 => ?_, fun j d' e h1 h2 => ?_, fun j k dj dk b ej ek hj hk qj qk => ?_, fun b z => ?_, R.ap⟩
  · rcases set_get e with ⟨rfl, rfl⟩ | ⟨ne, e⟩
    · exact absurd ho h1
    · obtain ⟨w, q, k⟩ := R.val j d' e h1 h2
      exact ⟨w, q, up1 k⟩
  · rcases set_get e with ⟨rfl, rfl⟩ | ⟨ne, e⟩
    · exact ⟨.ref a, es, a, ys', ds', rfl, rfl, upd_same, hb, up r⟩
    · obtain ⟨w, q, b, zs, fs, rfl, z2, z3, z4, z5⟩ := R.own j d' e h1
      have nb : b ≠ a := fun z => by subst z; exact ne (R.inj j i d' d b e ed h1 ho q es)
      exact ⟨_, q, b, zs, fs, rfl, z2, by rw [upd_ne nb]; exact z3, z4, up z5⟩
  · rcases set_get e with ⟨rfl, rfl⟩ | ⟨ne, e⟩
    · exact absurd ho h1
    · obtain ⟨w, q, zs, fs, z1, z2, z3, z4, z5⟩ := R.lnt j d' e h1 h2
      have nb : Oc.la j ≠ a := fun z => R.ap a hb (z ▸ z4)
      exact ⟨_, q, zs, fs, z1, z2, by rw [upd_ne nb]; exact z3, z4, up z5⟩
  · have get : ∀ j dj, (ρ.set i (some (.list ds')))[j]? = some (some dj) → ∃ d, ρ[j]? = some (some d) := fun j dj e => by
      rcases set_get e with ⟨rfl, rfl⟩ | ⟨ne, e⟩
      · exact ⟨d, ed⟩
      · exact ⟨dj, e⟩
    obtain ⟨d1, e1⟩ := get j dj ej
    obtain ⟨d2, e2⟩ := get k dk ek
    exact R.inj j k d1 d2 b e1 e2 hj hk qj qk
  · by_cases h : b = a
    · subst h; rw [upd_same]; exact fun z => nomatch z
    · rw [upd_ne h]; exact R.oh b z
def PrM (r : V → List V → Hp → VK → Prop) (g : List D → List D → Option (List D)) : Prop :=
  ∀ (O : Addr → Prop) (H : Hp) (l : Addr) (xs vs : List V) (xd ad ds' : List D) (Q : VK), H l = some (.lst xs) → Reps H O xs xd → Reps H O vs ad → g xd ad = some ds' → (∀ xs', Reps H O xs' ds' → Q .non (upd H l (.lst xs'))) → r (.ref l) vs H Q
def lstD : D → Option (List D)
  | .list ds => some ds
  | _ => none
def sM (i : Nat) (g : List D → List D → Option (List D)) (m : Ev → Res (List D)) : Ev → Res Out := fun ρ => (eV i ρ).bind fun d => (Res.lft (lstD d)).bind fun xd => (m ρ).bind fun ad => (Res.lft (g xd ad)).bind fun ds => .ok (.nx (ρ.set i (some (.list ds))))
theorem lstD_some {d : D} {ds : List D} (h : lstD d = some ds) : d = .list ds := by
  cases d <;> simp [lstD] at h ⊢
  exact h
theorem vA (i : Nat) {x name : Str} {id : String} {a : Expr} {es : List Expr} {ms : Ev → Res (List D)} {p' apos cpos : Pos} {r : V → List V → Hp → VK → Prop} {g : List D → List D → Option (List D)} (slot : Slot "list" name id) (hty : typeOf (.builtin id) = pure (.type "method_descriptor")) (hm : MtR C.X id r) (hp : PrM r g) (ha : RArg C true (a :: es) ms)
    (hN : autoParam (C.X.N[i]? = some x) autoK5._auto_1) (ho : autoParam (C.om.contains i = true) autoK5._auto_1) (hv : autoParam (Vis C.X.env.scope x) autoK8._auto_1) (hd : autoParam ((x == ("__debug__" : Str)) = false) autoK2._auto_1) (hcd : autoParam ((x == ("__classdict__" : Str)) = false) autoK2._auto_1)
    (hbase : autoParam (attributeBase (.Name x p') name C.X.env (eval (.Name x p') C.X.env) = eval (.Name x p') C.X.env) autoK5._auto_1)
    (hfew : ((backTo cpos (starEach (a :: es) C.X.env)).all (fun x => !x.1) && (backToKw cpos (keywordEach [] C.X.env)).all (fun x => x.1.isSome)
      && decide ((a :: es).length + ([] : List Keyword).length + (if ([] : List Keyword).isEmpty then 0 else 1) < 30)) = true := by rfl)
    (hline : autoParam ((apos.endLine == cpos.line) = true) autoK5._auto_1) (hs : autoParam (starEach (a :: es) C.X.env = (false, eval a C.X.env) :: starEach es C.X.env) autoK5._auto_1) (hplain : autoParam ((backTo cpos (starEach es C.X.env)).any (·.1) = false) autoK5._auto_1)
    (hsw : autoParam (swapsWith (.Call (.Attribute (.Name x p') name apos) (a :: es) [] cpos) none pos.line C.X.env = pure false) autoK5._auto_1) :
    RS C fr (.Expr (.Call (.Attribute (.Name x p') name apos) (a :: es) [] cpos) pos) (sM i g ms) := by
  obtain ⟨t, p, q⟩ := ha
  refine ⟨_, ps_expr (pe_bm PySem.F.plainAttrs_list slot hty hm (pe_var hN hv hd hcd) p hbase hfew hline hs hplain) hsw, fun Oc Ob σ H ρ E R h => ?_⟩
  obtain ⟨d, ed, k⟩ := eV_post (Res.post_bind h)
  obtain ⟨xd, ex, k⟩ := Res.post_lft (Res.post_bind k)
  obtain rfl := lstD_some ex
  obtain ⟨v, qv, l, ys, ds, rfl, e2, e3, e4, e5⟩ := R.own i _ ed (mem_of ho)
  cases e2
  refine ⟨_, qv, .inl ⟨rfl, _, SqL.of e3⟩, q Oc Ob σ H ρ _ R (Res.post_mono (Res.post_bind k) (fun ad _ k vs H' s r' => ?_) fun c z H' s => z H' (Same.frm s))⟩
  obtain ⟨ds', eg, k⟩ := Res.post_lft (Res.post_bind k)
  refine hp _ H' l ys vs xd ad ds' _ (s _ _ e3) (e5.same s) r' eg fun xs' rx => ?_
  refine k _ _ Ob ((R.same s).write (mem_of ho) ed qv (s _ _ e3) e4 rx) (fun b o e n => ?_) fun b z => .inl z
  rw [upd_ne (fun z => n (by subst z; exact e4))]
  exact s b o e
end
end L2.L3
set_option maxHeartbeats 4000000
namespace L2.L3
open PySem PySem.Spec PyProof.Rows
variable [CN]
def RG (C : Ct) (tg : Expr) (g : D → Ev → Option Ev) : Prop :=
  ∃ t, PG C.X tg t ∧ ∀ (Oc : Wd) (Ob : Addr → Prop) (σ : St) (H : Hp) (ρ ρ' : Ev) (v : V) (d : D) (Q : St → Hp → Prop), Rel Oc Ob C.om C.ln σ H ρ → Rep H (Uni Oc Ob) v d → g d ρ = some ρ' → (∀ σ', Rel Oc Ob C.om C.ln σ' H ρ' → Q σ' H) → t v σ H Q
def gN (i : Nat) : D → Ev → Option Ev := fun d ρ => some (ρ.set i (some d))
section
variable {C : Ct} {fr : Bool} {e c : Expr} {es : List Expr} {pos : Pos} {md : Md} {me : Ev → Res D} {mt : Ev → Res Bool} {st : Stmt} {body sts rest : List Stmt} {m n : Ev → Res Out} {mi : Ev → Res (List D)} {g : D → Ev → Option Ev}
theorem rg_name (i : Nat) {x : Str} (nd : C.X.N.Nodup) (hi : autoParam (C.X.N[i]? = some x) autoK5._auto_1) (ho : autoParam (C.om.contains i = false) autoK5._auto_1) (hl : autoParam (C.ln.contains i = false) autoK5._auto_1) (hx : autoParam (Loc C.X.env.scope x) autoK11._auto_1)
    (hf : autoParam (C.X.fn x = true ∨ C.X.env.scope.names.lookup x = some .local) autoK12._auto_1) : RG C (.Name x pos) (gN i) := by
  refine ⟨_, pg_name nd hi hx hf, fun Oc Ob σ H ρ ρ' v d Q R r e k => ?_⟩
  cases e
  exact k _ (R.set (not_mem_of ho) (not_mem_of hl) r)
def RGs (C : Ct) (ts : List Expr) (g : List D → Ev → Option Ev) : Prop :=
  ∃ t, PGs C.X ts t ∧ ∀ (Oc : Wd) (Ob : Addr → Prop) (σ : St) (H : Hp) (ρ ρ' : Ev) (vs : List V) (ds : List D) (Q : St → Hp → Prop), Rel Oc Ob C.om C.ln σ H ρ → Reps H (Uni Oc Ob) vs ds → g ds ρ = some ρ' → (∀ σ', Rel Oc Ob C.om C.ln σ' H ρ' → Q σ' H) → t vs σ H Q
def gsN : List D → Ev → Option Ev
  | [], ρ => some ρ
  | _, _ => none
def gsC (g : D → Ev → Option Ev) (h : List D → Ev → Option Ev) : List D → Ev → Option Ev
  | d :: ds, ρ => (g d ρ).bind fun ρ1 => h ds ρ1
  | [], _ => none
theorem rgs_nil : RGs C [] gsN := by
  refine ⟨_, pgs_nil, fun Oc Ob σ H ρ ρ' vs ds Q R r e k => ?_⟩
  cases r with
  | nil => cases e; exact ⟨rfl, k σ R⟩
  | cons => cases e
theorem rgs_cons {h : List D → Ev → Option Ev} (h1 : RG C e g) (h2 : RGs C es h) (hs : autoParam ((assignEach (e :: es) C.X.env).map (·.2) = assign e C.X.env :: (assignEach es C.X.env).map (·.2)) autoK5._auto_1) : RGs C (e :: es) (gsC g h) := by
  obtain ⟨t, p, q⟩ := h1
  obtain ⟨t', p', q'⟩ := h2
  refine ⟨_, pgs_cons p p' hs, fun Oc Ob σ H ρ ρ' vs ds Q R r e k => ?_⟩
  cases r with
  | nil => cases e
  | cons r rs =>
    obtain ⟨ρ1, e1, e2⟩ := Option.bind_eq_some_iff.mp e
    exact ⟨_, _, rfl, q Oc Ob σ H ρ ρ1 _ _ _ R r e1 fun σ' R' => q' Oc Ob σ' H ρ1 ρ' _ _ Q R' rs e2 k⟩
def gT (n : Nat) (h : List D → Ev → Option Ev) : D → Ev → Option Ev
  | .tuple ds, ρ => if ds.length = n then h ds ρ else none
  | _, _ => none
theorem rg_tup {k n : Nat} {h : List D → Ev → Option Ev} (hc : C.X.calm = true) (hg : RGs C es h) (hn : autoParam ((assignEach es C.X.env).length = n) autoK5._auto_1) (hst : autoParam ((assignEach es C.X.env).findIdx? (·.1) = none) autoK5._auto_1) : RG C (.Tuple es k pos) (gT n h) := by
  obtain ⟨t, p, q⟩ := hg
  refine ⟨_, pg_tup hc p hn hst, fun Oc Ob σ H ρ ρ' v d Q R r e k => ?_⟩
  cases r with
  | tup rd no rs =>
    unfold gT at e
    simp only at e
    split at e
    · rename_i hl
      exact ⟨_, _, rfl, .inl rd, by rw [rs.length]; exact hl, q Oc Ob σ H ρ ρ' _ _ Q R rs e k⟩
    · cases e
  | _ => cases e
def forM (g : D → Ev → Option Ev) (b : Ev → Res Out) : List D → Ev → Res Out
  | [], ρ => .ok (.nx ρ)
  | x :: xs, ρ => (Res.lft (g x ρ)).bind fun ρ1 => (b ρ1).bind fun o => match o with
    | .nx ρ2 => forM g b xs ρ2
    | .rt d => .ok (.rt d)
def sF (mi : Ev → Res (List D)) (g : D → Ev → Option Ev) (b : Ev → Res Out) : Ev → Res Out := fun ρ => (mi ρ).bind fun ds => forM g b ds ρ
theorem vJ {tg iter : Expr} (hi : RI C tg iter mi) (hg : RG C tg g) (hb : RSs C fr body m) (hp : autoParam (PassesOwn (model C.X.prog C.X.w) C.X.A C.X.env C.X.xe) autoK13._auto_1) (hc : autoParam (C.X.calm = true) autoK5._auto_1)
    (hs : autoParam (∀ x, foldedSetIterable iter C.X.env x = pure x) autoK4._auto_1) : RS C fr (.For tg iter body [] pos) (sF mi g m) := by
  obtain ⟨wi, pi, qi⟩ := hi
  obtain ⟨tg', pg, qg⟩ := hg
  obtain ⟨tb, pb, qb⟩ := hb
  refine ⟨_, ps_for hp hc pi pg pb hs, fun Oc Ob σ H ρ E R h => qi Oc Ob σ H ρ _ R (Res.post_mono (Res.post_bind h) (fun ds _ k J H1 s1 wk => ?_) fun c z H' s => z H' (Same.frm s))⟩
  refine ⟨fun i mm σ' H' => mm = ds.length - i ∧ i ≤ ds.length ∧ ∃ ρi Obi, Rel Oc Obi C.om C.ln σ' H' ρi ∧ Frm Ob H1 H' ∧ (∀ b, Obi b → Ob b ∨ H1 b = none) ∧ SPost C fr Oc Obi H' E (forM g m (ds.drop i) ρi),
    ⟨_, rfl, Nat.zero_le _, ρ, Ob, R.same s1, Same.frm (Same.refl _), fun b z => .inl z, SPost.same s1 k⟩, ?_⟩
  rintro i mm σ2 H2 ⟨rfl, hi, ρi, Obi, R2, f2, sb2, k2⟩
  obtain ⟨w1, w2⟩ := wk H2 Obi f2 sb2 i
  by_cases hlt : i < ds.length
  · obtain ⟨go, yl⟩ := w1 ds[i] (List.getElem?_eq_getElem hlt)
    have ed : ds.drop i = ds[i] :: ds.drop (i + 1) := List.drop_eq_getElem_cons hlt
    rw [ed, forM] at k2
    obtain ⟨ρ1, e1, k2⟩ := Res.post_lft (Res.post_bind k2)
    refine .inr ⟨go, fun σ' H' => ∃ m', m' < ds.length - i ∧ (m' = ds.length - (i + 1) ∧ i + 1 ≤ ds.length ∧ ∃ ρi Obi, Rel Oc Obi C.om C.ln σ' H' ρi ∧ Frm Ob H1 H' ∧ (∀ b, Obi b → Ob b ∨ H1 b = none) ∧ SPost C fr Oc Obi H' E (forM g m (ds.drop (i + 1)) ρi)), fun _ _ z => z, fun x H3 hy => ?_⟩
    obtain ⟨s3, rx⟩ := yl x H3 hy
    refine qg Oc Obi σ2 H3 ρi ρ1 x _ _ (R2.same s3) rx e1 fun σ3 R3 => ?_
    have k3 := SPost.same s3 (show SPost C fr Oc Obi H2 E _ from k2)
    refine qb Oc Obi σ3 H3 ρ1 _ R3 (Res.post_mono (Res.post_bind k3) (fun o _ k4 => ?_) fun _ z => z)
    cases o with
    | rt d => exact k4
    | nx ρ2 =>
      intro σ4 H4 Ob4 R4 f4 sb4
      have f3 : Frm Ob H1 H3 := fun b o e n => s3 b o (f2 b o e n)
      refine ⟨_, by bv_omega, rfl, hlt, ρ2, Ob4, R4, f3.trans sb2 f4, fun b z => (sb4 b z).elim (sb2 b) fun z => f3.none z, SPost.step f4 sb4 k4⟩
  · have ei : i = ds.length := by bv_omega
    subst ei
    rw [List.drop_length] at k2
    exact .inl ⟨w2 (Nat.le_refl _), k2 σ2 H2 Obi R2 (Same.frm (Same.refl _)) fun b z => .inl z⟩
def whM (t : Ev → Res Bool) (b : Ev → Res Out) : Nat → Ev → Res Out
  | 0, _ => .no
  | k + 1, ρ => (t ρ).bind fun c => if c then (b ρ).bind fun o => match o with
    | .nx ρ' => whM t b k ρ'
    | .rt d => .ok (.rt d) else .ok (.nx ρ)
def sW (fuel : Nat) (t : Ev → Res Bool) (b : Ev → Res Out) : Ev → Res Out := fun ρ => whM t b fuel ρ
theorem rs_while (fuel : Nat) (hc : RT C c mt) (hb : RSs C fr body m) (hp : autoParam (PassesOwn (model C.X.prog C.X.w) C.X.A C.X.env C.X.xe) autoK13._auto_1) : RS C fr (.While c body [] pos) (sW fuel mt m) := by
  obtain ⟨t, p, q⟩ := hc
  obtain ⟨tb, pb, qb⟩ := hb
  refine ⟨_, ps_while hp p pb, fun Oc Ob σ H ρ E R h => ?_⟩
  refine ⟨fun mm σ' H' => ∃ ρi Obi, Rel Oc Obi C.om C.ln σ' H' ρi ∧ Frm Ob H H' ∧ (∀ b, Obi b → Ob b ∨ H b = none) ∧ SPost C fr Oc Obi H' E (whM mt m mm ρi), ⟨fuel, ρ, Ob, R, Same.frm (Same.refl _), fun b z => .inl z, h⟩, ?_⟩
  rintro mm σ2 H2 ⟨ρi, Obi, R2, f2, sb2, k2⟩
  cases mm with
  | zero => exact k2.elim
  | succ mm =>
    rw [whM] at k2
    refine q Oc Obi σ2 H2 ρi _ R2 (Res.post_mono (Res.post_bind k2) (fun b _ k3 H3 s3 => ?_) fun c z H' s => z H' (Same.frm s))
    cases b with
    | false => exact iteF (k3 σ2 H3 Obi (R2.same s3) (Same.frm s3) fun b z => .inl z)
    | true =>
      refine iteT ⟨fun σ' H' => ∃ m', m' < mm + 1 ∧ ∃ ρi Obi, Rel Oc Obi C.om C.ln σ' H' ρi ∧ Frm Ob H H' ∧ (∀ b, Obi b → Ob b ∨ H b = none) ∧ SPost C fr Oc Obi H' E (whM mt m m' ρi), fun _ _ z => z, ?_⟩
      have k3 := SPost.same s3 (show SPost C fr Oc Obi H2 E _ from k3)
      refine qb Oc Obi σ2 H3 ρi _ (R2.same s3) (Res.post_mono (Res.post_bind k3) (fun o _ k4 => ?_) fun _ z => z)
      cases o with
      | rt d => exact k4
      | nx ρ2 =>
        intro σ4 H4 Ob4 R4 f4 sb4
        have f3 : Frm Ob H H3 := fun b o e n => s3 b o (f2 b o e n)
        exact ⟨mm, Nat.lt_succ_self _, ρ2, Ob4, R4, f3.trans sb2 f4, fun b z => (sb4 b z).elim (sb2 b) fun z => f3.none z, SPost.step f4 sb4 k4⟩
def setD (ds : List D) (i v : D) : Option (List D) := match i with
  | .int k => (ixN ds.length k).map fun j => ds.set j v
  | _ => none
def sI (i : Nat) (mk me : Ev → Res D) : Ev → Res Out := fun ρ => (me ρ).bind fun v => (eV i ρ).bind fun d => (Res.lft (lstD d)).bind fun xd => (mk ρ).bind fun k => (Res.lft (setD xd k v)).bind fun ds => .ok (.nx (ρ.set i (some (.list ds))))
theorem rs_item (i : Nat) {x : Str} {p' p2 : Pos} {k : Expr} {mk : Ev → Res D} (he : RE C .cl e me) (hk : RE C md k mk) (hN : autoParam (C.X.N[i]? = some x) autoK5._auto_1) (ho : autoParam (C.om.contains i = true) autoK5._auto_1) (hv : autoParam (Vis C.X.env.scope x) autoK8._auto_1) (hd : autoParam ((x == ("__debug__" : Str)) = false) autoK2._auto_1)
    (hcd : autoParam ((x == ("__classdict__" : Str)) = false) autoK2._auto_1)
    (ha : ∀ v, assign (.Subscript (.Name x p') k p2) C.X.env v = (do
      let ov ← holding [v] (eval (.Name x p') C.X.env)
      let iv ← holding [v, ov] (eval k C.X.env)
      standAt p2
      holding [v, ov, iv] (setItem ov iv v)
      release [v, ov, iv] []) := by intro _; rfl)
    (hs : autoParam (swapsWithSole [.Subscript (.Name x p') k p2] e pos.line C.X.env = pure false) autoK5._auto_1) (hw : autoParam (swappedStores [.Subscript (.Name x p') k p2] e C.X.env = pure none) autoK5._auto_1)
    (h1 : autoParam ((assignEach [.Subscript (.Name x p') k p2] C.X.env).map (·.2) = [assign (.Subscript (.Name x p') k p2) C.X.env]) autoK5._auto_1) : RS C fr (.Assign [.Subscript (.Name x p') k p2] e pos) (sI i mk me) := by
  obtain ⟨t, p, q⟩ := he
  obtain ⟨t', p', q'⟩ := hk
  refine ⟨_, ps_asg p (pg_sub (pe_var hN hv hd hcd) p' set_list ha) hs hw h1, fun Oc Ob σ H ρ E R h => q Oc Ob σ H ρ _ R (Res.post_mono (Res.post_bind h) (fun dv _ k v H' s r => ?_) fun c z H' s => z H' (Same.frm s))⟩
  obtain ⟨d, ed, k⟩ := eV_post (Res.post_bind k)
  obtain ⟨xd, ex, k⟩ := Res.post_lft (Res.post_bind k)
  obtain rfl := lstD_some ex
  obtain ⟨w', qv, l, ys, ds, rfl, e2, e3, e4, e5⟩ := (R.same s).own i _ ed (mem_of ho)
  cases e2
  refine ⟨_, qv, q' Oc Ob σ H' ρ _ (R.same s) (Res.post_mono (Res.post_bind k) (fun dk _ k kv H2 s2 rk => ?_) fun c z H2 s2 => z H2 (Same.frm (s.trans s2)))⟩
  obtain ⟨ds', eg, k⟩ := Res.post_lft (Res.post_bind k)
  unfold setD at eg
  split at eg
  · obtain ⟨j, ej, rfl⟩ := Option.map_eq_some_iff.mp eg
    obtain rfl := (rk.va (R.same s).oh).int
    have hl := e5.length
    refine ⟨l, ys, _, j, rfl, rfl, s2 _ _ e3, by rw [hl]; exact ej, ?_⟩
    refine k _ _ Ob ((R.same (s.trans s2)).write (mem_of ho) ed qv (s2 _ _ e3) e4 (Reps.set (Rep.same r s2) j (e5.same s2))) (fun b o e n => ?_) fun b z => .inl z
    rw [upd_ne (fun z => n (by subst z; exact e4))]
    exact s2 b o (s b o e)
  · cases eg
def sV (i j : Nat) : Ev → Res Out := fun ρ => (eV j ρ).bind fun d => .ok (.nx ((ρ.set i (some d)).set j none))
theorem set_none {α : Type} {l : List (Option α)} {i j : Nat} {d : α} (h : (l.set i none)[j]? = some (some d)) : j ≠ i ∧ l[j]? = some (some d) := by
  by_cases e : i = j
  · subst e
    rw [List.getElem?_set_self'] at h
    cases q : l[i]? with
    | none => rw [q] at h; cases h
    | some z => rw [q] at h; cases h
  · rw [List.getElem?_set_ne e] at h
    exact ⟨fun z => e z.symm, h⟩
end
end L2.L3
set_option maxHeartbeats 4000000
namespace L2
open PySem PySem.Spec PyProof.Rows
structure Has (K : PySem.W.Frag) (mg : Str → Option Value) (x : Str) (st : Stmt) (f : Addr) (fd : FuncData) (ps : List Str) : Prop where
  F : Fun K x x st f fd
  b : Binds K fd ps []
  m : mg x = some (.ref f)
theorem has_mk {K : PySem.W.Frag} {h : Heap} {mg : Str → Option Value} {x : Str} {st : Stmt} {f : Addr} {oc : Value} {od an : Option Addr} {osl : Array (Option Value)} {kV doc pm cdv ct : Value} {ps : List Str} (X : K.In h) (G : h.Ns mainGlobals mg)
    (a : PySem.W.nsIn K mainGlobals x = some (some (.ref f))) (l : K.lookup f = some ⟨oc, od, .func (PySem.W.fnOf x x (defArgs st) (defBody st) (defScope st) .none kV doc pm an cdv ct), osl⟩)
    (c : PySem.W.codeIn K cdv x = true) (k : PySem.W.keepIn K (.ref f) = true)
    (hb : ∀ (kV doc pm : Value) (an : Option Addr) (cdv ct : Value) (us : List Value), us.length = ps.length → bindArgs (PySem.W.fnOf x x (defArgs st) (defBody st) (defScope st) .none kV doc pm an cdv ct) ⟨us, []⟩ = pure (ps.zip us)) :
    Has K mg x st f (PySem.W.fnOf x x (defArgs st) (defBody st) (defScope st) .none kV doc pm an cdv ct) ps :=
  have F := fun_mk (st := st) l c k
  ⟨F, F.binds hb, PySem.W.mg_of X G a⟩
end L2
namespace L2.L3
open PySem PySem.Spec PyProof.Rows
variable [CN]
def CallOk : Bool → (Addr → Prop) → Hp → Hp → V → D → Prop
  | true, O, H, H', v, d => ∃ a ys ds, v = .ref a ∧ d = .list ds ∧ H a = none ∧ H' a = some (.lst ys) ∧ Reps H' (fun b => O b ∨ b = a) ys ds
  | false, O, _, H', v, d => Rep H' O v d
def fin (fr : Bool) : Out → Res D
  | .rt d => .ok d
  | .nx _ => if fr then .no else .ok .none
def runF (fr : Bool) (p n : Nat) (m : Ev → Res Out) : List D → Res D := fun ds => if ds.length = p then (m (ds.map some ++ List.replicate (n - p) none)).bind (fin fr) else .no
theorem start_get {α : Type} {ds : List α} {k i : Nat} {d : α} (h : (ds.map some ++ List.replicate k none)[i]? = some (some d)) : ds[i]? = some d := by
  by_cases hi : i < ds.length
  · rw [List.getElem?_append_left (by simpa using hi), List.getElem?_map] at h
    cases e : ds[i]? with
    | none => rw [e] at h; cases h
    | some z => rw [e] at h; cases h; rfl
  · rw [List.getElem?_append_right (by simpa using hi), List.getElem?_replicate] at h
    split at h <;> cases h
theorem start_of {α : Type} {ds : List α} {k i : Nat} {d : α} (h : ds[i]? = some d) : (ds.map some ++ List.replicate k none)[i]? = some (some d) := by
  have hi := (List.getElem?_eq_some_iff.mp h).1
  rw [List.getElem?_append_left (by simpa using hi), List.getElem?_map, h]
  rfl
section
variable {P : Program} {w : World} {K : PySem.W.Frag} {mg : Str → Option Value} {base : Heap}
end
def mdF (fr : Bool) : Md := if fr then .new else .cl
def eF (F : List D → Res D) (m : Ev → Res (List D)) : Ev → Res D := fun ρ => (m ρ).bind F
section
variable {C : Ct} {k : Nat} {f : Addr} {fd : FuncData} {ps : List Str} {fr : Bool} {F : List D → Res D} {x : Str} {p pos : Pos} {e : Expr} {es : List Expr} {ms : Ev → Res (List D)} {st : Stmt}
end
mutual
def lf : D → Bool
  | .list _ => false
  | .dict _ => false
  | .tuple ds => lfs ds
  | _ => true
def lfs : List D → Bool
  | [] => true
  | d :: ds => lf d && lfs ds
end
mutual
theorem Rep.lf {H : Hp} {U : Addr → Prop} {B : Addr → Prop} (hB : ∀ b, B b → ∃ ys, H b = some (.lst ys)) : ∀ {v : V} {d : D}, Rep H (fun b => U b ∧ ¬ B b) v d → L3.lf d = true → Rep H U v d
  | _, _, .non, _ => .non
  | _, _, .bl b, _ => .bl b
  | _, _, .int i, _ => .int i
  | _, _, .str x, _ => .str x
  | _, _, .lst r n t, h => by simp [L3.lf] at h
  | _, _, .exc r n, h => by simp [L3.lf] at h
  | _, _, @Rep.tup _ _ _ a _ _ r n t, h => .tup r (fun z => by
      by_cases hb : B a
      · obtain ⟨ys, e⟩ := hB _ hb
        rcases r with r | ⟨o, r⟩ <;> (rw [r] at e; cases e)
      · exact n ⟨z, hb⟩) (Reps.lf hB t (by simpa [L3.lf] using h))
theorem Reps.lf {H : Hp} {U : Addr → Prop} {B : Addr → Prop} (hB : ∀ b, B b → ∃ ys, H b = some (.lst ys)) : ∀ {vs : List V} {ds : List D}, Reps H (fun b => U b ∧ ¬ B b) vs ds → lfs ds = true → Reps H U vs ds
  | _, _, .nil, _ => .nil
  | _, _, .cons r t, h => by
    rw [lfs, Bool.and_eq_true] at h
    exact .cons (Rep.lf hB r h.1) (Reps.lf hB t h.2)
end
def lfT : Bool → D → Bool
  | true, .list ds => lfs ds
  | _, d => lf d
def eFA (fr : Bool) (F : List D → Res D) (m : Ev → Res (List D)) : Ev → Res D := fun ρ => (m ρ).bind fun ds => (F ds).bind fun d => if lfT fr d then .ok d else .no
theorem VAs.lent {Oc : Wd} {Ob : Addr → Prop} {H : Hp} : ∀ {vs : List V} {ds : List D}, VAs Oc Ob H vs ds → Reps H (fun b => Uni Oc Ob b ∧ ¬ ∃ ys, H b = some (.lst ys)) vs ds
  | _, _, .nil => .nil
  | _, _, .cons h t => .cons (by
      rcases h with h | ⟨a, ys, ds, rfl, rfl, e3, e5⟩
      · exact h.less fun b z => z.1
      · exact .lst (.inl e3) (fun z => z.2 ⟨ys, e3⟩) (e5.less fun b z => z.1)) (VAs.lent t)
end L2.L3
set_option maxHeartbeats 4000000
namespace L2.L3
open PySem PySem.Spec PyProof.Rows
variable [CN]
def i2 (f : Int → Int → Option Int) : D → D → Option D
  | .int i, .int j => (f i j).map PyData.int
  | _, _ => none
theorem i2_some {f : Int → Int → Option Int} {x y d : D} (h : i2 f x y = some d) : ∃ i j k, x = .int i ∧ y = .int j ∧ f i j = some k ∧ d = .int k := by
  cases x with
  | int i =>
    cases y with
    | int j =>
      obtain ⟨k, e, rfl⟩ := Option.map_eq_some_iff.mp (show (f i j).map PyData.int = some d from h)
      exact ⟨i, j, k, rfl, rfl, e, rfl⟩
    | _ => cases h
  | _ => cases h
theorem pr_I {C : Int → Int → Prop} {g : Int → Int → Int} {f : Int → Int → Option Int} (hf : ∀ i j k, f i j = some k → C i j ∧ k = g i j) : Pr2 (rI C fun i j => .int (g i j)) .cl (i2 f) := by
  intro Oc Ob H x y dx dy d Q oh vx vy e k
  obtain ⟨i, j, n, rfl, rfl, ef, rfl⟩ := i2_some e
  obtain ⟨hc, rfl⟩ := hf i j n ef
  exact ⟨i, j, vx.int, vy.int, hc, k _ H (Same.refl H) (Rep.int _)⟩
theorem pr_I0 {g : Int → Int → Int} : Pr2 (rI0 fun i j => .int (g i j)) .cl (i2 fun i j => some (g i j)) := by
  intro Oc Ob H x y dx dy d Q oh vx vy e k
  obtain ⟨i, j, n, rfl, rfl, ef, rfl⟩ := i2_some e
  cases ef
  exact ⟨i, j, vx.int, vy.int, k _ H (Same.refl H) (Rep.int _)⟩
abbrev addI : D → D → Option D := i2 fun i j => some (i + j)
abbrev subI : D → D → Option D := i2 fun i j => some (i - j)
def MulOk (i j : Int) : Prop := CMul i j ∨ (Small i ∧ Small j)
open Classical in
def mulO (i j : Int) : Option Int := if MulOk i j then some (i * j) else none
abbrev mulI : D → D → Option D := i2 mulO
def DivOk (j : Int) : Prop := 0 < j ∧ j.natAbs.log2 < 9000
instance (j : Int) : Decidable (DivOk j) := by unfold DivOk; infer_instance
def fdivO (i j : Int) : Option Int := if DivOk j then some (i / j) else none
def modO (i j : Int) : Option Int := if 0 < j then some (i % j) else none
def powO (i j : Int) : Option Int := if 0 ≤ j ∧ j ≤ 1000000 ∧ i.natAbs < 2 ^ 64 then some (i ^ j.toNat) else none
abbrev fdivI : D → D → Option D := i2 fdivO
abbrev modI : D → D → Option D := i2 modO
abbrev powI : D → D → Option D := i2 powO
section
variable {X : Cx}
theorem op_mulA : OpR X (binaryOp .Mult) (rI MulOk fun i j => .int (i * j)) := opI fun _ _ _ _ _ _ _ hc q => mul_int q (hc.elim CMul.ok fun h => .of_bits h.1.bits h.2.bits)
theorem iop_mulA : OpR X (inplaceOp .Mult) (rI MulOk fun i j => .int (i * j)) := opI fun _ _ _ _ _ _ _ hc q => imul_int q (hc.elim CMul.ok fun h => .of_bits h.1.bits h.2.bits)
theorem vL : OpR X (binaryOp .FloorDiv) (rI (fun _ j => DivOk j) fun i j => .int (i / j)) := opI fun i j _ _ _ _ _ hc q => by
  refine floordiv_int (by have := hc.1; bv_omega) ?_ (.inl (PyProof.noPylong_of_log2 hc.2))
  rw [Int.fdiv_eq_ediv_of_nonneg _ (by have := hc.1; bv_omega)]
  exact q
theorem iop_fdivA : OpR X (inplaceOp .FloorDiv) (rI (fun _ j => DivOk j) fun i j => .int (i / j)) := opI fun i j _ _ _ _ _ hc q => by
  refine ifloordiv_int (by have := hc.1; bv_omega) ?_ (.inl (PyProof.noPylong_of_log2 hc.2))
  rw [Int.fdiv_eq_ediv_of_nonneg _ (by have := hc.1; bv_omega)]
  exact q
end
open Classical in
theorem mulO_some {i j k : Int} (h : mulO i j = some k) : MulOk i j ∧ k = i * j := by
  unfold mulO at h
  split at h
  · cases h; exact ⟨by assumption, rfl⟩
  · cases h
theorem mulO_ok {i j : Int} (h : MulOk i j) : mulO i j = some (i * j) := by
  unfold mulO
  exact if_pos h
theorem fdivO_some {i j k : Int} (h : fdivO i j = some k) : DivOk j ∧ k = i / j := by
  unfold fdivO at h
  split at h
  · cases h; exact ⟨by assumption, rfl⟩
  · cases h
theorem modO_some {i j k : Int} (h : modO i j = some k) : 0 < j ∧ k = i % j := by
  unfold modO at h
  split at h
  · cases h; exact ⟨by assumption, rfl⟩
  · cases h
theorem powO_some {i j k : Int} (h : powO i j = some k) : CPow i j ∧ k = i ^ j.toNat := by
  unfold powO at h
  split at h
  · cases h; exact ⟨by assumption, rfl⟩
  · cases h
theorem DivOk.small {j : Int} (h : 0 < j) (h2 : j < 1073741824) : DivOk j := by
  refine ⟨h, ?_⟩
  have h30 : j.natAbs.log2 < 30 := (Nat.log2_lt (by bv_omega)).mpr (by bv_omega)
  bv_omega
theorem MulOk.right {i j : Int} (h : -(2 ^ 64) < j) (h2 : j < 2 ^ 64) : MulOk i j := .inl (.inr ⟨h, h2⟩)
theorem vI : Pr2 (rI0 fun i j => .int (i + j)) .cl addI := pr_I0
theorem vG : Pr2 (rI0 fun i j => .int (i - j)) .cl subI := pr_I0
theorem pr_mul : Pr2 (rI MulOk fun i j => .int (i * j)) .cl mulI := pr_I fun _ _ _ h => mulO_some h
theorem vK : Pr2 (rI (fun _ j => DivOk j) fun i j => .int (i / j)) .cl fdivI := pr_I fun _ _ _ h => fdivO_some h
theorem vD : Pr2 (rI (fun _ j => 0 < j) fun i j => .int (i % j)) .cl modI := pr_I fun _ _ _ h => modO_some h
theorem pr_pow : Pr2 (rI CPow fun i j => .int (i ^ j.toNat)) .cl powI := pr_I fun _ _ _ h => powO_some h
def c2 (f : Int → Int → Bool) : D → D → Option Bool
  | .int i, .int j => some (f i j)
  | _, _ => none
theorem pb_I {f : Int → Int → Bool} : PrB (rI0 fun i j => .bl (f i j)) (c2 f) := by
  intro Oc Ob H x y dx dy b Q vx vy e k
  cases dx with
  | int i =>
    cases dy with
    | int j =>
      cases e
      exact ⟨_, _, vx.int, vy.int, k⟩
    | _ => cases e
  | _ => cases e
abbrev ltI : D → D → Option Bool := c2 fun i j => decide (i < j)
abbrev leI : D → D → Option Bool := c2 fun i j => decide (i ≤ j)
abbrev gtI : D → D → Option Bool := c2 fun i j => decide (j < i)
abbrev geI : D → D → Option Bool := c2 fun i j => decide (j ≤ i)
theorem pb_lt : PrB (rI0 fun i j => .bl (decide (i < j))) ltI := pb_I
theorem pb_le : PrB (rI0 fun i j => .bl (decide (i ≤ j))) leI := pb_I
theorem pb_gt : PrB (rI0 fun i j => .bl (decide (j < i))) gtI := pb_I
theorem pb_ge : PrB (rI0 fun i j => .bl (decide (j ≤ i))) geI := pb_I
def eqD (x y : D) : Option Bool := if SeqAt.shaped x = true ∧ SeqAt.shaped y = true then some (PyData.eqv x y) else none
def neD (x y : D) : Option Bool := if SeqAt.shaped x = true ∧ SeqAt.shaped y = true then some (!PyData.eqv x y) else none
theorem pb_eq {K : PySem.W.Frag} : PrB (rEqD K false) eqD := by
  intro Oc Ob H x y dx dy b Q vx vy e k
  unfold eqD at e
  split at e
  · rename_i h
    cases e
    exact ⟨dx, dy, vx.datS h.1, vy.datS h.2, h.1, h.2, k⟩
  · cases e
theorem pb_ne {K : PySem.W.Frag} : PrB (rEqD K true) neD := by
  intro Oc Ob H x y dx dy b Q vx vy e k
  unfold neD at e
  split at e
  · rename_i h
    cases e
    exact ⟨dx, dy, vx.datS h.1, vy.datS h.2, h.1, h.2, k⟩
  · cases e
def flD : D → Bool
  | .none => true
  | .bool _ => true
  | .int _ => true
  | .str _ => true
  | _ => false
def eqF : D → D → Bool
  | .none, .none => true
  | .bool a, .bool b => a == b
  | .bool a, .int b => (if a then 1 else 0) == b
  | .int a, .bool b => a == (if b then 1 else 0)
  | .int a, .int b => a == b
  | .str a, .str b => a == b
  | _, _ => false
theorem rep_flat {H : Hp} {O : Addr → Prop} {v : V} {d : D} (h : Rep H O v d) (f : flD d = true) : flatV v = true := by
  cases h <;> first | rfl | cases f
theorem rep_eqF {H : Hp} {O O' : Addr → Prop} {v v' : V} {d d' : D} (h : Rep H O v d) (h' : Rep H O' v' d') (f : flD d = true) (f' : flD d' = true) : eqV v v' = eqF d d' := by
  cases h <;> cases h' <;> first | rfl | cases f | cases f'
theorem reps_flat {H : Hp} {O : Addr → Prop} : ∀ {vs : List V} {ds : List D}, Reps H O vs ds → ds.all flD = true → vs.all flatV = true
  | _, _, .nil, _ => rfl
  | _, _, .cons h t, f => by
    rw [List.all_cons, Bool.and_eq_true] at f ⊢
    exact ⟨rep_flat h f.1, reps_flat t f.2⟩
theorem reps_any {H : Hp} {O O' : Addr → Prop} {x : V} {dx : D} (hx : Rep H O' x dx) (fx : flD dx = true) : ∀ {vs : List V} {ds : List D}, Reps H O vs ds → ds.all flD = true → inV x vs = ds.any fun y => eqF y dx
  | _, _, .nil, _ => rfl
  | _, _, .cons h t, f => by
    rw [List.all_cons, Bool.and_eq_true] at f
    have ih := reps_any hx fx t f.2
    unfold inV at ih ⊢
    rw [List.any_cons, List.any_cons, ih, rep_eqF h hx f.1 fx]
def inD (neg : Bool) (x y : D) : Option Bool := (seqD y).bind fun ds => if flD x = true ∧ ds.all flD = true then some (if neg then !ds.any (fun z => eqF z x) else ds.any fun z => eqF z x) else none
theorem va_flat {Oc : Wd} {Ob : Addr → Prop} {H : Hp} {x : V} {d : D} (h : VA Oc Ob H x d) (f : flD d = true) : Rep H (Uni Oc Ob) x d := by
  rcases h with h | ⟨a, ys, ds, rfl, rfl, e3, e5⟩
  · exact h
  · cases f
theorem pb_in {K : PySem.W.Frag} {neg : Bool} : PrB (rIn K neg) (inD neg) := by
  intro Oc Ob H x y dx dy b Q vx vy e k
  unfold inD at e
  obtain ⟨ds, e1, e⟩ := Option.bind_eq_some_iff.mp e
  split at e
  · rename_i h
    cases e
    have rx := va_flat vx h.1
    cases dy with
    | list ds' =>
      cases e1
      obtain ⟨a, ys, rfl, rd, rs⟩ := vy.list
      refine ⟨a, ys, rfl, .inl (.inl rd), rep_flat rx h.1, reps_flat rs h.2, ?_⟩
      rw [reps_any rx h.1 rs h.2]
      exact k
    | tuple ds' =>
      cases e1
      obtain ⟨a, ys, rfl, rd, rs⟩ := vy.tuple
      refine ⟨a, ys, rfl, .inr (.inl rd), rep_flat rx h.1, reps_flat rs h.2, ?_⟩
      rw [reps_any rx h.1 rs h.2]
      exact k
    | _ => cases e1
  · cases e
def ixD : D → D → Option D
  | .list ds, .int i => atI ds i
  | .tuple ds, .int i => atI ds i
  | _, _ => none
theorem atI_reps {H : Hp} {O : Addr → Prop} {vs : List V} {ds : List D} {i : Int} {d : D} (r : Reps H O vs ds) (h : atI ds i = some d) : ∃ v, atI vs i = some v ∧ Rep H O v d := by
  unfold atI at h ⊢
  obtain ⟨j, e1, e2⟩ := Option.bind_eq_some_iff.mp h
  obtain ⟨v, ev, rv⟩ := r.get e2
  refine ⟨v, ?_, rv⟩
  rw [r.length, e1]
  exact ev
theorem vT {K : PySem.W.Frag} : Pr2 (rIx K) .cl ixD := by
  intro Oc Ob H x y dx dy d Q oh vx vy e k
  cases dx with
  | list ds =>
    cases dy with
    | int i =>
      obtain ⟨a, ys, rfl, rd, rs⟩ := vx.list
      obtain ⟨v, ev, rv⟩ := atI_reps rs e
      exact .inl ⟨a, ys, i, v, rfl, vy.int, .inl rd, ev, k v H (Same.refl H) rv⟩
    | _ => cases e
  | tuple ds =>
    cases dy with
    | int i =>
      obtain ⟨a, ys, rfl, rd, rs⟩ := vx.tuple
      obtain ⟨v, ev, rv⟩ := atI_reps rs e
      exact .inr (.inl ⟨a, ys, i, v, rfl, vy.int, .inl rd, ev, k v H (Same.refl H) rv⟩)
    | _ => cases e
  | _ => cases e
def rCatR : R2 := fun x y H Q => ∃ l b xs zs, x = .ref l ∧ y = .ref b ∧ Rd H l (.lst xs) ∧ Rd H b (.lst zs) ∧ xs.length + zs.length ≤ sizeLine ∧ ∀ p, H p = none → Q (.ref p) (upd H p (.lst (xs ++ zs)))
theorem Rd.lstM {X : Cx} {pins : List (Addr × Obj)} {σ : St} {H : Hp} {s : Shared} {l : Addr} {xs : List V} (I : Inv X pins σ H s) (hH : Rd H l (.lst xs)) : xs.length ≤ sizeLine ∧ ∃ (its : List Value) (n : Nat), Vals xs its ∧ xs.length = its.length ∧ s.heap.get? l = some { cls := .type "list", data := .seq its.toArray n } := by
  obtain ⟨z, its, n, r, e⟩ := hH.ok I.hok
  exact ⟨z, its, n, r, r.length, e⟩
section
variable {X : Cx}
theorem op_catR : OpR X (binaryOp .Add) rCatR := by
  intro pins s σ H x y v u Q I rx ry h
  obtain ⟨l, b, xs, zs, rfl, rfl, hH, hB, hz, q⟩ := h
  cases rx
  cases ry
  obtain ⟨z, its, n, r, hl, e⟩ := Rd.lstM I hH
  obtain ⟨z2, its2, n2, r2, hl2, e2⟩ := Rd.lstM I hB
  refine PySem.P.add_list e e2 ?_ (by rw [List.size_toArray, List.size_toArray]; bv_omega)
  have ea : its.toArray ++ its2.toArray = (its ++ its2).toArray := by simp
  rw [ea]
  exact ⟨.ref _, _, I.lnew (t' := s.toks) (r.append r2) (by rw [List.length_append]; bv_omega), rfl, q _ I.fresh⟩
def rRepR : R2 := fun x y H Q => ∃ l k xs, x = .ref l ∧ y = .int k ∧ Rd H l (.lst xs) ∧ -(2 ^ 63) ≤ k ∧ k < 2 ^ 63 ∧ xs.length * k.toNat ≤ sizeLine ∧
  ∀ p, H p = none → Q (.ref p) (upd H p (.lst (List.replicate k.toNat xs).flatten))
theorem op_repR : OpR X (binaryOp .Mult) rRepR := by
  intro pins s σ H x y v u Q I rx ry h
  obtain ⟨l, k, xs, rfl, rfl, hH, h1, h2, hz, q⟩ := h
  cases rx
  obtain ⟨t, rfl⟩ := ry
  obtain ⟨z, its, n, r, hl, e⟩ := Rd.lstM I hH
  have hlen : its.toArray.size * k.toNat ≤ sizeLine := by rw [List.size_toArray, ← hl]; exact hz
  have hcap : ¬ its.toArray.size * k.toNat > (2 ^ 63 - 1) / 8 := by
    have : (sizeLine : Nat) ≤ (2 ^ 63 - 1) / 8 := by decide
    bv_omega
  have hfit : ¬ (!Builtin.List.listFitsIndex k) = true := by
    rw [fitsIndex_both h1 h2]
    exact Bool.false_ne_true
  have hlong : ¬ Builtin.List.listTooLong (its.toArray.size * k.toNat) = true := by
    rw [notLongL hlen]
    exact Bool.false_ne_true
  have hnew : List.foldl (fun x1 x2 => x1 ++ x2) #[] (List.replicate (if its.toArray.isEmpty = true then 0 else k.toNat) its.toArray) = (List.replicate k.toNat its).flatten.toArray := by
    have f0 : ∀ m : Nat, List.foldl (fun x1 x2 => x1 ++ x2) #[] (List.replicate m its.toArray) = (List.replicate m its).flatten.toArray := fun m => by
      have := foldl_rep its m []
      rw [List.nil_append] at this
      exact this
    rw [f0]
    cases its with
    | nil => simp
    | cons a r' => rw [if_neg (by simp)]
  refine wpAny_binaryOp_repeat_ref (T := "list") (U := "int") (by decide) ⟨_, e, rfl⟩ (fun s' => typeIs_int s' k t) noFill_list_mul F.fills_int_mul F.slot_int_rmul repeat_list F.slot_int_index.lookup
    (call_meets F.slot_int_rmul (typeIs_int s k t) F.entry_int_rmul (F.args_int_rmul_2 _ _) (int___rmul___int_list k t l its.toArray n)
      ⟨e, rfl, ⟨_, e, rfl⟩, call_meets F.slot_list_mul ⟨_, e, rfl⟩ F.entry_list_mul (F.args_list_mul_2 _ _) (AutoListH.list___mul___list_int_3 l its.toArray n k t hfit hcap hlong) ⟨e, ?_⟩⟩)
  rw [hnew]
  exact ⟨.ref _, _, I.lnew (t' := s.toks) (r.rep k.toNat) (by rw [len_rep, Nat.mul_comm]; exact hz), rfl, q _ I.fresh⟩
end
def catL : D → D → Option D
  | .list xs, .list ys => if xs.length + ys.length ≤ sizeLine then some (.list (xs ++ ys)) else none
  | _, _ => none
theorem pr_cat : Pr2 rCatR .new catL := by
  intro Oc Ob H x y dx dy d Q oh vx vy e k
  cases dx with
  | list xs =>
    cases dy with
    | list ys =>
      obtain ⟨a, vs, rfl, rd, rs⟩ := vx.list
      obtain ⟨b, ws, rfl, rd', rs'⟩ := vy.list
      unfold catL at e
      simp only at e
      split at e
      · rename_i hl
        cases e
        refine ⟨a, b, vs, ws, rfl, rfl, rd, rd', by rw [rs.length, rs'.length]; exact hl, fun p hp => k _ _ (Same.new hp) (new_list (Same.refl H) hp (rs.append rs'))⟩
      · cases e
    | _ => cases e
  | _ => cases e
def repL : D → D → Option D
  | .list xs, .int k => if -(2 ^ 63) ≤ k ∧ k < 2 ^ 63 ∧ xs.length * k.toNat ≤ sizeLine then some (.list (List.replicate k.toNat xs).flatten) else none
  | _, _ => none
theorem pr_rep : Pr2 rRepR .new repL := by
  intro Oc Ob H x y dx dy d Q oh vx vy e k
  cases dx with
  | list xs =>
    cases dy with
    | int j =>
      obtain ⟨a, vs, rfl, rd, rs⟩ := vx.list
      unfold repL at e
      simp only at e
      split at e
      · rename_i hl
        cases e
        refine ⟨a, j, vs, rfl, vy.int, rd, hl.1, hl.2.1, by rw [rs.length]; exact hl.2.2, fun p hp => k _ _ (Same.new hp) (new_list (Same.refl H) hp (rs.rep _))⟩
      · cases e
    | _ => cases e
  | _ => cases e
def lenD : List D → Option D
  | [d] => (seqD d).map fun ds => .int ds.length
  | _ => none
theorem pc_len {K : PySem.W.Frag} : PrC (fun xs H Q => ∃ p ys, xs = [.ref p] ∧ (SqL K H p ys ∨ SqT K H p ys) ∧ Q (.int ys.length) H) .cl lenD := by
  intro Oc Ob H vs ds d Q oh va e k
  cases ds with
  | nil => cases e
  | cons x xs =>
    cases xs with
    | cons => cases e
    | nil =>
      obtain ⟨v, rfl, vx⟩ := va.one
      obtain ⟨es, e1, rfl⟩ := Option.map_eq_some_iff.mp e
      cases x with
      | list ds' =>
        cases e1
        obtain ⟨a, ys, rfl, rd, rs⟩ := vx.list
        exact ⟨a, ys, rfl, .inl (.inl rd), k _ H (Same.refl H) (by rw [rs.length]; exact Rep.int _)⟩
      | tuple ds' =>
        cases e1
        obtain ⟨a, ys, rfl, rd, rs⟩ := vx.tuple
        exact ⟨a, ys, rfl, .inr (.inl rd), k _ H (Same.refl H) (by rw [rs.length]; exact Rep.int _)⟩
      | _ => cases e1
def listD : List D → Option D
  | [d] => (seqD d).map fun ds => .list ds
  | _ => none
theorem pc_list {K : PySem.W.Frag} : PrC (fun xs H Q => ∃ p ys, xs = [.ref p] ∧ (SqL K H p ys ∨ SqT K H p ys) ∧ ∀ l, H l = none → Q (.ref l) (upd H l (.lst ys))) .new listD := by
  intro Oc Ob H vs ds d Q oh va e k
  cases ds with
  | nil => cases e
  | cons x xs =>
    cases xs with
    | cons => cases e
    | nil =>
      obtain ⟨v, rfl, vx⟩ := va.one
      obtain ⟨es, e1, rfl⟩ := Option.map_eq_some_iff.mp e
      cases x with
      | list ds' =>
        cases e1
        obtain ⟨a, ys, rfl, rd, rs⟩ := vx.list
        exact ⟨a, ys, rfl, .inl (.inl rd), fun l hl => k _ _ (Same.new hl) (new_list (Same.refl H) hl rs)⟩
      | tuple ds' =>
        cases e1
        obtain ⟨a, ys, rfl, rd, rs⟩ := vx.tuple
        exact ⟨a, ys, rfl, .inr (.inl rd), fun l hl => k _ _ (Same.new hl) (new_list (Same.refl H) hl rs)⟩
      | _ => cases e1
def tupD : List D → Option D
  | [d] => (seqD d).map fun ds => .tuple ds
  | _ => none
theorem pc_tup {K : PySem.W.Frag} : PrC (fun xs H Q => ∃ p ys, xs = [.ref p] ∧ ((SqL K H p ys ∧ ∀ l, H l = none → Q (.ref l) (upd H l (.tup ys))) ∨ (SqT K H p ys ∧ Q (.ref p) H))) .cl tupD := by
  intro Oc Ob H vs ds d Q oh va e k
  cases ds with
  | nil => cases e
  | cons x xs =>
    cases xs with
    | cons => cases e
    | nil =>
      obtain ⟨v, rfl, vx⟩ := va.one
      obtain ⟨es, e1, rfl⟩ := Option.map_eq_some_iff.mp e
      cases x with
      | list ds' =>
        cases e1
        obtain ⟨a, ys, rfl, rd, rs⟩ := vx.list
        exact ⟨a, ys, rfl, .inl ⟨.inl rd, fun l hl => k _ _ (Same.new hl) (new_tup oh hl rs)⟩⟩
      | tuple ds' =>
        cases e1
        rcases vx with vx | ⟨a, ys, ds, rfl, ez, _⟩
        · cases vx with
          | tup rd n rs => exact ⟨_, _, rfl, .inr ⟨.inl rd, k _ H (Same.refl H) (.tup rd n rs)⟩⟩
        · cases ez
      | _ => cases e1
def intsOf : List D → Option (List Int)
  | [] => some []
  | .int i :: ds => (intsOf ds).map (i :: ·)
  | _ :: _ => none
@[simp] theorem intsOf_map : ∀ ns : List Int, intsOf (ns.map PyData.int) = some ns
  | [] => rfl
  | n :: ns => by rw [List.map_cons, intsOf, intsOf_map ns]; rfl
theorem intsOf_some : ∀ {ds : List D} {ns : List Int}, intsOf ds = some ns → ds = ns.map PyData.int
  | [], ns, h => by cases h; rfl
  | d :: ds, ns, h => by
    cases d with
    | int i =>
      obtain ⟨ms, e, rfl⟩ := Option.map_eq_some_iff.mp (show (intsOf ds).map (i :: ·) = some ns from h)
      rw [intsOf_some e]; rfl
    | _ => cases h
def nsD (d : D) : Option (List Int) := (seqD d).bind intsOf
theorem nsD_va {K : PySem.W.Frag} {Oc : Wd} {Ob : Addr → Prop} {H : Hp} {x : V} {d : D} {ns : List Int} (h : VA Oc Ob H x d) (e : nsD d = some ns) : ∃ p, x = .ref p ∧ (SqL K H p (ns.map V.int) ∨ SqT K H p (ns.map V.int)) := by
  obtain ⟨ds, e1, e2⟩ := Option.bind_eq_some_iff.mp e
  obtain rfl := intsOf_some e2
  cases d with
  | list ds' =>
    cases e1
    obtain ⟨a, ys, rfl, rd, rs⟩ := h.list
    rw [rs.ints] at rd
    exact ⟨a, rfl, .inl (.inl rd)⟩
  | tuple ds' =>
    cases e1
    obtain ⟨a, ys, rfl, rd, rs⟩ := h.tuple
    rw [rs.ints] at rd
    exact ⟨a, rfl, .inr (.inl rd)⟩
  | _ => cases e1
def sortI (ns : List Int) : List Int := ns.mergeSort (fun a b => decide (a ≤ b))
theorem sortI_perm (ns : List Int) : (sortI ns).Perm ns := List.mergeSort_perm _ _
theorem sortI_sorted (ns : List Int) : (sortI ns).Pairwise (· ≤ ·) := by
  have := List.pairwise_mergeSort (le := fun a b : Int => decide (a ≤ b)) (fun a b c h1 h2 => by simp at *; bv_omega) (fun a b => by simp; bv_omega) ns
  exact this.imp fun h => by simpa using h
theorem sorted_one {as bs : List Int} (p : as.Perm bs) (ha : as.Pairwise (· ≤ ·)) (hb : bs.Pairwise (· ≤ ·)) : as = bs := by
  induction as generalizing bs with
  | nil => exact (List.nil_perm.mp p).symm
  | cons a as ih =>
    cases bs with
    | nil => exact absurd p.symm (by intro h; have := h.length_eq; simp at this)
    | cons b bs =>
      have h1 : a ≤ b := by
        have : b ∈ a :: as := p.symm.subset List.mem_cons_self
        rcases List.mem_cons.mp this with z | z
        · bv_omega
        · exact (List.pairwise_cons.mp ha).1 b z
      have h2 : b ≤ a := by
        have : a ∈ b :: bs := p.subset List.mem_cons_self
        rcases List.mem_cons.mp this with z | z
        · bv_omega
        · exact (List.pairwise_cons.mp hb).1 a z
      have e : a = b := by bv_omega
      subst e
      rw [ih (List.Perm.cons_inv p) (List.pairwise_cons.mp ha).2 (List.pairwise_cons.mp hb).2]
def sortD : List D → Option D
  | [d] => (nsD d).bind fun ns => if ns.length < 64 then some (.list ((sortI ns).map PyData.int)) else none
  | _ => none
theorem pc_sort {K : PySem.W.Frag} : PrC (fun xs H Q => ∃ (p : Addr) (ns : List Int), xs = [.ref p] ∧ (SqL K H p (ns.map V.int) ∨ SqT K H p (ns.map V.int)) ∧ ns.length < 64 ∧
    ∀ (l : Addr) (ms : List Int), H l = none → ms.Perm ns → ms.Pairwise (· ≤ ·) → Q (.ref l) (upd H l (.lst (ms.map V.int)))) .new sortD := by
  intro Oc Ob H vs ds d Q oh va e k
  unfold sortD at e
  split at e
  · obtain ⟨ns, e1, e⟩ := Option.bind_eq_some_iff.mp e
    split at e
    · rename_i hl
      cases e
      obtain ⟨v, rfl, vx⟩ := va.one
      obtain ⟨p, rfl, hq⟩ := nsD_va vx e1
      refine ⟨p, ns, rfl, hq, hl, fun l ms hp h1 h2 => ?_⟩
      have : ms = sortI ns := sorted_one (h1.trans (sortI_perm ns).symm) h2 (sortI_sorted ns)
      subst this
      exact k _ _ (Same.new hp) (new_list (Same.refl H) hp (reps_ints _))
    · cases e
  · cases e
def min2D : List D → Option D
  | [.int i, .int j] => some (.int (if j < i then j else i))
  | _ => none
theorem pc_min2 : PrC (fun xs H Q => ∃ i j, xs = [.int i, .int j] ∧ Q (.int (if j < i then j else i)) H) .cl min2D := by
  intro Oc Ob H vs ds d Q oh va e k
  unfold min2D at e
  split at e
  · cases e
    obtain ⟨v, v', rfl, vx, vy⟩ := va.two
    obtain rfl := vx.int
    obtain rfl := vy.int
    exact ⟨_, _, rfl, k _ H (Same.refl H) (Rep.int _)⟩
  · cases e
end L2.L3
set_option maxHeartbeats 4000000
namespace L2.L3
open PySem PySem.Spec PyProof.Rows
variable [CN]
def tyD : D → String
  | .none => "NoneType"
  | .bool _ => "bool"
  | .int _ => "int"
  | .str _ => "str"
  | .list _ => "list"
  | .tuple _ => "tuple"
  | .dict _ => "dict"
def subTy (t T : String) : Bool := t == T || (t == "bool" && T == "int")
structure Kit (K : PySem.W.Frag) (T : String) : Prop where
  non : PySem.W.kitOne K (.type "NoneType") (.type T) = some (subTy "NoneType" T)
  bl : PySem.W.kitOne K (.type "bool") (.type T) = some (subTy "bool" T)
  int : PySem.W.kitOne K (.type "int") (.type T) = some (subTy "int" T)
  str : PySem.W.kitOne K (.type "str") (.type T) = some (subTy "str" T)
  lst : PySem.W.kitOne K (.type "list") (.type T) = some (subTy "list" T)
  tup : PySem.W.kitOne K (.type "tuple") (.type T) = some (subTy "tuple" T)
section
variable {X : Cx}
end
def isiD (T : String) : D → Option D
  | .dict _ => none
  | d => some (.bool (subTy (tyD d) T))
theorem best_keep {s : Shared} {J : Addr} {hp h' : Heap} (keep : ∀ b o, s.heap.get? b = some o → b ≠ J ∧ hp.get? b = some o) (hk : ∀ b o, b ∉ [J] → hp.get? b = some o → h'.get? b = some o) : ∀ b o, s.heap.get? b = some o → h'.get? b = some o :=
  fun b o e => hk b o (by simpa using (keep b o e).1) (keep b o e).2
theorem size_ints (xs : Array (Int × Tok)) : (intItems xs).size = xs.size := by simp [intItems]
section
variable {prog : Program} {w : World} {A : Around} {E : Value → Shared → Prop} {s : Shared} {l : Addr} {xs : Array (Int × Tok)} {Q : Value → Shared → Prop}
theorem min_tup (hh : A.handled = none) (hl : s.heap.IsTuple l (intItems xs)) (ne : 0 < xs.size)
    (k : ∀ v h' tk, (intItems xs)[argBest (fun i j => decide (numAt xs i < numAt xs j)) (xs.size - 1)]? = some v → (∀ b o, s.heap.get? b = some o → h'.get? b = some o) → Q v { s with heap := h', toks := tk }) : wpAny (model prog w) A (call (.builtin "min") [.ref l]) Q E s :=
  call_min_walk (walk_tup (A := A.in1) hh hl fun J hp St W st a b keep => ⟨_, _, _, _, _, _, _, rfl, W, st, by simp [a, b], by rw [size_ints]; exact ne, .ints_lt (numAt xs) (fun _ _ => intItems_at), fun v h' tk at_ hk => k v h' tk (by rw [size_ints] at at_; exact at_) (best_keep keep hk)⟩)
theorem max_tup (hh : A.handled = none) (hl : s.heap.IsTuple l (intItems xs)) (ne : 0 < xs.size)
    (k : ∀ v h' tk, (intItems xs)[argBest (fun i j => decide (numAt xs i > numAt xs j)) (xs.size - 1)]? = some v → (∀ b o, s.heap.get? b = some o → h'.get? b = some o) → Q v { s with heap := h', toks := tk }) : wpAny (model prog w) A (call (.builtin "max") [.ref l]) Q E s :=
  call_max_walk (walk_tup (A := A.in1) hh hl fun J hp St W st a b keep => ⟨_, _, _, _, _, _, _, rfl, W, st, by simp [a, b], by rw [size_ints]; exact ne, .ints_gt (numAt xs) (fun _ _ => intItems_at), fun v h' tk at_ hk => k v h' tk (by rw [size_ints] at at_; exact at_) (best_keep keep hk)⟩)
end
def minL : List Int → Int
  | [] => 0
  | n :: ns => ns.foldl (fun a b => if b < a then b else a) n
def maxL : List Int → Int
  | [] => 0
  | n :: ns => ns.foldl (fun a b => if b > a then b else a) n
theorem minf_spec : ∀ (ns : List Int) (n : Int), (ns.foldl (fun a b => if b < a then b else a) n = n ∨ ns.foldl (fun a b => if b < a then b else a) n ∈ ns) ∧ ns.foldl (fun a b => if b < a then b else a) n ≤ n ∧ ∀ m ∈ ns, ns.foldl (fun a b => if b < a then b else a) n ≤ m
  | [], n => ⟨.inl rfl, Int.le_refl _, fun m h => nomatch h⟩
  | b :: ns, n => by
    obtain ⟨h1, h2, h3⟩ := minf_spec ns (if b < n then b else n)
    rw [List.foldl_cons]
    refine ⟨?_, ?_, fun m hm => ?_⟩
    · rcases h1 with h1 | h1
      · rw [h1]
        split
        · exact .inr List.mem_cons_self
        · exact .inl rfl
      · exact .inr (List.mem_cons_of_mem _ h1)
    · refine Int.le_trans h2 ?_
      split <;> bv_omega
    · rcases List.mem_cons.mp hm with rfl | hm
      · refine Int.le_trans h2 ?_
        split <;> bv_omega
      · exact h3 m hm
theorem maxf_spec : ∀ (ns : List Int) (n : Int), (ns.foldl (fun a b => if b > a then b else a) n = n ∨ ns.foldl (fun a b => if b > a then b else a) n ∈ ns) ∧ n ≤ ns.foldl (fun a b => if b > a then b else a) n ∧ ∀ m ∈ ns, m ≤ ns.foldl (fun a b => if b > a then b else a) n
  | [], n => ⟨.inl rfl, Int.le_refl _, fun m h => nomatch h⟩
  | b :: ns, n => by
    obtain ⟨h1, h2, h3⟩ := maxf_spec ns (if b > n then b else n)
    rw [List.foldl_cons]
    refine ⟨?_, ?_, fun m hm => ?_⟩
    · rcases h1 with h1 | h1
      · rw [h1]
        split
        · exact .inr List.mem_cons_self
        · exact .inl rfl
      · exact .inr (List.mem_cons_of_mem _ h1)
    · refine Int.le_trans ?_ h2
      split <;> bv_omega
    · rcases List.mem_cons.mp hm with rfl | hm
      · refine Int.le_trans ?_ h2
        split <;> bv_omega
      · exact h3 m hm
theorem minL_mem {ns : List Int} (h : ns ≠ []) : minL ns ∈ ns := by
  cases ns with
  | nil => exact absurd rfl h
  | cons n ns =>
    rcases (minf_spec ns n).1 with e | e
    · show List.foldl _ n ns ∈ _
      rw [e]; exact List.mem_cons_self
    · exact List.mem_cons_of_mem _ e
theorem minL_le {ns : List Int} {m : Int} (h : m ∈ ns) : minL ns ≤ m := by
  cases ns with
  | nil => cases h
  | cons n ns =>
    rcases List.mem_cons.mp h with rfl | h
    · exact (minf_spec ns m).2.1
    · exact (minf_spec ns n).2.2 m h
theorem maxL_mem {ns : List Int} (h : ns ≠ []) : maxL ns ∈ ns := by
  cases ns with
  | nil => exact absurd rfl h
  | cons n ns =>
    rcases (maxf_spec ns n).1 with e | e
    · show List.foldl _ n ns ∈ _
      rw [e]; exact List.mem_cons_self
    · exact List.mem_cons_of_mem _ e
theorem le_maxL {ns : List Int} {m : Int} (h : m ∈ ns) : m ≤ maxL ns := by
  cases ns with
  | nil => cases h
  | cons n ns =>
    rcases List.mem_cons.mp h with rfl | h
    · exact (maxf_spec ns m).2.1
    · exact (maxf_spec ns n).2.2 m h
theorem num_mem {xs : Array (Int × Tok)} {i : Nat} (h : i < xs.size) : numAt xs i ∈ xs.toList.map (·.1) := by
  rw [numAt_eq]
  exact getD_mem (by simpa using h)
theorem mem_num {xs : Array (Int × Tok)} {a : Int} (h : a ∈ xs.toList.map (·.1)) : ∃ i, i < xs.size ∧ a = numAt xs i := by
  obtain ⟨i, hi, e⟩ := mem_getD h
  exact ⟨i, by simpa using hi, by rw [numAt_eq, e]⟩
theorem best_min {xs : Array (Int × Tok)} (h : 0 < xs.size) : numAt xs (argBest (fun i j => decide (numAt xs i < numAt xs j)) (xs.size - 1)) = minL (xs.toList.map (·.1)) := by
  have z := argBest_lt (numAt xs) (xs.size - 1)
  have m := num_mem (xs := xs) (i := argBest (fun i j => decide (numAt xs i < numAt xs j)) (xs.size - 1)) (by bv_omega)
  obtain ⟨i, hi, e⟩ := mem_num (minL_mem (List.ne_nil_of_mem m))
  have := minL_le m
  have := z.2 i (by bv_omega)
  bv_omega
theorem best_max {xs : Array (Int × Tok)} (h : 0 < xs.size) : numAt xs (argBest (fun i j => decide (numAt xs i > numAt xs j)) (xs.size - 1)) = maxL (xs.toList.map (·.1)) := by
  have z := argBest_gt (numAt xs) (xs.size - 1)
  have m := num_mem (xs := xs) (i := argBest (fun i j => decide (numAt xs i > numAt xs j)) (xs.size - 1)) (by bv_omega)
  obtain ⟨i, hi, e⟩ := mem_num (maxL_mem (List.ne_nil_of_mem m))
  have := le_maxL m
  have := z.2 i (by bv_omega)
  bv_omega
section
variable {X : Cx}
theorem call_min1 (hc : X.calm = true) : CallR X (.builtin "min") (fun xs H Q => ∃ (p : Addr) (ns : List Int), xs = [.ref p] ∧ (SqL X.K H p (ns.map V.int) ∨ SqT X.K H p (ns.map V.int)) ∧ ns ≠ [] ∧ Q (.int (minL ns)) H) := by
  intro pins s σ H xs us Q I r h
  obtain ⟨p, ns, rfl, hq, hne, q⟩ := h
  obtain ⟨u, rfl, ru⟩ := vals1 r
  cases ru
  have core : ∀ (its : List Value), Vals (ns.map V.int) its → ∃ xs : Array (Int × Tok), its.toArray = intItems xs ∧ ns = xs.toList.map (·.1) := fun its rv => by
    have hi : IntsAre its ns := intsAre_of rv
    obtain ⟨xs, e⟩ := hi.allInts.items
    exact ⟨xs, e, by rw [← hi.numsOf, ← nums_intItems, ← e]⟩
  have fin : ∀ (xs : Array (Int × Tok)), ns = xs.toList.map (·.1) → 0 < xs.size → ∀ (v : Value) (h' : Heap) (tk : Nat), (intItems xs)[argBest (fun i j => decide (numAt xs i < numAt xs j)) (xs.size - 1)]? = some v → (∀ b o, s.heap.get? b = some o → h'.get? b = some o) → EP X pins σ Q v { s with heap := h', toks := tk } := fun xs hns hsz v h' tk hv hk => by
    obtain ⟨t, rfl⟩ := intItems_at hv
    have e := best_min hsz
    rw [← hns] at e
    exact ⟨.int _, H, I.kept hk, ⟨t, by rw [e]⟩, q⟩
  have sz : ∀ xs : Array (Int × Tok), ns = xs.toList.map (·.1) → 0 < xs.size := fun xs hns => by
    rcases Nat.eq_zero_or_pos xs.size with z | z
    · exact absurd (by rw [hns, Array.size_eq_zero_iff.mp z]; rfl) hne
    · exact z
  rcases hq with hq | hq
  · obtain ⟨its, rv, pl, hz⟩ := I.list hq
    obtain ⟨xs, e, hns⟩ := core its rv
    exact min_intList (I.ok.hd hc) (by rw [← e]; exact pl.isList) (sz xs hns) (fin xs hns (sz xs hns))
  · obtain ⟨its, rv, pl, hz⟩ := I.tuple hq
    obtain ⟨xs, e, hns⟩ := core its rv
    exact min_tup (I.ok.hd hc) (by rw [← e]; exact pl) (sz xs hns) (fin xs hns (sz xs hns))
theorem call_max1 (hc : X.calm = true) : CallR X (.builtin "max") (fun xs H Q => ∃ (p : Addr) (ns : List Int), xs = [.ref p] ∧ (SqL X.K H p (ns.map V.int) ∨ SqT X.K H p (ns.map V.int)) ∧ ns ≠ [] ∧ Q (.int (maxL ns)) H) := by
  intro pins s σ H xs us Q I r h
  obtain ⟨p, ns, rfl, hq, hne, q⟩ := h
  obtain ⟨u, rfl, ru⟩ := vals1 r
  cases ru
  have core : ∀ (its : List Value), Vals (ns.map V.int) its → ∃ xs : Array (Int × Tok), its.toArray = intItems xs ∧ ns = xs.toList.map (·.1) := fun its rv => by
    have hi : IntsAre its ns := intsAre_of rv
    obtain ⟨xs, e⟩ := hi.allInts.items
    exact ⟨xs, e, by rw [← hi.numsOf, ← nums_intItems, ← e]⟩
  have fin : ∀ (xs : Array (Int × Tok)), ns = xs.toList.map (·.1) → 0 < xs.size → ∀ (v : Value) (h' : Heap) (tk : Nat), (intItems xs)[argBest (fun i j => decide (numAt xs i > numAt xs j)) (xs.size - 1)]? = some v → (∀ b o, s.heap.get? b = some o → h'.get? b = some o) → EP X pins σ Q v { s with heap := h', toks := tk } := fun xs hns hsz v h' tk hv hk => by
    obtain ⟨t, rfl⟩ := intItems_at hv
    have e := best_max hsz
    rw [← hns] at e
    exact ⟨.int _, H, I.kept hk, ⟨t, by rw [e]⟩, q⟩
  have sz : ∀ xs : Array (Int × Tok), ns = xs.toList.map (·.1) → 0 < xs.size := fun xs hns => by
    rcases Nat.eq_zero_or_pos xs.size with z | z
    · exact absurd (by rw [hns, Array.size_eq_zero_iff.mp z]; rfl) hne
    · exact z
  rcases hq with hq | hq
  · obtain ⟨its, rv, pl, hz⟩ := I.list hq
    obtain ⟨xs, e, hns⟩ := core its rv
    exact max_intList (I.ok.hd hc) (by rw [← e]; exact pl.isList) (sz xs hns) (fin xs hns (sz xs hns))
  · obtain ⟨its, rv, pl, hz⟩ := I.tuple hq
    obtain ⟨xs, e, hns⟩ := core its rv
    exact max_tup (I.ok.hd hc) (by rw [← e]; exact pl) (sz xs hns) (fin xs hns (sz xs hns))
end
def min1D : List D → Option D
  | [d] => (nsD d).bind fun ns => if ns = [] then none else some (.int (minL ns))
  | _ => none
def max1D : List D → Option D
  | [d] => (nsD d).bind fun ns => if ns = [] then none else some (.int (maxL ns))
  | _ => none
theorem pc_min1 {K : PySem.W.Frag} : PrC (fun xs H Q => ∃ (p : Addr) (ns : List Int), xs = [.ref p] ∧ (SqL K H p (ns.map V.int) ∨ SqT K H p (ns.map V.int)) ∧ ns ≠ [] ∧ Q (.int (minL ns)) H) .cl min1D := by
  intro Oc Ob H vs ds d Q oh va e k
  unfold min1D at e
  split at e
  · obtain ⟨ns, e1, e⟩ := Option.bind_eq_some_iff.mp e
    split at e
    · cases e
    · rename_i hl
      cases e
      obtain ⟨v, rfl, vx⟩ := va.one
      obtain ⟨p, rfl, hq⟩ := nsD_va vx e1
      exact ⟨p, ns, rfl, hq, hl, k _ H (Same.refl H) (Rep.int _)⟩
  · cases e
theorem pc_max1 {K : PySem.W.Frag} : PrC (fun xs H Q => ∃ (p : Addr) (ns : List Int), xs = [.ref p] ∧ (SqL K H p (ns.map V.int) ∨ SqT K H p (ns.map V.int)) ∧ ns ≠ [] ∧ Q (.int (maxL ns)) H) .cl max1D := by
  intro Oc Ob H vs ds d Q oh va e k
  unfold max1D at e
  split at e
  · obtain ⟨ns, e1, e⟩ := Option.bind_eq_some_iff.mp e
    split at e
    · cases e
    · rename_i hl
      cases e
      obtain ⟨v, rfl, vx⟩ := va.one
      obtain ⟨p, rfl, hq⟩ := nsD_va vx e1
      exact ⟨p, ns, rfl, hq, hl, k _ H (Same.refl H) (Rep.int _)⟩
  · cases e
theorem paired_of_get {α β : Type} {F : α → β → Prop} : ∀ {as : List α} {bs : List β}, as.length = bs.length → (∀ (i : Nat) a b, as[i]? = some a → bs[i]? = some b → F a b) → Paired F as bs
  | [], [], _, _ => .nil
  | [], _ :: _, h, _ => by cases h
  | _ :: _, [], h, _ => by cases h
  | a :: as, b :: bs, h, f => .cons (f 0 a b rfl rfl) (paired_of_get (Nat.succ.inj h) fun i x y hx hy => f (i + 1) x y (by simpa using hx) (by simpa using hy))
section
variable {X : Cx}
theorem call_rng1 : CallR X (.type "range") (fun xs H Q => ∃ j : Int, xs = [.int j] ∧ ∀ p, H p = none → Q (.ref p) (upd H p (.rng 0 j))) := by
  intro pins s σ H xs us Q I r h
  obtain ⟨j, rfl, q⟩ := h
  obtain ⟨u, rfl, t, rfl⟩ := vals1 r
  exact call_range_1 ⟨.ref s.heap.objs.size, _, I.laid (t' := s.toks + 1 + 1) (o := .rng 0 j) (fun b o e => Heap.get?_push_of_some _ e) (Nat.le_refl _) ⟨_, _, _, Heap.get?_push_size _ rfl⟩, rfl, q _ (I.hok.fresh (Nat.le_refl _))⟩
theorem call_list_rng (hc : X.calm = true) : CallR X (.type "list") (fun xs H Q => ∃ (p : Addr) (j : Int), xs = [.ref p] ∧ H p = some (.rng 0 j) ∧ -(2 ^ 62) ≤ j ∧ j.toNat ≤ 1000000 ∧ ∀ l, H l = none → Q (.ref l) (upd H l (.lst ((List.range j.toNat).map fun (i : Nat) => V.int (i : Int))))) := by
  intro pins s σ H xs us Q I r h
  obtain ⟨p, j, rfl, hp, hs, hj, q⟩ := h
  obtain ⟨u, rfl, ru⟩ := vals1 r
  cases ru
  obtain ⟨t, u, v, e⟩ := I.hok p _ hp
  refine call_list_range (n := j.toNat) (I.ok.hd hc) e (small_one (by bv_omega) (by bv_omega) hs (by bv_omega)) ?_ (by bv_omega) fun h' tk acc' c' hk hS hacc => ?_
  · rw [rangeSize_one]; split <;> bv_omega
  · have hv : Vals ((List.range j.toNat).map fun (i : Nat) => V.int (i : Int)) acc'.toList := by
      obtain ⟨h1, h2⟩ := hacc
      refine paired_of_get ?_ ?_
      · rw [List.length_map, List.length_range, Array.length_toList, h1]
      · intro i a b ha hb
        rw [List.getElem?_map] at ha
        have hi : i < j.toNat := by
          have := (List.getElem?_eq_some_iff.mp hb).1
          rw [Array.length_toList, h1] at this
          exact this
        rw [List.getElem?_range hi] at ha
        cases ha
        obtain ⟨t, e⟩ := h2 i b (by simpa using hb)
        refine ⟨t, ?_⟩
        rw [e]
        simp
    refine ⟨.ref s.heap.objs.size, _, I.laid (t' := tk) (o := .lst ((List.range j.toNat).map fun (i : Nat) => V.int (i : Int))) hk (Nat.le_refl _) ⟨?_, acc'.toList, c', hv, by simpa using hS⟩, rfl, q _ (I.hok.fresh (Nat.le_refl _))⟩
    rw [List.length_map, List.length_range]
    exact Nat.le_of_lt (Nat.lt_of_le_of_lt hj (by decide))
end
def rangeL : List D → Option D
  | [.int j] => if -(2 ^ 62) ≤ j ∧ j.toNat ≤ 1000000 then some (.list ((List.range j.toNat).map fun (i : Nat) => PyData.int (i : Int))) else none
  | _ => none
theorem reps_nats {H : Hp} {O : Addr → Prop} (l : List Nat) : Reps H O (l.map fun (i : Nat) => V.int (i : Int)) (l.map fun (i : Nat) => PyData.int (i : Int)) := by
  induction l with
  | nil => exact .nil
  | cons a l ih => exact .cons (.int _) ih
theorem re_listRange {C : Ct} {a : Expr} {p p2 pos pos2 : Pos} {ms : Ev → Res (List D)} (hl : C.X.mg "list" = none) (hm : C.X.mg "range" = none) (ha : RArg C false [a] ms) (hc : autoParam (C.X.calm = true) autoK5._auto_1) (hgl : autoParam (Gl C.X "list") autoK5._auto_1) (hg : autoParam (Gl C.X "range") autoK5._auto_1)
    (hs : autoParam (starEach [a] C.X.env = (false, eval a C.X.env) :: starEach [] C.X.env) autoK5._auto_1) (hs2 : autoParam (starEach [.Call (.Name "range" p2) [a] [] pos2] C.X.env = (false, eval (.Call (.Name "range" p2) [a] [] pos2) C.X.env) :: starEach [] C.X.env) autoK5._auto_1)
    (hpl : autoParam ((backTo pos (starEach [] C.X.env)).any (·.1) = false) autoK5._auto_1) (hpl2 : autoParam ((backTo pos2 (starEach [] C.X.env)).any (·.1) = false) autoK5._auto_1) :
    RE C .new (.Call (.Name "list" p) [.Call (.Name "range" p2) [a] [] pos2] [] pos) (eB rangeL ms) := by
  obtain ⟨t, pa, q⟩ := ha
  refine ⟨_, pe_callTy (call_list_rng hc) hgl hl (by rfl) (pa_cons (pe_callTy call_rng1 hg hm (by rfl) pa (by decide) (by decide) hs hpl2) pa_nil hs2) (by decide) (by decide) hs2 hpl, fun Oc Ob σ H ρ Q R h => q Oc Ob σ H ρ _ R (Res.post_mono (Res.post_bind h) (fun ds _ k vs H1 s1 r => ?_) fun _ z => z)⟩
  obtain ⟨d, e, k⟩ := Res.post_lft k
  unfold rangeL at e
  split at e
  · split at e
    · rename_i hb
      cases e
      obtain ⟨v, rfl, va⟩ := VAs.one r
      obtain rfl := va.int
      refine ⟨_, rfl, fun p hp => ⟨p, _, rfl, upd_same, hb.1, hb.2, fun l hl => ?_⟩⟩
      exact k _ _ ((s1.trans (Same.new hp)).trans (Same.new hl)) (new_list (s1.trans (Same.new hp)) hl (reps_nats _))
    · cases e
  · cases e
section
variable {X : Cx}
def rExtR : V → List V → Hp → VK → Prop := fun x vs H Q => ∃ l b xs zs, x = .ref l ∧ vs = [.ref b] ∧ H l = some (.lst xs) ∧ (Rd H b (.lst zs) ∨ Rd H b (.tup zs)) ∧ xs.length + zs.length ≤ sizeLine ∧ Q .non (upd H l (.lst (xs ++ zs)))
theorem mt_extR : MtM X "list.extend" rExtR := by
  intro pins s σ H x vs v us Q I rx rv h
  obtain ⟨l, b, xs, zs, rfl, rfl, hH, hB, hz, q⟩ := h
  cases rx
  obtain ⟨u, rfl, ru⟩ := rv.one
  cases ru
  obtain ⟨z, its, n, r, hl, e⟩ := I.lstM hH
  have len : (xs ++ zs).length ≤ sizeLine := by rw [List.length_append]; exact hz
  rcases hB with hB | hB
  · obtain ⟨z2, its2, n2, r2, hl2, e2⟩ := Rd.lstM I hB
    have hsz : its.toArray.size + its2.toArray.size ≤ sizeLine := by rw [List.size_toArray, List.size_toArray]; bv_omega
    have hlong : ¬ (!its.toArray.isEmpty && Builtin.List.listTooLong (its.toArray.size + its2.toArray.size)) = true := by
      rw [notLongL hsz, Bool.and_false]
      exact Bool.false_ne_true
    refine call_meets F.slot_list_extend ⟨_, e, rfl⟩ F.entry_list_extend (F.args_list_extend_2 _ _)
      (AutoSeq1.list_extend_list_list_0 l its.toArray n b its2.toArray n2 hlong (by rw [List.size_toArray]; bv_omega) (by bv_omega)) ⟨e, e2, ?_⟩
    exact ⟨.non, _, I.lset (its' := its ++ its2) hH e (by simp) (r.append r2) len, rfl, q⟩
  · obtain ⟨z2, its2, r2, o, ho, hc, ⟨n2, hd⟩, _⟩ := hB.ok I.hok
    have hl2 := r2.length
    have hsz : its.toArray.size + its2.toArray.size ≤ sizeLine := by rw [List.size_toArray, List.size_toArray]; bv_omega
    refine call_meets F.slot_list_extend ⟨_, e, rfl⟩ F.entry_list_extend (F.args_list_extend_2 _ _)
      (ext_tup hc hd hsz) ⟨e, ho, ?_⟩
    exact ⟨.non, _, I.lset (its' := its ++ its2) hH e (by simp) (r.append r2) len, rfl, q⟩
def insN (n : Nat) (x : Int) : Nat := if x < 0 then (x + (n : Int)).toNat else min x.toNat n
def rInsert : V → List V → Hp → VK → Prop := fun x vs H Q => ∃ l xs i y, x = .ref l ∧ vs = [.int i, y] ∧ H l = some (.lst xs) ∧ -(2 ^ 63) ≤ i ∧ i < 2 ^ 63 ∧ xs.length < sizeLine ∧ Q .non (upd H l (.lst (xs.take (insN xs.length i) ++ y :: xs.drop (insN xs.length i))))
theorem mt_insert : MtM X "list.insert" rInsert := by
  intro pins s σ H x vs v us Q I rx rv h
  obtain ⟨l, xs, i, y, rfl, rfl, hH, h1, h2, hz, q⟩ := h
  cases rx
  obtain ⟨u, w', rfl, ⟨t, rfl⟩, ry⟩ := rv.two
  obtain ⟨z, its, n, r, hl, e⟩ := I.lstM hH
  refine call_meets F.slot_list_insert ⟨_, e, rfl⟩ F.entry_list_insert (F.args_list_insert_3 _ _ _) (AutoSeq1.list_insert_list_int_val_1 l its.toArray n i t w' (by rw [fitsIndex_both h1 h2]; exact Bool.false_ne_true) (by rw [List.size_toArray]; bv_omega)) ⟨e, ?_⟩
  refine ⟨.non, _, I.lset (its' := its.take (insN its.length i) ++ w' :: its.drop (insN its.length i)) hH e ?_ (by rw [hl]; exact (r.take _).append (.cons ry (r.drop _))) ?_, rfl, q⟩
  · show (its.toArray.extract 0 (if i < 0 then (i + (its.toArray.size : Int)).toNat else min i.toNat its.toArray.size)).push w' ++ its.toArray.extract (if i < 0 then (i + (its.toArray.size : Int)).toNat else min i.toNat its.toArray.size) = _
    rw [PySem.W.kl_ins_eq, List.size_toArray]
    rfl
  · rw [List.length_append, List.length_cons, List.length_take, List.length_drop]
    bv_omega
end
def appD : List D → List D → Option (List D)
  | xs, [d] => if xs.length < sizeLine then some (xs ++ [d]) else none
  | _, _ => none
def extD : List D → List D → Option (List D)
  | xs, [d] => (seqD d).bind fun ys => if xs.length + ys.length ≤ sizeLine then some (xs ++ ys) else none
  | _, _ => none
def insD : List D → List D → Option (List D)
  | xs, [.int i, d] => if -(2 ^ 63) ≤ i ∧ i < 2 ^ 63 ∧ xs.length < sizeLine then some (xs.take (insN xs.length i) ++ d :: xs.drop (insN xs.length i)) else none
  | _, _ => none
theorem Reps.one' {H : Hp} {O : Addr → Prop} {vs : List V} {d : D} (h : Reps H O vs [d]) : ∃ v, vs = [v] ∧ Rep H O v d := by
  cases h with
  | cons a t => cases t; exact ⟨_, rfl, a⟩
theorem Reps.two' {H : Hp} {O : Addr → Prop} {vs : List V} {d d' : D} (h : Reps H O vs [d, d']) : ∃ v v', vs = [v, v'] ∧ Rep H O v d ∧ Rep H O v' d' := by
  cases h with
  | cons a t =>
    obtain ⟨v, rfl, q⟩ := Reps.one' t
    exact ⟨_, _, rfl, a, q⟩
theorem pm_append : PrM rAppend appD := by
  intro O H l xs vs xd ad ds' Q hl rx ra e k
  unfold appD at e
  split at e
  · split at e
    · rename_i h
      cases e
      obtain ⟨v, rfl, rv⟩ := Reps.one' ra
      exact ⟨l, xs, v, rfl, rfl, hl, by rw [rx.length]; exact h, k _ (rx.append (.one rv))⟩
    · cases e
  · cases e
theorem pm_insert : PrM rInsert insD := by
  intro O H l xs vs xd ad ds' Q hl rx ra e k
  unfold insD at e
  split at e
  · split at e
    · rename_i h
      cases e
      obtain ⟨v, v', rfl, rv, rv'⟩ := Reps.two' ra
      cases rv
      refine ⟨l, xs, _, v', rfl, rfl, hl, h.1, h.2.1, by rw [rx.length]; exact h.2.2, ?_⟩
      rw [rx.length]
      exact k _ (Reps.insert rv' _ rx)
    · cases e
  · cases e
end L2.L3
set_option maxHeartbeats 4000000
namespace L2.L3
open PySem PySem.Spec PyProof.Rows
variable [CN]
section
variable {i j : Nat} {m n : Ev → Res Out} {t : Ev → Res Bool} {me mk : Ev → Res D} {ms mi : Ev → Res (List D)} {g : D → Ev → Option Ev} {f : List D → List D → Option (List D)}
end
end L2.L3
namespace L2.L3
open PySem PySem.Spec PyProof.Rows
variable [CN]
def isL : Value → Bool
  | .type t => t == "list"
  | _ => false
def noLst (K : PySem.W.Frag) : Bool := K.all fun p => !isL p.2.cls
theorem mem_of_look {K : PySem.W.Frag} {a : Addr} {o : Obj} (h : K.lookup a = some o) : (a, o) ∈ K := by
  have h : List.lookup a K = some o := h
  induction K with
  | nil => cases h
  | cons p r ih =>
    obtain ⟨b, u⟩ := p
    rw [List.lookup_cons] at h
    by_cases e : (a == b) = true
    · simp only [e] at h
      cases h
      have : a = b := by simpa using e
      rw [this]
      exact List.mem_cons_self
    · simp only [e] at h
      exact List.mem_cons_of_mem _ (ih h h)
theorem rd_of {K : PySem.W.Frag} {H : Hp} {a : Addr} {xs : List V} (hn : noLst K = true) (h : SqL K H a xs) : Rd H a (.lst xs) := by
  rcases h with h | ⟨o, its, n, hk, hc, _⟩
  · exact h
  · have := List.all_eq_true.mp hn _ (mem_of_look hk)
    rw [hc] at this
    cases this
end L2.L3
set_option maxHeartbeats 4000000
namespace L2.L3
open PySem
section
variable (m n : Ev → Res Out) (t t' : Ev → Res Bool) (a b c : Ev → Res D) (xs : Ev → Res (List D)) (ρ : Ev) (i j : Nat) (d : D)
theorem xV : sN ρ = .ok (.nx ρ) := rfl
theorem wV : sX ρ = .no := rfl
theorem xY : sQ m n ρ = (m ρ).bind fun o => match o with | .nx ρ' => n ρ' | .rt d => .ok (.rt d) := rfl
theorem zG : sIf t m n ρ = (t ρ).bind fun k => if k then m ρ else n ρ := rfl
theorem xK : sR a ρ = (a ρ).bind fun d => .ok (.rt d) := rfl
theorem xP : sS i a ρ = (a ρ).bind fun d => .ok (.nx (ρ.set i (some d))) := rfl
theorem xT : sE a ρ = (a ρ).bind fun _ => .ok (.nx ρ) := rfl
theorem xM (g : List D → List D → Option (List D)) : sM i g xs ρ = (eV i ρ).bind fun d => (Res.lft (lstD d)).bind fun xd => (xs ρ).bind fun ad => (Res.lft (g xd ad)).bind fun ds => .ok (.nx (ρ.set i (some (.list ds)))) := rfl
theorem xG : sI i b a ρ = (a ρ).bind fun v => (eV i ρ).bind fun d => (Res.lft (lstD d)).bind fun xd => (b ρ).bind fun k => (Res.lft (setD xd k v)).bind fun ds => .ok (.nx (ρ.set i (some (.list ds)))) := rfl
theorem xA : sV i j ρ = (eV j ρ).bind fun d => .ok (.nx ((ρ.set i (some d)).set j none)) := rfl
theorem wU (g : D → Ev → Option Ev) : sF xs g m ρ = (xs ρ).bind fun ds => forM g m ds ρ := rfl
theorem xI (k : Nat) : sW k t m ρ = whM t m k ρ := rfl
theorem yB : eC d ρ = .ok d := rfl
theorem eV0 (x : D) (r : Ev) : eV 0 (some x :: r) = .ok x := rfl
theorem eVs (o : Option D) (r : Ev) : eV (i + 1) (o :: r) = eV i r := rfl
theorem xN (f : D → Option D) : e1 f a ρ = (a ρ).bind fun x => Res.lft (f x) := rfl
theorem xQ (f : D → D → Option D) : e2 f a b ρ = (a ρ).bind fun x => (b ρ).bind fun y => Res.lft (f x y) := rfl
theorem xW (f : List D → Option D) : eB f xs ρ = (xs ρ).bind fun ds => Res.lft (f ds) := rfl
theorem xS (f : List D → Res D) : eF f xs ρ = (xs ρ).bind f := rfl
theorem yH (fr : Bool) (f : List D → Res D) : eFA fr f xs ρ = (xs ρ).bind fun ds => (f ds).bind fun d => if lfT fr d then .ok d else .no := rfl
theorem xX (f : D → D → Option Bool) : b2 f a b ρ = (a ρ).bind fun x => (b ρ).bind fun y => Res.lft (f x y) := rfl
theorem xZ (f g : D → D → Option Bool) : b3 f g a b c ρ = (a ρ).bind fun x => (b ρ).bind fun y => (Res.lft (f x y)).bind fun k => if k then (c ρ).bind fun z => Res.lft (g y z) else .ok false := rfl
theorem wZ : vB t ρ = (t ρ).bind fun k => .ok (.bool k) := rfl
theorem xB : tV a ρ = (a ρ).bind fun d => Res.lft (isB d) := rfl
theorem zF : tNt t ρ = (t ρ).bind fun k => .ok (!k) := rfl
theorem yY : tAn t t' ρ = (t ρ).bind fun k => if k then t' ρ else .ok false := rfl
theorem xU : tO t t' ρ = (t ρ).bind fun k => if k then .ok true else t' ρ := rfl
theorem yW : vAn a b ρ = (a ρ).bind fun d => (Res.lft (isB d)).bind fun k => if k then b ρ else .ok (.bool false) := rfl
theorem wR : vO a b ρ = (a ρ).bind fun d => (Res.lft (isB d)).bind fun k => if k then .ok (.bool true) else b ρ := rfl
theorem zB : vNt a ρ = (a ρ).bind fun d => (Res.lft (isB d)).bind fun k => .ok (.bool (!k)) := rfl
theorem yR : eIf t a b ρ = (t ρ).bind fun k => if k then a ρ else b ρ := rfl
theorem yC : aN ρ = .ok [] := rfl
theorem yA : aC a xs ρ = (a ρ).bind fun x => (xs ρ).bind fun r => .ok (x :: r) := rfl
theorem xH : iS a ρ = (a ρ).bind fun d => Res.lft (seqD d) := rfl
theorem wY (f : List D → Option (List D)) : iR f xs ρ = (xs ρ).bind fun ds => Res.lft (f ds) := rfl
theorem xD : gN i d ρ = some (ρ.set i (some d)) := rfl
theorem zJ : tYes ρ = .ok true := rfl
theorem eComp_ap (mi : Ev → Res (List D)) (js : List Nat) : eComp mi t a js ρ = (mi ρ).bind fun ds => if ds.length ≤ sizeLine then (compM (fun x => t (cEnv ρ js x)) (fun x => a (cEnv ρ js x)) ds).bind fun out => .ok (.list out) else .no := rfl
theorem wT (f : Int → Int → Option Int) (x y : Int) : i2 f (.int x) (.int y) = (f x y).map PyData.int := rfl
theorem yD (f : Int → Int → Bool) (x y : Int) : c2 f (.int x) (.int y) = some (f x y) := rfl
theorem zH (l : List D) : lstD (.list l) = some l := rfl
theorem zD (l : List D) : seqD (.list l) = some l := rfl
theorem zE (l : List D) : seqD (.tuple l) = some l := rfl
theorem yK (k : Bool) : isB (.bool k) = some k := rfl
theorem zL : lenD [d] = (seqD d).map fun ds => .int ds.length := rfl
theorem zP : listD [d] = (seqD d).map fun ds => .list ds := rfl
theorem zK : tupD [d] = (seqD d).map fun ds => .tuple ds := rfl
theorem xR (l : List D) (k : Int) : ixD (.list l) (.int k) = atI l k := rfl
theorem xL (l : List D) (k : Int) : ixD (.tuple l) (.int k) = atI l k := rfl
theorem zI (k : Int) : negD (.int k) = some (.int (-k)) := rfl
theorem xJ (k : Bool) : bD (some k) = some (.bool k) := rfl
end
theorem yT (fr : Bool) (d : D) : fin fr (.rt d) = .ok d := rfl
theorem yN (ρ : Ev) : fin false (.nx ρ) = .ok .none := rfl
theorem forM_ok {g : D → Ev → Option Ev} {b : Ev → Res Out} (P : Nat → Ev → Prop) (ds : List D) (ρ : Ev) (h0 : P 0 ρ) (hs : ∀ (i : Nat) d ρ, ds[i]? = some d → P i ρ → ∃ ρ1 ρ2, g d ρ = some ρ1 ∧ b ρ1 = .ok (.nx ρ2) ∧ P (i + 1) ρ2) :
    ∃ ρ', forM g b ds ρ = .ok (.nx ρ') ∧ P ds.length ρ' := by
  induction ds generalizing P ρ with
  | nil => exact ⟨ρ, rfl, h0⟩
  | cons d ds ih =>
    obtain ⟨ρ1, ρ2, e1, e2, p⟩ := hs 0 d ρ rfl h0
    obtain ⟨ρ', e, p'⟩ := ih (fun i => P (i + 1)) ρ2 p fun i d ρ hd hp => hs (i + 1) d ρ (by simpa using hd) hp
    refine ⟨ρ', ?_, by simpa using p'⟩
    rw [forM, e1, Res.lft_some, Res.bind_ok, e2, Res.bind_ok]
    exact e
theorem whM_ok {t : Ev → Res Bool} {b : Ev → Res Out} (P : Nat → Ev → Prop) (n : Nat) : ∀ (fuel : Nat) (ρ : Ev), P 0 ρ → (∀ i ρ, i < n → P i ρ → t ρ = .ok true ∧ ∃ ρ2, b ρ = .ok (.nx ρ2) ∧ P (i + 1) ρ2) → (∀ ρ, P n ρ → t ρ = .ok false) → n < fuel → ∃ ρ', whM t b fuel ρ = .ok (.nx ρ') ∧ P n ρ' := by
  induction n generalizing P with
  | zero =>
    intro fuel ρ h0 _ he hf
    obtain ⟨f, rfl⟩ : ∃ f, fuel = f + 1 := ⟨fuel - 1, by bv_omega⟩
    refine ⟨ρ, ?_, h0⟩
    rw [whM, he ρ h0]
    rfl
  | succ n ih =>
    intro fuel ρ h0 hs he hf
    obtain ⟨f, rfl⟩ : ∃ f, fuel = f + 1 := ⟨fuel - 1, by bv_omega⟩
    obtain ⟨e1, ρ2, e2, p⟩ := hs 0 ρ (Nat.succ_pos _) h0
    obtain ⟨ρ', e, p'⟩ := ih (fun i => P (i + 1)) f ρ2 p (fun i ρ hi hp => hs (i + 1) ρ (by bv_omega) hp) he (by bv_omega)
    refine ⟨ρ', ?_, p'⟩
    rw [whM, e1, Res.bind_ok, if_pos rfl, e2, Res.bind_ok]
    exact e
theorem compM_map {t : D → Res Bool} {f : D → Res D} {α : Type} (A : α → D) (p : α → Bool) (q : α → D) : ∀ (xs : List α), (∀ x ∈ xs, t (A x) = .ok (p x)) → (∀ x ∈ xs, p x = true → f (A x) = .ok (q x)) → compM t f (xs.map A) = .ok ((xs.filter p).map q)
  | [], _, _ => rfl
  | x :: xs, ht, hf => by
    have ih := compM_map A p q xs (fun y hy => ht y (List.mem_cons_of_mem _ hy)) (fun y hy => hf y (List.mem_cons_of_mem _ hy))
    rw [List.map_cons, compM, ht x List.mem_cons_self]
    cases hp : p x with
    | false => simp only [noEx, Res.bind_ok, Bool.false_eq_true, if_false, List.filter_cons, hp]; exact ih
    | true =>
      rw [hf x List.mem_cons_self hp, ih]
      simp [noEx, List.filter_cons, hp]
abbrev tI (ns : List Int) : D := .tuple (ns.map PyData.int)
abbrev lI (ns : List Int) : D := .list (ns.map PyData.int)
theorem atI_map {α β : Type} (f : α → β) (xs : List α) (i : Int) : atI (xs.map f) i = (atI xs i).map f := by
  unfold atI
  rw [List.length_map]
  cases ixN xs.length i with
  | none => rfl
  | some j => simp
theorem atI_getD {xs : List Int} {j : Nat} (h : j < xs.length) : atI xs (j : Int) = some (xs.getD j 0) := by
  refine atI_nat ?_
  rw [List.getD_eq_getElem?_getD, List.getElem?_eq_getElem h]
  rfl
end L2.L3
namespace L2.L3
open PySem
theorem mkL_le {ds : List D} (h : ds.length ≤ 1000) : mkL ds = some (.list ds) := by
  unfold mkL
  exact if_pos (Nat.le_of_lt (small1000 h))
theorem mkT_le {ds : List D} (h : ds.length ≤ 1000) : mkT ds = some (.tuple ds) := by
  unfold mkT
  exact if_pos (Nat.le_of_lt (small1000 h))
theorem wJ : mkL [] = some (.list []) := mkL_le (by simp)
theorem wP (a : D) : mkL [a] = some (.list [a]) := mkL_le (by simp)
theorem wH (a b : D) : mkL [a, b] = some (.list [a, b]) := mkL_le (by simp)
theorem wI (a b c : D) : mkL [a, b, c] = some (.list [a, b, c]) := mkL_le (by simp)
theorem wL (a b c d : D) : mkL [a, b, c, d] = some (.list [a, b, c, d]) := mkL_le (by simp)
theorem wN : mkT [] = some (.tuple []) := mkT_le (by simp)
theorem wO (a : D) : mkT [a] = some (.tuple [a]) := mkT_le (by simp)
theorem wK (a b : D) : mkT [a, b] = some (.tuple [a, b]) := mkT_le (by simp)
theorem wM (a b c : D) : mkT [a, b, c] = some (.tuple [a, b, c]) := mkT_le (by simp)
theorem app_le {l : List D} {d : D} (h : l.length ≤ 1000) : appD l [d] = some (l ++ [d]) := if_pos (small1000 h)
theorem ins_le {l : List D} {d : D} {i : Int} (h0 : 0 ≤ i) (h1 : i ≤ l.length) (h : l.length ≤ 1000) : insD l [.int i, d] = some (l.take i.toNat ++ d :: l.drop i.toNat) := by
  unfold insD
  simp only
  rw [if_pos ⟨by bv_omega, by bv_omega, small1000 h⟩]
  have e : insN l.length i = i.toNat := by
    unfold insN
    rw [if_neg (by bv_omega)]
    bv_omega
  rw [e]
theorem comp_le {ds : List D} {r : Res D} (h : ds.length ≤ 1000) : (if ds.length ≤ sizeLine then r else .no) = r := if_pos (Nat.le_of_lt (small1000 h))
theorem rng_nat {n : Nat} (h : n ≤ 1000) : rng1 [.int (n : Int)] = some ((List.range n).map fun (i : Nat) => PyData.int (i : Int)) := by
  unfold rng1
  simp only
  rw [if_pos ⟨by bv_omega, by bv_omega⟩, Int.toNat_natCast]
theorem rng_get {n i : Nat} {d : D} (h : ((List.range n).map fun (i : Nat) => PyData.int (i : Int))[i]? = some d) : i < n ∧ d = .int (i : Int) := by
  rw [List.getElem?_map] at h
  by_cases hi : i < n
  · rw [List.getElem?_range hi] at h
    cases h
    exact ⟨hi, rfl⟩
  · rw [List.getElem?_eq_none (by simpa using hi)] at h
    cases h
theorem shaped_int (i : Int) : SeqAt.shaped (.int i) = true := rfl
theorem eqv_int (i j : Int) : PyData.eqv (.int i) (.int j) = decide (i = j) := by
  rw [PyData.eqv]
  exact Bool.beq_eq_decide_eq i j
theorem eqD_int (i j : Int) : eqD (.int i) (.int j) = some (decide (i = j)) := by
  unfold eqD
  rw [if_pos ⟨shaped_int i, shaped_int j⟩, eqv_int]
theorem neD_int (i j : Int) : neD (.int i) (.int j) = some (!decide (i = j)) := by
  unfold neD
  rw [if_pos ⟨shaped_int i, shaped_int j⟩, eqv_int]
end L2.L3
namespace L2.L3
open PySem
abbrev rows (rs : List (List Int)) : D := .list (rs.map tI)
theorem ixN_nat {n m : Nat} (h : m < n) : ixN n (m : Int) = some m := by
  unfold ixN
  rw [if_pos (by bv_omega), if_pos (by bv_omega), Int.toNat_natCast]
theorem set_range {n m : Nat} (h : m < n) (f : Nat → D) (v : D) : ((List.range n).map f).set m v = (List.range n).map fun c => if c = m then v else f c := by
  apply List.ext_getElem?
  intro i
  by_cases e : m = i
  · subst e
    rw [List.getElem?_set_self (by simpa using h), List.getElem?_map, List.getElem?_range h]
    simp
  · rw [List.getElem?_set_ne e, List.getElem?_map, List.getElem?_map]
    cases q : (List.range n)[i]? with
    | none => rfl
    | some c =>
      have : c = i := by
        have hi := (List.getElem?_eq_some_iff.mp q).1
        rw [List.getElem?_range (by simpa using hi)] at q
        cases q; rfl
      subst this
      show some (f c) = some (if c = m then v else f c)
      rw [if_neg (fun z => e z.symm)]
theorem setD_range {n m : Nat} (h : m < n) (f : Nat → D) (v : D) : setD ((List.range n).map f) (.int (m : Int)) v = some ((List.range n).map fun c => if c = m then v else f c) := by
  unfold setD
  simp only
  rw [List.length_map, List.length_range, ixN_nat h, Option.map_some, set_range h]
theorem repL_one (v : D) (n : Nat) (h : n ≤ 1000) : repL (.list [v]) (.int (n : Int)) = some (.list (List.replicate n v)) := by
  unfold repL
  simp only
  rw [if_pos ⟨by bv_omega, by bv_omega, by rw [List.length_singleton, Int.toNat_natCast]; exact Nat.le_of_lt (small1000 (by bv_omega))⟩, Int.toNat_natCast]
  congr 2
  induction n with
  | zero => rfl
  | succ n ih => rw [List.replicate_succ, List.flatten_cons, ih (by bv_omega), List.replicate_succ]; rfl
theorem replicate_map {α : Type} (v : α) (n : Nat) : List.replicate n v = (List.range n).map fun _ => v := by
  apply List.ext_getElem?
  intro i
  rw [List.getElem?_replicate, List.getElem?_map]
  by_cases h : i < n
  · rw [if_pos h, List.getElem?_range h]; rfl
  · rw [if_neg h, List.getElem?_eq_none (by simpa using h)]; rfl
theorem atI_range {n m : Nat} (h : m < n) (f : Nat → D) : atI ((List.range n).map f) (m : Int) = some (f m) := atI_nat (by rw [List.getElem?_map, List.getElem?_range h]; rfl)
theorem rangeL_nat {n : Nat} (h : n ≤ 1000) : rangeL [.int (n : Int)] = some (lI ((List.range n).map fun (i : Nat) => (i : Int))) := by
  unfold rangeL
  simp only
  rw [if_pos ⟨by bv_omega, by bv_omega⟩, Int.toNat_natCast]
  congr 2
  rw [List.map_map]
  rfl
theorem min1_tI {ns : List Int} (h : ns ≠ []) : min1D [tI ns] = some (.int (minL ns)) := by
  unfold min1D
  simp only [nsD, seqD, Option.bind_some, intsOf_map]
  rw [if_neg h]
theorem min1_lI {ns : List Int} (h : ns ≠ []) : min1D [lI ns] = some (.int (minL ns)) := by
  unfold min1D
  simp only [nsD, seqD, Option.bind_some, intsOf_map]
  rw [if_neg h]
end L2.L3
namespace L2.L3
open PySem
section
variable (i : Int) (b : Bool) (l : List D)
theorem yG : isiD "int" (.int i) = some (.bool true) := rfl
theorem zC : isiD "bool" (.int i) = some (.bool false) := rfl
theorem yZ : isiD "bool" (.bool b) = some (.bool true) := rfl
theorem yM : isiD "int" (.bool b) = some (.bool true) := rfl
theorem yP : isiD "tuple" (.tuple l) = some (.bool true) := rfl
theorem yS : isiD "list" (.list l) = some (.bool true) := rfl
theorem yJ : isiD "tuple" (.list l) = some (.bool false) := rfl
theorem yX : isiD "list" (.tuple l) = some (.bool false) := rfl
theorem yU : isiD "tuple" .none = some (.bool false) := rfl
theorem yL : isiD "bool" .none = some (.bool false) := rfl
end
theorem eComp_eq {mi : Ev → Res (List D)} {t : Ev → Res Bool} {me : Ev → Res D} {js : List Nat} {ρ : Ev} {α : Type} (A : α → D) (p : α → Bool) (q : α → D) (xs : List α) (h : mi ρ = .ok (xs.map A)) (hl : xs.length ≤ 1000)
    (ht : ∀ x ∈ xs, t (cEnv ρ js (A x)) = .ok (p x)) (hf : ∀ x ∈ xs, p x = true → me (cEnv ρ js (A x)) = .ok (q x)) : eComp mi t me js ρ = .ok (.list ((xs.filter p).map q)) := by
  rw [eComp_ap, h, Res.bind_ok, comp_le (by rw [List.length_map]; exact hl), compM_map A p q xs ht hf]
  rfl
theorem eComp_all {mi : Ev → Res (List D)} {me : Ev → Res D} {js : List Nat} {ρ : Ev} {α : Type} (A : α → D) (q : α → D) (xs : List α) (h : mi ρ = .ok (xs.map A)) (hl : xs.length ≤ 1000)
    (hf : ∀ x ∈ xs, me (cEnv ρ js (A x)) = .ok (q x)) : eComp mi tYes me js ρ = .ok (.list (xs.map q)) := by
  rw [eComp_eq A (fun _ => true) q xs h hl (fun _ _ => rfl) (fun x hx _ => hf x hx), List.filter_eq_self.mpr fun _ _ => rfl]
end L2.L3
namespace L2.L3
end L2.L3
set_option maxHeartbeats 4000000
namespace HT
open PySem PySem.Spec PyProof.Rows
section
variable {prog : Program} {w : World} {A : Around} {E : Value → Shared → Prop} {s : Shared}
theorem getItem_tuple_all {t sl : Addr} {items : Array Value} {vl vu : Value} {lo hi : Option Int} {Q : Value → Shared → Prop} (ht : IsTup s.heap t items) (hs : s.heap.IsSliceOf sl vl vu .none) (pl : IsPart vl lo) (pu : IsPart vu hi)
    (hw : sIx items.size 0 lo = 0 ∧ sIx items.size items.size hi = items.size) (h : Q (.ref t) s) : wpAny (model prog w) A (getItem (.ref t) (.ref sl)) Q E s := by
  obtain ⟨os, hos, hcs, hds⟩ := id hs
  have hTs : s.TypeIs (.ref sl) "slice" := ⟨os, hos, hcs⟩
  unfold getItem
  try with_reducible refine wpAny_holding ?_
  first | refine wpAny_bind (wpAny_pure ?_) | skip
  refine wpAny_bind (wpAny_sequenceKey ht.typeIs (by decide) ?_)
  refine wpAny_bind (wpAny_callSpecial?_slot (name := Str.ofString "__getitem__") ht.typeIs PyProof.Rows.slot_tuple_getitem
    (wpAny_call_entry PyProof.Rows.slot_tuple_getitem ht.typeIs entry_tuple_getitem ?_ (args_tuple_getitem _ _)))
  show wpAny _ _ (Builtin.Tuple.tupleItemsOf (.ref t) >>= _) _ _ s
  refine wpAny_bind (tupleItemsOf_ ht ?_)
  refine wpAny_bind (wpAny_typeOf hTs ?_)
  rw [if_pos (by decide)]
  refine wpAny_bind (sliceApplied_gen hs pl pu ?_)
  have hyes : (((sIx items.size 0 lo : Nat) : Int) == 0 && (1 : Int) == 1 && (sIx items.size items.size hi - sIx items.size 0 lo) == items.size) = true := by
    rw [hw.1, hw.2]
    simp
  show wpAny _ _ (if (((sIx items.size 0 lo : Nat) : Int) == 0 && (1 : Int) == 1 && (sIx items.size items.size hi - sIx items.size 0 lo) == items.size) = true then _ else _) _ _ s
  rw [if_pos hyes]
  unfold Builtin.Tuple.tupleIsExact
  refine wpAny_bind (wpAny_bind (wpAny_typeOf ht.typeIs (wpAny_pure ?_)))
  rw [if_pos (by decide)]
  refine wpAny_bind (wpAny_rule ?_)
  exact wpAny_pure ⟨_, rfl, wpAny_pure h⟩
end
end HT
namespace L2.L3
open PySem PySem.Spec PyProof.Rows
variable [CN]
section
variable {X : Cx}
def rSlTA (K : PySem.W.Frag) : V → Option Int → Option Int → Hp → VK → Prop := fun x lo hi H Q => ∃ a xs, x = .ref a ∧ SqT K H a xs ∧ HT.sIx xs.length 0 lo = 0 ∧ HT.sIx xs.length xs.length hi = xs.length ∧ Q (.ref a) H
theorem sl_tupA : SlR X (rSlTA X.K) := by
  intro pins s σ H x v vl vu lo hi sl Q I rx hs pl pu h
  obtain ⟨a, xs, rfl, hx, hw1, hw2, q⟩ := h
  cases rx
  obtain ⟨its, r, ht, hz⟩ := I.tuple hx
  have hlen : its.toArray.size = xs.length := by rw [List.size_toArray]; exact r.length.symm
  refine ⟨"tuple", _, PyProof.Rows.slot_tuple_getitem.lookup, ht.typeIs, ?_⟩
  exact HT.getItem_tuple_all ht hs pl pu (by rw [hlen]; exact ⟨hw1, hw2⟩) ⟨.ref a, H, I, rfl, q⟩
end
def RO (C : Ct) (e : Option Expr) (m : Ev → Res (Option Int)) : Prop :=
  ∃ t, PO C.X e t ∧ ∀ (Oc : Wd) (Ob : Addr → Prop) (σ : St) (H : Hp) (ρ : Ev) (Q : Option Int → Hp → Prop), Rel Oc Ob C.om C.ln σ H ρ →
    (m ρ).post (fun d => ∀ H', Same H H' → Q d H') (fun c => ∀ H', Same H H' → C.XE c H') → t σ H Q
def oN : Ev → Res (Option Int) := fun _ => .ok none
def isI : D → Option Int
  | .int i => some i
  | _ => none
def oS (m : Ev → Res D) : Ev → Res (Option Int) := fun ρ => (m ρ).bind fun d => (Res.lft (isI d)).bind fun i => .ok (some i)
theorem ro_none {C : Ct} : RO C none oN := ⟨_, po_none, fun Oc Ob σ H ρ Q R h => h H (Same.refl H)⟩
theorem ro_some {C : Ct} {e : Expr} {md : Md} {me : Ev → Res D} (h : RE C md e me) : RO C (some e) (oS me) := by
  obtain ⟨t, p, q⟩ := h
  refine ⟨_, po_some p, fun Oc Ob σ H ρ Q R h => q Oc Ob σ H ρ _ R (Res.post_mono (Res.post_bind h) (fun d _ k v H' s r => ?_) fun _ z => z)⟩
  obtain ⟨i, e, k⟩ := Res.post_lft (Res.post_bind k)
  cases d with
  | int j => cases e; exact ⟨i, (r.va R.oh).int, k H' s⟩
  | _ => cases e
def eS (f : D → Option Int → Option Int → Option D) (m : Ev → Res D) (lo hi : Ev → Res (Option Int)) : Ev → Res D := fun ρ => (m ρ).bind fun x => (lo ρ).bind fun l => (hi ρ).bind fun u => Res.lft (f x l u)
def PrS (r : V → Option Int → Option Int → Hp → VK → Prop) (md : Md) (f : D → Option Int → Option Int → Option D) : Prop :=
  ∀ (Oc : Wd) (Ob : Addr → Prop) (H : Hp) (x : V) (dx : D) (lo hi : Option Int) (d : D) (Q : VK), (∀ a, Oc a ∨ Ob a → H a ≠ none) → VA Oc Ob H x dx → f dx lo hi = some d → (∀ v H', Same H H' → VR md Oc Ob H H' v d → Q v H') → r x lo hi H Q
theorem re_slice {C : Ct} {e : Expr} {lo hi : Option Expr} {md mda : Md} {me : Ev → Res D} {ml mh : Ev → Res (Option Int)} {p2 pos : Pos} {r : V → Option Int → Option Int → Hp → VK → Prop} {f : D → Option Int → Option Int → Option D} (hr : SlR C.X r) (hp : PrS r md f) (he : RE C mda e me) (hl : RO C lo ml) (hu : RO C hi mh) :
    RE C md (.Subscript e (.Slice lo hi none p2) pos) (eS f me ml mh) := by
  obtain ⟨t, p, q⟩ := he
  obtain ⟨tl, pl, ql⟩ := hl
  obtain ⟨th, ph, qh⟩ := hu
  refine ⟨_, pe_slice hr p pl ph, fun Oc Ob σ H ρ Q R h => q Oc Ob σ H ρ _ R (Res.post_mono (Res.post_bind h) (fun d _ k v H1 s1 r => ?_) fun _ z => z)⟩
  refine ql Oc Ob σ H1 ρ _ (R.same s1) (Res.post_mono (Res.post_bind k) (fun l _ k H2 s2 => ?_) fun c z H' s' => z H' (s1.trans s'))
  refine qh Oc Ob σ H2 ρ _ ((R.same s1).same s2) (Res.post_mono (Res.post_bind k) (fun u _ k H3 s3 => ?_) fun c z H' s' => z H' ((s1.trans s2).trans s'))
  obtain ⟨d', e, k⟩ := Res.post_lft k
  have R3 := ((R.same s1).same s2).same s3
  refine hp Oc Ob H3 v d l u d' Q R3.oh ((r.va R.oh).same (s2.trans s3)) e fun w H' s4 rw' => ?_
  exact k w H' (((s1.trans s2).trans s3).trans s4) (rw'.from ((s1.trans s2).trans s3))
def cutD {α : Type} (xs : List α) (lo hi : Option Int) : List α := (xs.drop (HT.sIx xs.length 0 lo)).take (HT.sIx xs.length xs.length hi - HT.sIx xs.length 0 lo)
theorem cutV_reps {H : Hp} {O : Addr → Prop} {vs : List V} {ds : List D} (r : Reps H O vs ds) (lo hi : Option Int) : Reps H O (cutV vs lo hi) (cutD ds lo hi) := by
  unfold cutV cutD
  rw [r.length]
  exact (r.drop _).take _
def slL : D → Option Int → Option Int → Option D
  | .list ds, lo, hi => some (.list (cutD ds lo hi))
  | _, _, _ => none
def slD : D → Option Int → Option Int → Option D
  | .list ds, lo, hi => some (.list (cutD ds lo hi))
  | .tuple ds, lo, hi => some (.tuple (cutD ds lo hi))
  | _, _, _ => none
theorem ps_list {K : PySem.W.Frag} : PrS (rSlL K) .new slL := by
  intro Oc Ob H x dx lo hi d Q oh va e k
  cases dx with
  | list ds =>
    cases e
    obtain ⟨a, ys, rfl, rd, rs⟩ := va.list
    exact ⟨a, ys, rfl, .inl rd, fun p hp => k _ _ (Same.new hp) (new_list (Same.refl H) hp (cutV_reps rs lo hi))⟩
  | _ => cases e
theorem cut_all {α : Type} {xs : List α} {lo hi : Option Int} (h1 : HT.sIx xs.length 0 lo = 0) (h2 : HT.sIx xs.length xs.length hi = xs.length) : cutD xs lo hi = xs := by
  unfold cutD
  rw [h1, h2, List.drop_zero, Nat.sub_zero, List.take_length]
theorem ps_seq {K : PySem.W.Frag} : PrS (fun x lo hi H Q => rSlL K x lo hi H Q ∨ rSlT K x lo hi H Q ∨ rSlTA K x lo hi H Q) .cl slD := by
  intro Oc Ob H x dx lo hi d Q oh va e k
  cases dx with
  | list ds =>
    cases e
    obtain ⟨a, ys, rfl, rd, rs⟩ := va.list
    exact .inl ⟨a, ys, rfl, .inl rd, fun p hp => k _ _ (Same.new hp) (VR.clean (new_list (Same.refl H) hp (cutV_reps rs lo hi)) oh)⟩
  | tuple ds =>
    cases e
    rcases va with va | ⟨_, _, _, _, ez, _⟩
    · cases va with
      | @tup a ys _ rd n rs =>
        by_cases hw : HT.sIx ys.length 0 lo = 0 ∧ HT.sIx ys.length ys.length hi = ys.length
        · refine .inr (.inr ⟨a, ys, rfl, .inl rd, hw.1, hw.2, k _ H (Same.refl H) ?_⟩)
          rw [cut_all (by rw [← rs.length]; exact hw.1) (by rw [← rs.length]; exact hw.2)]
          exact .tup rd n rs
        · exact .inr (.inl ⟨a, ys, rfl, .inl rd, hw, fun p hp => k _ _ (Same.new hp) (new_tup oh hp (cutV_reps rs lo hi))⟩)
    · cases ez
  | _ => cases e
theorem re_sliceL {C : Ct} {e : Expr} {lo hi : Option Expr} {mda : Md} {me : Ev → Res D} {ml mh : Ev → Res (Option Int)} {p2 pos : Pos} (he : RE C mda e me) (hl : RO C lo ml) (hu : RO C hi mh) : RE C .new (.Subscript e (.Slice lo hi none p2) pos) (eS slL me ml mh) := re_slice sl_list ps_list he hl hu
theorem re_sliceD {C : Ct} {e : Expr} {lo hi : Option Expr} {mda : Md} {me : Ev → Res D} {ml mh : Ev → Res (Option Int)} {p2 pos : Pos} (he : RE C mda e me) (hl : RO C lo ml) (hu : RO C hi mh) : RE C .cl (.Subscript e (.Slice lo hi none p2) pos) (eS slD me ml mh) := re_slice (sl_list.or (sl_tup.or sl_tupA)) ps_seq he hl hu
theorem rs_ext {C : Ct} {fr : Bool} (i : Nat) {x : Str} {a : Expr} {md : Md} {ma : Ev → Res D} {p' apos cpos pos : Pos} (ha : RE C md a ma)
    (hN : autoParam (C.X.N[i]? = some x) autoK5._auto_1) (ho : autoParam (C.om.contains i = true) autoK5._auto_1) (hv : autoParam (Vis C.X.env.scope x) autoK8._auto_1) (hd : autoParam ((x == ("__debug__" : Str)) = false) autoK2._auto_1) (hcd : autoParam ((x == ("__classdict__" : Str)) = false) autoK2._auto_1)
    (hbase : autoParam (attributeBase (.Name x p') "extend" C.X.env (eval (.Name x p') C.X.env) = eval (.Name x p') C.X.env) autoK5._auto_1)
    (hfew : ((backTo cpos (starEach [a] C.X.env)).all (fun x => !x.1) && (backToKw cpos (keywordEach [] C.X.env)).all (fun x => x.1.isSome)
      && decide ([a].length + ([] : List Keyword).length + (if ([] : List Keyword).isEmpty then 0 else 1) < 30)) = true := by rfl)
    (hline : autoParam ((apos.endLine == cpos.line) = true) autoK5._auto_1) (hs : autoParam (starEach [a] C.X.env = (false, eval a C.X.env) :: starEach [] C.X.env) autoK5._auto_1) (hplain : autoParam ((backTo cpos (starEach [] C.X.env)).any (·.1) = false) autoK5._auto_1)
    (hsw : autoParam (swapsWith (.Call (.Attribute (.Name x p') "extend" apos) [a] [] cpos) none pos.line C.X.env = pure false) autoK5._auto_1) :
    RS C fr (.Expr (.Call (.Attribute (.Name x p') "extend" apos) [a] [] cpos) pos) (sM i extD (aC ma aN)) := by
  obtain ⟨t, p, q⟩ := ha
  refine ⟨_, ps_expr (pe_bm PySem.F.plainAttrs_list PySem.F.slot_list_extend PySem.F.type_list_extend mt_extR (pe_var hN hv hd hcd) (pa_cons p pa_nil hs) hbase hfew hline hs hplain) hsw, fun Oc Ob σ H ρ E R h => ?_⟩
  obtain ⟨d, ed, k⟩ := eV_post (Res.post_bind h)
  obtain ⟨xd, ex, k⟩ := Res.post_lft (Res.post_bind k)
  obtain rfl := lstD_some ex
  obtain ⟨v, qv, l, ys, ds, rfl, e2, e3, e4, e5⟩ := R.own i _ ed (mem_of ho)
  cases e2
  refine ⟨_, qv, .inl ⟨rfl, _, SqL.of e3⟩, q Oc Ob σ H ρ _ R (Res.post_mono (Res.post_bind (Res.post_bind k)) (fun ad _ k w H' s r' => ?_) fun c z H' s => z H' (Same.frm s))⟩
  obtain ⟨ds', eg, k⟩ := Res.post_lft (Res.post_bind (show ((Res.lft (extD xd [ad])).bind fun ds => Res.ok (Out.nx (ρ.set i (some (.list ds))))).post _ _ from k))
  obtain ⟨zs, e1, eg⟩ := Option.bind_eq_some_iff.mp (show (seqD ad).bind (fun ys => if xd.length + ys.length ≤ sizeLine then some (xd ++ ys) else none) = some ds' from eg)
  split at eg
  · rename_i hl
    cases eg
    have va := r'.va R.oh
    have fin : ∀ (b : Addr) (ws : List V), (Rd H' b (.lst ws) ∨ Rd H' b (.tup ws)) → Reps H' (Uni Oc Ob) ws zs → rExtR (.ref l) [.ref b] H' fun _ H1 => E.nx σ H1 := fun b ws rd rs => by
      refine ⟨l, b, ys, ws, rfl, rfl, s _ _ e3, rd, by rw [e5.length, rs.length]; exact hl, ?_⟩
      refine k _ _ Ob ((R.same s).write (mem_of ho) ed qv (s _ _ e3) e4 ((e5.same s).append rs)) (fun b o e n => ?_) fun b z => .inl z
      rw [upd_ne (fun z => n (by subst z; exact e4))]
      exact s b o e
    cases ad with
    | list ds' =>
      cases e1
      obtain ⟨b, ws, rfl, rd, rs⟩ := va.list
      exact fin b ws (.inl rd) rs
    | tuple ds' =>
      cases e1
      obtain ⟨b, ws, rfl, rd, rs⟩ := va.tuple
      exact fin b ws (.inr rd) rs
    | _ => cases e1
  · cases eg
section
variable (a : Ev → Res D) (l h : Ev → Res (Option Int)) (ρ : Ev) (f : D → Option Int → Option Int → Option D)
theorem xF : eS f a l h ρ = (a ρ).bind fun x => (l ρ).bind fun lo => (h ρ).bind fun u => Res.lft (f x lo u) := rfl
theorem wS : oN ρ = .ok none := rfl
theorem xE : oS a ρ = (a ρ).bind fun d => (Res.lft (isI d)).bind fun i => .ok (some i) := rfl
theorem yO (i : Int) : isI (.int i) = some i := rfl
theorem yI (ds : List D) (lo hi : Option Int) : slL (.list ds) lo hi = some (.list (cutD ds lo hi)) := rfl
theorem xC (ds : List D) (lo hi : Option Int) : slD (.list ds) lo hi = some (.list (cutD ds lo hi)) := rfl
theorem wW (ds : List D) (lo hi : Option Int) : slD (.tuple ds) lo hi = some (.tuple (cutD ds lo hi)) := rfl
end
theorem cutD_map {α β : Type} (g : α → β) (xs : List α) (lo hi : Option Int) : cutD (xs.map g) lo hi = (cutD xs lo hi).map g := by
  unfold cutD
  rw [List.length_map, List.map_take, List.map_drop]
theorem cut_from {α : Type} (xs : List α) (k : Nat) : cutD xs (some (k : Int)) none = xs.drop k := by
  unfold cutD
  rw [HT.sIx_none, HT.sIx_nat]
  by_cases h : k ≤ xs.length
  · rw [Nat.min_eq_left h, List.take_of_length_le (by rw [List.length_drop]; bv_omega)]
  · rw [Nat.min_eq_right (by bv_omega), List.drop_eq_nil_of_le (show xs.length ≤ k by bv_omega)]
    simp
end L2.L3
namespace L2.L3
open PySem
theorem any_eqF (i : Int) : ∀ ns : List Int, (ns.map PyData.int).any (fun z => eqF z (.int i)) = ns.contains i
  | [] => rfl
  | n :: ns => by
    rw [List.map_cons, List.any_cons, any_eqF i ns, List.contains_cons]
    congr 1
    show (n == i) = (i == n)
    rw [Bool.eq_iff_iff]
    simp only [beq_iff_eq]
    exact eq_comm
theorem all_flD : ∀ ns : List Int, (ns.map PyData.int).all flD = true
  | [] => rfl
  | n :: ns => by rw [List.map_cons, List.all_cons, all_flD ns]; rfl
theorem inD_t (neg : Bool) (i : Int) (ns : List Int) : inD neg (.int i) (tI ns) = some (if neg then !ns.contains i else ns.contains i) := by
  unfold inD
  show (if flD (.int i) = true ∧ (ns.map PyData.int).all flD = true then _ else none) = _
  rw [if_pos ⟨rfl, all_flD ns⟩, any_eqF]
theorem max1_tI {ns : List Int} (h : ns ≠ []) : max1D [tI ns] = some (.int (maxL ns)) := by
  unfold max1D
  simp only [nsD, seqD, Option.bind_some, intsOf_map]
  rw [if_neg h]
theorem max1_lI {ns : List Int} (h : ns ≠ []) : max1D [lI ns] = some (.int (maxL ns)) := by
  unfold max1D
  simp only [nsD, seqD, Option.bind_some, intsOf_map]
  rw [if_neg h]
theorem rng2_nat {a b : Nat} (ha : a ≤ 1000) (hb : b ≤ 1000) : rng2 [.int (a : Int), .int (b : Int)] = some ((List.range (b - a)).map fun (i : Nat) => PyData.int ((a + i : Nat) : Int)) := by
  unfold rng2
  simp only
  rw [if_pos ⟨by bv_omega, by bv_omega, by bv_omega, by bv_omega⟩]
  congr 1
  rw [show ((b : Int) - (a : Int)).toNat = b - a by bv_omega]
  refine List.map_congr_left fun i _ => ?_
  congr 1
theorem rngN_get {n i : Nat} {f : Nat → D} {d : D} (h : ((List.range n).map f)[i]? = some d) : i < n ∧ d = f i := by
  rw [List.getElem?_map] at h
  by_cases hi : i < n
  · rw [List.getElem?_range hi] at h
    cases h
    exact ⟨hi, rfl⟩
  · rw [List.getElem?_eq_none (by simpa using hi)] at h
    cases h
end L2.L3
namespace L2.L3
open PySem
theorem forM_b2 {α β : Type} {g : D → Ev → Option Ev} {b : Ev → Res Out} {ds : List D} {ρ : Ev} {k : Out → Res α} {k' : α → Res β} {R : Res β} (P : Nat → Ev → Prop) (h0 : P 0 ρ) (hs : ∀ (i : Nat) d ρ, ds[i]? = some d → P i ρ → ∃ ρ1 ρ2, g d ρ = some ρ1 ∧ b ρ1 = .ok (.nx ρ2) ∧ P (i + 1) ρ2)
    (hd : ∀ ρ', P ds.length ρ' → (k (.nx ρ')).bind k' = R) : ((forM g b ds ρ).bind k).bind k' = R := by
  obtain ⟨ρ', e, p⟩ := forM_ok P ds ρ h0 hs
  rw [e, Res.bind_ok]
  exact hd ρ' p
end L2.L3
set_option maxHeartbeats 4000000
namespace L2
open PySem PySem.Spec PyProof.Rows
theorem ps_comp {X : Cx} {elt iter : Expr} {ifs : List Expr} {sc0 scope : Scope} {N0 : List Str} {px py pos spos : Pos} {xt y : Str} {fs : List Str} {js : List Nat} {i : Nat} {wi : TI} {tt : Addr → List Addr → Shared → Hp → TT} {te : Addr → List Addr → Shared → Hp → TE} (S : CompScope sc0 scope N0 xt fs js) (h0 : X.env.scope = sc0) (hN0 : X.N = N0) (hc : X.calm = true)
    (hi : PI X (.Name xt px) iter wi) (ht : ∀ C fp s₂ H, PTs (cxComp X (xt :: fs) scope C fp s₂ H) ifs (tt C fp s₂ H)) (he : ∀ C fp s₂ H, PE (cxComp X (xt :: fs) scope C fp s₂ H) elt (te C fp s₂ H))
    (nd : X.N.Nodup) (hy : X.N[i]? = some y) (hl : Loc X.env.scope y) (hsw : swapsWith (.ListComp elt [⟨.Name xt px, iter, ifs, 0⟩] scope pos) (some (.Name y py)) spos.line X.env = pure true)
    (hs : autoParam (∀ x, foldedSetIterable iter X.env x = pure x) autoK4._auto_1) (hf : autoParam (X.fn y = true ∨ X.env.scope.names.lookup y = some .local) autoK1._auto_1) :
    PS X (.Assign [.Name y py] (.ListComp elt [⟨.Name xt px, iter, ifs, 0⟩] scope pos) spos) (tAsg (tComp wi tt te js) (gName i)) := by
  intro pins s σ H E I h
  rw [exec_Assign_Name_used _ _ _ _ hsw]
  refine wpAny_bind (wpAny_standAt (wpAny_bind ?_))
  show wpAny _ X.A (do let _ ← comprehension (.ListComp elt [⟨.Name xt px, iter, ifs, 0⟩] scope pos) scope X.env _ (newList []) false (eval iter X.env) (some (assign (.Name y py) X.env))) _ _ s
  refine wpAny_bind (thn (comp_core S h0 hN0 hc hi ht he hs (use := some (assign (.Name y py) X.env)) (Qv := fun _ s' => SP X pins E .next s') I h fun s' C D Ha fl hI hns hC q => ?_) fun _ s' hq => wpAny_pure (wpAny_pure hq))
  show wpAny (model X.prog X.w) X.A (assign (.Name y py) X.env (.ref D)) (fun _ s'' => ∃ m, s''.heap.Ns C m ∧ ∀ h', Heap.SameBut C s''.heap h' → SP X pins E .next { s'' with heap := h' }) X.xe s'
  obtain ⟨m, oC, es, ep, hgC, hdC, hrC⟩ := hns
  have I1 : Inv X pins σ Ha s' := hI s'.heap ⟨rfl, fun b _ => rfl⟩
  have I2 : Inv X (pins ++ [(C, oC)]) σ Ha s' := I1.pins_of fun p hp => by
    rcases List.mem_append.mp hp with z | z
    · exact I1.pin p (List.mem_append_right _ z)
    · have : p = (C, oC) := by simpa using z
      subst this
      exact ⟨hgC, hC.1, hC.2.1, hC.2.2.1, fun v z => by rw [hdC] at z; cases z⟩
  refine wpAny_assign_Name (store_ok I2 nd hy hl (show RelV (.ref D) (.ref D) from rfl) (fun s'' I3 => ?_) hf)
  have hgC' := (I3.pin (C, oC) (List.mem_append_right _ (List.mem_append_right _ List.mem_cons_self))).1
  refine ⟨m, ⟨oC, es, ep, hgC', hdC, hrC⟩, fun h' hsb => ?_⟩
  have I4 : Inv X pins (σ.set i (some (.ref D))) Ha s'' := I3.pins_of fun p hp => I3.pin p (List.mem_append_right _ (List.mem_append_left _ hp))
  exact ⟨_, Ha, Inv.turned (it := C) (t' := s''.toks) I4 (fun b o hb e => (hsb.2 b hb).trans e) hC.1 hC.2.1 hC.2.2.2.1 hC.2.2.2.2.1 hC.2.2.2.2.2, q⟩
end L2
namespace L2.L3
open PySem PySem.Spec PyProof.Rows
variable [CN]
theorem rs_comp {C : Ct} {fr : Bool} (i : Nat) {elt iter : Expr} {ifs : List Expr} {sc0 scope : Scope} {N0 : List Str} {px py pos spos : Pos} {xt y : Str} {fs : List Str} {js : List Nat} {mi : Ev → Res (List D)} {mt : Ev → Res Bool} {me : Ev → Res D} (nd : C.X.N.Nodup) (S : CompScope sc0 scope N0 xt fs js) (h0 : C.X.env.scope = sc0) (hN0 : C.X.N = N0) (hc : C.X.calm = true)
    (hi : RIc C (.Name xt px) iter mi) (ht : ∀ A fp s₂ H, RTs (cC C (xt :: fs) scope A fp s₂ H js) ifs mt) (he : ∀ A fp s₂ H, RE (cC C (xt :: fs) scope A fp s₂ H js) .cl elt me)
    (hy : autoParam (C.X.N[i]? = some y) autoK5._auto_1) (ho : autoParam (C.om.contains i = false) autoK5._auto_1) (hln : autoParam (C.ln.contains i = false) autoK5._auto_1) (hl : autoParam (Loc C.X.env.scope y) autoK11._auto_1)
    (hsw : autoParam (swapsWith (.ListComp elt [⟨.Name xt px, iter, ifs, 0⟩] scope pos) (some (.Name y py)) spos.line C.X.env = pure true) autoK5._auto_1) (hs : autoParam (∀ x, foldedSetIterable iter C.X.env x = pure x) autoK4._auto_1) (hf : autoParam (C.X.fn y = true ∨ C.X.env.scope.names.lookup y = some .local) autoK12._auto_1) :
    RS C fr (.Assign [.Name y py] (.ListComp elt [⟨.Name xt px, iter, ifs, 0⟩] scope pos) spos) (sS i (eComp mi mt me js)) := by
  obtain ⟨wi, pi, qi⟩ := hi
  refine ⟨_, ps_comp (tt := fun A fp s H => Classical.choose (ht A fp s H)) (te := fun A fp s H => Classical.choose (he A fp s H)) S h0 hN0 hc pi (fun A fp s H => (Classical.choose_spec (ht A fp s H)).1) (fun A fp s H => (Classical.choose_spec (he A fp s H)).1) nd hy hl hsw hs hf, fun Oc Ob σ H ρ E R h => ?_⟩
  refine comp_read qi ht he R (Res.post_mono (Res.post_bind h) (fun d _ k v H' s r => ?_) fun c z H' s => z H' (Same.frm s))
  exact k _ H' Ob ((R.same s).set (not_mem_of ho) (not_mem_of hln) (VR.clean r R.oh)) (Same.frm s) fun b z => .inl z
end L2.L3
set_option maxHeartbeats 4000000
namespace L2
open PySem PySem.Spec PyProof.Rows
def pick3 {α : Type} (xs : List α) (l u k : Option Int) : List α := (sliceRange (sliceBounds l u k xs.length).1 (sliceBounds l u k xs.length).2.1 (sliceBounds l u k xs.length).2.2).filterMap (xs[·]?)
end L2
namespace L2.L3
open PySem PySem.Spec PyProof.Rows
variable [CN]
def eS3 (m : Ev → Res D) (lo hi st : Ev → Res (Option Int)) : Ev → Res D := fun ρ => (m ρ).bind fun x => (lo ρ).bind fun l => (hi ρ).bind fun u => (st ρ).bind fun k => (Res.lft (lstD x)).bind fun ds => if k ≠ some 0 then .ok (.list (pick3 ds l u k)) else .no
theorem yV (a : Ev → Res D) (l h st : Ev → Res (Option Int)) (ρ : Ev) : eS3 a l h st ρ = (a ρ).bind fun x => (l ρ).bind fun l => (h ρ).bind fun u => (st ρ).bind fun k => (Res.lft (lstD x)).bind fun ds => if k ≠ some 0 then .ok (.list (pick3 ds l u k)) else .no := rfl
end L2.L3
namespace L2.L3
open PySem
theorem rng2_one {m : Int} (h0 : 0 ≤ m) (h1 : m ≤ 1000) : rng2 [.int 1, .int (m + 1)] = some ((List.range m.toNat).map fun (i : Nat) => PyData.int ((i : Int) + 1)) := by
  unfold rng2
  simp only
  rw [if_pos ⟨by bv_omega, by bv_omega, by bv_omega, by bv_omega⟩]
  congr 1
  rw [show (m + 1 - 1).toNat = m.toNat by bv_omega]
  refine List.map_congr_left fun i _ => ?_
  congr 1
  bv_omega
theorem atI_lI {xs : List Int} {i : Int} {j : Nat} (e : i = (j : Int)) (h : j < xs.length) : atI (xs.map PyData.int) i = some (.int (xs.getD j 0)) := by
  rw [e, atI_map, atI_getD h]
  rfl
theorem catL_lI {xs ys : List Int} (h : xs.length + ys.length ≤ 1000) : catL (lI xs) (lI ys) = some (lI (xs ++ ys)) := by
  unfold catL
  simp only
  rw [List.length_map, List.length_map, if_pos (Nat.le_of_lt (small1000 h))]
  simp only [lI, List.map_append]
end L2.L3
namespace L2.L3
open PySem
variable [CN]
section
variable {X : Cx}
end
end L2.L3
namespace L2.L3
open PySem
variable [CN]
section
variable {X : Cx}
end
end L2.L3
namespace L2.L3
open PySem PyProof.Rows
variable [CN]
section
variable {X : Cx}
end
end L2.L3
namespace L2.L3
open PySem PyProof.Rows
variable [CN]
section
variable {X : Cx}
end
section
variable {C : Ct} {fr : Bool} {md : Md} {e : Expr} {me : Ev → Res D} {pos : Pos}
def atP (xd : List D) : D → Option D
  | .int j => if 0 ≤ j then atI xd j else none
  | _ => none
def sJ0 (i : Nat) (mk : Ev → Res D) (f : D → D → Option D) (me : Ev → Res D) : Ev → Res Out := fun ρ => (eV i ρ).bind fun d => (Res.lft (lstD d)).bind fun xd => (mk ρ).bind fun k => (Res.lft (atP xd k)).bind fun old => (me ρ).bind fun v => (Res.lft (f old v)).bind fun w => (Res.lft (setD xd k w)).bind fun ds => .ok (.nx (ρ.set i (some (.list ds))))
theorem yQ (i : Nat) (mk : Ev → Res D) (f : D → D → Option D) (me : Ev → Res D) (ρ : Ev) : sJ0 i mk f me ρ = (eV i ρ).bind fun d => (Res.lft (lstD d)).bind fun xd => (mk ρ).bind fun k => (Res.lft (atP xd k)).bind fun old => (me ρ).bind fun v => (Res.lft (f old v)).bind fun w => (Res.lft (setD xd k w)).bind fun ds => .ok (.nx (ρ.set i (some (.list ds)))) := rfl
end
end L2.L3
namespace L2.L3
open PySem PyProof.Rows
variable [CN]
section
variable {X : Cx} {pins : List (Addr × Obj)} {σ : St} {H : Hp} {s : Shared} {h' : Heap}
theorem turned2 {t' : Nat} {e it : Addr} (I : Inv X pins σ H s) (k : ∀ b o, b ≠ e → b ≠ it → s.heap.get? b = some o → h'.get? b = some o) (fe : FpOk X pins H e) (fi : FpOk X pins H it) : Inv X pins σ H { s with heap := h', toks := t' } := by
  have nit : ∀ b u, H b = some u → b ≠ e ∧ b ≠ it := fun b u q => ⟨fun z => (by rw [z, fe.1] at q; cases q), fun z => by rw [z, fi.1] at q; cases q⟩
  refine I.step (g' := s.gens) (d' := s.drawn) (ch := [e, it]) (fun b hb => ?_) (fun b o _ _ hc q _ => k b o (fun z => hc (by simp [z])) (fun z => hc (by simp [z])) q) (fun b o _ _ hc q _ => ⟨o.slots, k b o (fun z => hc (by simp [z])) (fun z => hc (by simp [z])) q⟩) (fun _ _ _ _ n => n)
    (fun b o hc q => ⟨o, k b o (fun z => hc (by simp [z])) (fun z => hc (by simp [z])) q⟩) (fun _ _ q => q) (fun _ _ _ q => q) (fun b ps q => ⟨#[], by rw [q]; simp⟩) (fun m hm => ?_) (fun b u q => ?_) I.bare
  · have z : b = e ∨ b = it := by simpa using hb
    rcases z with rfl | rfl
    · obtain ⟨f0, f1, f2, f3, f4, f5⟩ := fe
      exact ⟨f3, f1, f4, f5⟩
    · obtain ⟨f0, f1, f2, f3, f4, f5⟩ := fi
      exact ⟨f3, f1, f4, f5⟩
  · obtain ⟨o, es, ep, ho, r⟩ := hm
    exact ⟨o, es, ep, k _ o (Ne.symm fe.2.1) (Ne.symm fi.2.1) ho, r⟩
  · refine (I.hok b u q).stay (fun c v hc q' => ?_) (fun _ q => q) fun _ _ q => q
    have nc : c ≠ e ∧ c ≠ it := by
      rcases hc with z | z
      · rw [z]; exact nit b u q
      · exact nit c _ z
    exact k c v nc.1 nc.2 q'
end
def Ite (K : PySem.W.Frag) (a : Addr) : It :=
  ⟨fun i H => ∃ xs x, SqL K H a xs ∧ xs[i]? = some x, fun i H x H' => ∃ t y, H t = none ∧ x = .ref t ∧ H' = upd H t (.tup [.int (i : Int), y]) ∧ ∀ xs, SqL K H a xs → xs[i]? = some y, fun i H => ∃ xs, SqL K H a xs ∧ xs.length ≤ i⟩
theorem turn_enum {P : Program} {w : World} {K : PySem.W.Frag} {es : List Expr} {x1 : Nat} {tp : Pos} (a e it : Addr) (hne : e ≠ it) : Turn P w K (.Tuple es x1 tp) (Ite K a) [e, it] e (fun i h => (∃ old, IsEnum h e it i old) ∧ h.IsListIter it a i) where
  mem := by simp
  obj := fun i h st b hb => by
    obtain ⟨⟨old, he⟩, o, ho, hc, hd⟩ := st
    have z : b = e ∨ b = it := by simpa using hb
    rcases z with rfl | rfl
    · exact ⟨_, he, fun v z => by cases z⟩
    · exact ⟨o, ho, fun v z => by rw [hd] at z; cases z⟩
  keep := fun i h h' st k => ⟨st.1.elim fun old he => ⟨old, k e (by simp) _ he⟩, st.2.at fun o q => k it (by simp) o q⟩
  item := by
    intro X hP hw hK hc i pins s σ H E I hf st hg
    subst hP hw hK
    obtain ⟨xs, x, hq, hx⟩ := hg
    obtain ⟨its, rv, p, hz⟩ := I.list hq
    obtain ⟨u, hu, ru⟩ := rv.get hx
    obtain ⟨⟨old, he⟩, hit⟩ := st
    have fe := hf e (by simp)
    have fi := hf it (by simp)
    refine wpAny_pyNext_enum_item he hit p.isList (x := u) (by simpa using hu) hne fun h' ho hit' hT hsz hk => ⟨_, rfl, ?_⟩
    have hfr : H s.heap.objs.size = none := I.hok.fresh (Nat.le_refl _)
    have I1 : Inv X pins σ (upd H s.heap.objs.size (.tup [.int (i : Int), x])) { s with heap := s.heap.push { cls := .type "tuple", data := .seq #[.int i s.toks, u] }, toks := s.toks + 1 } :=
      I.laid (t' := s.toks + 1) (fun b o q => Heap.get?_push_of_some _ q) (Nat.le_refl _) ⟨by show 2 ≤ sizeLine; decide, [.int i s.toks, u], .cons ⟨_, rfl⟩ (.cons ru .nil), TupAt.new _ _⟩
    have lte : e < s.heap.objs.size := Heap.lt_size he
    have lti : it < s.heap.objs.size := by obtain ⟨_, q, _⟩ := hit; exact Heap.lt_size q
    have fe1 : FpOk X pins (upd H s.heap.objs.size (.tup [.int (i : Int), x])) e := ⟨by rw [upd_ne (Nat.ne_of_lt lte)]; exact fe.1, fe.2⟩
    have fi1 : FpOk X pins (upd H s.heap.objs.size (.tup [.int (i : Int), x])) it := ⟨by rw [upd_ne (Nat.ne_of_lt lti)]; exact fi.1, fi.2⟩
    have I2 : Inv X pins σ (upd H s.heap.objs.size (.tup [.int (i : Int), x])) { s with heap := h', toks := s.toks + 1 } := by
      refine turned2 (s := { s with heap := s.heap.push { cls := .type "tuple", data := .seq #[.int i s.toks, u] }, toks := s.toks + 1 }) (h' := h') (t' := s.toks + 1) I1 (fun b o b1 b2 q => ?_) fe1 fi1
      by_cases z : b = s.heap.objs.size
      · subst z
        have q : (s.heap.push { cls := .type "tuple", data := .seq #[.int i s.toks, u] }).get? s.heap.objs.size = some o := q
        rw [Heap.get?_push_size _ rfl] at q
        rw [hT]; exact q
      · have q : (s.heap.push { cls := .type "tuple", data := .seq #[.int i s.toks, u] }).get? b = some o := q
        rw [Heap.get?_push_ne _ _ _ z] at q
        exact hk b o b1 b2 q
    refine wpAny_letOwnedTupleGo_enum ho fun h2 he2 hs2 => ?_
    refine ⟨.ref s.heap.objs.size, _, turned2 (s := { s with heap := h', toks := s.toks + 1 }) (h' := h2) (t' := s.toks + 1) I2 (fun b o b1 b2 q => (hs2.2 b b1).trans q) fe1 fi1, rfl, ⟨_, x, hfr, rfl, rfl, fun ys hy => by rw [I.list_inj hy hq]; exact hx⟩, ⟨⟨_, he2⟩, hit'.at fun o q => (hs2.2 it hne.symm).trans q⟩, fun b hb => ?_⟩
    have z : b = e ∨ b = it := by simpa using hb
    rcases z with rfl | rfl
    · exact fe1.1
    · exact fi1.1
  done := by
    intro X hP hw hK hc i pins s σ H E I hf st hg
    subst hP hw hK
    obtain ⟨xs, hq, hx⟩ := hg
    obtain ⟨its, rv, p, hz⟩ := I.list hq
    obtain ⟨⟨old, he⟩, hit⟩ := st
    have hl := rv.length
    exact wpAny_pyNext_enum_end (I.ok.hd hc) he hit p.isList (by simp; bv_omega) fun h' eb => ⟨rfl, turned2 (t' := s.toks) I (fun b o _ b2 q => eb b o b2 q) (hf e (by simp)) (hf it (by simp))⟩
  self := fun _ _ _ _ _ st h => st.1.elim fun old he => wpAny_pyIter_enum he h
end L2.L3
namespace PySem
section
variable {prog : Program} {w : World} {A : Around} {E : Value → Shared → Prop} {s : Shared}
theorem drawsT (hA : A.handled = none) (it t : Addr) (its : Array Value) (hne : it ≠ t) : Draws prog w A it [it, t] its.size (fun i x => its[i]? = some x) (fun i h => h.IsTupleIter it t i ∧ h.IsTuple t its) where
  live := fun i h st => let ⟨o, q, _⟩ := st.1; ⟨o, q⟩
  frame := fun i h h' st k => ⟨let ⟨o, q, r⟩ := st.1; ⟨o, k it (by simp) o q, r⟩, let ⟨o, q, r⟩ := st.2; ⟨o, k t (by simp) o q, r⟩⟩
  item := fun i s Q E hi st hQ => tup_item st.1 st.2 (v := its[i]) (by simp [hi]) fun h' z sb => hQ _ h' s.toks (by simp [hi]) ⟨z, let ⟨o, q, r⟩ := st.2; ⟨o, (sb.2 t (Ne.symm hne)).trans q, r⟩⟩ sb
  done := fun s Q E st hE => tup_end hA st.1 st.2 (by simp) hE
theorem drawsE (hA : A.handled = none) (it t : Addr) (its : Array Value) (n : Nat) (hx : its[n]? = none) (hne : it ≠ t) : Draws prog w A it [it, t] n (fun _ _ => False) (fun j h => j = n ∧ h.IsTupleIter it t n ∧ h.IsTuple t its) where
  live := fun i h st => let ⟨o, q, _⟩ := st.2.1; ⟨o, q⟩
  frame := fun i h h' st k => ⟨st.1, let ⟨o, q, r⟩ := st.2.1; ⟨o, k it (by simp) o q, r⟩, let ⟨o, q, r⟩ := st.2.2; ⟨o, k t (by simp) o q, r⟩⟩
  item := fun i s Q E hi st hQ => absurd st.1 (Nat.ne_of_lt hi)
  done := fun s Q E st hE => tup_end hA st.2.1 st.2.2 hx hE
end
end PySem
namespace L2.L3
open PySem PyProof.Rows
variable [CN]
def Ith (K : PySem.W.Frag) (a : Addr) : It :=
  ⟨fun i H => ∃ xs x, SqT K H a xs ∧ xs[i]? = some x, fun i H x H' => ∃ t y, H t = none ∧ x = .ref t ∧ H' = upd H t (.tup [.int (i : Int), y]) ∧ ∀ xs, SqT K H a xs → xs[i]? = some y, fun i H => ∃ xs, SqT K H a xs ∧ xs.length ≤ i⟩
theorem turn_enumT {P : Program} {w : World} {K : PySem.W.Frag} {es : List Expr} {x1 : Nat} {tp : Pos} (a e it : Addr) (hne : e ≠ it) (hia : it ≠ a) (hea : e ≠ a) : Turn P w K (.Tuple es x1 tp) (Ith K a) [e, it] e (fun i h => (∃ old, IsEnum h e it i old) ∧ h.IsTupleIter it a i) where
  mem := by simp
  obj := fun i h st b hb => by
    obtain ⟨⟨old, he⟩, o, ho, hc, hd⟩ := st
    have z : b = e ∨ b = it := by simpa using hb
    rcases z with rfl | rfl
    · exact ⟨_, he, fun v z => by cases z⟩
    · exact ⟨o, ho, fun v z => by rw [hd] at z; cases z⟩
  keep := fun i h h' st k => ⟨st.1.elim fun old he => ⟨old, k e (by simp) _ he⟩, let ⟨o, q, r⟩ := st.2; ⟨o, k it (by simp) o q, r⟩⟩
  item := by
    intro X hP hw hK hc i pins s σ H E I hf st hg
    subst hP hw hK
    obtain ⟨xs, x, hq, hx⟩ := hg
    obtain ⟨its, rv, p, hz⟩ := I.tuple hq
    obtain ⟨u, hu, ru⟩ := rv.get hx
    obtain ⟨⟨old, he⟩, hit⟩ := st
    have fe := hf e (by simp)
    have fi := hf it (by simp)
    have hlt : i < its.toArray.size := by
      have := (List.getElem?_eq_some_iff.mp hu).1
      simpa using this
    refine wpAny_pyNext_enum_itemD (drawsT (show X.A.in1.handled = none from I.ok.hd hc) it a its.toArray hia) he ⟨hit, p⟩ hlt hne (by simp [hne, hea]) fun x' h' tk hP' ho hit' hT hsz hk => ⟨_, rfl, ?_⟩
    have ex : x' = u := by
      have h2 : its.toArray[i]? = some u := by simpa using hu
      have h3 : its.toArray[i]? = some x' := hP'
      rw [h2] at h3
      exact (Option.some.inj h3).symm
    subst ex
    have hfr : H s.heap.objs.size = none := I.hok.fresh (Nat.le_refl _)
    have I1 : Inv X pins σ (upd H s.heap.objs.size (.tup [.int (i : Int), x])) { s with heap := s.heap.push { cls := .type "tuple", data := .seq #[.int i tk, x'] }, toks := tk + 1 } :=
      I.laid (t' := tk + 1) (fun b o q => Heap.get?_push_of_some _ q) (Nat.le_refl _) ⟨by show 2 ≤ sizeLine; decide, [.int i tk, x'], .cons ⟨_, rfl⟩ (.cons ru .nil), TupAt.new _ _⟩
    have lte : e < s.heap.objs.size := Heap.lt_size he
    have lti : it < s.heap.objs.size := by obtain ⟨_, q, _⟩ := hit; exact Heap.lt_size q
    have fe1 : FpOk X pins (upd H s.heap.objs.size (.tup [.int (i : Int), x])) e := ⟨by rw [upd_ne (Nat.ne_of_lt lte)]; exact fe.1, fe.2⟩
    have fi1 : FpOk X pins (upd H s.heap.objs.size (.tup [.int (i : Int), x])) it := ⟨by rw [upd_ne (Nat.ne_of_lt lti)]; exact fi.1, fi.2⟩
    have I2 : Inv X pins σ (upd H s.heap.objs.size (.tup [.int (i : Int), x])) { s with heap := h', toks := tk + 1 } := by
      refine turned2 (s := { s with heap := s.heap.push { cls := .type "tuple", data := .seq #[.int i tk, x'] }, toks := tk + 1 }) (h' := h') (t' := tk + 1) I1 (fun b o b1 b2 q => ?_) fe1 fi1
      by_cases z : b = s.heap.objs.size
      · subst z
        have q : (s.heap.push { cls := .type "tuple", data := .seq #[.int i tk, x'] }).get? s.heap.objs.size = some o := q
        rw [Heap.get?_push_size _ rfl] at q
        rw [hT]; exact q
      · have q : (s.heap.push { cls := .type "tuple", data := .seq #[.int i tk, x'] }).get? b = some o := q
        rw [Heap.get?_push_ne _ _ _ z] at q
        exact hk b o b1 b2 q
    refine wpAny_letOwnedTupleGo_enum ho fun h2 he2 hs2 => ?_
    refine ⟨.ref s.heap.objs.size, _, turned2 (s := { s with heap := h', toks := tk + 1 }) (h' := h2) (t' := tk + 1) I2 (fun b o b1 b2 q => (hs2.2 b b1).trans q) fe1 fi1, rfl, ⟨_, x, hfr, rfl, rfl, fun ys hy => by rw [I.tuple_inj hy hq]; exact hx⟩, ⟨⟨_, he2⟩, let ⟨o, q, r⟩ := hit'.1; ⟨o, (hs2.2 it hne.symm).trans q, r⟩⟩, fun b hb => ?_⟩
    have z : b = e ∨ b = it := by simpa using hb
    rcases z with rfl | rfl
    · exact fe1.1
    · exact fi1.1
  done := by
    intro X hP hw hK hc i pins s σ H E I hf st hg
    subst hP hw hK
    obtain ⟨xs, hq, hx⟩ := hg
    obtain ⟨its, rv, p, hz⟩ := I.tuple hq
    obtain ⟨⟨old, he⟩, hit⟩ := st
    have hl := rv.length
    exact wpAny_pyNext_enum_endD (drawsE (show X.A.in1.handled = none from I.ok.hd hc) it a its.toArray i (by simp; bv_omega) hia) he ⟨rfl, hit, p⟩ fun h' eb => ⟨rfl, turned2 (t' := s.toks) I (fun b o _ b2 q => eb b o b2 q) (hf e (by simp)) (hf it (by simp))⟩
  self := fun _ _ _ _ _ st h => st.1.elim fun old he => wpAny_pyIter_enum he h
def iEnum (K : PySem.W.Frag) (t : TA) : TI := fun σ H R => t σ H fun vs H1 => ∃ a, vs = [.ref a] ∧ (((∃ xs, SqL K H1 a xs) ∧ R (Ite K a) H1) ∨ ((∃ xs, SqT K H1 a xs) ∧ R (Ith K a) H1))
theorem pi_enum {X : Cx} {l : Expr} {ta : TA} {es : List Expr} {x1 : Nat} {tp p pos : Pos} (hg : Gl X "enumerate") (hm : X.mg "enumerate" = none) (ha : PA X [l] ta) (hs : autoParam (starEach [l] X.env = [(false, eval l X.env)]) autoK5._auto_1) : PI X (.Tuple es x1 tp) (.Call (.Name "enumerate" p) [l] [] pos) (iEnum X.K ta) := by
  intro pins s σ H R I h
  refine Call_ (ld_blt I hg hm boot_enumerate (PyProof.Rows.callWith_type1 (thn (ha pos pins s σ H _ I h) fun us s1 ⟨vs, H1, I1, r1, q1⟩ => ?_) hs rfl))
  obtain ⟨a, e, q1⟩ := q1
  subst e
  obtain ⟨u, rfl, ru⟩ := vals1 r1
  cases ru
  rcases q1 with ⟨⟨xs, hq⟩, q⟩ | ⟨⟨xs, hq⟩, q⟩
  · obtain ⟨its, rv, pl, hz⟩ := I1.list hq
    refine call_enumerate_list pl.isList fun h' he hit hsz hk => ?_
    refine wpAny_pyIter_enum he ?_
    refine ⟨s1.heap.objs.size + 1, [s1.heap.objs.size + 1, s1.heap.objs.size], _, _, H1, rfl, I1.kept (t' := s1.toks) hk, turn_enum a (s1.heap.objs.size + 1) s1.heap.objs.size (Nat.succ_ne_self _), ⟨⟨_, he⟩, hit⟩, fun b hb => ?_, q⟩
    have z : b = s1.heap.objs.size + 1 ∨ b = s1.heap.objs.size := by simpa using hb
    rcases z with rfl | rfl
    · exact I1.fpOk (by bv_omega) (I1.hok.fresh (by bv_omega))
    · exact I1.fpOk (Nat.le_refl _) (I1.hok.fresh (Nat.le_refl _))
  · obtain ⟨its, rv, pt, hz⟩ := I1.tuple hq
    have lta : a < s1.heap.objs.size := by obtain ⟨o, q, _⟩ := pt; exact Heap.lt_size q
    refine enum_by (oI := { cls := .type "tuple_iterator", data := .fields #[.ref a, .int 0 0] }) rfl (fun B P E' z => wpAny_pyIter_tuple (show s1.heap.IsTuple a its.toArray from pt) z) fun h' he h0 hk => ?_
    have hit : h'.IsTupleIter s1.heap.objs.size a 0 := ⟨_, h0, rfl, rfl⟩
    refine wpAny_pyIter_enum he ?_
    refine ⟨s1.heap.objs.size + 1, [s1.heap.objs.size + 1, s1.heap.objs.size], _, _, H1, rfl, I1.kept (t' := s1.toks) hk, turn_enumT a (s1.heap.objs.size + 1) s1.heap.objs.size (Nat.succ_ne_self _) (Nat.ne_of_gt lta) (Nat.ne_of_gt (Nat.lt_succ_of_lt lta)), ⟨⟨_, he⟩, hit⟩, fun b hb => ?_, q⟩
    have z : b = s1.heap.objs.size + 1 ∨ b = s1.heap.objs.size := by simpa using hb
    rcases z with rfl | rfl
    · exact I1.fpOk (by bv_omega) (I1.hok.fresh (by bv_omega))
    · exact I1.fpOk (Nat.le_refl _) (I1.hok.fresh (Nat.le_refl _))
def WalksO (Oc : Wd) (Ob : Addr → Prop) (J : It) (H1 : Hp) (ds : List D) : Prop :=
  ∀ (H2 : Hp) (Ob2 : Addr → Prop), Frm Ob H1 H2 → (∀ b, Ob2 b → Ob b ∨ H1 b = none) → (∀ a, Oc a ∨ Ob2 a → H2 a ≠ none) → ∀ i, (∀ d, ds[i]? = some d → J.go i H2 ∧ ∀ x H3, J.yld i H2 x H3 → Same H2 H3 ∧ Rep H3 (Uni Oc Ob2) x d) ∧ (ds.length ≤ i → J.stop i H2)
def RIo (C : Ct) (tg iter : Expr) (m : Ev → Res (List D)) : Prop :=
  ∃ wi, PI C.X tg iter wi ∧ ∀ (Oc : Wd) (Ob : Addr → Prop) (σ : St) (H : Hp) (ρ : Ev) (R : It → Hp → Prop), Rel Oc Ob C.om C.ln σ H ρ →
    (m ρ).post (fun ds => ∀ J H1, Same H H1 → WalksO Oc Ob J H1 ds → R J H1) (fun c => ∀ H', Same H H' → C.XE c H') → wi σ H R
section
variable {C : Ct} {fr : Bool} {body : List Stmt} {m : Ev → Res Out} {mi : Ev → Res (List D)} {g : D → Ev → Option Ev} {pos : Pos}
theorem rs_forO {tg iter : Expr} (hi : RIo C tg iter mi) (hg : RG C tg g) (hb : RSs C fr body m) (hp : autoParam (PassesOwn (model C.X.prog C.X.w) C.X.A C.X.env C.X.xe) autoK13._auto_1) (hc : autoParam (C.X.calm = true) autoK5._auto_1)
    (hs : autoParam (∀ x, foldedSetIterable iter C.X.env x = pure x) autoK4._auto_1) : RS C fr (.For tg iter body [] pos) (sF mi g m) := by
  obtain ⟨wi, pi, qi⟩ := hi
  obtain ⟨tg', pg, qg⟩ := hg
  obtain ⟨tb, pb, qb⟩ := hb
  refine ⟨_, ps_for hp hc pi pg pb hs, fun Oc Ob σ H ρ E R h => qi Oc Ob σ H ρ _ R (Res.post_mono (Res.post_bind h) (fun ds _ k J H1 s1 wk => ?_) fun c z H' s => z H' (Same.frm s))⟩
  refine ⟨fun i mm σ' H' => mm = ds.length - i ∧ i ≤ ds.length ∧ ∃ ρi Obi, Rel Oc Obi C.om C.ln σ' H' ρi ∧ Frm Ob H1 H' ∧ (∀ b, Obi b → Ob b ∨ H1 b = none) ∧ SPost C fr Oc Obi H' E (forM g m (ds.drop i) ρi),
    ⟨_, rfl, Nat.zero_le _, ρ, Ob, R.same s1, Same.frm (Same.refl _), fun b z => .inl z, SPost.same s1 k⟩, ?_⟩
  rintro i mm σ2 H2 ⟨rfl, hi, ρi, Obi, R2, f2, sb2, k2⟩
  obtain ⟨w1, w2⟩ := wk H2 Obi f2 sb2 R2.oh i
  by_cases hlt : i < ds.length
  · obtain ⟨go, yl⟩ := w1 ds[i] (List.getElem?_eq_getElem hlt)
    have ed : ds.drop i = ds[i] :: ds.drop (i + 1) := List.drop_eq_getElem_cons hlt
    rw [ed, forM] at k2
    obtain ⟨ρ1, e1, k2⟩ := Res.post_lft (Res.post_bind k2)
    refine .inr ⟨go, fun σ' H' => ∃ m', m' < ds.length - i ∧ (m' = ds.length - (i + 1) ∧ i + 1 ≤ ds.length ∧ ∃ ρi Obi, Rel Oc Obi C.om C.ln σ' H' ρi ∧ Frm Ob H1 H' ∧ (∀ b, Obi b → Ob b ∨ H1 b = none) ∧ SPost C fr Oc Obi H' E (forM g m (ds.drop (i + 1)) ρi)), fun _ _ z => z, fun x H3 hy => ?_⟩
    obtain ⟨s3, rx⟩ := yl x H3 hy
    refine qg Oc Obi σ2 H3 ρi ρ1 x _ _ (R2.same s3) rx e1 fun σ3 R3 => ?_
    have k3 := SPost.same s3 (show SPost C fr Oc Obi H2 E _ from k2)
    refine qb Oc Obi σ3 H3 ρ1 _ R3 (Res.post_mono (Res.post_bind k3) (fun o _ k4 => ?_) fun _ z => z)
    cases o with
    | rt d => exact k4
    | nx ρ2 =>
      intro σ4 H4 Ob4 R4 f4 sb4
      have f3 : Frm Ob H1 H3 := fun b o e n => s3 b o (f2 b o e n)
      refine ⟨_, by bv_omega, rfl, hlt, ρ2, Ob4, R4, f3.trans sb2 f4, fun b z => (sb4 b z).elim (sb2 b) fun z => f3.none z, SPost.step f4 sb4 k4⟩
  · have ei : i = ds.length := by bv_omega
    subst ei
    rw [List.drop_length] at k2
    exact .inl ⟨w2 (Nat.le_refl _), k2 σ2 H2 Obi R2 (Same.frm (Same.refl _)) fun b z => .inl z⟩
def enumD (ds : List D) : List D := (List.range ds.length).map fun (i : Nat) => PyData.tuple [.int (i : Int), ds.getD i .none]
def i_enumerate (m : Ev → Res D) : Ev → Res (List D) := fun ρ => (m ρ).bind fun d => (Res.lft (seqD d)).bind fun ds => .ok (enumD ds)
theorem walks_enum {K : PySem.W.Frag} {Oc : Wd} {Ob : Addr → Prop} {H1 : Hp} {a : Addr} {ys : List V} {ds : List D} (r : Rd H1 a (.lst ys)) (n : ¬ Ob a) (rs : Reps H1 (Uni Oc Ob) ys ds) : WalksO Oc Ob (Ite K a) H1 (enumD ds) := by
  intro H2 Ob2 f s oh i
  have r2 : Rd H2 a (.lst ys) := rd_keep r fun o e => f a o e n
  have rs2 := rs.step f s
  have le : (enumD ds).length = ds.length := by unfold enumD; simp
  refine ⟨fun d e => ?_, fun h => ⟨ys, .inl r2, by rw [rs2.length]; rw [le] at h; exact h⟩⟩
  unfold enumD at e
  rw [List.getElem?_map] at e
  obtain ⟨j, ej, rfl⟩ := Option.map_eq_some_iff.mp e
  have hi : i < ds.length := by
    have := (List.getElem?_eq_some_iff.mp ej).1
    simpa using this
  rw [List.getElem?_range hi] at ej
  cases ej
  have ed : ds[i]? = some (ds.getD i .none) := by rw [List.getD_eq_getElem?_getD, List.getElem?_eq_getElem hi]; rfl
  obtain ⟨v, ev, rv⟩ := rs2.get ed
  refine ⟨⟨ys, v, .inl r2, ev⟩, fun x H3 hy => ?_⟩
  obtain ⟨t, y, ht, rfl, rfl, hy⟩ := hy
  have := hy ys (.inl r2)
  rw [ev] at this
  cases this
  exact ⟨Same.new ht, new_tup oh ht (.cons (.int _) (.cons rv .nil))⟩
theorem walks_enumT {K : PySem.W.Frag} {Oc : Wd} {Ob : Addr → Prop} {H1 : Hp} {a : Addr} {ys : List V} {ds : List D} (r : Rd H1 a (.tup ys)) (n : ¬ Ob a) (rs : Reps H1 (Uni Oc Ob) ys ds) : WalksO Oc Ob (Ith K a) H1 (enumD ds) := by
  intro H2 Ob2 f s oh i
  have r2 : Rd H2 a (.tup ys) := rd_keep r fun o e => f a o e n
  have rs2 := rs.step f s
  have le : (enumD ds).length = ds.length := by unfold enumD; simp
  refine ⟨fun d e => ?_, fun h => ⟨ys, .inl r2, by rw [rs2.length]; rw [le] at h; exact h⟩⟩
  unfold enumD at e
  rw [List.getElem?_map] at e
  obtain ⟨j, ej, rfl⟩ := Option.map_eq_some_iff.mp e
  have hi : i < ds.length := by
    have := (List.getElem?_eq_some_iff.mp ej).1
    simpa using this
  rw [List.getElem?_range hi] at ej
  cases ej
  have ed : ds[i]? = some (ds.getD i .none) := by rw [List.getD_eq_getElem?_getD, List.getElem?_eq_getElem hi]; rfl
  obtain ⟨v, ev, rv⟩ := rs2.get ed
  refine ⟨⟨ys, v, .inl r2, ev⟩, fun x H3 hy => ?_⟩
  obtain ⟨t, y, ht, rfl, rfl, hy⟩ := hy
  have := hy ys (.inl r2)
  rw [ev] at this
  cases this
  exact ⟨Same.new ht, new_tup oh ht (.cons (.int _) (.cons rv .nil))⟩
theorem ri_enumerate {e : Expr} {ma : Ev → Res D} {es : List Expr} {x1 : Nat} {tp p pos : Pos} (hm : C.X.mg "enumerate" = none) (h : RE C .rd e ma) (hg : autoParam (Gl C.X "enumerate") autoK5._auto_1) (hs : autoParam (starEach [e] C.X.env = [(false, eval e C.X.env)]) autoK5._auto_1) (hs2 : autoParam (starEach [e] C.X.env = (false, eval e C.X.env) :: starEach [] C.X.env) autoK5._auto_1) : RIo C (.Tuple es x1 tp) (.Call (.Name "enumerate" p) [e] [] pos) (i_enumerate ma) := by
  obtain ⟨t, pe, q⟩ := h
  refine ⟨_, pi_enum hg hm (pa_cons pe pa_nil hs2) hs, fun Oc Ob σ H ρ W R h => q Oc Ob σ H ρ _ R (Res.post_mono (Res.post_bind h) (fun d _ k v H' s r => ?_) fun _ z => z)⟩
  obtain ⟨ds, e, k⟩ := Res.post_lft (Res.post_bind k)
  rcases r with r | ⟨a, ys, ds', rfl, rfl, e3, e4, e5⟩
  · cases r with
    | lst r n t => cases e; exact ⟨_, rfl, .inl ⟨⟨_, .inl r⟩, k _ H' s (walks_enum r (fun z => n (.inr z)) t)⟩⟩
    | tup r n t => cases e; exact ⟨_, rfl, .inr ⟨⟨_, .inl r⟩, k _ H' s (walks_enumT r (fun z => n (.inr z)) t)⟩⟩
    | _ => cases e
  · cases e
    exact ⟨_, rfl, .inl ⟨⟨_, SqL.of e3⟩, k _ H' s (walks_enum (.inl e3) e4 e5)⟩⟩
end
theorem zY (m : Ev → Res D) (ρ : Ev) : i_enumerate m ρ = (m ρ).bind fun d => (Res.lft (seqD d)).bind fun ds => .ok (enumD ds) := rfl
end L2.L3
set_option maxHeartbeats 4000000
namespace PySem
section
variable {prog : Program} {w : World} {A : Around} {E : Value → Shared → Prop} {s : Shared}
end
end PySem
namespace L2.L3
open PySem PySem.Spec PyProof.Rows
variable [CN]
def sA (me : Ev → Res D) (g : D → Ev → Option Ev) : Ev → Res Out := fun ρ => (me ρ).bind fun d => (Res.lft (g d ρ)).bind fun ρ' => .ok (.nx ρ')
theorem xO (me : Ev → Res D) (g : D → Ev → Option Ev) (ρ : Ev) : sA me g ρ = (me ρ).bind fun d => (Res.lft (g d ρ)).bind fun ρ' => .ok (.nx ρ') := rfl
def absD : List D → Option D
  | [.int i] => some (.int (if i < 0 then -i else i))
  | _ => none
theorem vas_one {Oc : Wd} {Ob : Addr → Prop} {H : Hp} {vs : List V} {d : D} (r : VAs Oc Ob H vs [d]) : ∃ v, vs = [v] ∧ VA Oc Ob H v d := by
  cases r with
  | cons h t => cases t; exact ⟨_, rfl, h⟩
theorem pc_abs : PrC (fun xs H Q => ∃ i, xs = [.int i] ∧ Q (.int (if i < 0 then -i else i)) H) .cl absD := by
  intro Oc Ob H vs ds d Q oh r e k
  unfold absD at e
  split at e
  · cases e
    obtain ⟨v, rfl, h⟩ := vas_one r
    exact ⟨_, by rw [h.int], k _ H (Same.refl H) (Rep.int _)⟩
  · cases e
def PrMv (r : V → List V → Hp → VK → Prop) (g : List D → List D → Option (List D)) : Prop :=
  ∀ (O : Addr → Prop) (H : Hp) (l : Addr) (xs vs : List V) (xd ad ds' : List D) (Q : VK), H l = some (.lst xs) → Reps H O xs xd → Reps H O vs ad → g xd ad = some ds' → (∀ v xs', Reps H O xs' ds' → Q v (upd H l (.lst xs'))) → r (.ref l) vs H Q
theorem rs_methV {C : Ct} {fr : Bool} {pos : Pos} (i : Nat) {x name : Str} {id : String} {a : Expr} {es : List Expr} {ms : Ev → Res (List D)} {p' apos cpos : Pos} {r : V → List V → Hp → VK → Prop} {g : List D → List D → Option (List D)} (slot : Slot "list" name id) (hty : typeOf (.builtin id) = pure (.type "method_descriptor")) (hm : MtR C.X id r) (hp : PrMv r g) (ha : RArg C true (a :: es) ms)
    (hN : autoParam (C.X.N[i]? = some x) autoK5._auto_1) (ho : autoParam (C.om.contains i = true) autoK5._auto_1) (hv : autoParam (Vis C.X.env.scope x) autoK8._auto_1) (hd : autoParam ((x == ("__debug__" : Str)) = false) autoK2._auto_1) (hcd : autoParam ((x == ("__classdict__" : Str)) = false) autoK2._auto_1)
    (hbase : autoParam (attributeBase (.Name x p') name C.X.env (eval (.Name x p') C.X.env) = eval (.Name x p') C.X.env) autoK5._auto_1)
    (hfew : ((backTo cpos (starEach (a :: es) C.X.env)).all (fun x => !x.1) && (backToKw cpos (keywordEach [] C.X.env)).all (fun x => x.1.isSome)
      && decide ((a :: es).length + ([] : List Keyword).length + (if ([] : List Keyword).isEmpty then 0 else 1) < 30)) = true := by rfl)
    (hline : autoParam ((apos.endLine == cpos.line) = true) autoK5._auto_1) (hs : autoParam (starEach (a :: es) C.X.env = (false, eval a C.X.env) :: starEach es C.X.env) autoK5._auto_1) (hplain : autoParam ((backTo cpos (starEach es C.X.env)).any (·.1) = false) autoK5._auto_1)
    (hsw : autoParam (swapsWith (.Call (.Attribute (.Name x p') name apos) (a :: es) [] cpos) none pos.line C.X.env = pure false) autoK5._auto_1) :
    RS C fr (.Expr (.Call (.Attribute (.Name x p') name apos) (a :: es) [] cpos) pos) (sM i g ms) := by
  obtain ⟨t, p, q⟩ := ha
  refine ⟨_, ps_expr (pe_bm PySem.F.plainAttrs_list slot hty hm (pe_var hN hv hd hcd) p hbase hfew hline hs hplain) hsw, fun Oc Ob σ H ρ E R h => ?_⟩
  obtain ⟨d, ed, k⟩ := eV_post (Res.post_bind h)
  obtain ⟨xd, ex, k⟩ := Res.post_lft (Res.post_bind k)
  obtain rfl := lstD_some ex
  obtain ⟨v, qv, l, ys, ds, rfl, e2, e3, e4, e5⟩ := R.own i _ ed (mem_of ho)
  cases e2
  refine ⟨_, qv, .inl ⟨rfl, _, SqL.of e3⟩, q Oc Ob σ H ρ _ R (Res.post_mono (Res.post_bind k) (fun ad _ k vs H' s r' => ?_) fun c z H' s => z H' (Same.frm s))⟩
  obtain ⟨ds', eg, k⟩ := Res.post_lft (Res.post_bind k)
  refine hp _ H' l ys vs xd ad ds' _ (s _ _ e3) (e5.same s) r' eg fun v xs' rx => ?_
  refine k _ _ Ob ((R.same s).write (mem_of ho) ed qv (s _ _ e3) e4 rx) (fun b o e n => ?_) fun b z => .inl z
  rw [upd_ne (fun z => n (by subst z; exact e4))]
  exact s b o e
def popD (xs : List D) : List D → Option (List D)
  | [.int i] => if 0 ≤ i ∧ i < xs.length ∧ i < 2 ^ 63 then some (xs.eraseIdx i.toNat) else none
  | _ => none
theorem pm_popAt : PrMv rPopAt popD := by
  intro O H l xs vs xd ad ds' Q hl rx ra e k
  unfold popD at e
  split at e
  · split at e
    · rename_i i h
      cases e
      obtain ⟨v, rfl, rv⟩ := Reps.one' ra
      cases rv
      have hlen := rx.length
      have hi : i.toNat < xs.length := by bv_omega
      refine ⟨l, xs, i, i.toNat, xs[i.toNat], rfl, rfl, hl, by bv_omega, h.2.2, ?_, List.getElem?_eq_getElem hi, k _ _ (Reps.erase _ rx)⟩
      unfold seqIndex?
      simp only [show ¬ i < 0 by bv_omega, if_false]
      rw [if_pos (by simp; bv_omega)]
    · cases e
  · cases e
end L2.L3
set_option maxHeartbeats 4000000
namespace L2.L3
open PySem PySem.Spec PyProof.Rows
variable [CN]
section
variable {X : Cx}
def rIdx (K : PySem.W.Frag) : V → List V → Hp → VK → Prop := fun x vs H Q => ∃ (p : Addr) (xs : List V) (y : V) (j : Nat) (z : V), x = .ref p ∧ vs = [y] ∧ SqL K H p xs ∧ flatV y = true ∧ xs.all flatV = true ∧ xs[j]? = some z ∧ eqV z y = true ∧ (∀ m z', m < j → xs[m]? = some z' → eqV z' y = false) ∧ j < 2 ^ 62 ∧ Q (.int j) H
theorem mt_index : MtR X "list.index" (rIdx X.K) := by
  intro pins s σ H x vs v us Q I rx rv h
  obtain ⟨p, xs, y, j, z, rfl, rfl, hq, fy, fs, hj, ez, no, hsm, q⟩ := h
  cases rx
  obtain ⟨u, rfl, ru⟩ := vals1 rv
  obtain ⟨its, r, pl, hz⟩ := I.list hq
  obtain ⟨⟨c, dd, dt, sl⟩, e, hc, n, hd⟩ := pl.isList
  simp only at hc hd
  subst hc hd
  obtain ⟨w0, hw0, rw0⟩ := r.get hj
  have hlen := r.length
  have hjl : j < its.length := (List.getElem?_eq_some_iff.mp hw0).1
  have flat : ∀ (m : Nat) (z' : V), xs[m]? = some z' → flatV z' = true := fun m z' hm => List.all_eq_true.mp fs z' (List.mem_of_getElem? hm)
  refine call_meets F.slot_list_index ⟨_, e, rfl⟩ F.entry_list_index (F.args_list_index_2 _ _) (SeqAt.list_indexAt p its.toArray n dd sl u (eqU y) j (by simpa using hjl) (by bv_omega) ?_ ?_) ⟨e, fun w hw => mem_eqAt ru fy r fs w (by simpa using hw), ?_⟩
  · have ew : its.toArray[j]'(by simpa using hjl) = w0 := by
      have h2 := List.getElem?_eq_some_iff.mp hw0
      simpa using h2.2
    rw [ew, eqU_of rw0 (flat j z hj), ez]
  · intro m hm hlt
    have hm' : m < its.length := by simpa using hm
    obtain ⟨z', hz'⟩ : ∃ z', xs[m]? = some z' := ⟨xs[m]'(by bv_omega), List.getElem?_eq_getElem (by bv_omega)⟩
    obtain ⟨w1, hw1, rw1⟩ := r.get hz'
    have ew : its.toArray[m]'hm = w1 := by
      have h2 := List.getElem?_eq_some_iff.mp hw1
      simpa using h2.2
    rw [ew, eqU_of rw1 (flat m z' hz'), no m z' hlt hz']
  · exact ⟨.int j, H, I.tok _, ⟨_, rfl⟩, q⟩
def rCnt (K : PySem.W.Frag) : V → List V → Hp → VK → Prop := fun x vs H Q => ∃ (p : Addr) (xs : List V) (y : V), x = .ref p ∧ vs = [y] ∧ SqL K H p xs ∧ flatV y = true ∧ xs.all flatV = true ∧ Q (.int ((xs.countP fun z => eqV z y : Nat) : Int)) H
theorem count_eqU {y : V} : ∀ {xs : List V} {us : List Value}, Vals xs us → xs.all flatV = true → us.countP (eqU y) = xs.countP fun z => eqV z y
  | _, _, .nil, _ => rfl
  | _, _, .cons h t, f => by
    rw [List.all_cons, Bool.and_eq_true] at f
    rw [List.countP_cons, List.countP_cons, count_eqU t f.2, eqU_of h f.1]
theorem mt_count : MtR X "list.count" (rCnt X.K) := by
  intro pins s σ H x vs v us Q I rx rv h
  obtain ⟨p, xs, y, rfl, rfl, hq, fy, fs, q⟩ := h
  cases rx
  obtain ⟨u, rfl, ru⟩ := vals1 rv
  obtain ⟨its, r, pl, hz⟩ := I.list hq
  obtain ⟨⟨c, dd, dt, sl⟩, e, hc, n, hd⟩ := pl.isList
  simp only at hc hd
  subst hc hd
  refine call_meets F.slot_list_count ⟨_, e, rfl⟩ F.entry_list_count (F.args_list_count_2 _ _) (SeqAt.list_countAt p its.toArray n dd sl u (eqU y)) ⟨e, fun w hw => mem_eqAt ru fy r fs w (by simpa using hw), ?_⟩
  refine ⟨.int _, H, I.tok _, ⟨_, rfl⟩, ?_⟩
  rw [show its.toArray.toList = its from rfl, count_eqU r fs]
  exact q
end
def Pr1 (K : PySem.W.Frag) (r : V → List V → Hp → VK → Prop) (f : D → D → Option D) : Prop :=
  ∀ (Oc : Wd) (Ob : Addr → Prop) (H : Hp) (x y : V) (dx dy d : D) (Q : VK), VA Oc Ob H x dx → VA Oc Ob H y dy → f dx dy = some d → (∀ v, Rep H (Uni Oc Ob) v d → Q v H) → r x [y] H Q
def eM1 (f : List D → D → Option D) (mo ma : Ev → Res D) : Ev → Res D := fun ρ => (mo ρ).bind fun x => (Res.lft (lstD x)).bind fun ds => (ma ρ).bind fun y => Res.lft (f ds y)
theorem zA (f : List D → D → Option D) (mo ma : Ev → Res D) (ρ : Ev) : eM1 f mo ma ρ = (mo ρ).bind fun x => (Res.lft (lstD x)).bind fun ds => (ma ρ).bind fun y => Res.lft (f ds y) := rfl
theorem re_meth1 {C : Ct} {o a : Expr} {name : Str} {id : String} {apos cpos : Pos} {md mda : Md} {mo ma : Ev → Res D} {r : V → List V → Hp → VK → Prop} {f : List D → D → Option D} (slot : Slot "list" name id) (hty : typeOf (.builtin id) = pure (.type "method_descriptor")) (hm : MtR C.X id r) (hp : Pr1 C.X.K r (fun x y => (lstD x).bind fun ds => f ds y)) (ho : RE C md o mo) (ha : RE C mda a ma)
    (hbase : autoParam (attributeBase o name C.X.env (eval o C.X.env) = eval o C.X.env) autoK5._auto_1)
    (hfew : ((backTo cpos (starEach [a] C.X.env)).all (fun x => !x.1) && (backToKw cpos (keywordEach [] C.X.env)).all (fun x => x.1.isSome)
      && decide ([a].length + ([] : List Keyword).length + (if ([] : List Keyword).isEmpty then 0 else 1) < 30)) = true := by rfl)
    (hline : autoParam ((apos.endLine == cpos.line) = true) autoK5._auto_1) (hs : autoParam (starEach [a] C.X.env = (false, eval a C.X.env) :: starEach [] C.X.env) autoK5._auto_1) (hplain : autoParam ((backTo cpos (starEach [] C.X.env)).any (·.1) = false) autoK5._auto_1) :
    RE C .cl (.Call (.Attribute o name apos) [a] [] cpos) (eM1 f mo ma) := by
  obtain ⟨to, po, qo⟩ := ho
  obtain ⟨ta, pa, qa⟩ := ha
  refine ⟨_, pe_bm PySem.F.plainAttrs_list slot hty hm po (pa_cons pa pa_nil hs) hbase hfew hline hs hplain, fun Oc Ob σ H ρ Q R h => ?_⟩
  refine qo Oc Ob σ H ρ _ R (Res.post_mono (Res.post_bind h) (fun dx _ k x H1 s1 vx => ?_) fun _ z => z)
  obtain ⟨ds, ex, k⟩ := Res.post_lft (Res.post_bind k)
  obtain rfl := lstD_some ex
  have vx1 := vx.va R.oh
  refine ⟨?_, qa Oc Ob σ H1 ρ _ (R.same s1) (Res.post_mono (Res.post_bind k) (fun dy _ k y H2 s2 vy => ?_) fun c z H' s' => z H' (s1.trans s'))⟩
  · obtain ⟨a', ys, rfl, rd, _⟩ := vx1.list
    exact .inl ⟨rfl, ys, .inl rd⟩
  · obtain ⟨d, ed, k⟩ := Res.post_lft k
    exact hp Oc Ob H2 x y _ dy d Q (vx1.same s2) (vy.va (R.same s1).oh) ed fun v rv => k v H2 (s1.trans s2) rv
def ixDD (ds : List D) (y : D) : Option D := if flD y = true ∧ ds.all flD = true ∧ ds.length ≤ 1000 then (ds.findIdx? fun z => eqF z y).map (fun (j : Nat) => PyData.int (j : Int)) else none
def cnDD (ds : List D) (y : D) : Option D := if flD y = true ∧ ds.all flD = true then some (.int ((ds.countP fun z => eqF z y : Nat) : Int)) else none
theorem p1_index {K : PySem.W.Frag} : Pr1 K (rIdx K) (fun x y => (lstD x).bind fun ds => ixDD ds y) := by
  intro Oc Ob H x y dx dy d Q vx vy e k
  obtain ⟨ds, e1, e2⟩ := Option.bind_eq_some_iff.mp e
  clear e
  have e := e2
  clear e2
  obtain rfl := lstD_some e1
  unfold ixDD at e
  split at e
  · rename_i h
    obtain ⟨j, ej, rfl⟩ := Option.map_eq_some_iff.mp e
    obtain ⟨p, ys, rfl, rd, rs⟩ := vx.list
    have ry := va_flat vy h.1
    obtain ⟨hj, h1, h2⟩ := List.findIdx?_eq_some_iff_getElem.mp ej
    obtain ⟨z, hz, rz⟩ := rs.get (List.getElem?_eq_getElem hj)
    have fl : ∀ (m : Nat) (d : D), ds[m]? = some d → flD d = true := fun m d hm => List.all_eq_true.mp h.2.1 d (List.mem_of_getElem? hm)
    refine ⟨p, ys, y, j, z, rfl, rfl, .inl rd, rep_flat ry h.1, reps_flat rs h.2.1, hz, ?_, fun m z' hm hz' => ?_, by bv_omega, k _ (Rep.int _)⟩
    · rw [rep_eqF rz ry (fl j _ (List.getElem?_eq_getElem hj)) h.1]
      exact h1
    · obtain ⟨d', hd', rd'⟩ := rs.of hz'
      have hm' : m < ds.length := by bv_omega
      rw [rep_eqF rd' ry (fl m _ hd') h.1]
      have h3 := h2 m hm
      rw [List.getElem?_eq_getElem hm'] at hd'
      cases hd'
      simpa using h3
  · cases e
theorem reps_count {H : Hp} {O O' : Addr → Prop} {x : V} {dx : D} (hx : Rep H O' x dx) (fx : flD dx = true) : ∀ {vs : List V} {ds : List D}, Reps H O vs ds → ds.all flD = true → (vs.countP fun z => eqV z x) = ds.countP fun z => eqF z dx
  | _, _, .nil, _ => rfl
  | _, _, .cons h t, f => by
    rw [List.all_cons, Bool.and_eq_true] at f
    rw [List.countP_cons, List.countP_cons, reps_count hx fx t f.2, rep_eqF h hx f.1 fx]
theorem p1_count {K : PySem.W.Frag} : Pr1 K (rCnt K) (fun x y => (lstD x).bind fun ds => cnDD ds y) := by
  intro Oc Ob H x y dx dy d Q vx vy e k
  obtain ⟨ds, e1, e2⟩ := Option.bind_eq_some_iff.mp e
  clear e
  have e := e2
  clear e2
  obtain rfl := lstD_some e1
  unfold cnDD at e
  split at e
  · rename_i h
    cases e
    obtain ⟨p, ys, rfl, rd, rs⟩ := vx.list
    have ry := va_flat vy h.1
    refine ⟨p, ys, y, rfl, rfl, .inl rd, rep_flat ry h.1, reps_flat rs h.2, ?_⟩
    rw [reps_count ry h.1 rs h.2]
    exact k _ (Rep.int _)
  · cases e
end L2.L3
set_option maxHeartbeats 4000000
namespace L2.L3
open PySem PySem.Spec PyProof.Rows
variable [CN]
def StepOk (i j k : Int) : Prop := k ≠ 0 ∧ k.natAbs.log2 < 9000 ∧ Builtin.Range.small i j k = true ∧ 0 ≤ Builtin.Range.rangeSize i j k
instance (i j k : Int) : Decidable (StepOk i j k) := by unfold StepOk; infer_instance
end L2.L3
namespace L2.L3
open PySem PyProof.Rows
variable [CN]
section
variable {X : Cx}
end
def revT : D → Option D
  | .list ds => some (.tuple ds.reverse)
  | _ => none
def eRevT (m : Ev → Res D) : Ev → Res D := fun ρ => (m ρ).bind fun d => Res.lft (revT d)
theorem zO (m : Ev → Res D) (ρ : Ev) : eRevT m ρ = (m ρ).bind fun d => Res.lft (revT d) := rfl
end L2.L3
namespace L2
open PySem PyProof.Rows
structure CScope2 (sc0 scope : Scope) (N0 : List Str) (xt yt : Str) (fs : List Str) (js : List Nat) : Prop where
  kind : scope.kind = .function
  nocell : ∀ y ∈ scope.names, y.2 ≠ .cell
  names : ∀ y ∈ scope.names, y.2 = .local → scope.names.lookup y.1 = some .local
  tgt : scope.names.lookup xt = some .local
  tgt2 : scope.names.lookup yt = some .local
  frees : ∀ y ∈ scope.names, y.2 = .free → sc0.names.lookup y.1 = some .cell ∨ sc0.names.lookup y.1 = some .free
  len : js.length = fs.length
  slots : ∀ p ∈ fs.zip js, N0[p.2]? = some p.1 ∧ scope.names.lookup p.1 = some .free
  nd : (xt :: yt :: fs).Nodup
section
variable {X : Cx} {pins : List (Addr × Obj)} {σ : St} {H : Hp} {s₂ s₄ : Shared} {sc0 scope : Scope} {N0 : List Str} {xt yt : Str} {fs : List Str} {js : List Nat} {fp : List Addr}
end
end L2
namespace L2.L3
open PySem PyProof.Rows
variable [CN]
end L2.L3
namespace L2.L3
open PySem PyProof.Rows
variable [CN]
section
variable {X : Cx} {pins : List (Addr × Obj)} {σ : St} {H : Hp} {s : Shared} {h' : Heap}
end
structure Apart5 (z TI TO i1 i2 : Addr) : Prop where
  TIz : TI ≠ z
  TOz : TO ≠ z
  i1z : i1 ≠ z
  i2z : i2 ≠ z
  TITO : TI ≠ TO
  TIi1 : TI ≠ i1
  TIi2 : TI ≠ i2
  TOi1 : TO ≠ i1
  TOi2 : TO ≠ i2
  i12 : i1 ≠ i2
end L2.L3
set_option maxHeartbeats 4000000
namespace L2
open PySem PySem.Spec PyProof.Rows
end L2
namespace L2.L3
open PySem PySem.Spec PyProof.Rows
variable [CN]
end L2.L3
namespace L2.L3
open PySem
variable [CN]
end L2.L3
namespace L2.L3
open PySem PyProof.Rows
variable [CN]
section
variable {X : Cx}
end
def revL : D → Option D
  | .list ds => some (.list ds.reverse)
  | _ => none
def eRevL (m : Ev → Res D) : Ev → Res D := fun ρ => (m ρ).bind fun d => Res.lft (revL d)
theorem zN (m : Ev → Res D) (ρ : Ev) : eRevL m ρ = (m ρ).bind fun d => Res.lft (revL d) := rfl
end L2.L3
namespace HT
open PySem PyProof.Rows
section
variable {prog : Program} {w : World} {A : Around} {E : Value → Shared → Prop} {s : Shared}
theorem cat_tup0 {t b : Addr} {ws : List Value} {Q : Value → Shared → Prop} (ht : IsTup s.heap t ([] : List Value).toArray) (hb : IsTup s.heap b ws.toArray) (h : Q (.ref b) s) : wpAny (model prog w) A (binaryOp .Add (.ref t) (.ref b)) Q E s := by
  obtain ⟨⟨cls, dd, data, sl⟩, ho, hc, n, hd⟩ := id ht
  obtain ⟨⟨cls2, dd2, data2, sl2⟩, ho2, hc2, n2, hd2⟩ := id hb
  simp only at hc hd hc2 hd2
  subst hc hd hc2 hd2
  exact concat_meets ⟨_, ho, rfl⟩ ⟨_, ho2, rfl⟩ noFill_tuple_add seq_tuple_add PySem.F.slot_tuple_add PySem.F.entry_tuple_add (PySem.F.args_tuple_add_2 _ _)
    (tuple_addW0 t b ([] : List Value).toArray ws.toArray n n2 dd dd2 sl sl2 (by simp)) ⟨ho, ho2, h⟩
end
end HT
namespace L2.L3
open PySem PyProof.Rows
variable [CN]
section
variable {X : Cx}
def rCatU (K : PySem.W.Frag) : R2 := fun x y H Q => ∃ a b xs ys, x = .ref a ∧ y = .ref b ∧ SqT K H a xs ∧ SqT K H b ys ∧ xs.length + ys.length ≤ sizeLine ∧
  (xs = [] → Q (.ref b) H) ∧ (xs ≠ [] → ys = [] → Q (.ref a) H) ∧ (xs ≠ [] → ys ≠ [] → ∀ p, H p = none → Q (.ref p) (upd H p (.tup (xs ++ ys))))
theorem op_catU : OpR X (binaryOp .Add) (rCatU X.K) := by
  intro pins s σ H x y v u Q I rx ry h
  obtain ⟨a, b, xs, ys, rfl, rfl, ha, hb, hz, q0, q1, q2⟩ := h
  by_cases hx : xs = []
  · cases rx
    cases ry
    obtain ⟨its, r1, p1, _⟩ := I.tuple ha
    obtain ⟨its2, r2, p2, _⟩ := I.tuple hb
    subst hx
    cases r1
    exact HT.cat_tup0 p1 p2 ⟨.ref b, H, I, rfl, q0 rfl⟩
  · exact op_catT pins s σ H _ _ v u Q I rx ry ⟨a, b, xs, ys, rfl, rfl, ha, hb, hx, hz, q1 hx, q2 hx⟩
end
def catT : D → D → Option D
  | .tuple xs, .tuple ys => if xs.length + ys.length ≤ sizeLine then some (.tuple (xs ++ ys)) else none
  | _, _ => none
theorem va_tup {Oc : Wd} {Ob : Addr → Prop} {H : Hp} {v : V} {ds : List D} (h : VA Oc Ob H v (.tuple ds)) : Rep H (Uni Oc Ob) v (.tuple ds) := by
  rcases h with h | ⟨a, ys, ds, rfl, e, e3, e5⟩
  · exact h
  · cases e
theorem pr_catT {K : PySem.W.Frag} : Pr2 (rCatU K) .cl catT := by
  intro Oc Ob H x y dx dy d Q oh vx vy e k
  cases dx with
  | tuple xs =>
    cases dy with
    | tuple ys =>
      obtain ⟨a, vs, rfl, rd, rs⟩ := vx.tuple
      obtain ⟨b, ws, rfl, rd', rs'⟩ := vy.tuple
      unfold catT at e
      simp only at e
      split at e
      · rename_i hl
        cases e
        refine ⟨a, b, vs, ws, rfl, rfl, .inl rd, .inl rd', by rw [rs.length, rs'.length]; exact hl, fun z => ?_, fun z1 z2 => ?_, fun _ _ p hp => k _ _ (Same.new hp) (new_tup oh hp (rs.append rs'))⟩
        · subst z
          cases rs
          exact k _ H (Same.refl H) (va_tup vy)
        · subst z2
          cases rs'
          rw [List.append_nil] at k
          exact k _ H (Same.refl H) (va_tup vx)
      · cases e
    | _ => cases e
  | _ => cases e
theorem catT_tI {xs ys : List Int} (h : xs.length + ys.length ≤ 1000) : catT (tI xs) (tI ys) = some (tI (xs ++ ys)) := by
  show (if (xs.map PyData.int).length + (ys.map PyData.int).length ≤ sizeLine then some (PyData.tuple (xs.map PyData.int ++ ys.map PyData.int)) else none) = _
  rw [if_pos (by rw [List.length_map, List.length_map]; exact Nat.le_trans h (by decide)), ← List.map_append]
end L2.L3
namespace L2.L3
open PySem PyProof.Rows
variable [CN]
end L2.L3
set_option maxHeartbeats 4000000
namespace L2.L3
open PySem PySem.Spec PyProof.Rows
variable [CN]
def popV (ys : List D) : D → Option (D × List D)
  | .int i => if 0 ≤ i ∧ i < ys.length ∧ i < 2 ^ 63 then some (ys.getD i.toNat .none, ys.eraseIdx i.toNat) else none
  | _ => none
def sAP (i j : Nat) (me : Ev → Res D) : Ev → Res Out := fun ρ => (eV i ρ).bind fun d => (Res.lft (lstD d)).bind fun xs => (eV j ρ).bind fun d2 => (Res.lft (lstD d2)).bind fun ys => (me ρ).bind fun n => (Res.lft (popV ys n)).bind fun vy => (Res.lft (appD xs [vy.1])).bind fun zs => .ok (.nx ((ρ.set j (some (.list vy.2))).set i (some (.list zs))))
theorem rs_appPop {C : Ct} {fr : Bool} {pos : Pos} (i j : Nat) {x y : Str} {e : Expr} {me : Ev → Res D} {p1 p2 a1 a2 c1 c2 : Pos} (he : RE C .cl e me)
    (hN : autoParam (C.X.N[i]? = some x) autoK5._auto_1) (ho : autoParam (C.om.contains i = true) autoK5._auto_1) (hv : autoParam (Vis C.X.env.scope x) autoK8._auto_1) (hd : autoParam ((x == ("__debug__" : Str)) = false) autoK2._auto_1) (hcd : autoParam ((x == ("__classdict__" : Str)) = false) autoK2._auto_1)
    (kN : autoParam (C.X.N[j]? = some y) autoK5._auto_1) (ko : autoParam (C.om.contains j = true) autoK5._auto_1) (kv : autoParam (Vis C.X.env.scope y) autoK8._auto_1) (kd : autoParam ((y == ("__debug__" : Str)) = false) autoK2._auto_1) (kcd : autoParam ((y == ("__classdict__" : Str)) = false) autoK2._auto_1)
    (hij : autoParam (j ≠ i) autoK2._auto_1)
    (kbase : autoParam (attributeBase (.Name y p2) "pop" C.X.env (eval (.Name y p2) C.X.env) = eval (.Name y p2) C.X.env) autoK5._auto_1)
    (kfew : autoParam (((backTo c2 (starEach [e] C.X.env)).all (fun x => !x.1) && (backToKw c2 (keywordEach [] C.X.env)).all (fun x => x.1.isSome) && decide ([e].length + ([] : List Keyword).length + (if ([] : List Keyword).isEmpty then 0 else 1) < 30)) = true) autoK5._auto_1)
    (kline : autoParam ((a2.endLine == c2.line) = true) autoK5._auto_1) (ks : autoParam (starEach [e] C.X.env = (false, eval e C.X.env) :: starEach [] C.X.env) autoK5._auto_1) (kplain : autoParam ((backTo c2 (starEach [] C.X.env)).any (·.1) = false) autoK5._auto_1)
    (hbase : autoParam (attributeBase (.Name x p1) "append" C.X.env (eval (.Name x p1) C.X.env) = eval (.Name x p1) C.X.env) autoK5._auto_1)
    (hfew : autoParam (((backTo c1 (starEach [.Call (.Attribute (.Name y p2) "pop" a2) [e] [] c2] C.X.env)).all (fun x => !x.1) && (backToKw c1 (keywordEach [] C.X.env)).all (fun x => x.1.isSome) && decide ([Expr.Call (.Attribute (.Name y p2) "pop" a2) [e] [] c2].length + ([] : List Keyword).length + (if ([] : List Keyword).isEmpty then 0 else 1) < 30)) = true) autoK5._auto_1)
    (hline : autoParam ((a1.endLine == c1.line) = true) autoK5._auto_1) (hs : autoParam (starEach [.Call (.Attribute (.Name y p2) "pop" a2) [e] [] c2] C.X.env = (false, eval (.Call (.Attribute (.Name y p2) "pop" a2) [e] [] c2) C.X.env) :: starEach [] C.X.env) autoK5._auto_1) (hplain : autoParam ((backTo c1 (starEach [] C.X.env)).any (·.1) = false) autoK5._auto_1)
    (hsw : autoParam (swapsWith (.Call (.Attribute (.Name x p1) "append" a1) [.Call (.Attribute (.Name y p2) "pop" a2) [e] [] c2] [] c1) none pos.line C.X.env = pure false) autoK5._auto_1) :
    RS C fr (.Expr (.Call (.Attribute (.Name x p1) "append" a1) [.Call (.Attribute (.Name y p2) "pop" a2) [e] [] c2] [] c1) pos) (sAP i j me) := by
  obtain ⟨t, p, q⟩ := he
  refine ⟨_, ps_expr (pe_bm PySem.F.plainAttrs_list PySem.F.slot_list_append PySem.F.type_list_append mt_append (pe_var hN hv hd hcd) (pa_cons (pe_bm PySem.F.plainAttrs_list PySem.F.slot_list_pop PySem.F.type_list_pop mt_popAt (pe_var kN kv kd kcd) (pa_cons p pa_nil ks) kbase kfew kline ks kplain) pa_nil hs) hbase hfew hline hs hplain) hsw, fun Oc Ob σ H ρ E R h => ?_⟩
  obtain ⟨d, ed, k⟩ := eV_post (Res.post_bind h)
  obtain ⟨xd, ex, k⟩ := Res.post_lft (Res.post_bind k)
  obtain rfl := lstD_some ex
  obtain ⟨v, qv, l, ys, ds, rfl, e2, e3, e4, e5⟩ := R.own i _ ed (mem_of ho)
  cases e2
  obtain ⟨d2, ed2, k⟩ := eV_post (Res.post_bind k)
  obtain ⟨yd, ex2, k⟩ := Res.post_lft (Res.post_bind k)
  obtain rfl := lstD_some ex2
  obtain ⟨v2, qv2, l2, zs, es, rfl, f2, f3, f4, f5⟩ := R.own j _ ed2 (mem_of ko)
  cases f2
  refine ⟨_, qv, .inl ⟨rfl, _, SqL.of e3⟩, _, qv2, .inl ⟨rfl, _, SqL.of f3⟩, q Oc Ob σ H ρ _ R (Res.post_mono (Res.post_bind k) (fun n hn k w H' s r => ?_) fun c z H' s => z H' (Same.frm s))⟩
  clear hn
  obtain ⟨⟨pv, yd'⟩, ep, k⟩ := Res.post_lft (Res.post_bind k)
  obtain ⟨xd', ea, k⟩ := Res.post_lft (Res.post_bind k)
  unfold popV at ep
  split at ep
  · rename_i m
    split at ep
    · rename_i hb
      cases ep
      cases r
      have hlen := f5.length
      have hi : m.toNat < zs.length := by bv_omega
      refine ⟨l2, zs, m, m.toNat, zs[m.toNat], rfl, rfl, s _ _ f3, by bv_omega, hb.2.2, ?_, List.getElem?_eq_getElem hi, ?_⟩
      · unfold seqIndex?
        simp only [show ¬ m < 0 by bv_omega, if_false]
        rw [if_pos (by simp; bv_omega)]
      have f6 := f5.same s
      have R1 := (R.same s).write (mem_of ko) ed2 qv2 (s _ _ f3) f4 (f6.erase m.toNat)
      have edi : (ρ.set j (some (.list (yd.eraseIdx m.toNat))))[i]? = some (some (.list xd)) := by rw [List.getElem?_set_ne hij]; exact ed
      obtain ⟨v', qv', l', ys', ds', rfl, g2, g3, g4, g5⟩ := R1.own i _ edi (mem_of ho)
      cases g2
      have el : l' = l := by
        rw [qv] at qv'
        cases qv'
        rfl
      subst el
      unfold appD at ea
      simp only at ea
      split at ea
      · rename_i hz
        cases ea
        have rv0 : Rep H' (Uni Oc Ob) zs[m.toNat] (yd.getD m.toNat .none) := by
          obtain ⟨d', hd', rd'⟩ := f6.of (List.getElem?_eq_getElem hi)
          rw [List.getD, hd']
          exact rd'
        have rv : Rep (upd H' l2 (.lst (zs.eraseIdx m.toNat))) (Uni Oc Ob) zs[m.toNat] (yd.getD m.toNat .none) := rv0.keep (fun b o e n => by rw [upd_ne (fun z => n (by subst z; exact .inr f4))]; exact e) fun _ _ z => z
        refine ⟨l', ys', _, rfl, rfl, g3, by rw [g5.length]; exact hz, ?_⟩
        refine k _ _ Ob (R1.write (mem_of ho) edi qv' g3 g4 (g5.append (.one rv))) (fun b o e n => ?_) fun b z => .inl z
        rw [upd_ne (fun z => n (by subst z; exact g4)), upd_ne (fun z => n (by subst z; exact f4))]
        exact s b o e
      · cases ea
    · cases ep
  · cases ep
end L2.L3
set_option maxHeartbeats 4000000
namespace L2.L3
open PySem PySem.Spec PyProof.Rows
variable [CN]
section
variable {X : Cx}
def isI' (i : Int) : Value → Bool
  | .int a _ => a == i
  | _ => false
def rRemI : V → List V → Hp → VK → Prop := fun x vs H Q => ∃ (l : Addr) (ns : List Int) (i : Int) (j : Nat), x = .ref l ∧ vs = [.int i] ∧ H l = some (.lst (ns.map V.int)) ∧ ns[j]? = some i ∧ (∀ m, m < j → ns[m]? ≠ some i) ∧ Q .non (upd H l (.lst ((ns.eraseIdx j).map V.int)))
theorem erase_map {α β : Type} (f : α → β) : ∀ (l : List α) (m : Nat), (l.map f).eraseIdx m = (l.eraseIdx m).map f
  | [], _ => rfl
  | _ :: _, 0 => rfl
  | a :: l, m + 1 => congrArg (f a :: ·) (erase_map f l m)
theorem vals_erase : ∀ {xs : List V} {us : List Value} (j : Nat), Vals xs us → Vals (xs.eraseIdx j) (us.eraseIdx j)
  | _, _, _, .nil => .nil
  | _, _, 0, .cons _ t => t
  | _, _, j + 1, .cons a t => .cons a (vals_erase j t)
theorem vals_int {ns : List Int} {us : List Value} (r : Vals (ns.map V.int) us) {m : Nat} {u : Value} (h : us[m]? = some u) : ∃ a t, ns[m]? = some a ∧ u = .int a t := by
  have hl := r.length
  have hm : m < ns.length := by
    have := (List.getElem?_eq_some_iff.mp h).1
    rw [List.length_map] at hl
    bv_omega
  obtain ⟨u', hu, ru⟩ := r.get (show (ns.map V.int)[m]? = some (.int ns[m]) by rw [List.getElem?_map, List.getElem?_eq_getElem hm]; rfl)
  rw [h] at hu
  cases hu
  obtain ⟨t, rfl⟩ := ru
  exact ⟨ns[m], t, List.getElem?_eq_getElem hm, rfl⟩
theorem mt_remI : MtM X "list.remove" rRemI := by
  intro pins s σ H x vs v us Q I rx rv h
  obtain ⟨l, ns, i, j, rfl, rfl, hH, hj, no, q⟩ := h
  cases rx
  obtain ⟨u, rfl, t, rfl⟩ := rv.one
  obtain ⟨z, its, n, r, hl, e⟩ := I.lstM hH
  have hlen := r.length
  have hjl : j < its.length := by
    have := (List.getElem?_eq_some_iff.mp hj).1
    rw [List.length_map] at hlen
    bv_omega
  have at_ : ∀ m (hm : m < its.toArray.size), ∃ a t, ns[m]? = some a ∧ its.toArray[m] = .int a t := fun m hm => by
    have hm' : m < its.length := by simpa using hm
    obtain ⟨a, t, h1, h2⟩ := vals_int r (List.getElem?_eq_getElem hm')
    exact ⟨a, t, h1, by simpa using h2⟩
  refine call_meets F.slot_list_remove ⟨_, e, rfl⟩ F.entry_list_remove (F.args_list_remove_2 _ _) (MeetsSeq.list_remove l its.toArray n (.int i t) (isI' i) (fun y hy => ?_) j (by simpa using hjl) ?_ (fun m hm hlt => ?_) (by rw [List.size_toArray]; bv_omega)) ⟨e, ?_⟩
  · obtain ⟨m, hm, rfl⟩ := Array.mem_iff_getElem.mp hy
    obtain ⟨a, t', _, e2⟩ := at_ m hm
    rw [e2]
    exact MeetsSeq.EqGives.int a i t' t
  · obtain ⟨a, t', e1, e2⟩ := at_ j (by simpa using hjl)
    rw [e2]
    rw [hj] at e1
    cases e1
    simp [isI']
  · obtain ⟨a, t', e1, e2⟩ := at_ m hm
    rw [e2]
    have : a ≠ i := fun z => no m hlt (by rw [e1, z])
    simp [isI', this]
  · have rr := vals_erase j r
    rw [erase_map] at rr
    refine ⟨.non, _, I.lset (its' := its.eraseIdx j) hH e (by simp) rr ?_, rfl, q⟩
    rw [List.length_map]
    rw [List.length_map] at z
    exact Nat.le_trans (List.length_eraseIdx_le ..) z
end
def remD (xs : List D) : List D → Option (List D)
  | [.int i] => (intsOf xs).bind fun ns => (ns.findIdx? fun a => a == i).map fun j => (ns.eraseIdx j).map PyData.int
  | _ => none
theorem pm_rem : PrM rRemI remD := by
  intro O H l xs vs xd ad ds' Q hl rx ra e k
  unfold remD at e
  split at e
  · rename_i i
    obtain ⟨ns, e1, e⟩ := Option.bind_eq_some_iff.mp e
    obtain ⟨j, ej, rfl⟩ := Option.map_eq_some_iff.mp e
    obtain ⟨v, rfl, rv⟩ := Reps.one' ra
    cases rv
    have ex : xd = ns.map PyData.int := intsOf_some e1
    subst ex
    have hx := rx.ints
    subst hx
    obtain ⟨hj, h1, h2⟩ := List.findIdx?_eq_some_iff_getElem.mp ej
    refine ⟨l, ns, i, j, rfl, rfl, hl, ?_, fun m hm z => ?_, k _ ?_⟩
    · rw [List.getElem?_eq_getElem hj]
      simpa using h1
    · have := h2 m hm
      have hm' : m < ns.length := by bv_omega
      rw [List.getElem?_eq_getElem hm'] at z
      simp at this
      exact this (Option.some.inj z)
    · have r2 := rx.erase j
      rw [erase_map, erase_map] at r2
      exact r2
  · cases e
end L2.L3
set_option maxHeartbeats 4000000
namespace HT
open PySem PyProof.Rows
section
open PySem.SeqAt
open PySem.AutoSeq1 (wpAny_loadPart')
open PySem.MeetsSeq PySem.MeetsSeq2 PySem.MeetsSeq3
end
section
variable {prog : Program} {w : World} {A : Around} {E : Value → Shared → Prop} {s : Shared}
end
end HT
namespace L2.L3
open PySem PySem.Spec PyProof.Rows
variable [CN]
section
variable {X : Cx}
end
end L2.L3
set_option maxHeartbeats 4000000
namespace L2.L3
open PySem PyProof.Rows
variable [CN]
section
variable {X : Cx}
end
end L2.L3
namespace L2.L3
universe u
theorem ls0 {α : Type u} {P : List α → Prop} (h : P []) : ∀ us : List α, us.length = 0 → P us := fun us e => by
  rw [List.eq_nil_of_length_eq_zero e]
  exact h
theorem lsS {α : Type u} {P : List α → Prop} {n : Nat} (h : ∀ a us, us.length = n → P (a :: us)) : ∀ us : List α, us.length = n + 1 → P us := fun us e => by
  cases us with
  | nil => cases e
  | cons a us => exact h a us (Nat.succ.inj e)
theorem ls1 {α : Type u} {P : List α → Prop} (h : ∀ a, P [a]) : ∀ us : List α, us.length = 1 → P us := lsS fun a => ls0 (h a)
theorem ls2 {α : Type u} {P : List α → Prop} (h : ∀ a b, P [a, b]) : ∀ us : List α, us.length = 2 → P us := lsS fun a => ls1 (h a)
theorem ls3 {α : Type u} {P : List α → Prop} (h : ∀ a b c, P [a, b, c]) : ∀ us : List α, us.length = 3 → P us := lsS fun a => ls2 (h a)
theorem ls4 {α : Type u} {P : List α → Prop} (h : ∀ a b c d, P [a, b, c, d]) : ∀ us : List α, us.length = 4 → P us := lsS fun a => ls3 (h a)
end L2.L3
set_option maxHeartbeats 4000000
namespace L2.L3
open PySem PySem.Spec PyProof.Rows
variable [CN]
def Raw (B : Heap) (e : Addr) (cls a0 : Value) (h : Heap) : Prop :=
  h.TracedW B e cls a0 ∨ ∃ oe vs, h.get? e = some oe ∧ oe.cls = cls ∧ oe.data = .fields vs ∧ vs[1]? = some .none ∧ vs[0]? = some a0
structure Fl (stk : List Env) (h1 : Heap) (H : Hp) (e : Addr) (cls : Value) (B : Heap) (a0 : Value) (h : Heap) : Prop where
  stays : B.StaysIn h
  newB : B.get? e = none
  frm : h.FunFrames B stk
  raw : Raw B e cls a0 h
  cov : ∀ b o, h.get? b = some o → b ∉ frs stk → (h1.get? b ≠ none ∨ H b ≠ none) → B.get? b = some o
def ExcAt (X : Cx) (c : Str) (H : Hp) (e : Value) (s : Shared) : Prop :=
  ∃ (pins : List (Addr × Obj)) (σ : St) (s1 : Shared) (H1 : Hp) (a : Addr) (B : Heap) (a0 : Value), Inv X pins σ H1 s1 ∧ Inv X pins σ H s ∧ Un (frs X.stack) [] H1 H s1.heap s.heap ∧ e = .ref a ∧ s1.heap.get? a = none ∧ H a = none ∧ Fl X.stack s1.heap H a (.ref (CN.ad c)) B a0 s.heap
def CXV (P : Program) (w : World) : CXT := fun outer H s E e s' =>
  ∃ (a : Addr) (cls : Value) (B : Heap) (a0 : Value) (H' : Hp), e = .ref a ∧ s'.os = s.os ∧ AllBare s'.gens ∧ Un (frs outer) [] H H' s.heap s'.heap ∧ HOk P w H' s'.heap ∧ s.heap.get? a = none ∧ H' a = none ∧ Fl outer s.heap H' a cls B a0 s'.heap ∧ E cls none H'
theorem obj_there {P : Program} {w : World} {H : Hp} {h : Heap} {a : Addr} {o : HO} (x : ObjOk P w H h a o) : ∃ u, h.get? a = some u := by
  cases o with
  | lst xs => exact ⟨_, x.2.choose_spec.choose_spec.2⟩
  | tup xs => obtain ⟨_, its, _, ob, e, _⟩ := x; exact ⟨ob, e⟩
  | dK kvs => obtain ⟨_, _, _, _, ob, _, _, e, _⟩ := x; exact ⟨ob, e⟩
  | dT kvs => obtain ⟨_, _, _, _, ob, _, _, e, _⟩ := x; exact ⟨ob, e⟩
  | set S n => obtain ⟨ob, _, _, _, e, _⟩ := x; exact ⟨ob, e⟩
  | ins C dx fs => obtain ⟨_, _, _, e, _⟩ := x; exact ⟨_, e⟩
  | own y => exact x
  | xd fs => obtain ⟨_, ⟨ob, _, _, e, _⟩, _⟩ := x; exact ⟨ob, e⟩
  | rng lo hi => obtain ⟨_, _, _, e⟩ := x; exact ⟨_, e⟩
  | frz ob u => exact ⟨ob, x.1⟩
  | tbl ps => exact ⟨_, x⟩
  | met f y => exact ⟨_, x⟩
  | ext φ => exact x.2.1
theorem hok_there {P : Program} {w : World} {H : Hp} {h : Heap} {a : Addr} (x : HOk P w H h) (n : H a ≠ none) : ∃ u, h.get? a = some u := by
  cases e : H a with
  | none => exact absurd e n
  | some o => exact obj_there (x a o e)
theorem ne_some {α : Type} {o : Option α} (h : o ≠ none) : ∃ x, o = some x := by
  cases o with
  | none => exact absurd rfl h
  | some x => exact ⟨x, rfl⟩
theorem some_ne {α : Type} {o : Option α} {x : α} (h : o = some x) : o ≠ none := by
  rw [h]; exact fun z => nomatch z
theorem exc_leave {X : Cx} {c : Str} {H : Hp} {e : Value} {s : Shared} {E : XK} {E2 : Value → Shared → Prop} (x : ExcAt X c H e s) (hst : X.stack = X.env :: X.outer) (hfr : X.env.frame = some X.env.locals) (hex : X.ex = []) (hE : E (.ref (CN.ad c)) none H) :
    wpAny (model X.prog X.w) X.A (leaving X.env e) (fun _ s'' => CXV X.prog X.w X.outer X.H₀ X.s₀ E e s'') E2 s := by
  obtain ⟨pins, σ, s1, H1, a, B, a0, I1, I, un, rfl, n1, n2, f⟩ := x
  have noex : ∀ b : Addr, b ∉ X.ex := fun b z => by rw [hex] at z; cases z
  have hfs : frs X.stack = X.env.locals :: X.fs := by
    rw [hst]
    show List.filterMap _ _ = _
    rw [List.filterMap_cons, hfr]
    rfl
  have hfrm : s.heap.FunFrames B (X.env :: X.outer) := by rw [← hst]; exact f.frm
  have hA : X.A.frames = some (X.env :: X.outer) := by rw [← hst]; exact I.ok.frames
  have oldL : ∀ b o, X.s₀.heap.get? b = some o → b ≠ X.env.locals := fun b o q z => by
    subst z
    exact absurd (Heap.lt_size q) (Nat.not_lt.mpr I.ok.above)
  have old1 : ∀ b o, X.s₀.heap.get? b = some o → s1.heap.get? b ≠ none := fun b o q => let ⟨_, e⟩ := I1.base.there b o q (noex b); some_ne e
  have key : ∀ h', Heap.LeftW B (X.env :: X.outer) a (.ref (CN.ad c)) a0 s.heap h' → CXV X.prog X.w X.outer X.H₀ X.s₀ E (.ref a) { s with heap := h' } := by
    rintro h' ⟨k1, k2, k3, k4⟩
    have kp : ∀ b o, s.heap.get? b = some o → b ∉ frs X.stack → (s1.heap.get? b ≠ none ∨ H b ≠ none) → h'.get? b = some o := fun b o q n z => k1 b o (f.cov b o q n z)
    have out : ∀ b, b ∉ X.fs → b ≠ X.env.locals → b ∉ frs X.stack := fun b n1 n2 z => by
      rw [hfs] at z
      rcases List.mem_cons.mp z with z | z
      · exact n2 z
      · exact n1 z
    have trk : ∀ b, H b ≠ none → b ∉ frs X.stack := fun b n z => n (I.stkFree b z)
    refine ⟨a, _, B, a0, H, rfl, I.os, I.bare, ⟨fun b o q n hb hx => ?_, fun b o q n hb hx => ?_, fun b o q n hx => I.base.free b o q n (noex b), fun b o q hx => ?_, I.base.tups, I.base.frzs, I.base.tbls⟩, fun b o q => ?_, ?_, n2, ⟨k1, f.newB, k2.2.2, .inl k3, fun b o q n z => ?_⟩, hE⟩
    · exact kp b o (I.base.keep b o q n hb (noex b)) (out b hb (oldL b o q)) (.inl (old1 b o q))
    · obtain ⟨sl, e⟩ := I.base.slot b o q n hb (noex b)
      obtain ⟨_, o', e', nf⟩ := f.frm.mem (b := b) (by show b ∈ frs X.stack; rw [hfs]; exact List.mem_cons_of_mem _ hb)
      rw [e] at e'
      cases e'
      obtain ⟨sl', e2⟩ := k4 b _ e nf
      exact ⟨sl', e2⟩
    · by_cases hb : b ∈ frs X.stack
      · obtain ⟨_, o', e', _⟩ := k2.mem (b := b) (by rw [hst] at hb; exact hb)
        exact ⟨o', e'⟩
      · obtain ⟨o', e'⟩ := I.base.there b o q (noex b)
        exact ⟨o', kp b o' e' hb (.inl (old1 b o q))⟩
    · refine (I.hok b o q).stay (fun b' u hb' e => ?_) (fun _ z => z) fun _ _ z => z
      have n : H b' ≠ none := by
        rcases hb' with rfl | hb'
        · exact some_ne q
        · exact some_ne hb'
      exact kp b' u e (trk b' n) (.inr n)
    · cases q : X.s₀.heap.get? a with
      | none => rfl
      | some o => exact absurd n1 (old1 a o q)
    · have nL : b ≠ X.env.locals := by
        rcases z with z | z
        · obtain ⟨o', q'⟩ := ne_some z
          exact oldL b o' q'
        · intro y
          subst y
          exact z I.free
      have ns : b ∉ frs X.stack := out b n nL
      obtain ⟨o2, q2⟩ : ∃ o2, s.heap.get? b = some o2 := by
        rcases z with z | z
        · obtain ⟨o', q'⟩ := ne_some z
          exact I.base.there b o' q' (noex b)
        · exact hok_there I.hok z
      have z' : s1.heap.get? b ≠ none ∨ H b ≠ none := by
        rcases z with z | z
        · obtain ⟨o', q'⟩ := ne_some z
          exact .inl (old1 b o' q')
        · exact .inr z
      have hB := f.cov b o2 q2 ns z'
      have q3 := k1 b o2 hB
      have q4 : h'.get? b = some o := q
      rw [q3] at q4
      cases q4
      exact hB
  rcases f.raw with t | ⟨oe, vs, he, hc, hd, h1, h0⟩
  · exact wpAny_leaving_nextW hA hfrm hfr t f.stays f.newB key
  · rw [← hc] at key
    exact wpAny_leaving_firstW hA hfrm hfr he f.stays f.newB hd h1 h0 key
def Br (C : Ct) : Prop := ∀ (c : Str) (H : Hp) (e : Value) (s : Shared), ExcAt C.X c H e s → C.XE c H → C.X.xe e s
theorem br_no {C : Ct} (h : ∀ c H, C.XE c H → False) : Br C := fun c H _ _ _ z => (h c H z).elim
def wX (C : Ct) : XK := fun v _ H => ∃ c, v = .ref (CN.ad c) ∧ C.XE c H
theorem passX {C : Ct} (hb : Br C) : Passes (CXV C.X.prog C.X.w) C.X (wX C) := by
  intro pins σ H s e s' I h
  obtain ⟨a, cls, B, a0, H', rfl, os, bare, un, hok, n1, n2, f, c, rfl, z⟩ := h
  exact hb c H' _ s' ⟨pins, σ, s, H, a, B, a0, I, I.call' os un hok bare (fun b z => by cases z), un, rfl, n1, n2, f⟩ z
def spX (fr : Bool) (F : List D → Res D) : Sp := fun vs H Q E => ∃ (ds : List D) (O : Addr → Prop), (∀ a, O a → H a ≠ none) ∧ Reps H O vs ds ∧ (F ds).post (fun d => ∀ v H', Same H H' → CallOk fr O H H' v d → Q v H') (fun c => ∀ H', Same H H' → E (.ref (CN.ad c)) none H')
section
variable {P : Program} {w : World} {K : PySem.W.Frag} {mg : Str → Option Value} {base : Heap}
abbrev bodyX (P : Program) (w : World) (K : PySem.W.Frag) (mg : Str → Option Value) (base : Heap) (N : List Str) (x : Str) (sc : Scope) (f : Addr) (cdv : Value) (A : Around) (outer : List Env) (s : Shared) (H : Hp) (E : XK) (om : List Nat) : Ct :=
  ⟨cxOf (CXV P w) P w K mg base N x sc f cdv A outer s H E, fun c H' => E (.ref (CN.ad c)) none H', om, []⟩
theorem br_body {N : List Str} {x : Str} {sc : Scope} {f : Addr} {cdv : Value} {A : Around} {outer : List Env} {s : Shared} {H : Hp} {E : XK} {om : List Nat} : Br (bodyX P w K mg base N x sc f cdv A outer s H E om) :=
  fun c H' e s' x h => exc_leave x rfl rfl rfl h
theorem fnX_ok {x : Str} {st : Stmt} {f : Addr} {fd : FuncData} {N ps : List Str} {k : Nat} {m : Ev → Res Out} {fr : Bool} (om : List Nat) (F : Fun K x x st f fd) (S : FnScope N ps (defScope st))
    (hbody : ∀ (cdv : Value) (A : Around) (outer : List Env) (s : Shared) (H : Hp) (E : XK), Room k (A.deeper (envOfC x (defScope st) s.heap.objs.size f cdv)) → RSs (bodyX P w K mg base N x (defScope st) f cdv A outer s H E om) fr (defBody st) m)
    (hom : autoParam (om.all (fun i => decide (ps.length ≤ i)) = true) autoK5._auto_1) :
    FnOk P w K mg base (CXV P w) (k + 1) f fd ps (spX fr (runF fr ps.length N.length m)) := by
  have len : ∀ (vs : List V) (H : Hp) (Q : VK) (E : XK), spX fr (runF fr ps.length N.length m) vs H Q E → vs.length = ps.length := fun vs H Q E h => by
    obtain ⟨ds, O, oh, r, k⟩ := h
    unfold runF at k
    split at k
    · rename_i hl
      rw [r.length]; exact hl
    · exact k.elim
  obtain ⟨oc, od, kV, doc, pm, an, cdv, ct, osl, rfl, lk, hcd⟩ := F.ex
  refine fn_of lk hcd S len fun A outer s H vs Q E hr h => ?_
  have hvl := len vs H Q E h
  obtain ⟨ds, O, oh, r, k⟩ := h
  have hl : ds.length = ps.length := by rw [← r.length]; exact hvl
  unfold runF at k
  rw [if_pos hl] at k
  obtain ⟨t, p, q⟩ := hbody cdv A outer s H E hr
  refine ⟨t, p, q ⟨O, fun _ => 0⟩ (fun _ => False) _ H (ds.map some ++ List.replicate (N.length - ps.length) none) _ ?_ ?_⟩
  · refine ⟨?_, fun i d e _ _ => ?_, fun i d e ho => ?_, fun i d e _ hl => (nomatch hl), fun i j di dj a ei _ ho _ _ _ => ?_, fun a z => oh a (z.elim id fun z => z.elim), fun a z => z.elim⟩
    · unfold start
      rw [List.length_append, List.length_append, List.length_map, List.length_map, List.length_replicate, List.length_replicate, hvl, hl]
    · obtain ⟨v, ev, rv⟩ := r.get (start_get e)
      exact ⟨v, start_of ev, rv.less fun b z => z.elim id fun z => z.elim⟩
    · have h1 := (List.getElem?_eq_some_iff.mp (start_get e)).1
      have h2 : ps.length ≤ i := of_decide_eq_true (List.all_eq_true.mp hom i ho)
      bv_omega
    · have h1 := (List.getElem?_eq_some_iff.mp (start_get ei)).1
      have h2 : ps.length ≤ i := of_decide_eq_true (List.all_eq_true.mp hom i ho)
      bv_omega
  · have same : ∀ {H' : Hp}, Frm (fun _ => False) H H' → Same H H' := fun f b o e => f b o e fun z => z
    refine Res.post_mono (Res.post_bind k) (fun o _ k => ?_) fun c z H' f => z H' (same f)
    cases o with
    | rt d =>
      intro v H' f rt
      refine k v H' (same f) ?_
      cases fr with
      | false => exact rt
      | true =>
        obtain ⟨a, ys, ds, e1, e2, e3, e4, e5, e6⟩ := rt
        exact ⟨a, ys, ds, e1, e2, e3.elim id fun z => z.elim, e5, e6⟩
    | nx ρ' =>
      cases fr with
      | true => exact k.elim
      | false => exact fun σ' H' Ob' R f s => k .non H' (same f) Rep.non
end
theorem reX_call {C : Ct} {k : Nat} {f : Addr} {fd : FuncData} {ps : List Str} {fr : Bool} {F : List D → Res D} {x : Str} {p pos : Pos} {e : Expr} {es : List Expr} {ms : Ev → Res (List D)} {st : Stmt} (G : FnOk C.X.prog C.X.w C.X.K C.X.mg C.X.base (CXV C.X.prog C.X.w) k f fd ps (spX fr F)) (hh : Has C.X.K C.X.mg x st f fd ps) (hr : Room k C.X.A)
    (hb : Br C) (ha : RArg C true (e :: es) ms) (hg : autoParam (Gl C.X x) autoK5._auto_1) (hdb : autoParam ((x == ("__debug__" : Str)) = false) autoK2._auto_1) (he : autoParam (starEach (e :: es) C.X.env = (false, eval e C.X.env) :: starEach es C.X.env) autoK5._auto_1) (hpl : autoParam ((backTo pos (starEach es C.X.env)).any (·.1) = false) autoK5._auto_1) :
    RE C (mdF fr) (.Call (.Name x p) (e :: es) [] pos) (eF F ms) := by
  obtain ⟨t, pa, q⟩ := ha
  refine ⟨_, pe_call G hr hg hh.m hh.F.kp hh.b .nil (passX hb) pa hdb he hpl, fun Oc Ob σ H ρ Q R h => ?_⟩
  refine q Oc Ob σ H ρ _ R (Res.post_mono (Res.post_bind h) (fun ds _ k vs H1 s1 r => ?_) fun c z => z)
  show spX fr F (vs ++ []) H1 Q (wX C)
  rw [List.append_nil]
  refine ⟨ds, Uni Oc Ob, (R.same s1).oh, r, Res.post_mono k (fun d _ k v H' s2 rv => ?_) fun c z H' s2 => ⟨c, rfl, z H' (s1.trans s2)⟩⟩
  refine k v H' (s1.trans s2) ?_
  cases fr with
  | false => exact rv
  | true =>
    obtain ⟨a, ys, ds, e1, e2, e3, e4, e5⟩ := rv
    exact ⟨a, ys, ds, e1, e2, s1.free e3, e4, e5⟩
theorem reX_callA {C : Ct} {k : Nat} {f : Addr} {fd : FuncData} {ps : List Str} {fr : Bool} {F : List D → Res D} {x : Str} {p pos : Pos} {e : Expr} {es : List Expr} {ms : Ev → Res (List D)} {st : Stmt} (G : FnOk C.X.prog C.X.w C.X.K C.X.mg C.X.base (CXV C.X.prog C.X.w) k f fd ps (spX fr F)) (hh : Has C.X.K C.X.mg x st f fd ps) (hr : Room k C.X.A)
    (hb : Br C) (ha : RArg C false (e :: es) ms) (hg : autoParam (Gl C.X x) autoK5._auto_1) (hdb : autoParam ((x == ("__debug__" : Str)) = false) autoK2._auto_1) (he : autoParam (starEach (e :: es) C.X.env = (false, eval e C.X.env) :: starEach es C.X.env) autoK5._auto_1) (hpl : autoParam ((backTo pos (starEach es C.X.env)).any (·.1) = false) autoK5._auto_1) :
    RE C (mdF fr) (.Call (.Name x p) (e :: es) [] pos) (eFA fr F ms) := by
  obtain ⟨t, pa, q⟩ := ha
  refine ⟨_, pe_call G hr hg hh.m hh.F.kp hh.b .nil (passX hb) pa hdb he hpl, fun Oc Ob σ H ρ Q R h => ?_⟩
  refine q Oc Ob σ H ρ _ R (Res.post_mono (Res.post_bind h) (fun ds _ k vs H1 s1 r => ?_) fun c z => z)
  show spX fr F (vs ++ []) H1 Q (wX C)
  rw [List.append_nil]
  refine ⟨ds, fun b => Uni Oc Ob b ∧ ¬ ∃ ys, H1 b = some (.lst ys), fun a z => (R.same s1).oh a z.1, VAs.lent r, Res.post_mono (Res.post_bind k) (fun d _ k v H' s2 rv => ?_) fun c z H' s2 => ⟨c, rfl, z H' (s1.trans s2)⟩⟩
  have hB : ∀ b, (∃ ys, H1 b = some (.lst ys)) → ∃ ys, H' b = some (.lst ys) := fun b ⟨ys, e⟩ => ⟨ys, s2 _ _ e⟩
  by_cases hl : lfT fr d = true
  · rw [if_pos hl] at k
    refine k v H' (s1.trans s2) ?_
    cases fr with
    | false => exact Rep.lf hB rv (by cases d <;> exact hl)
    | true =>
      obtain ⟨a, ys, ds, e1, rfl, e3, e4, e5⟩ := rv
      have e5' : Reps H' (fun b => (Uni Oc Ob b ∨ b = a) ∧ ¬ ∃ ys, H1 b = some (.lst ys)) ys ds := e5.less fun b z => z.1.elim (fun q => .inl ⟨q, z.2⟩) .inr
      exact ⟨a, ys, ds, e1, rfl, s1.free e3, e4, Reps.lf hB e5' hl⟩
  · rw [if_neg hl] at k
    exact k.elim
section
variable {C : Ct} {k : Nat} {f : Addr} {fd : FuncData} {ps : List Str} {F : List D → Res D} {x : Str} {p pos : Pos} {e : Expr} {es : List Expr} {ms : Ev → Res (List D)} {st : Stmt}
theorem reX_callC (G : FnOk C.X.prog C.X.w C.X.K C.X.mg C.X.base (CXV C.X.prog C.X.w) k f fd ps (spX false F)) (hh : Has C.X.K C.X.mg x st f fd ps) (hr : Room k C.X.A)
    (hb : Br C) (ha : RArg C true (e :: es) ms) (hg : autoParam (Gl C.X x) autoK5._auto_1) (hdb : autoParam ((x == ("__debug__" : Str)) = false) autoK2._auto_1) (he : autoParam (starEach (e :: es) C.X.env = (false, eval e C.X.env) :: starEach es C.X.env) autoK5._auto_1) (hpl : autoParam ((backTo pos (starEach es C.X.env)).any (·.1) = false) autoK5._auto_1) :
    RE C .cl (.Call (.Name x p) (e :: es) [] pos) (eF F ms) := reX_call (fr := false) G hh hr hb ha hg hdb he hpl
theorem reX_callN (G : FnOk C.X.prog C.X.w C.X.K C.X.mg C.X.base (CXV C.X.prog C.X.w) k f fd ps (spX true F)) (hh : Has C.X.K C.X.mg x st f fd ps) (hr : Room k C.X.A)
    (hb : Br C) (ha : RArg C true (e :: es) ms) (hg : autoParam (Gl C.X x) autoK5._auto_1) (hdb : autoParam ((x == ("__debug__" : Str)) = false) autoK2._auto_1) (he : autoParam (starEach (e :: es) C.X.env = (false, eval e C.X.env) :: starEach es C.X.env) autoK5._auto_1) (hpl : autoParam ((backTo pos (starEach es C.X.env)).any (·.1) = false) autoK5._auto_1) :
    RE C .new (.Call (.Name x p) (e :: es) [] pos) (eF F ms) := reX_call (fr := true) G hh hr hb ha hg hdb he hpl
theorem reX_callAC (G : FnOk C.X.prog C.X.w C.X.K C.X.mg C.X.base (CXV C.X.prog C.X.w) k f fd ps (spX false F)) (hh : Has C.X.K C.X.mg x st f fd ps) (hr : Room k C.X.A)
    (hb : Br C) (ha : RArg C false (e :: es) ms) (hg : autoParam (Gl C.X x) autoK5._auto_1) (hdb : autoParam ((x == ("__debug__" : Str)) = false) autoK2._auto_1) (he : autoParam (starEach (e :: es) C.X.env = (false, eval e C.X.env) :: starEach es C.X.env) autoK5._auto_1) (hpl : autoParam ((backTo pos (starEach es C.X.env)).any (·.1) = false) autoK5._auto_1) :
    RE C .cl (.Call (.Name x p) (e :: es) [] pos) (eFA false F ms) := reX_callA (fr := false) G hh hr hb ha hg hdb he hpl
end
end L2.L3
set_option maxHeartbeats 4000000
namespace L2
open PySem PySem.Spec PyProof.Rows
section
variable {X : Cx} {pins : List (Addr × Obj)} {σ : St} {H : Hp} {s : Shared}
theorem unbind_ok {M : Model} {A : Around} {E : Value → Shared → Prop} {i : Nat} {x : Str} {v : V} {Q : Unit → Shared → Prop} (I : Inv X pins σ H s) (hN : X.N.Nodup) (hi : X.N[i]? = some x) (hk : X.env.scope.names.lookup x = some .local) (hv : σ[i]? = some (some v))
    (h : ∀ s', Inv X pins (σ.set i none) H s' → Q () s') : wpAny M A (unbindName X.env x) Q E s := by
  obtain ⟨m, hn, hl⟩ := id I.loc
  have hcls : (X.env.scope.kind == .class || (X.env.scope.kind == .module && X.env.locals != X.env.globals)) = false := by rw [I.ok.kind]; rfl
  have hiσ : i < σ.length := by rw [I.len]; exact (List.getElem?_eq_some_iff.mp hi).1
  obtain ⟨u, r, l⟩ := hl i x v hi hv (.inl hk)
  have mx : m x = some u := by
    rcases l with ⟨_, e⟩ | ⟨k, _⟩
    · exact e
    · have k' : X.env.scope.names.lookup x = some .cell ∨ X.env.scope.names.lookup x = some .free := k
      rw [hk] at k'
      rcases k' with k' | k' <;> cases k'
  refine wpAny_unbindName_local hk hn mx hcls fun h' u' hn' hs => ?_
  obtain ⟨oL, _, _, hoL, _⟩ := id hn
  have old : ∀ b o, X.s₀.heap.get? b = some o → h'.get? b = s.heap.get? b := fun b o e => hs.2 b (Nat.ne_of_lt (Nat.lt_of_lt_of_le (Heap.lt_size e) I.ok.above))
  refine h _ ⟨I.ok, I.os, I.bare, ⟨fun b o e n hb hx => ?_, fun b o e n hb hx => ?_, I.base.free, fun b o e hx => ?_, I.base.tups, I.base.frzs, I.base.tbls⟩, ⟨_, hn', fun j y v' e1 e2 e3 => ?_⟩, fun y c e => ?_, I.free, I.freeC, fun p hp => ?_, fun b ob e => ?_, by simpa using I.len⟩
  · exact (old b o e).trans (I.base.keep b o e n hb hx)
  · obtain ⟨sl, e1⟩ := I.base.slot b o e n hb hx
    exact ⟨sl, (old b o e).trans e1⟩
  · obtain ⟨o', e1⟩ := I.base.there b o e hx
    exact ⟨o', (old b o e).trans e1⟩
  · by_cases hj : j = i
    · subst hj
      rw [List.getElem?_set_self hiσ] at e2
      cases e2
    · rw [List.getElem?_set_ne (Ne.symm hj)] at e2
      obtain ⟨w', r', q⟩ := hl j y v' e1 e2 e3
      refine ⟨w', r', ?_⟩
      rcases q with ⟨k, e⟩ | ⟨k, c, e, z⟩
      · refine .inl ⟨k, ?_⟩
        have : y ≠ x := fun e => hj (nodup_ix hN e1 (e ▸ hi))
        simp [this, e]
      · exact .inr ⟨k, c, e, z.sameBut hs (I.cne y c e)⟩
  · obtain ⟨w', z⟩ := I.cell y c e
    exact ⟨w', z.sameBut hs (I.cne y c e)⟩
  · obtain ⟨e, n, ne, nf, d⟩ := I.pin p hp
    exact ⟨(hs.2 p.1 ne).trans e, n, ne, nf, d⟩
  · refine (I.hok b ob e).stay (fun c w' hc q => (hs.2 c ?_).trans q) (fun _ q => q) fun _ _ q => q
    rintro rfl
    rcases hc with rfl | hc
    · rw [I.free] at e; cases e
    · rw [I.free] at hc; cases hc
theorem Inv.track {a : Addr} {o : HO} (I : Inv X pins σ H s) (n : H a = none) (n0 : X.s₀.heap.get? a = none) (nL : a ≠ X.env.locals) (nC : ∀ x c, X.env.cells.lookup x = some c → c ≠ a) (nP : ∀ p ∈ X.pn ++ pins, p.1 ≠ a) (new : ObjOk X.prog X.w (upd H a o) s.heap a o) : Inv X pins σ (upd H a o) s := by
  have ne : ∀ b u, H b = some u → b ≠ a := fun b u e z => by subst z; rw [n] at e; cases e
  have up : ∀ b u, H b = some u → upd H a o b = some u := fun b u e => by rw [upd_ne (ne b u e)]; exact e
  refine ⟨I.ok, I.os, I.bare, ⟨I.base.keep, I.base.slot, fun b u q z hx => ?_, I.base.there, fun b xs q => up _ _ (I.base.tups b xs q), fun b u v q => up _ _ (I.base.frzs b u v q), fun b ps q => ?_⟩, I.loc, I.cell, ?_, fun x c e => ?_, fun p hp => ?_, fun b u e => ?_, I.len⟩
  · have : b ≠ a := fun y => by subst y; rw [n0] at q; cases q
    rw [upd_ne this]
    exact I.base.free b u q z hx
  · obtain ⟨more, e⟩ := I.base.tbls b ps q
    exact ⟨more, up _ _ e⟩
  · rw [upd_ne (Ne.symm nL)]
    exact I.free
  · rw [upd_ne (nC x c e)]
    exact I.freeC x c e
  · obtain ⟨e, m, x1, x2, x3⟩ := I.pin p hp
    exact ⟨e, by rw [upd_ne (nP p hp)]; exact m, x1, x2, x3⟩
  · by_cases h : b = a
    · subst h
      rw [upd_same] at e
      cases e
      exact new
    · rw [upd_ne h] at e
      exact (I.hok b u e).stay (fun _ _ _ q => q) (fun c q => up _ _ q) fun c xs q => up _ _ q
end
end L2
namespace L2.L3
open PySem PySem.Spec PyProof.Rows
variable [CN]
abbrev bmV : List Value := [.type "ValueError", .type "Exception", .type "BaseException", .type "object"]
def OwnX (K : PySem.W.Frag) (x : Str) : Prop := PySem.W.excIn K (CN.ad x) bmV "ValueError.__new__" = true
theorem own_obj {K : PySem.W.Frag} {h : Heap} {A : Addr} {bmB : List Value} {nid : String} (X : K.In h) (q : PySem.W.excIn K A bmB nid = true) :
    ∃ (tl : List Value) (N : Addr) (nm qn : Str) (bs : List Value) (hd : Bool) (sn : List Str) (sb : List Value) (ab : Bool) (co : Option Bool) (dd : Option Addr) (k0 k1 k2 k3 k5 : Option Value) (mN : Str → Option Value),
      h.get? A = some (excClassObj nm qn A N bs tl hd sn sb ab co dd k0 k1 k2 k3 k5 nid) ∧ h.Ns N mN ∧ mN "__init__" = none ∧ OwnTail h bmB tl := by
  revert q
  rw [PySem.W.excIn]
  split
  case h_2 => exact fun q => nomatch q
  case h_1 dd cd sl lk =>
    split
    case h_2 => exact fun q => nomatch q
    case h_1 A' tl j0 j1 j2 j3 nn j5 em es =>
      intro q
      rw [Bool.and_eq_true, Bool.and_eq_true, Bool.and_eq_true, Bool.and_eq_true, Bool.and_eq_true] at q
      have q6 := q.2
      have q5 := q.1.2
      have q4 := q.1.1.2
      have q3 := q.1.1.1.2
      have q2 := eq_of_beq q.1.1.1.1.2
      have q1 := eq_of_beq q.1.1.1.1.1
      cases cd
      cases sl
      simp only at em es q3 q5 q6
      subst em es q1 q2
      simp only [Bool.not_eq_true'] at q3
      subst q3
      exact ⟨_, _, _, _, _, _, _, _, _, _, _, _, _, _, _, _, _, X _ _ lk, .of_isNs (PySem.W.isNs_of_in X q5), PySem.W.nsMap_none_of_in X q5 (eq_of_beq q6), PySem.W.tail_of_in X q4⟩
theorem exc_made {X : Cx} {pins : List (Addr × Obj)} {σ : St} {H : Hp} {s : Shared} {c : Str} {h' : Heap} {e : Addr} {args : List Value} (I : Inv X pins σ H s) (m : Heap.MadeExcOf s.heap h' e (.ref (CN.ad c)) args) : ExcAt X c H (.ref e) { s with heap := h' } := by
  obtain ⟨t, he, _, _⟩ := m.there
  have I2 : Inv X pins σ H { s with heap := h', toks := s.toks } := I.kept m.keeps
  have n : H e = none := by
    cases q : H e with
    | none => rfl
    | some o =>
      obtain ⟨u, z⟩ := obj_there (I.hok e o q)
      rw [m.new] at z
      cases z
  refine ⟨pins, σ, s, H, e, PySem.W.hideAll h' (e :: frs X.stack), .ref t, I, I2, Un.kept m.keeps, rfl, m.new, n, fun b o q => PySem.W.of_hideAll _ q, PySem.W.hideAll_none _ (.head _), PySem.W.funFrames_hide I2.stack fun env he a ha => List.mem_cons_of_mem _ (List.mem_filterMap.mpr ⟨env, he, ha⟩), .inr ⟨_, _, he, rfl, rfl, rfl, rfl⟩, fun b o q nb z => PySem.W.hideAll_get _ q fun hb => ?_⟩
  rcases List.mem_cons.mp hb with rfl | hb
  · rcases z with z | z
    · exact z m.new
    · exact z n
  · exact nb hb
def sRa (c : Str) (m : Ev → Res (List D)) : Ev → Res Out := fun ρ => (m ρ).bind fun ds => if ds.length ≤ sizeLine then .ex c else .no
theorem vM {C : Ct} {fr : Bool} {x : Str} {np cpos pos : Pos} {e : Expr} {es : List Expr} {ms : Ev → Res (List D)} (hb : Br C) (ho : OwnX C.X.K x) (hm : C.X.mg x = some (.ref (CN.ad x))) (ha : RArg C false (e :: es) ms) (hc : autoParam (C.X.calm = true) autoK5._auto_1) (hg : autoParam (Gl C.X x) autoK5._auto_1) (hdb : autoParam ((x == ("__debug__" : Str)) = false) autoK2._auto_1)
    (he : autoParam (starEach (e :: es) C.X.env = (false, eval e C.X.env) :: starEach es C.X.env) autoK5._auto_1) (hpl : autoParam ((backTo cpos (starEach es C.X.env)).any (·.1) = false) autoK5._auto_1) :
    RS C fr (.Raise (some (.Call (.Name x np) (e :: es) [] cpos)) none pos) (sRa x ms) := by
  obtain ⟨t, pa, q⟩ := ha
  refine ⟨fun _ σ H => t σ H fun vs H1 => vs.length ≤ sizeLine ∧ C.XE x H1, fun pins s σ H D I h => ?_, fun Oc Ob σ H ρ E R h => q Oc Ob σ H ρ _ R (Res.post_mono (Res.post_bind h) (fun ds _ k vs H' s r => ?_) fun c z H' s => z H' (Same.frm s))⟩
  · obtain ⟨tl, N, nm, qn, bs, hd, sn, sb, ab, co, dd, k0, k1, k2, k3, k5, mN, hC, hN, hni, T⟩ := own_obj I.mod.kin ho
    refine wpAny_Raise_call_subT (C := CN.ad x) (nm := nm) (q := qn) (N := N) (bs := bs) (bm := tl) (hdct := hd) (sn := sn) (sub := sb) (ab := ab) (col := co) (dd := dd) (k0 := k0) (k1 := k1) (k2 := k2) (k3 := k3) (k5 := k5) PySem.F.excBase_ValueError (mN := mN) (T.hasType PySem.F.excBase_ValueError.hasBase) (I.ok.hd hc)
      (by rw [he]; show (false || (backTo cpos (starEach es C.X.env)).any (·.1)) = false; rw [hpl]; rfl) hni (ld_glob I hg hm ⟨rfl, ?_⟩ hdb)
    have h2 := pa cpos pins s σ H _ I h
    rw [he] at h2 ⊢
    refine Calls.evalArgs_plain (wpAny_mono h2 (fun us s2 ⟨vs, H2, I2, r, hl, z⟩ => ?_) fun _ _ y => y)
    exact ⟨rfl, by rw [← r.length]; exact hl, I2.bk _ _ hC, hN.keeps I2.bk, T.keeps I2.bk, fun h' a m => hb x H2 _ _ (exc_made I2 m) z⟩
  · by_cases hl : ds.length ≤ sizeLine
    · rw [if_pos hl] at k
      exact ⟨by rw [(VAs.rep r).length]; exact hl, k H' (Same.frm s)⟩
    · rw [if_neg hl] at k
      exact k.elim
end L2.L3
set_option maxHeartbeats 4000000
namespace PySem
section
variable {prog : Program} {w : World} {A : Around} {E : Value → Shared → Prop} {h : Heap} {g : Array GenState} {d : Drawn} {t : Nat} {os : OsState} {a C : Addr} {o : Obj} {K : PySem.W.Frag}
structure ExK (K : PySem.W.Frag) (C : Addr) : Prop where
  ga : PySem.W.findIn K (.ref C) "__getattribute__" = some (some (.builtin "BaseException.__getattribute__"))
  gn : PySem.W.findIn K (.ref C) "__getattr__" = some none
  cl : PySem.W.findIn K (.ref C) "__class__" = some (some (.builtin "object.__class__"))
  sb : PySem.W.subIn K (.ref C) (.type "BaseException") = some true
  so : PySem.W.subIn K (.ref C) (.type "object") = some true
  ci : (PySem.W.clsIn K C).isSome = true
theorem exc_own {M : Model} {nm : Str} {v : Option Value} {P : Option Value → Shared → Prop} (X : K.In h) (e : PySem.W.findIn K (.ref C) nm = some v) (q : P v ⟨h, g, d, t, os⟩) : wpAny M A (typeLookup (.ref C) nm) P E ⟨h, g, d, t, os⟩ := (PySem.W.looks_findIn X e).at q
theorem exc_under {M : Model} {T : String} {P : Bool → Shared → Prop} {x : Shared} (X : K.In x.heap) (e : PySem.W.subIn K (.ref C) (.type T) = some true) (q : P true x) : wpAny M A (isSubtype (.ref C) (.type T)) P E x := (PySem.W.looks_subIn X e).at q
variable {dd : Option Addr} {dt : Data} {sl : Array (Option Value)} {x : Shared}
theorem exc_get {R : Result → Shared → Prop} (X : K.In x.heap) (k : ExK K C) (hx : x.heap.get? a = some ⟨.ref C, dd, dt, sl⟩) (q : R (.ok (.ret (.ref C))) x) : codeAny (model prog w) A (.call (.builtin "getset_descriptor.__get__") ⟨[.builtin "object.__class__", .ref a, .ref C], []⟩) R x := by
  have ow := F.owner_object_class
  have s1 : ∀ P : Bool → Shared → Prop, ∀ B : Around, ∀ E' : Value → Shared → Prop, P true x → wpAny (model prog w) B (isSubtype (.ref C) (.type (".".intercalate ("object.__class__".cutAt '.').dropLast))) P E' x := fun P B E' z => by rw [ow]; exact exc_under X k.so z
  have ty : x.TypeIs (.builtin "object.__class__") "getset_descriptor" := F.typeOf_object_class
  have ok := F.args_gs_get (.builtin "object.__class__") (.ref a) (.ref C)
  refine codeAny_call_builtin F.slot_gs_get.plain F.entry_gs_get ?_
  refine F.slot_gs_get.check _ _ _ _ _ _ _ _ ty ok ?_
  repeat' first | assumption | ((with_reducible apply wpAny_loadPart_at hx) <;> try dsimp only) | ((with_reducible apply s1) <;> try dsimp only) | wp_step
  exact ⟨Code.quiet_builtin _ (by decide +kernel), codeAny_builtin F.entry_object_class (by repeat' first | assumption | ((with_reducible apply wpAny_loadPart_at hx) <;> try dsimp only) | wp_step)⟩
theorem exc_ga {tk : Tok} {P : Fin → Shared → Prop} (X : K.In x.heap) (k : ExK K C) (hx : x.heap.get? a = some ⟨.ref C, dd, dt, sl⟩) (q : P (.done (.ret (.ref C))) x) : wpAny (model prog w) A (Builtin.«object.__getattribute__» ⟨[.ref a, .str "__class__" tk], []⟩) P E x := by
  have g1 := F.typeOf_object_class
  have g2 := F.slot_gs_get.lookup
  have g3 := F.slot_gs_set.lookup
  have ty : x.TypeIs (.builtin "object.__class__") "getset_descriptor" := g1
  repeat' first | assumption | ((with_reducible apply wpAny_loadPart_at hx) <;> try dsimp only) | ((with_reducible apply exc_own X k.cl) <;> try dsimp only) | ((with_reducible apply exc_get X k hx) <;> try dsimp only) | wp_step
theorem exc_let {nv : Value} {M : Model} {P : Unit → Shared → Prop} (X : K.In x.heap) (k : ExK K C) (hx : x.heap.get? a = some ⟨.ref C, dd, dt, sl⟩) (q : P () x) : wpAny M A (checkBuiltinCall "BaseException.__getattribute__" ⟨[.ref a, nv], []⟩) P E x := by
  have g1 : builtinKind "BaseException.__getattribute__" = some .slot := by decide +kernel
  have g2 : splitId "BaseException.__getattribute__" = some ("BaseException", "__getattribute__") := by decide +kernel
  have g3 := F.args_bexc_ga (.ref a) nv
  unfold checkBuiltinCall isInstance
  simp only [g1, g2]
  repeat' first | assumption | ((with_reducible apply wpAny_loadPart_at hx) <;> try dsimp only) | ((with_reducible apply exc_under X k.sb) <;> try dsimp only) | wp_step
theorem exc_cls {P : Option Value → Shared → Prop} (X : K.In x.heap) (k : ExK K C) (hx : x.heap.get? a = some ⟨.ref C, dd, dt, sl⟩) (q : P (some (.ref C)) { x with toks := x.toks + 1 }) : wpAny (model prog w) A (getAttr? (.ref a) "__class__") P E x := by
  have g1 := F.attrBase_ValueError.ga.bind (.ref a)
  have g2 : (Value.builtin "BaseException.__getattribute__" == Value.builtin "object.__getattribute__") = false := by decide +kernel
  have g3 : (onTheHeap (Value.ref C) && Value.builtin "BaseException.__getattribute__" == Value.builtin "object.__getattribute__") = false := by rw [g2, Bool.and_false]
  have g4 : (false && onTheHeap (Value.builtin "BaseException.__getattribute__")) = false := rfl
  obtain ⟨h, g, d, t, os⟩ := x
  unfold getAttr? getAttrBy?
  repeat' first | assumption | ((with_reducible apply wpAny_loadPart_at hx) <;> try dsimp only) | ((with_reducible apply exc_own X k.ga) <;> try dsimp only) | ((with_reducible apply exc_own X k.gn) <;> try dsimp only) | wp_step
  have X' : K.In (Shared.mk h g d (t + 1) os).heap := X
  have hx' : (Shared.mk h g d (t + 1) os).heap.get? a = some ⟨.ref C, dd, dt, sl⟩ := hx
  refine codeAny_call_builtin F.attrBase_ValueError.ga.plain F.entry_bexc_ga (exc_let X' k hx' (exc_ga X' k hx' ?_))
  repeat' first | assumption | ((with_reducible apply hx') <;> try dsimp only) | wp_step
end
theorem kitx_exc {K : PySem.W.Frag} {a C : Addr} (k : ExK K C) : PySem.W.KitX K (.ref a) (.ref C) (fun h => ∃ o, h.get? a = some o ∧ o.cls = .ref C) where
  ty := fun M h _ ⟨o, h1, h2⟩ => h2 ▸ (PySem.W.Looks.ld h1).andThen .now
  it := fun M h X _ => by
    have z := k.ci
    unfold PySem.W.clsIn at z
    split at z
    · rename_i ho
      intro A' Q' E' s' kk q
      unfold isType loadHead
      exact wpAny_bind (wpAny_loadPart (kk _ _ (X _ _ ho)) (wpAny_pure q))
    · cases z
  ne := fun h tp dd its n sl X htp => beq_eq_false_iff_ne.mpr fun q => by
    cases q
    have z := k.ci
    unfold PySem.W.clsIn at z
    split at z
    · rename_i ho
      cases (X _ _ ho).symm.trans htp
    · cases z
  ca := fun {_ _ _ _ _ s} X p q => by
    obtain ⟨⟨c, dd, dt, sl⟩, h1, h2⟩ := p
    cases h2
    exact exc_cls X k h1 q
theorem exc_match {K : PySem.W.Frag} {M : Model} {A : Around} {E : Value → Shared → Prop} {Q : Bool → Shared → Prop} {s : Shared} {a c x : Addr} {o : Obj} (X : K.In s.heap) (he : s.heap.get? a = some o) (hc : o.cls = .ref c) (hk : PySem.W.kitCls K (.ref c) (.ref x) = some true)
    (hb : PySem.W.subIn K (.ref x) (.type "BaseException") = some true) (hq : Q true s) : wpAny M A (excMatches (.ref a) (.ref x)) Q E s := by
  obtain ⟨hh, g, d, t, os⟩ := s
  obtain ⟨L1, L2, L3⟩ := PySem.W.kit_cls (M := M) X hk
  have L4 := PySem.W.looks_subIn (M := M) X hb
  have f := tc_notTuple
  unfold excMatches isExcClass
  repeat (first | (with_reducible refine wpAny_loadPart_at he ?_; rw [hc]) | (with_reducible refine L1.at ?_) | (with_reducible refine L2.at ?_) | (with_reducible refine L3.at ?_) | (with_reducible refine L4.at ?_) | wp_step)
  exact hq
end PySem
set_option maxHeartbeats 4000000
namespace L2.L3
open PySem PySem.Spec PyProof.Rows
variable [CN]
theorem fl_on {X : Cx} {pins : List (Addr × Obj)} {σ : St} {H H1 : Hp} {s s1 : Shared} {a : Addr} {cls : Value} {B : Heap} {a0 : Value} {h' : Heap} (I1 : Inv X pins σ H1 s1) (I : Inv X pins σ H s) (un : Un (frs X.stack) [] H1 H s1.heap s.heap) (f : Fl X.stack s1.heap H a cls B a0 s.heap)
    (k1 : B.StaysIn h') (k2 : h'.FunFrames B X.stack) (k4 : s.heap.UpToSlots h') : Inv X pins σ H { s with heap := h' } ∧ Un (frs X.stack) [] H1 H s1.heap h' ∧ ∀ b o, h'.get? b = some o → b ∉ frs X.stack → (s1.heap.get? b ≠ none ∨ H b ≠ none) → B.get? b = some o := by
  have kp : ∀ b o, s.heap.get? b = some o → b ∉ frs X.stack → (s1.heap.get? b ≠ none ∨ H b ≠ none) → h'.get? b = some o := fun b o q n z => k1 b o (f.cov b o q n z)
  have un' : Un (frs X.stack) [] H1 H s1.heap h' := by
    refine ⟨fun b o q n hb hx => kp b o (un.keep b o q n hb hx) hb (.inl (some_ne q)), fun b o q n hb hx => ?_, un.free, fun b o q hx => ?_, un.tups, un.frzs, un.tbls⟩
    · obtain ⟨sl, e⟩ := un.slot b o q n hb hx
      obtain ⟨_, o', e', nf⟩ := f.frm.mem (b := b) hb
      rw [e] at e'
      cases e'
      obtain ⟨sl', e2⟩ := k4 b _ e nf
      exact ⟨sl', e2⟩
    · by_cases hb : b ∈ frs X.stack
      · obtain ⟨_, o', e', _⟩ := k2.mem (b := b) hb
        exact ⟨o', e'⟩
      · obtain ⟨o', e'⟩ := un.there b o q hx
        exact ⟨o', kp b o' e' hb (.inl (some_ne q))⟩
  have hok : HOk X.prog X.w H h' := fun b o q => by
    refine (I.hok b o q).stay (fun b' u hb' e => ?_) (fun _ z => z) fun _ _ z => z
    have n : H b' ≠ none := by
      rcases hb' with rfl | hb'
      · exact some_ne q
      · exact some_ne hb'
    exact kp b' u e (fun z => n (I.stkFree b' z)) (.inr n)
  refine ⟨I1.call' (s' := { s with heap := h' }) (I.os.trans I1.os.symm) un' hok I.bare (fun b z => by cases z), un', fun b o q n z => ?_⟩
  obtain ⟨o2, q2⟩ : ∃ o2, s.heap.get? b = some o2 := by
    rcases z with z | z
    · obtain ⟨o', q'⟩ := ne_some z
      exact un.there b o' q' (by simp)
    · exact hok_there I.hok z
  have hB := f.cov b o2 q2 n z
  have q3 := k1 b o2 hB
  rw [q] at q3
  cases q3
  exact hB
theorem exc_lands {X : Cx} {c : Str} {H : Hp} {e : Value} {s : Shared} {E2 : Value → Shared → Prop} {Q : Shared → Prop} (x : ExcAt X c H e s) (hst : X.stack = X.env :: X.outer) (hfr : X.env.frame = some X.env.locals)
    (hQ : ∀ (pins : List (Addr × Obj)) (σ : St) (s1 : Shared) (H1 : Hp) (a : Addr) (B : Heap) (a0 : Value) (s' : Shared), Inv X pins σ H1 s1 → Inv X pins σ H s' → Un (frs X.stack) [] H1 H s1.heap s'.heap → e = .ref a → s1.heap.get? a = none → H a = none → Fl X.stack s1.heap H a (.ref (CN.ad c)) B a0 s'.heap → s'.heap.TracedW B a (.ref (CN.ad c)) a0 → Q s') :
    wpAny (model X.prog X.w) X.A (noteFrame e X.env) (fun _ s₂ => wpAny (model X.prog X.w) X.A (setFlight e none) (fun _ s₃ => Q s₃) E2 s₂) E2 s := by
  obtain ⟨pins, σ, s1, H1, a, B, a0, I1, I, un, rfl, n1, n2, f⟩ := x
  have hfrm : s.heap.FunFrames B (X.env :: X.outer) := by rw [← hst]; exact f.frm
  have hA : X.A.frames = some (X.env :: X.outer) := by rw [← hst]; exact I.ok.frames
  have key : ∀ h', Heap.NotedW B (X.env :: X.outer) a (.ref (CN.ad c)) a0 (rawInt X.env.locals) s.heap h' → wpAny (model X.prog X.w) X.A (setFlight (.ref a) none) (fun _ s₃ => Q s₃) E2 { s with heap := h' } := by
    rintro h' ⟨k1, k2, k3, k4⟩
    rw [← hst] at k2
    refine wpAny_landsW (s := { s with heap := h' }) (base := B) (l := X.stack) (L := X.env.locals) (cls := .ref (CN.ad c)) (a0 := a0) ⟨k1, f.newB, k2, k3⟩ fun h2 fly ups => ?_
    have ups2 : s.heap.UpToSlots h2 := Heap.UpToSlots.trans k4 ups
    obtain ⟨J, un2, cov⟩ := fl_on I1 I un f fly.1 fly.2.2.1 ups2
    exact hQ pins σ s1 H1 a B a0 _ I1 J un2 rfl n1 n2 ⟨fly.1, f.newB, fly.2.2.1, .inl fly.2.2.2, cov⟩ fly.2.2.2
  rcases f.raw with t | ⟨oe, vs, he, hc, hd, h1, h0⟩
  · exact wpAny_noteFrame_onW hA hfrm hfr t f.stays f.newB key
  · rw [← hc] at key
    unfold noteFrame
    simp only [hfr]
    refine wpAny_bind (wpAny_field he hd h1 ?_)
    rw [if_neg (by decide)]
    exact wpAny_entryW hA hfrm hfr he f.stays f.newB hd (Array.getElem?_eq_some_iff.mp h1).1 h0 key
abbrev inTry (X : Cx) (pn : List (Addr × Obj)) (xe : Value → Shared → Prop) : Cx := { X with pn := pn, xe := xe }
abbrev inSuite (X : Cx) (e : Value) : Cx := { X with A := X.A.mark (some e), calm := false, xe := fun _ _ => False }
theorem Inv.toTry {X : Cx} {pins : List (Addr × Obj)} {σ : St} {H : Hp} {s : Shared} (I : Inv X pins σ H s) (xe : Value → Shared → Prop) : Inv (inTry X (X.pn ++ pins) xe) [] σ H s :=
  ⟨⟨I.ok.mod, I.ok.kind, I.ok.glob, I.ok.blt, I.ok.above, I.ok.inj, I.ok.has, I.ok.cab, I.ok.hd, I.ok.frames, I.ok.stk, I.ok.exf, I.ok.bs, I.ok.bsz, I.ok.noex, I.ok.exfs, I.ok.funs, I.ok.frf⟩, I.os, I.bare, I.base, I.loc, I.cell, I.free, I.freeC, fun p hp => I.pin p (by simpa using hp), I.hok, I.len⟩
theorem Inv.ofTry {X : Cx} {pins pins' : List (Addr × Obj)} {σ : St} {H : Hp} {s : Shared} {xe : Value → Shared → Prop} (I : Inv (inTry X (X.pn ++ pins) xe) pins' σ H s) : Inv X pins σ H s :=
  ⟨⟨I.ok.mod, I.ok.kind, I.ok.glob, I.ok.blt, I.ok.above, I.ok.inj, I.ok.has, I.ok.cab, I.ok.hd, I.ok.frames, I.ok.stk, I.ok.exf, I.ok.bs, I.ok.bsz, I.ok.noex, I.ok.exfs, I.ok.funs, I.ok.frf⟩, I.os, I.bare, I.base, I.loc, I.cell, I.free, I.freeC, fun p hp => I.pin p (List.mem_append_left _ hp), I.hok, I.len⟩
theorem Inv.toSuite {X : Cx} {pins : List (Addr × Obj)} {σ : St} {H : Hp} {s : Shared} (I : Inv X pins σ H s) (e : Value) : Inv (inSuite X e) pins σ H s :=
  ⟨⟨I.ok.mod, I.ok.kind, I.ok.glob, I.ok.blt, I.ok.above, I.ok.inj, I.ok.has, I.ok.cab, (fun z => nomatch z), I.ok.frames, I.ok.stk, I.ok.exf, I.ok.bs, I.ok.bsz, I.ok.noex, I.ok.exfs, I.ok.funs, I.ok.frf⟩, I.os, I.bare, I.base, I.loc, I.cell, I.free, I.freeC, I.pin, I.hok, I.len⟩
theorem Inv.ofSuite {X : Cx} {pins : List (Addr × Obj)} {σ : St} {H : Hp} {s : Shared} {e : Value} (ok : X.Ok) (I : Inv (inSuite X e) pins σ H s) : Inv X pins σ H s :=
  ⟨ok, I.os, I.bare, I.base, I.loc, I.cell, I.free, I.freeC, I.pin, I.hok, I.len⟩
theorem SP.ofTry {X : Cx} {pins pins' : List (Addr × Obj)} {xe : Value → Shared → Prop} {D : Ends} {f : Flow} {s' : Shared} (h : SP (inTry X (X.pn ++ pins) xe) pins' D f s') : SP X pins D f s' := by
  cases f with
  | next => obtain ⟨σ', H', I, q⟩ := h; exact ⟨σ', H', Inv.ofTry I, q⟩
  | brk => obtain ⟨σ', H', I, q⟩ := h; exact ⟨σ', H', Inv.ofTry I, q⟩
  | cont => obtain ⟨σ', H', I, q⟩ := h; exact ⟨σ', H', Inv.ofTry I, q⟩
  | ret u => obtain ⟨v, σ', H', I, r, q⟩ := h; exact ⟨v, σ', H', Inv.ofTry I, r, q⟩
theorem Rel.unset {Oc : Wd} {Ob : Addr → Prop} {om ln : List Nat} {σ : St} {H : Hp} {ρ : Ev} (R : Rel Oc Ob om ln σ H ρ) (j : Nat) : Rel Oc Ob om ln (σ.set j none) H (ρ.set j none) := by
  have st : ∀ i v, i ≠ j → σ[i]? = some v → (σ.set j none)[i]? = some v := fun i v n e => by rw [List.getElem?_set_ne (Ne.symm n)]; exact e
  refine ⟨by rw [List.length_set, List.length_set]; exact R.len, fun i d e h1 h2 => ?_, fun i d e h1 => ?_, fun i d e h1 h2 => ?_, fun i k di dk a ei ek hi hk qi qk => ?_, R.oh, R.ap⟩
  · obtain ⟨n, e⟩ := set_none e
    obtain ⟨v, q, r⟩ := R.val i d e h1 h2
    exact ⟨v, st i _ n q, r⟩
  · obtain ⟨n, e⟩ := set_none e
    obtain ⟨v, q, r⟩ := R.own i d e h1
    exact ⟨v, st i _ n q, r⟩
  · obtain ⟨n, e⟩ := set_none e
    obtain ⟨v, q, r⟩ := R.lnt i d e h1 h2
    exact ⟨v, st i _ n q, r⟩
  · obtain ⟨n1, e1⟩ := set_none ei
    obtain ⟨n2, e2⟩ := set_none ek
    rw [List.getElem?_set_ne (Ne.symm n1)] at qi
    rw [List.getElem?_set_ne (Ne.symm n2)] at qk
    exact R.inj i k di dk a e1 e2 hi hk qi qk
def unn (j : Nat) : Out → Res Out
  | .nx ρ => .ok (.nx (ρ.set j none))
  | .rt d => .ok (.rt d)
def sTry (j : Nat) (caught : List Str) (mb ms : Ev → Res Out) : Ev → Res Out := fun ρ => match mb ρ with
  | .ok o => .ok o
  | .no => .no
  | .ex c => if caught.contains c then (noEx (ms ((List.replicate ρ.length none).set j (some (excD c))))).bind (unn j) else .no
theorem noEx_post {α : Type} {r : Res α} {Q : α → Prop} {E : Str → Prop} (h : (noEx r).post Q E) : r.post Q (fun _ => False) := by
  cases r with
  | ok a => exact h
  | ex c => exact h.elim
  | no => exact h
theorem rs_try {C : Ct} {fr : Bool} {x n : Str} {np hpos pos : Pos} {body suite : List Stmt} {b₀ : Stmt} {mb ms : Ev → Res Out} (j : Nat) (caught : List Str) (nd : C.X.N.Nodup)
    (hbody : ∀ (pn : List (Addr × Obj)) (xe : Value → Shared → Prop) (XE : Str → Hp → Prop), Br ⟨inTry C.X pn xe, XE, C.om, C.ln⟩ → RSs ⟨inTry C.X pn xe, XE, C.om, C.ln⟩ fr body mb)
    (hsuite : ∀ e : Value, RSs ⟨inSuite C.X e, fun _ _ => False, C.om, C.ln⟩ fr (b₀ :: suite) ms)
    (hcx : ∀ c, caught.contains c = true → PySem.W.kitCls C.X.K (.ref (CN.ad c)) (.ref (CN.ad x)) = some true) (hcb : PySem.W.subIn C.X.K (.ref (CN.ad x)) (.type "BaseException") = some true) (hm : C.X.mg x = some (.ref (CN.ad x)))
    (hst : autoParam (C.X.stack = C.X.env :: C.X.outer) autoK5._auto_1) (hfr : autoParam (C.X.env.frame = some C.X.env.locals) autoK5._auto_1) (hex : autoParam (C.X.ex = []) autoK5._auto_1) (hj : autoParam (C.X.N[j]? = some n) autoK5._auto_1) (oj : autoParam (C.om.contains j = false) autoK5._auto_1) (lj : autoParam (C.ln.contains j = false) autoK5._auto_1) (hk : autoParam (C.X.env.scope.names.lookup n = some .local) autoK5._auto_1) (hg : autoParam (Gl C.X x) autoK5._auto_1) (hdb : autoParam ((x == ("__debug__" : Str)) = false) autoK2._auto_1) :
    RS C fr (.Try body [.ExceptHandler (some (.Name x np)) (some n) (b₀ :: suite) hpos] [] [] pos) (sTry j caught mb ms) := by
  refine ⟨fun D σ H => ∀ pins s, Inv C.X pins σ H s → wpAny (model C.X.prog C.X.w) C.X.A (exec (.Try body [.ExceptHandler (some (.Name x np)) (some n) (b₀ :: suite) hpos] [] [] pos) C.X.env) (SP C.X pins D) C.X.xe s, fun pins s σ H D I h => h pins s I, fun Oc Ob σ H ρ E R hp pins s I => ?_⟩
  refine wpAny_Try_except ?_
  generalize hxe : (fun (e : Value) (s₁ : Shared) => wpAny (model C.X.prog C.X.w) C.X.A (noteFrame e C.X.env) (fun _ s₂ => wpAny (model C.X.prog C.X.w) C.X.A (setFlight e none) (fun _ s₃ => wpAny (model C.X.prog C.X.w) C.X.A (handleBy e C.X.env [.ExceptHandler (some (.Name x np)) (some n) (b₀ :: suite) hpos]) (SP C.X pins E) C.X.xe s₃) C.X.xe s₂) C.X.xe s₁) = xe'
  have hln : σ.length = ρ.length := R.len
  have br : Br ⟨inTry C.X (C.X.pn ++ pins) xe', fun c H' => Frm Ob H H' ∧ caught.contains c = true ∧ SPost C fr Oc (fun _ => False) H' E ((noEx (ms ((List.replicate ρ.length none).set j (some (excD c))))).bind (unn j)), C.om, C.ln⟩ := by
    intro c H' e s' xx ⟨f1, hc, hsp⟩
    subst hxe
    refine exc_lands (X := inTry C.X (C.X.pn ++ pins) _) xx hst hfr fun pins' σ' s1 H1 a B a0 s3 J1 J un ea n1 n2 fl tr => ?_
    subst ea
    have K3 : Inv C.X pins σ' H' s3 := Inv.ofTry J
    have Km := Inv.toSuite K3 (.ref a)
    refine wpAny_handleBy_cons (codeAny_handlers_test ?_) (by intro q; cases q)
    refine ld_glob (X := inSuite C.X (.ref a)) Km hg hm ?_ hdb
    obtain ⟨oe, _, _, _, _, he, ⟨hcl, _⟩, _⟩ := id tr
    refine exc_match K3.kIn he hcl (hcx c hc) hcb ?_
    refine codeAny_handlers_suite_as ?_
    refine lands_againW (base := B) (l := C.X.stack) (cls := .ref (CN.ad c)) (a0 := a0) ⟨fl.stays, fl.newB, fl.frm, tr⟩ fun h4 fly ups => ?_
    obtain ⟨I4, _, _⟩ := fl_on J1 J un fl fly.1 fly.2.2.1 ups
    have K4 : Inv C.X pins σ' H' { s3 with heap := h4 } := Inv.ofTry I4
    have L1 : Inv C.X pins σ' H1 s1 := Inv.ofTry J1
    obtain ⟨oe4, _, _, _, _, he4, ⟨hcl4, _⟩, _⟩ := id fly.2.2.2
    have hne : ∀ b o, s1.heap.get? b = some o → b ≠ a := fun b o q z => by subst z; rw [n1] at q; cases q
    have T4 : Inv C.X pins σ' (upd H' a (.ext (excP a c))) { s3 with heap := h4 } := by
      refine K4.track n2 ?_ ?_ (fun y z q => ?_) (fun p hp => ?_) ⟨⟨oe4, he4, hcl4⟩, ⟨oe4, he4⟩, fun h1 h2 ⟨o, q1, q2⟩ kk => ⟨o, kk o q1, q2⟩⟩
      · cases q : C.X.s₀.heap.get? a with
        | none => rfl
        | some o =>
          obtain ⟨o', q'⟩ := L1.base.there a o q (by rw [hex]; simp)
          rw [n1] at q'
          cases q'
      · obtain ⟨m, ⟨o, _, _, q, _⟩, _⟩ := L1.loc
        exact Ne.symm (hne _ o q)
      · obtain ⟨v, o, q', _⟩ := L1.cell y z q
        exact hne _ o q'
      · exact hne _ _ (L1.pin p hp).1
    refine store_ok (X := inSuite C.X (.ref a)) (v := .ref a) (Inv.toSuite T4 (.ref a)) nd hj (.inl hk) rfl (fun s5 I5 => ?_) (.inr hk)
    obtain ⟨ts, ps, qs⟩ := hsuite (.ref a)
    have hOc : ∀ b, Oc b → H' b ≠ none := fun b z => by
      obtain ⟨o, q⟩ := ne_some (R.oh b (.inl z))
      exact some_ne (f1 b o q fun y => R.ap b y z)
    have R5 : Rel Oc (fun _ => False) C.om C.ln (σ'.set j (some (.ref a))) (upd H' a (.ext (excP a c))) ((List.replicate ρ.length none).set j (some (excD c))) := by
      have one : ∀ i d, ((List.replicate ρ.length (none : Option D)).set j (some (excD c)))[i]? = some (some d) → i = j ∧ d = excD c := fun i d e => by
        rcases set_get e with ⟨z, y⟩ | ⟨z, y⟩
        · exact ⟨z.symm ▸ rfl, y.symm ▸ rfl⟩
        · rw [List.getElem?_replicate] at y
          split at y <;> cases y
      have hls : σ'.length = ρ.length := by rw [K3.len, ← I.len, hln]
      refine ⟨by rw [List.length_set, List.length_set, List.length_replicate, hls], fun i d e h1 h2 => ?_, fun i d e h1 => ?_, fun i d e h1 h2 => ?_, fun i k di dk b ei ek hi hk' _ _ => ?_, fun b z => ?_, fun b z => z.elim⟩
      · have hi := set_lt e
        obtain ⟨rfl, rfl⟩ := one i d e
        refine ⟨.ref a, by rw [List.getElem?_set_self (by rw [hls]; simpa using hi)], .exc upd_same fun z => ?_⟩
        exact hOc a (z.elim id fun z => z.elim) n2
      · obtain ⟨rfl, _⟩ := one i d e
        exact absurd h1 (not_mem_of oj)
      · obtain ⟨rfl, _⟩ := one i d e
        exact absurd h2 (not_mem_of lj)
      · obtain ⟨rfl, _⟩ := one i di ei
        exact absurd hi (not_mem_of oj)
      · exact Same.ne (Same.new n2) (hOc b (z.elim id fun z => z.elim))
    have sp5 := SPost.same (Same.new n2 (o := .ext (excP a c))) hsp
    refine wpAny_mono (ps pins s5 _ _ { nx := fun σ6 H6 => E.nx (σ6.set j none) H6, rt := E.rt, bk := fun σ6 H6 => E.bk (σ6.set j none) H6, ct := fun σ6 H6 => E.ct (σ6.set j none) H6 } I5 (qs Oc (fun _ => False) _ _ _ _ R5 ?_)) (fun f s6 h6 => ?_) fun _ _ z => z.elim
    · refine Res.post_mono (noEx_post (Res.post_bind sp5)) (fun o _ k => ?_) fun _ z => z.elim
      cases o with
      | nx ρ' => exact fun σ6 H6 Ob6 R6 f6 s6 => k (σ6.set j none) H6 Ob6 (R6.unset j) f6 s6
      | rt d => exact k
    · have go : ∀ {σ6 : St} {H6 : Hp}, Inv (inSuite C.X (.ref a)) pins σ6 H6 s6 → (∀ s8, Inv C.X pins (σ6.set j none) H6 s8 → SP C.X pins E f s8) → wpAny (model C.X.prog C.X.w) C.X.A (do bindName C.X.env n .none; unbindBehindTheSuite C.X.env n hpos) (fun _ s₃ => SP C.X pins E f s₃) C.X.xe s6 := fun {σ6 H6} I6 kk => by
        have I6' := Inv.ofSuite K3.ok I6
        refine wpAny_bind (wpAny_bindName (store_ok (v := .non) I6' nd hj (.inl hk) rfl (fun s7 I7 => ?_) (.inr hk)))
        have hlt : j < σ6.length := by rw [I6'.len]; exact (List.getElem?_eq_some_iff.mp hj).1
        unfold unbindBehindTheSuite
        refine wpAny_onRaise (unbind_ok I7 nd hj hk (List.getElem?_set_self hlt) fun s8 I8 => ?_)
        rw [List.set_set] at I8
        exact kk s8 I8
      cases f with
      | next => obtain ⟨σ6, H6, I6, q6⟩ := h6; exact go I6 fun s8 I8 => ⟨_, _, I8, q6⟩
      | brk => obtain ⟨σ6, H6, I6, q6⟩ := h6; exact go I6 fun s8 I8 => ⟨_, _, I8, q6⟩
      | cont => obtain ⟨σ6, H6, I6, q6⟩ := h6; exact go I6 fun s8 I8 => ⟨_, _, I8, q6⟩
      | ret u => obtain ⟨v, σ6, H6, I6, r6, q6⟩ := h6; exact go I6 fun s8 I8 => ⟨v, _, _, I8, r6, q6⟩
  obtain ⟨tb, pb, qb⟩ := hbody _ _ _ br
  refine wpAny_mono (pb [] s σ H E (Inv.toTry I _) (qb Oc Ob σ H ρ E R ?_)) (fun f s₁ hs => ?_) fun e s₁ z => z
  · unfold sTry at hp
    cases em : mb ρ with
    | ok o => rw [em] at hp; exact hp
    | no => rw [em] at hp; exact hp
    | ex c =>
      rw [em] at hp
      intro H' f1
      by_cases hc : caught.contains c = true
      · simp only [hc, if_true] at hp
        exact ⟨f1, hc, SPost.step f1 (fun b z => z.elim) hp⟩
      · simp only [hc] at hp
        exact hp.elim
  · cases f with
    | next => exact wpAny_execs_nil (SP.ofTry hs)
    | brk => exact SP.ofTry (f := .brk) hs
    | cont => exact SP.ofTry (f := .cont) hs
    | ret u => exact SP.ofTry (f := .ret u) hs
def isiX (cls sup : List Str) : D → Option D
  | .none => some (.bool false)
  | .dict [(.list [], .str c)] => if cls.contains c then some (.bool (sup.contains c)) else none
  | _ => none
def IsK (K : PySem.W.Frag) (cls sup : List Str) (u : Value) : Prop :=
  PySem.W.kitOne K (.type "NoneType") u = some false ∧ ∀ c, cls.contains c = true → ExK K (CN.ad c) ∧ PySem.W.kitOne K (.ref (CN.ad c)) u = some (sup.contains c)
def TyX (K : PySem.W.Frag) (H : Hp) (x : V) (t : Value) : Prop :=
  (x = .non ∧ t = .type "NoneType") ∨ ∃ a c, x = .ref a ∧ H a = some (.ext (excP a c)) ∧ t = .ref (CN.ad c) ∧ ExK K (CN.ad c)
theorem call_isiX {X : Cx} : CallR X (.builtin "isinstance") (fun vs H Q => ∃ x c cv t b, vs = [x, c] ∧ clsV c = some cv ∧ TyX X.K H x t ∧ PySem.W.kitOne X.K t cv = some b ∧ Q (.bl b) H) := by
  intro pins s σ H xs us Q I r h
  obtain ⟨x, c, cv, t, b, rfl, ec, ty, k, q⟩ := h
  obtain ⟨u, w', rfl, ru, rw'⟩ := vals2 r
  obtain rfl := clsV_rel rw' ec
  rcases ty with ⟨rfl, rfl⟩ | ⟨a, c', rfl, ha, rfl, ek⟩
  · cases (show u = Value.none from ru)
    exact PySem.W.kia_one PySem.W.kitx_none I.kIn True.intro k (fun z => nomatch z) fun tk => ⟨.bl b, H, I.tok tk, rfl, q⟩
  · cases ru
    obtain ⟨p, _⟩ := I.hok a _ ha
    exact PySem.W.kia_one (kitx_exc ek) I.kIn p k (fun z => nomatch z) fun tk => ⟨.bl b, H, I.tok tk, rfl, q⟩
theorem call_isiT {X : Cx} : CallR X (.builtin "isinstance") (fun vs H Q => ∃ x a xs t b, vs = [x, .ref a] ∧ H a = some (.tup xs) ∧ TyX X.K H x t ∧ (∀ us, Vals xs us → PySem.W.kitAny X.K t us = some b) ∧ Q (.bl b) H) := by
  intro pins s σ H xs us Q I r h
  obtain ⟨x, a, ys, t, b, rfl, ha, ty, k, q⟩ := h
  obtain ⟨u, w', rfl, ru, rw'⟩ := vals2 r
  cases rw'
  obtain ⟨_, its, ri, o, e1, e2, ⟨n, e3⟩, _⟩ := I.hok a _ ha
  obtain ⟨oc, od, odt, osl⟩ := o
  simp only at e2 e3
  subst e2 e3
  rcases ty with ⟨rfl, rfl⟩ | ⟨a', c', rfl, ha', rfl, ek⟩
  · cases (show u = Value.none from ru)
    exact PySem.W.kia_tup PySem.W.kitx_none I.kIn True.intro e1 (k its ri) (fun z => nomatch z) fun tk => ⟨.bl b, H, I.tok tk, rfl, q⟩
  · cases ru
    obtain ⟨p, _⟩ := I.hok a' _ ha'
    exact PySem.W.kia_tup (kitx_exc ek) I.kIn p e1 (k its ri) (fun z => nomatch z) fun tk => ⟨.bl b, H, I.tok tk, rfl, q⟩
theorem isX_ty {K : PySem.W.Frag} {cls sup : List Str} {Oc : Wd} {Ob : Addr → Prop} {H : Hp} {v : V} {d r : D} (h : VA Oc Ob H v d) (e : isiX cls sup d = some r) (hk : ∀ c, cls.contains c = true → ExK K (CN.ad c)) :
    ∃ t, TyX K H v t ∧ ((t = .type "NoneType" ∧ r = .bool false) ∨ ∃ c, cls.contains c = true ∧ t = .ref (CN.ad c) ∧ r = .bool (sup.contains c)) := by
  rcases h with h | ⟨a, ys, ds, rfl, rfl, e3, e5⟩
  · cases h with
    | non => cases e; exact ⟨_, .inl ⟨rfl, rfl⟩, .inl ⟨rfl, rfl⟩⟩
    | @exc a c q n =>
      unfold isiX at e
      by_cases hc : cls.contains c = true
      · simp only [hc, if_true] at e
        cases e
        exact ⟨_, .inr ⟨a, c, rfl, q, rfl, hk c hc⟩, .inr ⟨c, hc, rfl, rfl⟩⟩
      · simp only [hc] at e
        cases e
    | _ => cases e
  · cases e
section
variable {C : Ct} {e : Expr} {x : Str} {p p2 p3 pos : Pos} {md : Md} {me : Ev → Res D}
theorem re_isiX (cls sup : List Str) (hk : IsK C.X.K cls sup (.ref (CN.ad x))) (hm : C.X.mg "isinstance" = none) (hx : C.X.mg x = some (.ref (CN.ad x))) (he : RE C md e me) (hg : autoParam (Gl C.X "isinstance") autoK5._auto_1) (hgx : autoParam (Gl C.X x) autoK5._auto_1) (hdb : autoParam ((x == ("__debug__" : Str)) = false) autoK2._auto_1)
    (hs1 : autoParam (starEach [e, .Name x p2] C.X.env = (false, eval e C.X.env) :: starEach [.Name x p2] C.X.env) autoK5._auto_1) (hs2 : autoParam (starEach [.Name x p2] C.X.env = (false, eval (.Name x p2) C.X.env) :: starEach [] C.X.env) autoK5._auto_1) (hpl : autoParam ((backTo pos (starEach [.Name x p2] C.X.env)).any (·.1) = false) autoK5._auto_1) :
    RE C .cl (.Call (.Name "isinstance" p) [e, .Name x p2] [] pos) (e1 (isiX cls sup) me) := by
  obtain ⟨t, pe, q⟩ := he
  refine ⟨_, pe_callB call_isiX hg hm PyProof.Rows.boot_isinstance (pa_cons pe (pa_cons (pe_glob (v := .ref (CN.ad x)) hgx hx rfl hdb) pa_nil hs2) hs1) (by decide) (by decide) hs1 hpl, fun Oc Ob σ H ρ Q R h => q Oc Ob σ H ρ _ R (Res.post_mono (Res.post_bind h) (fun d _ kk v H' s r => ?_) fun _ z => z)⟩
  obtain ⟨dd, ed, kk⟩ := Res.post_lft kk
  obtain ⟨tt, ty, hh⟩ := isX_ty (r.va R.oh) ed fun c hc => (hk.2 c hc).1
  rcases hh with ⟨rfl, rfl⟩ | ⟨c, hc, rfl, rfl⟩
  · exact ⟨v, .ref (CN.ad x), .ref (CN.ad x), _, _, rfl, rfl, ty, hk.1, kk _ H' s (Rep.bl _)⟩
  · exact ⟨v, .ref (CN.ad x), .ref (CN.ad x), _, _, rfl, rfl, ty, (hk.2 c hc).2, kk _ H' s (Rep.bl _)⟩
theorem re_isiXB {T : String} (cls sup : List Str) (hk : IsK C.X.K cls sup (.type T)) (hm : C.X.mg "isinstance" = none) (hx : C.X.mg x = none) (hv : bootBuiltins x = some (.type T)) (he : RE C md e me) (hg : autoParam (Gl C.X "isinstance") autoK5._auto_1) (hgx : autoParam (Gl C.X x) autoK5._auto_1) (hn : autoParam (x ≠ "__name__") autoK2._auto_1) (hdb : autoParam ((x == ("__debug__" : Str)) = false) autoK2._auto_1)
    (hs1 : autoParam (starEach [e, .Name x p2] C.X.env = (false, eval e C.X.env) :: starEach [.Name x p2] C.X.env) autoK5._auto_1) (hs2 : autoParam (starEach [.Name x p2] C.X.env = (false, eval (.Name x p2) C.X.env) :: starEach [] C.X.env) autoK5._auto_1) (hpl : autoParam ((backTo pos (starEach [.Name x p2] C.X.env)).any (·.1) = false) autoK5._auto_1) :
    RE C .cl (.Call (.Name "isinstance" p) [e, .Name x p2] [] pos) (e1 (isiX cls sup) me) := by
  obtain ⟨t, pe, q⟩ := he
  refine ⟨_, pe_callB call_isiX hg hm PyProof.Rows.boot_isinstance (pa_cons pe (pa_cons (pe_bltn (v := .ty T) hgx hx hv rfl hn hdb) pa_nil hs2) hs1) (by decide) (by decide) hs1 hpl, fun Oc Ob σ H ρ Q R h => q Oc Ob σ H ρ _ R (Res.post_mono (Res.post_bind h) (fun d _ kk v H' s r => ?_) fun _ z => z)⟩
  obtain ⟨dd, ed, kk⟩ := Res.post_lft kk
  obtain ⟨tt, ty, hh⟩ := isX_ty (r.va R.oh) ed fun c hc => (hk.2 c hc).1
  rcases hh with ⟨rfl, rfl⟩ | ⟨c, hc, rfl, rfl⟩
  · exact ⟨v, .ty T, .type T, _, _, rfl, rfl, ty, hk.1, kk _ H' s (Rep.bl _)⟩
  · exact ⟨v, .ty T, .type T, _, _, rfl, rfl, ty, (hk.2 c hc).2, kk _ H' s (Rep.bl _)⟩
end
def RN (X : Cx) (es : List Expr) (xs : List Str) : Prop := PA X es (fun σ H Q => Q (xs.map fun x => V.ref (CN.ad x)) H)
theorem rn_nil {X : Cx} : RN X [] [] := pa_nil
theorem rn_cons {X : Cx} {x : Str} {xs : List Str} {es : List Expr} {pos : Pos} (hm : X.mg x = some (.ref (CN.ad x))) (h : RN X es xs) (hg : autoParam (Gl X x) autoK5._auto_1) (hdb : autoParam ((x == ("__debug__" : Str)) = false) autoK2._auto_1)
    (hs : autoParam (starEach (.Name x pos :: es) X.env = (false, eval (.Name x pos) X.env) :: starEach es X.env) autoK5._auto_1) : RN X (.Name x pos :: es) (x :: xs) :=
  pa_cons (pe_glob (v := .ref (CN.ad x)) hg hm rfl hdb) h hs
theorem vals_refs : ∀ {as : List Addr} {us : List Value}, Vals (as.map V.ref) us → us = as.map Value.ref
  | [], _, h => by cases h; rfl
  | a :: as, _, h => by
    cases h with
    | cons r t => cases r; rw [vals_refs t]; rfl
theorem kit_any {K : PySem.W.Frag} {t : Value} {c : Str} : ∀ {xs : List Str}, (∀ x ∈ xs, PySem.W.kitOne K t (.ref (CN.ad x)) = some ([x].contains c)) → PySem.W.kitAny K t (xs.map fun x => Value.ref (CN.ad x)) = some (xs.contains c)
  | [], _ => rfl
  | x :: xs, h => by
    have h1 := h x List.mem_cons_self
    have ih := kit_any (xs := xs) fun y hy => h y (List.mem_cons_of_mem _ hy)
    have g : (x :: xs).contains c = ((c == x) || xs.contains c) := List.contains_cons
    have g1 : [x].contains c = (c == x) := by rw [List.contains_cons]; cases (c == x) <;> rfl
    rw [g1] at h1
    rw [List.map_cons, PySem.W.kitAny, h1, g]
    cases e : (c == x) with
    | true => rfl
    | false => exact ih
theorem kit_none {K : PySem.W.Frag} {t : Value} : ∀ {xs : List Str}, (∀ x ∈ xs, PySem.W.kitOne K t (.ref (CN.ad x)) = some false) → PySem.W.kitAny K t (xs.map fun x => Value.ref (CN.ad x)) = some false
  | [], _ => rfl
  | x :: xs, h => by
    rw [List.map_cons, PySem.W.kitAny, h x List.mem_cons_self]
    exact kit_none fun y hy => h y (List.mem_cons_of_mem _ hy)
theorem re_isiXT {C : Ct} {e : Expr} {es : List Expr} {k1} {p p3 pos : Pos} {md : Md} {me : Ev → Res D} (cls xs : List Str) (hk : ∀ x ∈ xs, IsK C.X.K cls [x] (.ref (CN.ad x))) (hm : C.X.mg "isinstance" = none) (hx : RN C.X es xs) (he : RE C md e me) (hl : autoParam (xs.length ≤ 1000) autoK2._auto_1) (hne : autoParam (xs ≠ []) autoK2._auto_1) (hg : autoParam (Gl C.X "isinstance") autoK5._auto_1)
    (hs1 : autoParam (starEach [e, .Tuple es k1 p3] C.X.env = (false, eval e C.X.env) :: starEach [.Tuple es k1 p3] C.X.env) autoK5._auto_1) (hs2 : autoParam (starEach [.Tuple es k1 p3] C.X.env = (false, eval (.Tuple es k1 p3) C.X.env) :: starEach [] C.X.env) autoK5._auto_1) (hpl : autoParam ((backTo pos (starEach [.Tuple es k1 p3] C.X.env)).any (·.1) = false) autoK5._auto_1) :
    RE C .cl (.Call (.Name "isinstance" p) [e, .Tuple es k1 p3] [] pos) (e1 (isiX cls xs) me) := by
  obtain ⟨t, pe, q⟩ := he
  refine ⟨_, pe_callB call_isiT hg hm PyProof.Rows.boot_isinstance (pa_cons pe (pa_cons (pe_tup hx) pa_nil hs2) hs1) (by decide) (by decide) hs1 hpl, fun Oc Ob σ H ρ Q R h => q Oc Ob σ H ρ _ R (Res.post_mono (Res.post_bind h) (fun d _ kk v H' s r => ?_) fun _ z => z)⟩
  obtain ⟨dd, ed, kk⟩ := Res.post_lft kk
  obtain ⟨x0, hx0⟩ := List.exists_mem_of_ne_nil xs hne
  obtain ⟨tt, ty, hh⟩ := isX_ty (r.va R.oh) ed fun c hc => ((hk x0 hx0).2 c hc).1
  refine ⟨by rw [List.length_map]; exact Nat.le_trans hl (by decide), fun a ha => ?_⟩
  have ty2 : TyX C.X.K (upd H' a (.tup (xs.map fun x => V.ref (CN.ad x)))) v tt := by
    rcases ty with ty | ⟨b, c, e1, e2, e3, e4⟩
    · exact .inl ty
    · exact .inr ⟨b, c, e1, Same.new ha _ _ e2, e3, e4⟩
  have ev : ∀ us, Vals (xs.map fun x => V.ref (CN.ad x)) us → us = xs.map fun x => Value.ref (CN.ad x) := fun us hv => by
    have := vals_refs (as := xs.map CN.ad) (us := us) (by rw [List.map_map]; exact hv)
    rw [this, List.map_map]; rfl
  rcases hh with ⟨rfl, rfl⟩ | ⟨c, hc, rfl, rfl⟩
  · exact ⟨v, a, _, _, _, rfl, upd_same, ty2, fun us hv => by rw [ev us hv]; exact kit_none fun x hx => (hk x hx).1, kk _ _ (s.trans (Same.new ha)) (Rep.bl _)⟩
  · exact ⟨v, a, _, _, _, rfl, upd_same, ty2, fun us hv => by rw [ev us hv]; exact kit_any fun x hx => ((hk x hx).2 c hc).2, kk _ _ (s.trans (Same.new ha)) (Rep.bl _)⟩
omit [CN] in
theorem vH (c : Str) (m : Ev → Res (List D)) (ρ : Ev) : sRa c m ρ = (m ρ).bind fun ds => if ds.length ≤ sizeLine then .ex c else .no := rfl
omit [CN] in
theorem sTry_ex {j : Nat} {cs : List Str} {mb ms : Ev → Res Out} {ρ : Ev} {c : Str} (h : mb ρ = .ex c) (hc : cs.contains c = true) : sTry j cs mb ms ρ = (noEx (ms ((List.replicate ρ.length none).set j (some (excD c))))).bind (unn j) := by
  unfold sTry
  rw [h]
  exact if_pos hc
omit [CN] in
theorem sTry_ok {j : Nat} {cs : List Str} {mb ms : Ev → Res Out} {ρ : Ev} {o : Out} (h : mb ρ = .ok o) : sTry j cs mb ms ρ = .ok o := by
  unfold sTry
  rw [h]
omit [CN] in
theorem isiX_n (cls sup : List Str) : isiX cls sup .none = some (.bool false) := rfl
omit [CN] in
theorem isiX_x (cls sup : List Str) (c : Str) : isiX cls sup (excD c) = if cls.contains c then some (.bool (sup.contains c)) else none := rfl
theorem kx_of {K : PySem.W.Frag} {cls : List Str} {u : Value} (h : ∀ c ∈ cls, PySem.W.kitCls K (.ref (CN.ad c)) u = some true) : ∀ c, cls.contains c = true → PySem.W.kitCls K (.ref (CN.ad c)) u = some true :=
  fun c hc => h c (List.contains_iff_mem.mp hc)
theorem isK_of {K : PySem.W.Frag} {cls sup : List Str} {u : Value} (h0 : PySem.W.kitOne K (.type "NoneType") u = some false) (h : ∀ c ∈ cls, ExK K (CN.ad c) ∧ PySem.W.kitOne K (.ref (CN.ad c)) u = some (sup.contains c)) : IsK K cls sup u :=
  ⟨h0, fun c hc => h c (List.contains_iff_mem.mp hc)⟩
end L2.L3
namespace L2.L3
open PySem PySem.Spec PyProof.Rows
theorem kitCls_of {K : PySem.W.Frag} {t c : Value} {v : Bool} (h : PySem.W.kitOne K t c = some v) (n : (t == c) = false) : PySem.W.kitCls K t c = some v := by
  rw [PySem.W.kitOne, if_neg (by rw [n]; decide)] at h
  exact h
theorem subT_of {K : PySem.W.Frag} {A : Addr} {T : String} {v : Bool} (h : PySem.W.kitOne K (.ref A) (.type T) = some v) : PySem.W.subIn K (.ref A) (.type T) = some v := by
  have h2 := kitCls_of h rfl
  rw [PySem.W.kitCls] at h2
  split at h2
  · exact h2
  · cases h2
def cnOf (K : PySem.W.Frag) : CN := ⟨fun x => match PySem.W.nsIn K mainGlobals x with | some (some (.ref a)) => a | _ => 0⟩
theorem cn_ad {K : PySem.W.Frag} {x : Str} {a : Addr} (h : PySem.W.nsIn K mainGlobals x = some (some (.ref a))) : (cnOf K).ad x = a := by
  show (match PySem.W.nsIn K mainGlobals x with | some (some (.ref a)) => a | _ => 0) = a
  rw [h]
theorem walk_valX {F : List D → Res D} {k : Nat} {l : PySem.W.OpenLaw} {q : Program} {loose : List Str} {XP : (Str → Option Value) → Heap → Prop} {YP : World → Heap → Prop} {d : DefRec} {K : Params → PySem.W.Frag} (hT : ∀ ns : List Int, ns.length ≤ 63 → F [.list (ns.map PyData.int)] = .ok (.bool true)) (hr : Room k callerA) (hn : l.most = some 63) (hdf : d.params.defaults = [])
    (hY : ∀ (w : World) (h : Heap), YP w h → (K w.params).In h) (hL : ∀ w : World, noLst (K w.params) = true)
    (hF : ∀ (w : World) (mg : Str → Option Value) (fa : Addr) (h : Heap), (K w.params).In h → h.Ns mainGlobals mg → mg d.name = some (.ref fa) →
      ∃ fd : FuncData, (∀ (s : Shared) (u : Value), BindsTo s fd ⟨[u], []⟩ [("script", u)]) ∧ ∀ base : Heap, (K w.params).In base → base.Ns mainGlobals mg → FnOk l.prog w (K w.params) mg base (CXV l.prog w) k fa fd ["script"] (@spX (cnOf (K w.params)) false F)) :
    PySem.W.WalkO q loose XP YP l.row.toRowW d [] (fun f vs => PySem.call f vs) := by
  refine L2.walk_of (n := 63) (k := k) (x := "script") (CX := fun w => CXV l.prog w) (sp := fun w => @spX (cnOf (K w.params)) false F) hn (by decide) hdf hr hY hF (fun w H a ns hl hO hS => ?_) fun w H s e s' z => ?_
  · letI := cnOf (K w.params)
    refine ⟨[.list (ns.map PyData.int)], fun _ => False, fun a z => z.elim, .cons (.lst (rd_of (hL w) hS) (fun z => z) (reps_ints ns)) .nil, ?_⟩
    rw [hT ns hl]
    intro v H' _ r
    cases (show Rep H' (fun _ => False) v (.bool true) from r)
    rfl
  · obtain ⟨_, _, _, _, _, _, _, _, _, _, _, _, _, z⟩ := z
    exact z
end L2.L3
namespace MR
theorem pigeon : ∀ (n : Nat) (f : Nat → Nat), (∀ i, i ≤ n → f i < n) → ∃ i j, i < j ∧ j ≤ n ∧ f i = f j
  | 0, f, h => absurd (h 0 (Nat.le_refl _)) (by bv_omega)
  | n + 1, f, h => by
    by_cases c : ∃ i, i ≤ n ∧ f i = f (n + 1)
    · obtain ⟨i, hi, e⟩ := c
      exact ⟨i, n + 1, by bv_omega, Nat.le_refl _, e⟩
    · have ne : ∀ i, i ≤ n → f i ≠ f (n + 1) := fun i hi e => c ⟨i, hi, e⟩
      obtain ⟨i, j, h1, h2, e⟩ := pigeon n (fun i => if f (n + 1) < f i then f i - 1 else f i) fun i hi => by
        have a := h i (by bv_omega)
        have b := h (n + 1) (Nat.le_refl _)
        have d := ne i hi
        show (if f (n + 1) < f i then f i - 1 else f i) < n
        split <;> bv_omega
      refine ⟨i, j, h1, by bv_omega, ?_⟩
      have di := ne i (by bv_omega)
      have dj := ne j h2
      have e : (if f (n + 1) < f i then f i - 1 else f i) = (if f (n + 1) < f j then f j - 1 else f j) := e
      split at e <;> split at e <;> bv_omega
structure Ord (n : Nat) (xs : List Int) : Prop where
  len : xs.length = n
  bd : ∀ i, i < n → 0 ≤ xs.getD i 0 ∧ xs.getD i 0 < n
  inj : ∀ i j, i < n → j < n → xs.getD i 0 = xs.getD j 0 → i = j
def nxt (xs : List Int) (b : Nat) : Nat := (xs.getD b 0).toNat
def it (xs : List Int) : Nat → Nat → Nat
  | 0, b => b
  | k + 1, b => nxt xs (it xs k b)
section
variable {n : Nat} {xs : List Int}
theorem Ord.nxt_lt (o : Ord n xs) {b : Nat} (h : b < n) : nxt xs b < n := by
  have := o.bd b h
  unfold nxt; bv_omega
theorem Ord.nxt_int (o : Ord n xs) {b : Nat} (h : b < n) : xs.getD b 0 = (nxt xs b : Int) := by
  have := o.bd b h
  unfold nxt; bv_omega
theorem Ord.nxt_inj (o : Ord n xs) {b c : Nat} (h : b < n) (h' : c < n) (e : nxt xs b = nxt xs c) : b = c :=
  o.inj b c h h' (by rw [o.nxt_int h, o.nxt_int h', e])
theorem Ord.it_lt (o : Ord n xs) {b : Nat} (h : b < n) : ∀ k, it xs k b < n
  | 0 => h
  | k + 1 => o.nxt_lt (o.it_lt h k)
theorem it_add (xs : List Int) (b : Nat) (j : Nat) : ∀ k, it xs (k + j) b = it xs k (it xs j b)
  | 0 => by rw [Nat.zero_add]; rfl
  | k + 1 => by rw [Nat.add_right_comm]; show nxt xs (it xs (k + j) b) = nxt xs (it xs k (it xs j b)); rw [it_add xs b j k]
theorem Ord.it_inj (o : Ord n xs) {b c : Nat} (h : b < n) (h' : c < n) : ∀ k, it xs k b = it xs k c → b = c
  | 0, e => e
  | k + 1, e => o.it_inj h h' k (o.nxt_inj (o.it_lt h k) (o.it_lt h' k) e)
theorem Ord.back (o : Ord n xs) {b : Nat} (h : b < n) : ∃ p, 1 ≤ p ∧ p ≤ n ∧ it xs p b = b := by
  obtain ⟨i, j, h1, h2, e⟩ := pigeon n (fun i => it xs i b) fun i _ => o.it_lt h i
  refine ⟨j - i, by bv_omega, by bv_omega, ?_⟩
  have e2 : it xs i (it xs (j - i) b) = it xs i b := by
    rw [← it_add, show i + (j - i) = j by bv_omega]
    exact e.symm
  exact o.it_inj (o.it_lt h _) h i e2
def perGo (xs : List Int) (b : Nat) : Nat → Nat → Nat
  | 0, k => k
  | fuel + 1, k => if it xs k b = b then k else perGo xs b fuel (k + 1)
theorem perGo_spec (xs : List Int) (b : Nat) : ∀ (fuel k : Nat), (∃ p, k ≤ p ∧ p ≤ k + fuel ∧ it xs p b = b) →
    k ≤ perGo xs b fuel k ∧ perGo xs b fuel k ≤ k + fuel ∧ it xs (perGo xs b fuel k) b = b ∧ ∀ i, k ≤ i → i < perGo xs b fuel k → it xs i b ≠ b
  | 0, k, ⟨p, h1, h2, e⟩ => by
    have : p = k := by bv_omega
    subst this
    exact ⟨Nat.le_refl _, Nat.le_refl _, e, fun i a c => absurd (show i < p from c) (by bv_omega)⟩
  | fuel + 1, k, ⟨p, h1, h2, e⟩ => by
    by_cases c : it xs k b = b
    · rw [perGo, if_pos c]
      exact ⟨Nat.le_refl _, by bv_omega, c, fun i a d => absurd d (by bv_omega)⟩
    · rw [perGo, if_neg c]
      have hp : k + 1 ≤ p := by
        rcases Nat.lt_or_ge k p with q | q
        · exact q
        · have : p = k := by bv_omega
          subst this
          exact absurd e c
      obtain ⟨a1, a2, a3, a4⟩ := perGo_spec xs b fuel (k + 1) ⟨p, hp, by bv_omega, e⟩
      refine ⟨by bv_omega, by bv_omega, a3, fun i hi hl => ?_⟩
      by_cases q : i = k
      · rw [q]; exact c
      · exact a4 i (by bv_omega) hl
def per (n : Nat) (xs : List Int) (b : Nat) : Nat := perGo xs b (n - 1) 1
theorem Ord.per_spec (o : Ord n xs) {b : Nat} (h : b < n) : 1 ≤ per n xs b ∧ per n xs b ≤ n ∧ it xs (per n xs b) b = b ∧ ∀ i, 1 ≤ i → i < per n xs b → it xs i b ≠ b := by
  obtain ⟨p, h1, h2, e⟩ := o.back h
  obtain ⟨a1, a2, a3, a4⟩ := perGo_spec xs b (n - 1) 1 ⟨p, h1, by bv_omega, e⟩
  exact ⟨a1, by unfold per; bv_omega, a3, a4⟩
theorem Ord.it_ne (o : Ord n xs) {b : Nat} (h : b < n) {i j : Nat} (hij : i < j) (hj : j < per n xs b) : it xs i b ≠ it xs j b := fun e => by
  obtain ⟨_, _, _, a4⟩ := o.per_spec h
  refine a4 (j - i) (by bv_omega) (by bv_omega) ?_
  refine o.it_inj (o.it_lt h _) h i ?_
  rw [← it_add, show i + (j - i) = j by bv_omega]
  exact e.symm
theorem it_mul (xs : List Int) (b p : Nat) (e : it xs p b = b) : ∀ k, it xs (k * p) b = b
  | 0 => by rw [Nat.zero_mul]; rfl
  | k + 1 => by rw [Nat.succ_mul, it_add, e, it_mul xs b p e k]
theorem Ord.it_mod (o : Ord n xs) {b : Nat} (h : b < n) (k : Nat) : it xs k b = it xs (k % per n xs b) b := by
  obtain ⟨a1, _, a3, _⟩ := o.per_spec h
  have e : k = k % per n xs b + (k / per n xs b) * per n xs b := by rw [Nat.mul_comm]; exact (Nat.mod_add_div k (per n xs b)).symm
  conv => lhs; rw [e, it_add, it_mul xs b _ a3]
def In (n : Nat) (xs : List Int) (b c : Nat) : Prop := ∃ i, i < per n xs b ∧ it xs i b = c
theorem Ord.in_of (o : Ord n xs) {b : Nat} (h : b < n) (k : Nat) : In n xs b (it xs k b) := by
  obtain ⟨a1, _⟩ := o.per_spec h
  exact ⟨k % per n xs b, Nat.mod_lt _ (by bv_omega), (o.it_mod h k).symm⟩
theorem Ord.in_self (o : Ord n xs) {b : Nat} (h : b < n) : In n xs b b := o.in_of h 0
theorem Ord.in_lt (o : Ord n xs) {b c : Nat} (h : b < n) (hc : In n xs b c) : c < n := by
  obtain ⟨i, _, rfl⟩ := hc
  exact o.it_lt h i
theorem Ord.in_symm (o : Ord n xs) {b c : Nat} (h : b < n) (hc : In n xs b c) : In n xs c b := by
  obtain ⟨i, hi, rfl⟩ := hc
  obtain ⟨a1, _, a3, _⟩ := o.per_spec h
  have e : it xs (per n xs b - i) (it xs i b) = b := by rw [← it_add, show per n xs b - i + i = per n xs b by bv_omega]; exact a3
  have := o.in_of (o.it_lt h i) (per n xs b - i)
  rw [e] at this
  exact this
theorem Ord.in_trans (o : Ord n xs) {b c d : Nat} (h : b < n) (hc : In n xs b c) (hd : In n xs c d) : In n xs b d := by
  obtain ⟨i, _, rfl⟩ := hc
  obtain ⟨j, _, rfl⟩ := hd
  rw [← it_add]
  exact o.in_of h _
def ring (n : Nat) (xs : List Int) (b : Nat) : List Nat := (List.range (per n xs b)).map fun i => it xs i b
theorem ring_length (n : Nat) (xs : List Int) (b : Nat) : (ring n xs b).length = per n xs b := by unfold ring; simp
theorem mem_ring {b c : Nat} : c ∈ ring n xs b ↔ In n xs b c := by
  unfold ring In
  simp only [List.mem_map, List.mem_range]
theorem Ord.ring_nodup (o : Ord n xs) {b : Nat} (h : b < n) : (ring n xs b).Nodup := by
  unfold ring List.Nodup
  rw [List.pairwise_map]
  refine List.Pairwise.imp_of_mem ?_ (List.pairwise_lt_range (n := per n xs b))
  intro i j hi hj hlt
  exact o.it_ne h hlt (List.mem_range.mp hj)
def has (rs : List (List Nat)) (b : Nat) : Bool := rs.any fun r => r.contains b
def rgs (n : Nat) (xs : List Int) : Nat → List (List Nat)
  | 0 => []
  | b + 1 => if has (rgs n xs b) b then rgs n xs b else rgs n xs b ++ [ring n xs b]
theorem has_iff {rs : List (List Nat)} {b : Nat} : has rs b = true ↔ ∃ r ∈ rs, b ∈ r := by
  unfold has
  simp [List.any_eq_true]
structure Rgs (n : Nat) (xs : List Int) (m : Nat) (rs : List (List Nat)) : Prop where
  each : ∀ r ∈ rs, ∃ b, b < m ∧ r = ring n xs b ∧ ∀ c, In n xs b c → b ≤ c
  cover : ∀ c, c < m → ∃ r ∈ rs, c ∈ r
  nodup : rs.flatten.Nodup
  rise : rs.Pairwise fun r r' => ∀ x ∈ r.head?, ∀ y ∈ r'.head?, x < y
theorem ring_head (o : Ord n xs) {b : Nat} (h : b < n) : (ring n xs b).head? = some b := by
  obtain ⟨a1, _⟩ := o.per_spec h
  unfold ring
  obtain ⟨p, hp⟩ : ∃ p, per n xs b = p + 1 := ⟨per n xs b - 1, by bv_omega⟩
  rw [hp, List.range_succ_eq_map]
  rfl
theorem Ord.rgs_ok (o : Ord n xs) : ∀ m, m ≤ n → Rgs n xs m (rgs n xs m)
  | 0, _ => ⟨fun r hr => by simp [rgs] at hr, fun c hc => absurd hc (by bv_omega), by simp [rgs], by simp [rgs]⟩
  | m + 1, h => by
    have ih := o.rgs_ok m (by bv_omega)
    by_cases c : has (rgs n xs m) m = true
    · rw [rgs, if_pos c]
      refine ⟨fun r hr => ?_, fun d hd => ?_, ih.nodup, ih.rise⟩
      · obtain ⟨b, hb, e, hm⟩ := ih.each r hr
        exact ⟨b, by bv_omega, e, hm⟩
      · by_cases q : d = m
        · rw [q]; exact has_iff.mp c
        · exact ih.cover d (by bv_omega)
    · rw [rgs, if_neg c]
      have hm : m < n := by bv_omega
      have apart : ∀ d, In n xs m d → ¬ ∃ r ∈ rgs n xs m, d ∈ r := fun d hd ⟨r, hr, hdr⟩ => by
        obtain ⟨b, hb, rfl, _⟩ := ih.each r hr
        have h1 : In n xs b d := mem_ring.mp hdr
        have h2 : In n xs b m := o.in_trans (by bv_omega) h1 (o.in_symm hm hd)
        exact c (has_iff.mpr ⟨_, hr, mem_ring.mpr h2⟩)
      refine ⟨fun r hr => ?_, fun d hd => ?_, ?_, ?_⟩
      · rcases List.mem_append.mp hr with hr | hr
        · obtain ⟨b, hb, e, hmin⟩ := ih.each r hr
          exact ⟨b, by bv_omega, e, hmin⟩
        · have : r = ring n xs m := by simpa using hr
          refine ⟨m, by bv_omega, this, fun d hd => ?_⟩
          rcases Nat.lt_or_ge d m with q | q
          · exact absurd (ih.cover d q) (apart d hd)
          · exact q
      · by_cases q : d = m
        · rw [q]
          exact ⟨_, List.mem_append_right _ (by simp), mem_ring.mpr (o.in_self hm)⟩
        · obtain ⟨r, hr, hd⟩ := ih.cover d (by bv_omega)
          exact ⟨r, List.mem_append_left _ hr, hd⟩
      · rw [List.flatten_append, List.nodup_append]
        refine ⟨ih.nodup, by simpa using o.ring_nodup hm, fun a ha b hb e => ?_⟩
        have hb' : b ∈ ring n xs m := by simpa using hb
        subst e
        obtain ⟨r, hr, har⟩ := List.mem_flatten.mp ha
        exact apart a (mem_ring.mp hb') ⟨r, hr, har⟩
      · rw [List.pairwise_append]
        refine ⟨ih.rise, by simp, fun r hr r' hr' x hx y hy => ?_⟩
        have e : r' = ring n xs m := by simpa using hr'
        obtain ⟨b, hb, rfl, _⟩ := ih.each r hr
        rw [ring_head o (by bv_omega)] at hx
        rw [e, ring_head o hm] at hy
        have hx : x = b := by simpa using hx.symm
        have hy : y = m := by simpa using hy.symm
        bv_omega
end
end MR
set_option maxHeartbeats 4000000
namespace L2
open PySem PySem.Spec PyProof.Rows
section
variable {κ : Type} [DecidableEq κ]
def valV (kvs : List (κ × V)) (k : κ) : Option V := (kvs.find? fun kv => decide (kv.1 = k)).map (·.2)
def putK (kvs : List (κ × V)) (k : κ) (v : V) : List (κ × V) :=
  if (kvs.any fun kv => decide (kv.1 = k)) = true then kvs.map (fun kv => if kv.1 = k then (kv.1, v) else kv) else kvs ++ [(k, v)]
theorem valV_pos {p : κ × V} {r : List (κ × V)} {k : κ} (e : p.1 = k) : valV (p :: r) k = some p.2 := by simp [valV, List.find?_cons, e]
theorem valV_neg {p : κ × V} {r : List (κ × V)} {k : κ} (e : ¬ p.1 = k) : valV (p :: r) k = valV r k := by simp [valV, List.find?_cons, e]
theorem valV_any (k : κ) : ∀ kvs : List (κ × V), (kvs.any fun kv => decide (kv.1 = k)) = (valV kvs k).isSome
  | [] => rfl
  | p :: r => by
    rw [List.any_cons]
    by_cases e : p.1 = k
    · simp only [valV_pos e, decide_eq_true e, Bool.true_or, Option.isSome_some]
    · rw [valV_neg e, decide_eq_false e, Bool.false_or]; exact valV_any k r
theorem length_putK (kvs : List (κ × V)) (k : κ) (v : V) : (putK kvs k v).length ≤ kvs.length + 1 := by
  unfold putK
  split
  · rw [List.length_map]; bv_omega
  · rw [List.length_append, List.length_cons, List.length_nil]; bv_omega
theorem putK_new {kvs : List (κ × V)} {k : κ} (v : V) (h : valV kvs k = none) : putK kvs k v = kvs ++ [(k, v)] := by
  unfold putK
  rw [valV_any, h]
  exact if_neg (by decide)
theorem RelO.isSome_eq {o : Option V} {u : Option Value} (r : RelO o u) : o.isSome = u.isSome := by
  cases o with
  | none => cases u with
    | none => rfl
    | some _ => exact (show False from r).elim
  | some _ => cases u with
    | none => exact (show False from r).elim
    | some _ => rfl
theorem KV.val {kvs : List (κ × V)} {vs : List (κ × Value)} (r : KV kvs vs) (k : κ) : RelO (valV kvs k) (valueAt vs k) := by
  unfold KV at r
  induction r with
  | nil => exact True.intro
  | @cons p q ps qs h t ih =>
    obtain ⟨h1, h2⟩ := h
    by_cases e : p.1 = k
    · have e' : q.1 = k := h1.symm.trans e
      have b : valueAt (q :: qs) k = some q.2 := by simp [valueAt, List.find?_cons, e']
      rw [valV_pos e, b]; exact h2
    · have e' : ¬ q.1 = k := fun z => e (h1.trans z)
      have b : valueAt (q :: qs) k = valueAt qs k := by simp [valueAt, List.find?_cons, e']
      rw [valV_neg e, b]; exact ih
theorem KV.any {kvs : List (κ × V)} {vs : List (κ × Value)} (r : KV kvs vs) (k : κ) : (kvs.any fun kv => decide (kv.1 = k)) = vs.any fun kv => decide (kv.1 = k) := by
  unfold KV at r
  induction r with
  | nil => rfl
  | cons h t ih => rw [List.any_cons, List.any_cons, ih, h.1]
theorem KV.repl {kvs : List (κ × V)} {vs : List (κ × Value)} (r : KV kvs vs) (k : κ) {y : V} {u : Value} (ry : RelV y u) :
    KV (kvs.map fun kv => if kv.1 = k then (kv.1, y) else kv) (vs.map fun kv => if kv.1 = k then (kv.1, u) else kv) := by
  unfold KV at r ⊢
  induction r with
  | nil => exact .nil
  | @cons p q ps qs h t ih =>
    rw [List.map_cons, List.map_cons]
    refine .cons ?_ ih
    obtain ⟨h1, h2⟩ := h
    by_cases e : p.1 = k
    · rw [if_pos e, if_pos (h1.symm.trans e)]; exact ⟨h1, ry⟩
    · rw [if_neg e, if_neg (fun z => e (h1.trans z))]; exact ⟨h1, h2⟩
theorem KV.put {kvs : List (κ × V)} {vs : List (κ × Value)} (r : KV kvs vs) (k : κ) {y : V} {u : Value} (ry : RelV y u) : KV (putK kvs k y) (stored vs k u) := by
  unfold putK stored
  rw [r.any k]
  by_cases e : (vs.any fun kv => decide (kv.1 = k)) = true
  · rw [if_pos e, if_pos e]; exact r.repl k ry
  · rw [if_neg e, if_neg e]; exact Paired.snoc r ⟨rfl, ry⟩
theorem KV.length {kvs : List (κ × V)} {vs : List (κ × Value)} (r : KV kvs vs) : kvs.length = vs.length := Paired.length r
end
theorem kV_is {P : Program} {w : World} {k : Key} {u : Value} (r : RelV (kV k) u) : (mixKind P w).is k u = true := by
  cases k with
  | inl i => obtain ⟨t, e⟩ := (show ∃ t, u = Value.int i t from r); subst e; exact mixKind_int P w i t
  | inr x => obtain ⟨t, e⟩ := (show ∃ t, u = Value.str x t from r); subst e; exact mixKind_str P w x t
theorem items_are {P : Program} {w : World} : ∀ {ks : List Key} {us : List Value}, Vals (ks.map kV) us → ItemsAre (mixKind P w) ks us
  | [], _, r => by rw [List.map_nil] at r; cases r; exact .nil
  | k :: ks, _, r => by
    rw [List.map_cons] at r
    cases r with
    | cons h t => exact .cons (kV_is h) (items_are t)
abbrev KT (H : Hp) : List (List Key × V) → List (List Key × Addr × Value) → Prop := Paired fun p q => p.1 = q.1 ∧ H q.2.1 = some (.tup (p.1.map kV)) ∧ RelV p.2 q.2.2
theorem KT.val {H : Hp} {kvs : List (List Key × V)} {xs : List (List Key × Addr × Value)} (r : KT H kvs xs) (k : List Key) : RelO (valV kvs k) ((atKey xs k).map (·.2)) := by
  induction r with
  | nil => exact True.intro
  | @cons p q ps qs h t ih =>
    obtain ⟨h1, _, h2⟩ := h
    by_cases e : p.1 = k
    · have e' : q.1 = k := h1.symm.trans e
      have b : atKey (q :: qs) k = some q.2 := by simp [atKey, List.find?_cons, e']
      rw [valV_pos e, b]; exact h2
    · have e' : ¬ q.1 = k := fun z => e (h1.trans z)
      have b : atKey (q :: qs) k = atKey qs k := by simp [atKey, List.find?_cons, e']
      rw [valV_neg e, b]; exact ih
theorem KT.repl {H : Hp} {kvs : List (List Key × V)} {xs : List (List Key × Addr × Value)} (r : KT H kvs xs) (k : List Key) {y : V} {u : Value} (ry : RelV y u) :
    KT H (kvs.map fun kv => if kv.1 = k then (kv.1, y) else kv) (xs.map (putAt k u)) := by
  induction r with
  | nil => exact .nil
  | @cons p q ps qs h t ih =>
    rw [List.map_cons, List.map_cons]
    refine .cons ?_ ih
    obtain ⟨h1, h2, h3⟩ := h
    unfold putAt
    by_cases e : p.1 = k
    · rw [if_pos e, if_pos (h1.symm.trans e)]; exact ⟨h1, h2, ry⟩
    · rw [if_neg e, if_neg (fun z => e (h1.trans z))]; exact ⟨h1, h2, h3⟩
theorem KT.put {H : Hp} {kvs : List (List Key × V)} {xs : List (List Key × Addr × Value)} (r : KT H kvs xs) (k : List Key) {b : Addr} {y : V} {u : Value} (hb : H b = some (.tup (k.map kV))) (ry : RelV y u) :
    KT H (putK kvs k y) (storedH xs k b u) := by
  have e : (kvs.any fun kv => decide (kv.1 = k)) = (atKey xs k).isSome := by
    rw [valV_any, (r.val k).isSome_eq, Option.isSome_map]
  unfold putK storedH
  rw [e]
  by_cases q : (atKey xs k).isSome = true
  · rw [if_pos q, if_pos q]; exact r.repl k ry
  · rw [if_neg q, if_neg q]; exact Paired.snoc r ⟨rfl, hb, ry⟩
theorem KT.keeps {H H' : Hp} {kvs : List (List Key × V)} {xs : List (List Key × Addr × Value)} (r : KT H kvs xs) (ht : ∀ b ys, H b = some (.tup ys) → H' b = some (.tup ys)) : KT H' kvs xs :=
  Paired.mapP r fun _ _ z => ⟨z.1, ht _ _ z.2.1, z.2.2⟩
section
variable {P : Program} {w : World} {H : Hp} {h : Heap} {a : Addr}
theorem rd_of {u : HO} (ok : HOk P w H h) (e : Rd H a u) : ObjOk P w H h a u := e.ok ok
theorem dk_rd {kvs : List (Key × V)} (ok : HOk P w H h) (e : Rd H a (.dK kvs)) : kvs.length ≤ sizeLine ∧ (a == sysModules) = false ∧ ∃ vs, KV kvs vs ∧ h.DictOf (mixKind P w) a vs :=
  show ObjOk P w H h a (.dK kvs) from rd_of ok e
theorem dk_of {kvs : List (Key × V)} (ok : HOk P w H h) (e : H a = some (.dK kvs)) : kvs.length ≤ sizeLine ∧ (a == sysModules) = false ∧ ∃ vs, KV kvs vs ∧ h.DictOf (mixKind P w) a vs := dk_rd ok (.inl e)
theorem key_of {ks : List Key} (ok : HOk P w H h) (e : H a = some (.tup (ks.map kV))) : (tupleKind (mixKind P w)).is h ks a := by
  obtain ⟨_, its, r, o, h1, h2, ⟨n, h3⟩, _⟩ := (show ObjOk P w H h a (.tup (ks.map kV)) from ok a _ e)
  exact ⟨o, its.toArray, n, h1, h2, h3, by simpa using items_are r⟩
theorem dt_rd {kvs : List (List Key × V)} (ok : HOk P w H h) (e : Rd H a (.dT kvs)) : kvs.length ≤ sizeLine ∧ (a == sysModules) = false ∧
    ∃ xs, KT H kvs xs ∧ h.DictOfH (tupleKind (mixKind P w)) a xs := by
  obtain ⟨z, y, xs, r, o, es, ep, h1, h2, h3, h4, h5⟩ := (show ObjOk P w H h a (.dT kvs) from rd_of ok e)
  refine ⟨z, y, xs, r, o, es, ep, h1, h2, h3, h4, fun x hx => ?_, h5⟩
  have all : ∀ {l : List (List Key × V)} {m : List (List Key × Addr × Value)}, KT H l m → ∀ x ∈ m, (tupleKind (mixKind P w)).is h x.1 x.2.1 := by
    intro l m q
    induction q with
    | nil => intro x hx; exact nomatch hx
    | @cons p q ps qs hq t ih =>
      intro x hx
      rcases List.mem_cons.mp hx with e | hx
      · subst e
        exact key_of ok (by rw [← hq.1]; exact hq.2.1)
      · exact ih x hx
  exact all r x hx
theorem dt_of {kvs : List (List Key × V)} (ok : HOk P w H h) (e : H a = some (.dT kvs)) : kvs.length ≤ sizeLine ∧ (a == sysModules) = false ∧
    ∃ xs, KT H kvs xs ∧ h.DictOfH (tupleKind (mixKind P w)) a xs := dt_rd ok (.inl e)
end
def DGet (H : Hp) (a : Addr) (y : V) (r : Option V) : Prop :=
  (∃ kvs k, Rd H a (.dK kvs) ∧ y = kV k ∧ r = valV kvs k) ∨ ∃ kvs k b, Rd H a (.dT kvs) ∧ y = .ref b ∧ H b = some (.tup (k.map kV)) ∧ r = valV kvs k
def DPut (H : Hp) (a : Addr) (y v : V) (H' : Hp) : Prop :=
  (∃ kvs k, H a = some (.dK kvs) ∧ y = kV k ∧ kvs.length < sizeLine ∧ H' = upd H a (.dK (putK kvs k v))) ∨
  ∃ kvs k b, H a = some (.dT kvs) ∧ y = .ref b ∧ H b = some (.tup (k.map kV)) ∧ kvs.length < sizeLine ∧ H' = upd H a (.dT (putK kvs k v))
theorem DGet.k {H : Hp} {a : Addr} {kvs : List (Key × V)} {k : Key} (e : H a = some (.dK kvs)) : DGet H a (kV k) (valV kvs k) := .inl ⟨kvs, k, .inl e, rfl, rfl⟩
theorem DPut.k {H : Hp} {a : Addr} {kvs : List (Key × V)} {k : Key} {v : V} (e : H a = some (.dK kvs)) (hl : kvs.length < sizeLine) : DPut H a (kV k) v (upd H a (.dK (putK kvs k v))) := .inl ⟨kvs, k, e, rfl, hl, rfl⟩
section
variable {X : Cx} {pins : List (Addr × Obj)} {σ : St} {H : Hp} {s : Shared} {a : Addr} {y v : V} {u r : Value} {o : Option V} {A : Around} {E : Value → Shared → Prop}
theorem Inv.big (I : Inv X pins σ H s) : sysModules < s.heap.objs.size := by
  have h : mainGlobals < s.heap.objs.size := (I.mod.glob.keeps I.bk).lt
  exact Nat.lt_trans (by decide) h
theorem d_notIn {Q : Value → Shared → Prop} (hu : A.units + 1 < cLine) (I : Inv X pins σ H s) (g : DGet H a y o) (ry : RelV y u) (h : ∀ s', Inv X pins σ H s' → Q (.bool (!o.isSome)) s') :
    wpAny (model X.prog X.w) A (compareOp .NotIn u (.ref a)) Q E s := by
  rcases g with ⟨kvs, k, e, ey, l⟩ | ⟨kvs, k, b, e, ey, eb, l⟩
  · subst ey
    obtain ⟨z, hd, vs, rel, dd⟩ := dk_rd I.hok e
    refine wpAny_notIn_of (kV_is ry) hd dd.mapOf ?_
    rw [← (rel.val k).isSome_eq, ← l]
    exact h _ (I.tok _)
  · subst ey
    cases (show u = Value.ref b from ry)
    obtain ⟨z, hd, xs, rel, dd⟩ := dt_rd I.hok e
    refine wpAny_notIn_heap (tupleKind_room_in1 hu) (key_of I.hok eb) hd dd ?_
    have q := (rel.val k).isSome_eq
    rw [Option.isSome_map] at q
    rw [← q, ← l]
    exact h _ (I.tok _)
theorem d_write {h' : Heap} {t' : Nat} {ob : HO} (I : Inv X pins σ H s) (mu : Mut (H a)) (hs : Heap.SameBut a s.heap h') (he : ∃ q, h'.get? a = some q) (new : ObjOk X.prog X.w (upd H a ob) h' a ob) :
    Inv X pins σ (upd H a ob) { s with heap := h', toks := t' } :=
  I.write (x := a) (e := a) mu (.inl rfl) (fun b q hb z => (hs.2 b hb).trans z) he new
theorem dk_new {P : Program} {w : World} {H' : Hp} {h' : Heap} {kvs : List (Key × V)} {vs : List (Key × Value)} (z : kvs.length ≤ sizeLine) (hd : (a == sysModules) = false) (rel : KV kvs vs) (dd : h'.DictOf (mixKind P w) a vs) :
    ObjOk P w H' h' a (.dK kvs) := ⟨z, hd, vs, rel, dd⟩
theorem d_setItem {H' : Hp} {Q : Unit → Shared → Prop} (hu : A.units + 1 < cLine) (I : Inv X pins σ H s) (g : DPut H a y v H') (ry : RelV y u) (rv : RelV v r) (h : ∀ s', Inv X pins σ H' s' → Q () s') :
    wpAny (model X.prog X.w) A (setItem (.ref a) u r) Q E s := by
  rcases g with ⟨kvs, k, e, ey, l, eH⟩ | ⟨kvs, k, b, e, ey, eb, l, eH⟩
  · subst ey eH
    obtain ⟨z, hd, vs, rel, dd⟩ := dk_of I.hok e
    have hz : vs.length ≤ sizeLine := by rw [← rel.length]; exact z
    have hl : (putK kvs k v).length ≤ sizeLine := by have := length_putK kvs k v; bv_omega
    refine wpAny_setItem_pairs (hsz := hz) (kV_is ry) dd fun h' dd' hs => h _ ?_
    have he : ∃ q, h'.get? a = some q := let ⟨q, _, _, hq, _⟩ := dd'; ⟨q, hq⟩
    exact d_write I (by rw [e]; exact True.intro) hs he (dk_new hl hd (rel.put k rv) dd')
  · subst ey eH
    cases (show u = Value.ref b from ry)
    obtain ⟨z, hd, xs, rel, dd⟩ := dt_of I.hok e
    have hz : xs.length ≤ sizeLine := by rw [← Paired.length rel]; exact z
    have hl : (putK kvs k v).length ≤ sizeLine := by have := length_putK kvs k v; bv_omega
    refine wpAny_setItem_heap (hsz := hz) (tupleKind_room_in1 hu) (key_of I.hok eb) dd fun h' dd' hs => h _ ?_
    obtain ⟨q, es, ep, hq, h2, h3, h4, _, h5⟩ := dd'
    refine d_write I (by rw [e]; exact True.intro) hs ⟨q, hq⟩ ⟨hl, hd, _, (rel.put k eb rv).keeps fun c ys ec => ?_, q, es, ep, hq, h2, h3, h4, h5⟩
    rw [upd_ne (ne_of ec e (fun z => nomatch z))]
    exact ec
end
section
variable {X : Cx} {pins : List (Addr × Obj)} {σ : St} {H : Hp} {s : Shared} {a : Addr} {kvs : List (Key × V)} {k : Key} {u : Value} {A : Around} {E : Value → Shared → Prop}
end
def tDNotIn (ty td : TE) : TE := fun σ H Q => ty σ H fun y H1 => td σ H1 fun x H2 => ∃ a o, x = .ref a ∧ DGet H2 a y o ∧ Q (.bl (!o.isSome)) H2
def sDPut (td ty tv : TE) : TS := fun D σ H => tv σ H fun v H1 => td σ H1 fun x H2 => ty σ H2 fun y H3 => ∃ a H4, x = .ref a ∧ DPut H3 a y v H4 ∧ D.nx σ H4
section
variable {X : Cx} {o i e value : Expr} {pos pos' tpos : Pos} {td ty tv : TE}
theorem pc_dnotin (hu : X.A.units + 1 < cLine) (hi : PE X i ty) (ho : PE X o td) : PC X .NotIn i o (tDNotIn ty td) := by
  intro pins s σ H Q I h
  refine thn (hi pins s σ H _ I h) fun iv s1 ⟨y, H1, I1, ry, q1⟩ => thn (ho pins s1 σ H1 _ I1 q1) fun u s2 ⟨x, H2, I2, rx, a, ov, ex, g, q2⟩ => ?_
  subst ex
  obtain rfl : u = Value.ref a := rx
  exact d_notIn hu I2 g ry fun s3 I3 => ⟨.bl (!ov.isSome), H2, I3, rfl, q2⟩
theorem ps_dput (hu : X.A.units + 1 < cLine) (ho : PE X o td) (hi : PE X i ty) (hv : PE X value tv) (hs : swapsWith value (some (.Subscript o i pos')) pos.line X.env = pure false) :
    PS X (.Assign [.Subscript o i pos'] value pos) (sDPut td ty tv) := by
  intro pins s σ H D I h
  refine wpAny_Assign_Subscript (thn (hv pins s σ H _ I h) fun r s1 ⟨v, H1, I1, rv, q1⟩ => thn (ho pins s1 σ H1 _ I1 q1) fun u s2 ⟨x, H2, I2, rx, q2⟩ => thn (hi pins s2 σ H2 _ I2 q2) fun iv s3 ⟨y, H3, I3, ry, a, H4, ex, g, q3⟩ => ?_) hs
  subst ex
  obtain rfl : u = Value.ref a := rx
  exact d_setItem hu I3 g ry rv fun s4 I4 => ⟨σ, H4, I4, q3⟩
end
theorem dk_empty {P : Program} {w : World} {H : Hp} (h : Heap) (hb : sysModules < h.objs.size) : ObjOk P w H (h.push { cls := .type "dict", data := .dict #[] }) h.objs.size (.dK []) :=
  ⟨Nat.zero_le _, beq_eq_false_iff_ne.mpr (Ne.symm (Nat.ne_of_lt hb)), [], .nil, Heap.DictOf.new h⟩
def tDNewK : TE := fun _ H Q => ∀ p, H p = none → Q (.ref p) (upd H p (.dK []))
section
variable {X : Cx} {pos : Pos}
theorem pe_dnewK : PE X (.Dict [] [] pos) tDNewK := fun pins s σ H Q I h =>
  wpAny_Dict_empty ⟨.ref s.heap.objs.size, _, I.laid (a := s.heap.objs.size) (o := .dK []) (t' := s.toks) (fun _ _ q => Heap.get?_push_of_some _ q) (Nat.le_refl _) (dk_empty s.heap I.big), rfl, h _ (I.hok.fresh (Nat.le_refl _))⟩
end
end L2
set_option maxHeartbeats 4000000
namespace L2.L3
open PySem PySem.Spec PyProof.Rows MR
variable [CN]
def rgI (r : List Nat) : List Int := r.map fun (b : Nat) => (b : Int)
def ringsR (n : Nat) (xs : List Int) (m : Nat) : List D := (rgs n xs m).map fun r => lI (rgI r)
open Classical in
def ringsF : List D → Res D
  | [.tuple es] => match intsOf es with
    | some xs => if Ord xs.length xs ∧ xs.length ≤ 400 then .ok (.list (ringsR xs.length xs xs.length)) else .no
    | none => .no
  | _ => .no
theorem ringsF_eq {n : Nat} {xs : List Int} (o : Ord n xs) (hn : n ≤ 400) : ringsF [tI xs] = .ok (.list (ringsR n xs n)) := by
  have e := o.len
  subst e
  unfold ringsF
  simp only [intsOf_map]
  exact if_pos ⟨o, hn⟩
def mt (l : List Nat) : List (Key × V) := l.map fun (b : Nat) => (Sum.inl (b : Int), V.bl true)
theorem mt_get (l : List Nat) (b : Nat) : (valV (mt l) (Sum.inl (b : Int))).isSome = l.contains b := by
  rw [← valV_any]
  unfold mt
  rw [List.any_map, Bool.eq_iff_iff, List.any_eq_true, List.contains_iff_mem]
  constructor
  · rintro ⟨c, hc, e⟩
    have e : (Sum.inl (c : Int) : Key) = Sum.inl (b : Int) := of_decide_eq_true e
    have e : (c : Int) = (b : Int) := Sum.inl.inj e
    rw [← Int.ofNat_inj.mp e]
    exact hc
  · intro h
    exact ⟨b, h, decide_eq_true rfl⟩
theorem mt_put {l : List Nat} {b : Nat} (h : l.contains b = false) : putK (mt l) (Sum.inl (b : Int)) (V.bl true) = mt (l ++ [b]) := by
  have e : valV (mt l) (Sum.inl (b : Int)) = none := by
    have := mt_get l b
    rw [h] at this
    cases q : valV (mt l) (Sum.inl (b : Int)) with
    | none => rfl
    | some v => rw [q] at this; cases this
  rw [putK_new _ e]
  unfold mt
  rw [List.map_append]
  rfl
def rLenS (K : PySem.W.Frag) : List V → Hp → VK → Prop := fun xs H Q => ∃ p ys, xs = [.ref p] ∧ (SqL K H p ys ∨ SqT K H p ys) ∧ Q (.int ys.length) H
def tRgW (K : PySem.W.Frag) : TS := tWhile (tB (tDNotIn (tVar 5) (tVar 1))) (tSeq (sDPut (tVar 1) (tVar 5) (tC (.bl true))) (tSeq (tDrop (tBM K "list" rAppend (tVar 4) (tCons (tVar 5) tNil))) (tAsg (tOp (rIxT K) (tVar 0) (tVar 5)) (gName 5))))
def tRgI (K : PySem.W.Frag) : TS := tIfS (tTest (tOp (rI0 fun i j => .bl (decide (j < i))) (tCB (rLenS K) (tCons (tVar 4) tNil)) (tC (.int 0)))) (tDrop (tBM K "list" rAppend (tVar 2) (tCons (tVar 4) tNil))) tNext
def tRg (K : PySem.W.Frag) : TS := tSeq (tAsg tDNewK (gName 1)) (tSeq (tAsg (tLst tNil) (gName 2)) (tSeq (tFor (iRng1 (tCons (tCB (rLenS K) (tCons (tVar 0) tNil)) tNil)) (gName 3) (tSeq (tAsg (tLst tNil) (gName 4)) (tSeq (tAsg (tVar 3) (gName 5)) (tSeq (tRgW K) (tRgI K))))) (tRet (tVar 2))))
section
variable {n : Nat} {xs : List Int}
def metN (n : Nat) (xs : List Int) (m k : Nat) : List Nat := (rgs n xs m).flatten ++ (List.range k).map fun j => it xs j m
def stepsN (n : Nat) (xs : List Int) (m : Nat) : Nat := if has (rgs n xs m) m then 0 else per n xs m
theorem hasF (rs : List (List Nat)) (b : Nat) : rs.flatten.contains b = has rs b := by
  rw [Bool.eq_iff_iff, has_iff, List.contains_iff_mem, List.mem_flatten]
theorem met_is (o : Ord n xs) {m k : Nat} (hm : m < n) (hk : k ≤ stepsN n xs m) : (metN n xs m k).contains (it xs k m) = decide (k = stepsN n xs m) := by
  have ok := o.rgs_ok m (by bv_omega)
  obtain ⟨a1, a2, a3, a4⟩ := o.per_spec hm
  unfold metN
  unfold stepsN at hk ⊢
  by_cases c : has (rgs n xs m) m = true
  · rw [if_pos c] at hk ⊢
    have : k = 0 := by bv_omega
    subst this
    rw [decide_eq_true rfl]
    show (_ ++ []).contains m = true
    rw [List.append_nil, hasF, c]
  · rw [if_neg c] at hk ⊢
    by_cases e : k = per n xs m
    · rw [decide_eq_true e, e, a3, List.contains_iff_mem]
      refine List.mem_append_right _ (List.mem_map.mpr ⟨0, List.mem_range.mpr (by bv_omega), rfl⟩)
    · rw [decide_eq_false e]
      rw [← Bool.not_eq_true, List.contains_iff_mem]
      intro h
      rcases List.mem_append.mp h with h | h
      · obtain ⟨r, hr, hd⟩ := List.mem_flatten.mp h
        obtain ⟨b, hb, rfl, _⟩ := ok.each r hr
        have h1 : In n xs b (it xs k m) := mem_ring.mp hd
        have h2 : In n xs b m := o.in_trans (by bv_omega) h1 (o.in_symm hm (o.in_of hm k))
        exact c (has_iff.mpr ⟨_, hr, mem_ring.mpr h2⟩)
      · obtain ⟨j, hj, e2⟩ := List.mem_map.mp h
        have hj := List.mem_range.mp hj
        exact o.it_ne hm hj (by bv_omega) e2
theorem met_next (m k : Nat) : metN n xs m (k + 1) = metN n xs m k ++ [it xs k m] := by
  unfold metN
  rw [List.range_succ, List.map_append, List.append_assoc]
  rfl
theorem met_end (m : Nat) : metN n xs m (stepsN n xs m) = (rgs n xs (m + 1)).flatten := by
  unfold metN stepsN
  rw [rgs]
  by_cases c : has (rgs n xs m) m = true
  · rw [if_pos c, if_pos c]
    simp
  · rw [if_neg c, if_neg c, List.flatten_append]
    simp [ring]
structure RgAt (O : Addr → Prop) (H0 : Hp) (am ar : Addr) (n : Nat) (xs : List Int) (X : Addr → Prop) (m : Nat) (met : List Nat) (vs : List V) (H : Hp) : Prop where
  same : Same H0 H
  dic : H am = some (.dK (mt met))
  lst : H ar = some (.lst vs)
  reps : Reps H (fun b => O b ∨ b = ar ∨ b = am ∨ X b) vs (ringsR n xs m)
theorem RgAt.upd {O : Addr → Prop} {H0 : Hp} {am ar g : Addr} {X : Addr → Prop} {m : Nat} {met : List Nat} {vs : List V} {H : Hp} {ho : HO} (R : RgAt O H0 am ar n xs X m met vs H) (h0 : H0 g = none) (hx : X g) (h1 : g ≠ am) (h2 : g ≠ ar) : RgAt O H0 am ar n xs X m met vs (upd H g ho) where
  same := fun b o e => by rw [upd_ne (fun z => by rw [z, h0] at e; cases e)]; exact R.same b o e
  dic := by rw [upd_ne (fun z => h1 z.symm)]; exact R.dic
  lst := by rw [upd_ne (fun z => h2 z.symm)]; exact R.lst
  reps := R.reps.keep (fun b o e q => by rw [upd_ne (fun z => q (.inr (.inr (.inr (by rw [z]; exact hx)))))]; exact e) fun b _ z => z
theorem RgAt.put {O : Addr → Prop} {H0 : Hp} {am ar : Addr} {X : Addr → Prop} {m : Nat} {met met' : List Nat} {vs : List V} {H : Hp} (R : RgAt O H0 am ar n xs X m met vs H) (h0 : H0 am = none) (h1 : am ≠ ar) : RgAt O H0 am ar n xs X m met' vs (L2.upd H am (.dK (mt met'))) where
  same := fun b o e => by rw [upd_ne (fun z => by rw [z, h0] at e; cases e)]; exact R.same b o e
  dic := upd_same
  lst := by rw [upd_ne (fun z => h1 z.symm)]; exact R.lst
  reps := R.reps.keep (fun b o e q => by rw [upd_ne (fun z => q (.inr (.inr (.inl z))))]; exact e) fun b _ z => z
theorem sz {k : Nat} (h : k ≤ 1000) : k < sizeLine := small1000 h
theorem flatN (o : Ord n xs) {m : Nat} (hm : m ≤ n) : (rgs n xs m).flatten.length ≤ n := by
  have grow : ∀ m d, (rgs n xs m).flatten.length ≤ (rgs n xs (m + d)).flatten.length := by
    intro m d
    induction d with
    | zero => exact Nat.le_refl _
    | succ d ih =>
      refine Nat.le_trans ih ?_
      rw [← Nat.add_assoc, rgs]
      split
      · exact Nat.le_refl _
      · rw [List.flatten_append, List.length_append]; bv_omega
  have k := o.rgs_ok n (Nat.le_refl n)
  have p : (rgs n xs n).flatten.Perm (List.range n) := by
    rw [List.perm_ext_iff_of_nodup k.nodup List.nodup_range]
    intro a
    rw [List.mem_range, List.mem_flatten]
    constructor
    · rintro ⟨r, hr, ha⟩
      obtain ⟨b, hb, rfl, _⟩ := k.each r hr
      exact o.in_lt hb (mem_ring.mp ha)
    · intro h
      exact k.cover a h
  have := grow m (n - m)
  rw [show m + (n - m) = n by bv_omega, p.length_eq, List.length_range] at this
  exact this
theorem flat_le (o : Ord n xs) {m k : Nat} (hm : m < n) (hk : k ≤ n) : (metN n xs m k).length ≤ 2 * n := by
  have ok := o.rgs_ok m (by bv_omega)
  have h1 := flatN o (show m ≤ n by bv_omega)
  unfold metN
  rw [List.length_append, List.length_map, List.length_range]
  bv_omega
theorem rg_while (o : Ord n xs) (hn : n ≤ 400) {K : PySem.W.Frag} {O : Addr → Prop} {H0 : Hp} {a0 am ar g : Addr} (h0 : Rd H0 a0 (.tup (xs.map V.int))) (hg0 : H0 g = none) (hm0 : H0 am = none) (d1 : g ≠ am) (d2 : g ≠ ar) (d3 : am ≠ ar) {m : Nat} (hm : m < n) {vs : List V} {E : Ends} {H : Hp}
    (R : RgAt O H0 am ar n xs (fun b => b = g) m (metN n xs m 0) vs H) (hg : H g = some (.lst []))
    (k : ∀ H', RgAt O H0 am ar n xs (fun b => b = g) m (metN n xs m (stepsN n xs m)) vs H' → H' g = some (.lst ((List.range (stepsN n xs m)).map fun j => V.int ((it xs j m : Nat) : Int))) → E.nx [some (.ref a0), some (.ref am), some (.ref ar), some (.int (m : Int)), some (.ref g), some (.int ((it xs (stepsN n xs m) m : Nat) : Int))] H') :
    tRgW K E [some (.ref a0), some (.ref am), some (.ref ar), some (.int (m : Int)), some (.ref g), some (.int (m : Int))] H := by
  have sp : stepsN n xs m ≤ n := by
    unfold stepsN
    split
    · bv_omega
    · exact (o.per_spec hm).2.1
  refine ⟨fun c σ' H' => ∃ k, k ≤ stepsN n xs m ∧ c = stepsN n xs m - k ∧ σ' = [some (.ref a0), some (.ref am), some (.ref ar), some (.int (m : Int)), some (.ref g), some (.int ((it xs k m : Nat) : Int))] ∧ RgAt O H0 am ar n xs (fun b => b = g) m (metN n xs m k) vs H' ∧ H' g = some (.lst ((List.range k).map fun j => V.int ((it xs j m : Nat) : Int))),
    ⟨_, 0, Nat.zero_le _, rfl, rfl, R, hg⟩, ?_⟩
  rintro c σ' H' ⟨j, hj, rfl, rfl, R', hg'⟩
  have mi := met_is o hm hj
  refine ⟨_, rfl, _, rfl, am, _, rfl, DGet.k (k := Sum.inl ((it xs j m : Nat) : Int)) R'.dic, _, rfl, ?_⟩
  show (if _ = true then _ else _)
  rw [mt_get, mi]
  by_cases e : j = stepsN n xs m
  · rw [decide_eq_true e, if_neg (by decide)]
    subst e
    exact k H' R' hg'
  · rw [decide_eq_false e, if_pos (by decide)]
    rw [decide_eq_false e] at mi
    have fl := flat_le o (k := j) hm (by bv_omega)
    refine ⟨fun σ2 H2 => σ2 = [some (.ref a0), some (.ref am), some (.ref ar), some (.int (m : Int)), some (.ref g), some (.int ((it xs (j + 1) m : Nat) : Int))] ∧ RgAt O H0 am ar n xs (fun b => b = g) m (metN n xs m (j + 1)) vs H2 ∧ H2 g = some (.lst ((List.range (j + 1)).map fun j => V.int ((it xs j m : Nat) : Int))),
      fun σ2 H2 ⟨e1, e2, e3⟩ => ⟨stepsN n xs m - (j + 1), by bv_omega, j + 1, by bv_omega, rfl, e1, e2, e3⟩, ?_⟩
    refine ⟨_, rfl, _, rfl, am, _, rfl, DPut.k (k := Sum.inl ((it xs j m : Nat) : Int)) R'.dic (by unfold mt; rw [List.length_map]; exact small1000 (by bv_omega)), ?_⟩
    rw [mt_put mi, ← met_next]
    have R2 : RgAt O H0 am ar n xs (fun b => b = g) m (metN n xs m (j + 1)) vs (L2.upd H' am (.dK (mt (metN n xs m (j + 1))))) := R'.put hm0 d3
    have g2 : (L2.upd H' am (.dK (mt (metN n xs m (j + 1))))) g = some (.lst ((List.range j).map fun j => V.int ((it xs j m : Nat) : Int))) := by
      rw [upd_ne d1]; exact hg'
    refine ⟨_, rfl, .inl ⟨rfl, _, SqL.of g2⟩, _, rfl, g, _, _, rfl, rfl, g2, by rw [List.length_map, List.length_range]; exact small1000 (by bv_omega), ?_⟩
    have R3 := R2.upd (ho := .lst (((List.range j).map fun j => V.int ((it xs j m : Nat) : Int)) ++ [V.int ((it xs j m : Nat) : Int)])) hg0 rfl d1 d2
    have hi := o.it_lt hm j
    have ix : atI (xs.map V.int) ((it xs j m : Nat) : Int) = some (V.int ((it xs (j + 1) m : Nat) : Int)) := by
      rw [atI_map, atI_getD (by rw [o.len]; exact hi), o.nxt_int hi]
      rfl
    refine ⟨_, rfl, _, rfl, a0, _, _, _, rfl, rfl, .inl (rd_keep h0 fun o e => R3.same _ o e), ix, rfl, R3, ?_⟩
    rw [upd_same, List.range_succ, List.map_append]
    rfl
theorem rgs_few : ∀ m, (rgs n xs m).length ≤ m
  | 0 => Nat.le_refl _
  | m + 1 => by
    have := rgs_few m
    rw [rgs]
    split
    · bv_omega
    · rw [List.length_append, List.length_singleton]; bv_omega
theorem rg_read (o : Ord n xs) (hn : n ≤ 400) {K : PySem.W.Frag} {O : Addr → Prop} {H0 : Hp} (oh : ∀ a, O a → H0 a ≠ none) {a0 : Addr} (h0 : Rd H0 a0 (.tup (xs.map V.int))) {E : Ends}
    (k : ∀ v H', Same H0 H' → CallOk true O H0 H' v (.list (ringsR n xs n)) → E.rt v H') : tRg K E [some (.ref a0), none, none, none, none, none] H0 := by
  intro am ham
  refine ⟨Nat.zero_le _, fun ar har => ?_⟩
  have d3 : am ≠ ar := fun z => by rw [z, upd_same] at har; cases har
  have har0 : H0 ar = none := by rw [upd_ne (fun z => d3 z.symm)] at har; exact har
  have hl : (xs.map V.int).length = n := by rw [List.length_map]; exact o.len
  have S1 : Same H0 (L2.upd (L2.upd H0 am (.dK [])) ar (.lst [])) := fun b ob e => by
    rw [upd_ne (fun z => by rw [z, har0] at e; cases e), upd_ne (fun z => by rw [z, ham] at e; cases e)]
    exact e
  refine ⟨_, rfl, a0, _, rfl, .inr (.inl (rd_keep h0 fun ob e => S1 _ ob e)), _, rfl, by bv_omega, by bv_omega, ?_⟩
  rw [hl, Int.toNat_natCast]
  refine for_range (fun i σ H => ∃ x y z vs, σ = [some (.ref a0), some (.ref am), some (.ref ar), x, y, z] ∧ RgAt O H0 am ar n xs (fun _ => False) i (rgs n xs i).flatten vs H) ⟨none, none, none, [], rfl, S1, ?_, upd_same, .nil⟩ ?_ ?_
  · rw [upd_ne d3, upd_same]
    rfl
  · rintro i σ H hi ⟨x, y, z, vs, rfl, R⟩
    rw [Int.zero_add]
    refine ⟨Nat.zero_le _, fun g hg => ?_⟩
    have hg0 : H0 g = none := R.same.free hg
    have d1 : g ≠ am := fun z => by rw [z, R.dic] at hg; cases hg
    have d2 : g ≠ ar := fun z => by rw [z, R.lst] at hg; cases hg
    have R1 : RgAt O H0 am ar n xs (fun b => b = g) i (metN n xs i 0) vs (L2.upd H g (.lst [])) := by
      refine ⟨fun b ob e => ?_, ?_, ?_, ?_⟩
      · rw [upd_ne (fun z => by rw [z, hg0] at e; cases e)]; exact R.same b ob e
      · rw [upd_ne (fun z => d1 z.symm), R.dic]
        unfold metN
        rw [List.range_zero, List.map_nil, List.append_nil]
      · rw [upd_ne (fun z => d2 z.symm)]; exact R.lst
      · refine R.reps.keep (fun b ob e _ => by rw [upd_ne (fun z => by rw [z, hg] at e; cases e)]; exact e) fun b hb q => ?_
        rcases q with q | q | q | q
        · exact .inl q
        · exact .inr (.inl q)
        · exact .inr (.inr (.inl q))
        · exact (hb (by rw [q]; exact hg)).elim
    refine ⟨_, rfl, ?_⟩
    refine rg_while o hn h0 hg0 ham d1 d2 d3 hi R1 upd_same fun H2 R2 hg2 => ?_
    refine ⟨_, rfl, g, _, rfl, .inl (SqL.of hg2), _, _, rfl, rfl, _, rfl, ?_⟩
    show (if _ = true then _ else _)
    rw [List.length_map, List.length_range]
    have mE := met_end (n := n) (xs := xs) i
    by_cases c : has (rgs n xs i) i = true
    · have s0 : stepsN n xs i = 0 := if_pos c
      have e1 : rgs n xs (i + 1) = rgs n xs i := by rw [rgs, if_pos c]
      rw [s0, if_neg (by decide)]
      refine ⟨_, _, _, vs, rfl, R2.same, ?_, R2.lst, ?_⟩
      · rw [R2.dic, mE]
      · unfold ringsR
        rw [e1]
        exact R2.reps.less fun b q => by
          rcases q with q | q | q | q
          · exact .inl q
          · exact .inr (.inl q)
          · exact .inr (.inr (.inl q))
          · exact q.elim
    · have s0 : stepsN n xs i = per n xs i := if_neg c
      have e1 : rgs n xs (i + 1) = rgs n xs i ++ [ring n xs i] := by rw [rgs, if_neg c]
      obtain ⟨a1, a2, _⟩ := o.per_spec hi
      rw [if_pos (decide_eq_true (by rw [s0]; bv_omega))]
      have vl : vs.length ≤ n := by
        have := R2.reps.length
        unfold ringsR at this
        rw [List.length_map] at this
        have := rgs_few (n := n) (xs := xs) i
        bv_omega
      refine ⟨_, rfl, .inl ⟨rfl, _, SqL.of R2.lst⟩, _, rfl, ar, _, _, rfl, rfl, R2.lst, small1000 (by bv_omega), ?_⟩
      refine ⟨_, _, _, vs ++ [.ref g], rfl, fun b ob e => ?_, ?_, upd_same, ?_⟩
      · rw [upd_ne (fun z => by rw [z, har0] at e; cases e)]; exact R2.same b ob e
      · rw [upd_ne d3, R2.dic, mE]
      · unfold ringsR
        rw [e1, List.map_append]
        refine Reps.append (R2.reps.keep (fun b ob e q => by rw [upd_ne (fun z => q (.inr (.inl z)))]; exact e) fun b _ q => ?_) (.cons (.lst (.inl ?_) ?_ (reps_ints (rgI (ring n xs i)))) .nil)
        · rcases q with q | q | q | q
          · exact .inl q
          · exact .inr (.inl q)
          · exact .inr (.inr (.inl q))
          · exact q.elim
        · rw [upd_ne d2, hg2, s0]
          unfold rgI ring
          rw [List.map_map, List.map_map]
          rfl
        · intro q
          rcases q with q | q | q | q
          · exact oh g q hg0
          · exact d2 q
          · exact d1 q
          · exact q
  · rintro σ H ⟨x, y, z, vs, rfl, R⟩
    refine ⟨_, rfl, k _ H R.same ⟨ar, vs, _, rfl, rfl, har0, R.lst, R.reps.less fun b q => ?_⟩⟩
    rcases q with q | q
    · exact .inl q
    · exact .inr (.inl q)
end
section
variable {P : Program} {w : World} {K : PySem.W.Frag} {mg : Str → Option Value} {base : Heap}
end
end L2.L3
set_option maxHeartbeats 4000000
namespace L2.L3
open PySem PySem.Spec PyProof.Rows MR
variable [CN]
theorem ringsF_okX {ds : List D} {Q : D → Prop} {R : Str → Prop} (h : (ringsF ds).post Q R) : ∃ (n : Nat) (xs : List Int), ds = [tI xs] ∧ Ord n xs ∧ n ≤ 400 ∧ Q (.list (ringsR n xs n)) := by
  unfold ringsF at h
  split at h
  · split at h
    · rename_i es xs e
      have e' := intsOf_some e
      subst e'
      split at h
      · rename_i c
        exact ⟨_, xs, rfl, c.1, c.2, h⟩
      · exact h.elim
    · exact h.elim
  · exact h.elim
section
variable {P : Program} {w : World} {K : PySem.W.Frag} {mg : Str → Option Value} {base : Heap}
theorem fn_ringsX {x : Str} {st : Stmt} {f : Addr} {fd : FuncData} {N ps : List Str} {k : Nat} (F : Fun K x x st f fd) (S : FnScope N ps (defScope st)) (hp : ps.length = 1) (hN : N.length = 6)
    (hbody : ∀ (cdv : Value) (A : Around) (outer : List Env) (s : Shared) (H : Hp) (E : XK), Room k (A.deeper (envOfC x (defScope st) s.heap.objs.size f cdv)) → PSs (bodyX P w K mg base N x (defScope st) f cdv A outer s H E []).X (defBody st) (tRg K)) :
    FnOk P w K mg base (CXV P w) (k + 1) f fd ps (spX true ringsF) := by
  have len : ∀ (vs : List V) (H : Hp) (Q : VK) (E : XK), spX true ringsF vs H Q E → vs.length = ps.length := fun vs H Q E h => by
    obtain ⟨ds, O, oh, r, k⟩ := h
    obtain ⟨n, xs, rfl, _⟩ := ringsF_okX k
    rw [r.length, hp]
    rfl
  obtain ⟨oc, od, kV, doc, pm, an, cdv, ct, osl, rfl, lk, hcd⟩ := F.ex
  refine fn_of lk hcd S len fun A outer s H vs Q E hr h => ?_
  obtain ⟨ds, O, oh, r, k⟩ := h
  obtain ⟨n, xs, rfl, o, hn, k⟩ := ringsF_okX k
  refine ⟨_, hbody cdv A outer s H E hr, ?_⟩
  cases r with
  | cons r1 r2 =>
    cases r2
    cases r1 with
    | tup rd no rs =>
      have e := rs.ints
      subst e
      have st : ∀ a : Addr, start N [V.ref a] = [some (.ref a), none, none, none, none, none] := fun a => by
        unfold start
        rw [hN]
        rfl
      rw [st]
      exact rg_read o hn oh rd fun v H' s c => k v H' s c
end
end L2.L3
namespace MR
def rg (n : Nat) : List Int := (List.range n).map fun (i : Nat) => (i : Int)
theorem rg_length (n : Nat) : (rg n).length = n := by unfold rg; simp
theorem mem_rg {n : Nat} {a : Int} : a ∈ rg n ↔ 0 ≤ a ∧ a < n := by
  unfold rg
  simp only [List.mem_map, List.mem_range]
  constructor
  · rintro ⟨i, hi, rfl⟩; bv_omega
  · intro h; exact ⟨a.toNat, by bv_omega, by bv_omega⟩
theorem rg_lt (n : Nat) : (rg n).Pairwise (· < ·) := by
  unfold rg
  rw [List.pairwise_map]
  exact List.Pairwise.imp (fun h => by bv_omega) (List.pairwise_lt_range (n := n))
theorem rg_nodup (n : Nat) : (rg n).Nodup := (rg_lt n).imp fun h => by bv_omega
theorem nodup_getD {xs : List Int} (h : xs.Nodup) {i j : Nat} (hi : i < xs.length) (hj : j < xs.length) (e : xs.getD i 0 = xs.getD j 0) : i = j := by
  rw [List.getD_eq_getElem?_getD, List.getElem?_eq_getElem hi, List.getD_eq_getElem?_getD, List.getElem?_eq_getElem hj] at e
  have e : xs[i] = xs[j] := e
  rcases Nat.lt_trichotomy i j with q | q | q
  · exact absurd e (List.pairwise_iff_getElem.mp h i j hi hj q)
  · exact q
  · exact absurd e.symm (List.pairwise_iff_getElem.mp h j i hj hi q)
theorem getD_mem {xs : List Int} {i : Nat} (h : i < xs.length) : xs.getD i 0 ∈ xs := by
  rw [List.getD, List.getElem?_eq_getElem h]
  exact List.getElem_mem h
theorem ord_of_perm {n : Nat} {xs : List Int} (p : xs.Perm (rg n)) : Ord n xs := by
  have hl : xs.length = n := by rw [p.length_eq, rg_length]
  have nd : xs.Nodup := p.nodup_iff.mpr (rg_nodup n)
  exact ⟨hl, fun i hi => mem_rg.mp (p.mem_iff.mp (getD_mem (by bv_omega))), fun i j hi hj e => nodup_getD nd (by bv_omega) (by bv_omega) e⟩
theorem onto {n : Nat} {f : Nat → Nat} (h : ∀ i, i < n → f i < n) (hi : ∀ i j, i < n → j < n → f i = f j → i = j) {c : Nat} (hc : c < n) : ∃ i, i < n ∧ f i = c := by
  refine Classical.byContradiction fun no => ?_
  obtain ⟨i, j, h1, h2, e⟩ := pigeon n (fun i => if i = n then c else f i) fun i hi' => by
    show (if i = n then c else f i) < n
    split
    · exact hc
    · exact h i (by bv_omega)
  have e : (if i = n then c else f i) = (if j = n then c else f j) := e
  rw [if_neg (show i ≠ n by bv_omega)] at e
  by_cases q : j = n
  · rw [if_pos q] at e
    exact no ⟨i, by bv_omega, e⟩
  · rw [if_neg q] at e
    have := hi i j (by bv_omega) (by bv_omega) e
    bv_omega
theorem Ord.onto {n : Nat} {xs : List Int} (o : Ord n xs) {c : Nat} (hc : c < n) : ∃ b, b < n ∧ nxt xs b = c :=
  MR.onto (fun i hi => o.nxt_lt hi) (fun i j hi hj e => o.nxt_inj hi hj e) hc
def insAt (xs : List Int) (i : Nat) (v : Int) : List Int := xs.take i ++ v :: xs.drop i
theorem insAt_perm (xs : List Int) (i : Nat) (v : Int) : (insAt xs i v).Perm (v :: xs) := by
  unfold insAt
  have := List.perm_middle (a := v) (l₁ := xs.take i) (l₂ := xs.drop i)
  rwa [List.take_append_drop] at this
def lawOrd (cell : Int) : Nat → List Int × Int
  | 0 => ([], cell)
  | k + 1 => (insAt (lawOrd cell k).1 ((lawOrd cell k).2 % ((k : Int) + 1)).toNat k, (lawOrd cell k).2 / ((k : Int) + 1))
theorem rg_succ (n : Nat) : rg (n + 1) = rg n ++ [(n : Int)] := by unfold rg; rw [List.range_succ, List.map_append]; rfl
theorem lawOrd_perm (cell : Int) : ∀ k, (lawOrd cell k).1.Perm (rg k)
  | 0 => List.Perm.refl _
  | k + 1 => by
    rw [rg_succ]
    refine (insAt_perm _ _ _).trans ?_
    refine ((lawOrd_perm cell k).cons _).trans ?_
    exact (List.perm_append_singleton _ _).symm
theorem lawOrd_ord (cell : Int) (n : Nat) : Ord n (lawOrd cell n).1 := ord_of_perm (lawOrd_perm cell n)
end MR
namespace MR
def ofN (n : Nat) (f : Nat → Nat) : List Int := (List.range n).map fun (b : Nat) => ((f b : Nat) : Int)
theorem ofN_length (n : Nat) (f : Nat → Nat) : (ofN n f).length = n := by unfold ofN; simp
theorem ofN_get {n : Nat} {f : Nat → Nat} {b : Nat} (h : b < n) : (ofN n f).getD b 0 = (f b : Int) := by
  unfold ofN
  simp [List.getD, h]
theorem ofN_ord {n : Nat} {f : Nat → Nat} (h : ∀ b, b < n → f b < n) (i : ∀ b c, b < n → c < n → f b = f c → b = c) : Ord n (ofN n f) := by
  refine ord_of_perm ?_
  have nd : (ofN n f).Nodup := by
    unfold ofN
    rw [List.nodup_iff_pairwise_ne, List.pairwise_map]
    refine List.Pairwise.imp_of_mem ?_ (List.nodup_range (n := n))
    intro a b ha hb ne e
    exact ne (i a b (List.mem_range.mp ha) (List.mem_range.mp hb) (by bv_omega))
  rw [List.perm_ext_iff_of_nodup nd (rg_nodup n)]
  intro a
  rw [mem_rg]
  unfold ofN
  rw [List.mem_map]
  constructor
  · rintro ⟨b, hb, rfl⟩
    have := h b (List.mem_range.mp hb)
    bv_omega
  · rintro ⟨h1, h2⟩
    obtain ⟨b, hb, e⟩ := onto (n := n) (f := f) h i (c := a.toNat) (by bv_omega)
    exact ⟨b, List.mem_range.mpr hb, by bv_omega⟩
theorem ofN_same {n : Nat} {xs : List Int} (o : Ord n xs) : ofN n (nxt xs) = xs := by
  refine List.ext_getElem (by rw [ofN_length, o.len]) fun b h1 h2 => ?_
  rw [ofN_length] at h1
  have e := ofN_get (f := nxt xs) h1
  rw [← o.nxt_int h1] at e
  rw [List.getD_eq_getElem?_getD, List.getD_eq_getElem?_getD, List.getElem?_eq_getElem (by rw [ofN_length]; exact h1), List.getElem?_eq_getElem h2] at e
  exact e
def cmpO (n : Nat) (xs ys : List Int) : List Int := ofN n fun b => nxt ys (nxt xs b)
theorem cmpO_ord {n : Nat} {xs ys : List Int} (o : Ord n xs) (o' : Ord n ys) : Ord n (cmpO n xs ys) :=
  ofN_ord (fun b h => o'.nxt_lt (o.nxt_lt h)) fun b c h h' e => o.nxt_inj h h' (o'.nxt_inj (o.nxt_lt h) (o.nxt_lt h') e)
def whr (n : Nat) (xs : List Int) (p : Nat) : Nat := ((List.range n).find? fun b => nxt xs b == p).getD 0
theorem whr_spec {n : Nat} {xs : List Int} (o : Ord n xs) {p : Nat} (h : p < n) : whr n xs p < n ∧ nxt xs (whr n xs p) = p := by
  obtain ⟨b, hb, e⟩ := o.onto h
  unfold whr
  cases q : (List.range n).find? fun b => nxt xs b == p with
  | none =>
    have := List.find?_eq_none.mp q b (List.mem_range.mpr hb)
    simp [e] at this
  | some c =>
    have h1 := List.find?_some q
    have h2 := List.mem_of_find?_eq_some q
    exact ⟨List.mem_range.mp h2, by simpa using h1⟩
def invO (n : Nat) (xs : List Int) : List Int := ofN n (whr n xs)
theorem whr_nxt {n : Nat} {xs : List Int} (o : Ord n xs) {b : Nat} (h : b < n) : whr n xs (nxt xs b) = b := by
  obtain ⟨h1, h2⟩ := whr_spec o (o.nxt_lt h)
  exact o.nxt_inj h1 h h2
end MR
namespace MR
section
variable {n : Nat} {xs : List Int}
end
end MR
namespace MR
section
variable {n : Nat} {xs : List Int}
theorem flatP (o : Ord n xs) : (rgs n xs n).flatten.Perm (List.range n) := by
  have k := o.rgs_ok n (Nat.le_refl n)
  rw [List.perm_ext_iff_of_nodup k.nodup List.nodup_range]
  intro a
  rw [List.mem_range, List.mem_flatten]
  constructor
  · rintro ⟨r, hr, ha⟩
    obtain ⟨b, hb, rfl, _⟩ := k.each r hr
    exact o.in_lt hb (mem_ring.mp ha)
  · intro h
    exact k.cover a h
end
end MR
namespace M12
def ff (n : Int) : Nat → Int
  | 0 => 1
  | j + 1 => ff n j * (n - j)
def tot (least : Int) (many : List Int) : Nat → Int
  | 0 => 0
  | j + 1 => if least ≤ (j : Int) + 1 then tot least many j + ff ((many.length : Int) - 1) j * many.getD (many.length - (j + 1)) 0 else tot least many j
def mbl (least most : Int) : Nat → List Int
  | 0 => [1]
  | n + 1 => mbl least most n ++ [tot least (mbl least most n) (min most ((n : Int) + 1)).toNat]
theorem mbl_length (least most : Int) : ∀ n, (mbl least most n).length = n + 1
  | 0 => rfl
  | n + 1 => by rw [mbl, List.length_append, mbl_length least most n]; rfl
theorem mbl_get (least most : Int) : ∀ (n i : Nat), i ≤ n → (mbl least most n).getD i 0 = (mbl least most i).getD i 0
  | 0, i, h => by
    have : i = 0 := by bv_omega
    subst this; rfl
  | n + 1, i, h => by
    by_cases e : i = n + 1
    · subst e; rfl
    · have l := mbl_length least most n
      rw [mbl, List.getD_eq_getElem?_getD, List.getElem?_append_left (by bv_omega), ← List.getD_eq_getElem?_getD]
      exact mbl_get least most n i (by bv_omega)
def G (least most : Int) (n : Nat) : Int := (mbl least most n).getD n 0
theorem mbl_at (least most : Int) (n i : Nat) (h : i ≤ n) : (mbl least most n).getD i 0 = G least most i := mbl_get least most n i h
def totG (least : Int) (A : Nat → Int) (c : Nat) : Nat → Int
  | 0 => 0
  | j + 1 => if least ≤ (j : Int) + 1 then totG least A c j + ff ((c : Int) - 1) j * A (c - (j + 1)) else totG least A c j
theorem tot_eq (least most : Int) (n : Nat) : ∀ j, tot least (mbl least most n) j = totG least (G least most) (n + 1) j
  | 0 => rfl
  | j + 1 => by
    have l := mbl_length least most n
    have e : (mbl least most n).getD (n + 1 - (j + 1)) 0 = G least most (n + 1 - (j + 1)) := mbl_at least most n _ (by bv_omega)
    rw [tot, totG, tot_eq least most n j, l, e]
theorem G_zero (least most : Int) : G least most 0 = 1 := rfl
theorem G_succ (least most : Int) (n : Nat) : G least most (n + 1) = totG least (G least most) (n + 1) (min most ((n : Int) + 1)).toNat := by
  have l := mbl_length least most n
  rw [← tot_eq]
  unfold G
  rw [mbl, List.getD_eq_getElem?_getD, List.getElem?_append_right (by bv_omega), l]
  simp
theorem ff_shift (n : Int) : ∀ j, ff (n + 1) (j + 1) = (n + 1) * ff n j
  | 0 => by simp [ff]
  | j + 1 => by
    rw [ff, ff_shift n j, ff]
    have : n + 1 - ((j + 1 : Nat) : Int) = n - (j : Int) := by bv_omega
    rw [this, Int.mul_assoc]
def lines (a : Int) (m : Int) : Nat → Int
  | 0 => a
  | j + 1 => lines a m j * (m - ((j : Int) + 1))
def ways (k : Int) (found : List Int) (m : Nat) : Int :=
  if k < (m : Int) then (m : Int) * found.getD (m - 1) 0 - lines (found.getD (m - 1 - k.toNat) 0) m k.toNat else (m : Int) * found.getD (m - 1) 0
def B : Int := 2 ^ 400
end M12
namespace M12
theorem ff_abs2 (c : Nat) (hc : c ≤ 61) : ∀ j, j ≤ 61 → (ff ((c : Int) - 1) j).natAbs ≤ 2 ^ (6 * j)
  | 0, _ => by simp [ff]
  | j + 1, h => by
    rw [ff, Int.natAbs_mul, Nat.mul_add, Nat.pow_add]
    have e : (2 : Nat) ^ (6 * 1) = 64 := rfl
    exact Nat.mul_le_mul (ff_abs2 c hc j (by bv_omega)) (by rw [e]; bv_omega)
theorem totG_abs (least : Int) (A : Nat → Int) (c b : Nat) (hc : c ≤ 61) (hA : ∀ i, i < c → (A i).natAbs ≤ 2 ^ b) : ∀ j, j ≤ c → (totG least A c j).natAbs ≤ j * 2 ^ (366 + b)
  | 0, _ => by simp [totG]
  | j + 1, h => by
    have ih := totG_abs least A c b hc hA j (by bv_omega)
    have m : (ff ((c : Int) - 1) j * A (c - (j + 1))).natAbs ≤ 2 ^ (366 + b) := by
      rw [Int.natAbs_mul, Nat.pow_add]
      refine Nat.mul_le_mul (Nat.le_trans (ff_abs2 c hc j (by bv_omega)) (Nat.pow_le_pow_right (by decide) (by bv_omega))) (hA _ (by bv_omega))
    rw [totG]
    split
    · rw [Nat.succ_mul]
      exact Nat.le_trans (Int.natAbs_add_le _ _) (Nat.add_le_add ih m)
    · rw [Nat.succ_mul]
      exact Nat.le_trans ih (Nat.le_add_right _ _)
theorem G_abs (least most : Int) : ∀ n, n ≤ 60 → ∀ i, i ≤ n → (G least most i).natAbs ≤ 2 ^ (400 * i)
  | 0, _, i, h => by
    have : i = 0 := by bv_omega
    subst this
    rw [G_zero]; decide
  | n + 1, hn, i, h => by
    by_cases e : i ≤ n
    · exact G_abs least most n (by bv_omega) i e
    · have : i = n + 1 := by bv_omega
      subst this
      rw [G_succ]
      have q := totG_abs least (G least most) (n + 1) (400 * n) (by bv_omega) (fun i hi => Nat.le_trans (G_abs least most n (by bv_omega) i (by bv_omega)) (Nat.pow_le_pow_right (by decide) (by bv_omega))) (min most ((n : Int) + 1)).toNat (by bv_omega)
      refine Nat.le_trans q ?_
      have e1 : (min most ((n : Int) + 1)).toNat ≤ 2 ^ 6 := by
        have : (2 : Nat) ^ 6 = 64 := rfl
        bv_omega
      refine Nat.le_trans (Nat.mul_le_mul_right _ e1) ?_
      rw [← Nat.pow_add]
      exact Nat.pow_le_pow_right (by decide) (by bv_omega)
theorem ff_abs3 (c j : Nat) (hc : c ≤ 61) (hj : j ≤ 61) : (ff ((c : Int) - 1) j).natAbs < 2 ^ 367 :=
  Nat.lt_of_le_of_lt (ff_abs2 c hc j hj) (Nat.pow_lt_pow_right (by decide) (by bv_omega))
theorem G_abs2 (least most : Int) (n : Nat) (hn : n ≤ 60) : (G least most n).natAbs < 2 ^ 24001 :=
  Nat.lt_of_le_of_lt (G_abs least most n hn n (Nat.le_refl _)) (Nat.pow_lt_pow_right (by decide) (by bv_omega))
end M12
namespace M12
def bin : Nat → Nat → Int
  | _, 0 => 1
  | 0, _ + 1 => 0
  | n + 1, m + 1 => bin n m + bin n (m + 1)
end M12
namespace M12
end M12
namespace M12
def e0 (i : Nat) : Int := if i = 0 then 1 else 0
end M12
namespace MR
def nf : Nat → Nat → Nat
  | _, 0 => 1
  | m, j + 1 => m * nf (m - 1) j
theorem nf_last : ∀ (j m : Nat), j ≤ m → nf m (j + 1) = nf m j * (m - j)
  | 0, m, _ => by simp [nf]
  | j + 1, m, h => by
    show m * nf (m - 1) (j + 1) = m * nf (m - 1) j * (m - (j + 1))
    rw [nf_last j (m - 1) (by bv_omega), Nat.mul_assoc, show m - 1 - j = m - (j + 1) by bv_omega]
def pr' : List Nat → List Nat → Nat
  | _, [] => 0
  | l, x :: xs => l.idxOf x * nf (l.length - 1) xs.length + pr' (l.erase x) xs
theorem idx_ofN : ∀ (l : List Nat) (j : Nat), l.Nodup → j < l.length → l.idxOf (l.getD j 0) = j ∧ l.erase (l.getD j 0) = l.eraseIdx j
  | a :: l, 0, _, _ => by simp
  | a :: l, j + 1, nd, h => by
    have h' : j < l.length := by simpa using h
    have nd' := List.nodup_cons.mp nd
    obtain ⟨e1, e2⟩ := idx_ofN l j nd'.2 h'
    have m : l.getD j 0 ∈ l := by simp [List.getD, h']
    have ne : ¬ a = l.getD j 0 := fun e => nd'.1 (by rw [e]; exact m)
    have g : (a :: l).getD (j + 1) 0 = l.getD j 0 := rfl
    rw [g]
    constructor
    · rw [List.idxOf_cons, show (a == l.getD j 0) = false by simpa using ne]
      show _ + 1 = _
      rw [e1]
    · rw [List.erase_cons, if_neg (by simpa using ne), e2]
      rfl
theorem sub_len : ∀ (xs l : List Nat), xs.Nodup → (∀ x ∈ xs, x ∈ l) → xs.length ≤ l.length
  | [], l, _, _ => Nat.zero_le _
  | x :: xs, l, nd, h => by
    have nd' := List.nodup_cons.mp nd
    have mx := h x (List.mem_cons_self ..)
    have := sub_len xs (l.erase x) nd'.2 fun y hy => (List.mem_erase_of_ne (fun (e : y = x) => nd'.1 (by rw [← e]; exact hy))).mpr (h y (List.mem_cons_of_mem _ hy))
    rw [List.length_erase_of_mem mx] at this
    have := List.length_pos_of_mem mx
    rw [List.length_cons]
    bv_omega
theorem sub_er {x : Nat} {xs l : List Nat} (nd : (x :: xs).Nodup) (h : ∀ y ∈ x :: xs, y ∈ l) : ∀ y ∈ xs, y ∈ l.erase x := fun y hy =>
  (List.mem_erase_of_ne (fun (e : y = x) => (List.nodup_cons.mp nd).1 (by rw [← e]; exact hy))).mpr (h y (List.mem_cons_of_mem _ hy))
theorem pr_lt : ∀ (xs l : List Nat), l.Nodup → xs.Nodup → (∀ x ∈ xs, x ∈ l) → pr' l xs < nf l.length xs.length
  | [], l, _, _, _ => by simp [pr', nf]
  | x :: xs, l, nl, nd, h => by
    have nd' := List.nodup_cons.mp nd
    have mx := h x (List.mem_cons_self ..)
    have ih := pr_lt xs (l.erase x) (nl.erase x) nd'.2 (sub_er nd h)
    have li := List.idxOf_lt_length_iff.mpr mx
    rw [List.length_erase_of_mem mx] at ih
    rw [pr', List.length_cons, nf]
    have : (l.idxOf x + 1) * nf (l.length - 1) xs.length ≤ l.length * nf (l.length - 1) xs.length := Nat.mul_le_mul_right _ (by bv_omega)
    rw [Nat.add_mul, Nat.one_mul] at this
    bv_omega
def smN (A : Nat → Nat) (c : Nat) : Nat → Nat
  | 0 => 0
  | j + 1 => smN A c j + nf (c - 1) j * A (c - (j + 1))
theorem ff_zero : ∀ j, M12.ff 0 (j + 1) = 0
  | 0 => by simp [M12.ff]
  | j + 1 => by rw [M12.ff, ff_zero j, Int.zero_mul]
theorem ff_nf : ∀ (j m : Nat), M12.ff (m : Int) j = ((nf m j : Nat) : Int)
  | 0, m => rfl
  | j + 1, 0 => by
    rw [nf, Nat.zero_mul]
    exact ff_zero j
  | j + 1, m + 1 => by
    rw [nf, Nat.add_sub_cancel, Int.natCast_mul, ← ff_nf j m]
    exact M12.ff_shift (m : Int) j
theorem tot_nat {A : Nat → Int} {B : Nat → Nat} {c : Nat} (h : ∀ i, i < c + 1 → A i = (B i : Int)) : ∀ j, M12.totG 1 A (c + 1) j = ((smN B (c + 1) j : Nat) : Int)
  | 0 => rfl
  | j + 1 => by
    have e1 : (((c + 1 : Nat) : Int) - 1) = (c : Int) := by bv_omega
    have e2 : ((smN B (c + 1) (j + 1) : Nat) : Int) = ((smN B (c + 1) j : Nat) : Int) + ((nf c j : Nat) : Int) * ((B (c + 1 - (j + 1)) : Nat) : Int) := by
      rw [smN, Nat.add_sub_cancel, ← Int.natCast_mul, ← Int.natCast_add]
    rw [M12.totG, if_pos (by bv_omega), tot_nat h j, e2, e1, ← ff_nf, h _ (by bv_omega)]
def gn (k m : Nat) : Nat := (M12.G 1 (k : Int) m).toNat
theorem gn_int (k m : Nat) : M12.G 1 (k : Int) m = ((gn k m : Nat) : Int) := by
  have nn : ∀ m, ∀ i, i ≤ m → 0 ≤ M12.G 1 (k : Int) i := fun m => by
    induction m with
    | zero =>
      intro i hi
      have : i = 0 := by bv_omega
      subst this
      rw [M12.G_zero]
      bv_omega
    | succ m ih =>
      intro i hi
      by_cases e : i = m + 1
      · subst e
        rw [M12.G_succ, tot_nat (B := fun i => (M12.G 1 (k : Int) i).toNat) fun i hi => (Int.toNat_of_nonneg (ih i (by bv_omega))).symm]
        exact Int.natCast_nonneg _
      · exact ih i (by bv_omega)
  exact (Int.toNat_of_nonneg (nn m m (Nat.le_refl _))).symm
def wo (l r : List Nat) : List Nat := l.filter fun b => !r.contains b
theorem wo_sub (l r : List Nat) : (wo l r).Sublist l := List.filter_sublist
theorem wo_perm : ∀ (l r : List Nat), l.Nodup → r.Nodup → (∀ x ∈ r, x ∈ l) → (r ++ wo l r).Perm l
  | l, [], _, _, _ => by
    have : wo l [] = l := List.filter_eq_self.mpr fun a _ => rfl
    rw [this]
    exact List.Perm.refl _
  | l, x :: r, nl, nd, h => by
    have nd' := List.nodup_cons.mp nd
    have mx := h x (List.mem_cons_self ..)
    have ih := wo_perm (l.erase x) r (nl.erase x) nd'.2 (sub_er nd h)
    have e : wo l (x :: r) = wo (l.erase x) r := by
      unfold wo
      rw [nl.erase_eq_filter, List.filter_filter]
      refine List.filter_congr fun b _ => ?_
      rw [List.contains_cons]
      cases h1 : (b == x) <;> cases h2 : r.contains b <;> simp_all
    rw [e]
    exact (ih.cons x).trans (List.perm_cons_erase mx).symm
inductive Told (k : Nat) : List Nat → Nat → List (List Nat) → Prop
  | nil : Told k [] 0 []
  | cons {a : Nat} {t xs : List Nat} {M : Nat} {rs : List (List Nat)} : xs.length < k → xs.Nodup → (∀ x ∈ xs, x ∈ t) → Told k (wo (a :: t) (a :: xs)) M rs →
    Told k (a :: t) (smN (gn k) (t.length + 1) xs.length + pr' t xs * gn k (t.length - xs.length) + M) ((a :: xs) :: rs)
theorem head_nodup {a : Nat} {t xs : List Nat} (nl : (a :: t).Nodup) (nd : xs.Nodup) (h : ∀ x ∈ xs, x ∈ t) : (a :: xs).Nodup ∧ ∀ x ∈ a :: xs, x ∈ a :: t :=
  ⟨List.nodup_cons.mpr ⟨fun z => (List.nodup_cons.mp nl).1 (h a z), nd⟩, fun x hx => by
    rcases List.mem_cons.mp hx with rfl | hx
    · exact List.mem_cons_self ..
    · exact List.mem_cons_of_mem _ (h x hx)⟩
def Can (rs : List (List Nat)) : Prop := (∀ r ∈ rs, ∃ a xs, r = a :: xs ∧ ∀ x ∈ xs, a < x) ∧ rs.Pairwise fun r r' => ∀ x ∈ r.head?, ∀ y ∈ r', x < y
end MR
namespace MR
inductive Chain : List Nat → List (List Nat) → Prop
  | nil : Chain [] []
  | cons {a : Nat} {t xs : List Nat} {rs : List (List Nat)} : xs.Nodup → (∀ x ∈ xs, x ∈ t) → Chain (wo (a :: t) (a :: xs)) rs → Chain (a :: t) ((a :: xs) :: rs)
theorem can_chain : ∀ (rs : List (List Nat)) (l : List Nat), Can rs → l.Pairwise (· < ·) → rs.flatten.Perm l → Chain l rs
  | [], l, _, _, p => by
    have : l = [] := p.nil_eq.symm
    subst this
    exact .nil
  | r :: rs, l, c, w, p => by
    obtain ⟨a, xs, rfl, hx⟩ := c.1 r (List.mem_cons_self ..)
    have pc := List.pairwise_cons.mp c.2
    rw [List.flatten_cons] at p
    have nl : l.Nodup := w.imp fun h => by bv_omega
    have nf := p.nodup_iff.mpr nl
    have na := List.nodup_append.mp nf
    have ma : a ∈ l := p.mem_iff.mp (List.mem_append_left _ (List.mem_cons_self ..))
    cases l with
    | nil => cases ma
    | cons b t =>
      have bl : ∀ x ∈ b :: t, b ≤ x := fun x hx => by
        rcases List.mem_cons.mp hx with rfl | hx
        · exact Nat.le_refl _
        · exact Nat.le_of_lt ((List.pairwise_cons.mp w).1 x hx)
      have ab := bl a ma
      have mb : b ∈ (a :: xs) ++ rs.flatten := p.mem_iff.mpr (List.mem_cons_self ..)
      have e : b = a := by
        rcases List.mem_append.mp mb with h | h
        · rcases List.mem_cons.mp h with h | h
          · exact h
          · have := hx b h
            bv_omega
        · obtain ⟨r', hr', hb⟩ := List.mem_flatten.mp h
          have := pc.1 r' hr' a rfl b hb
          bv_omega
      subst e
      have nx := (List.nodup_cons.mp na.1)
      have sub : ∀ x ∈ xs, x ∈ t := fun x h => by
        have m : x ∈ b :: t := p.mem_iff.mp (List.mem_append_left _ (List.mem_cons_of_mem _ h))
        rcases List.mem_cons.mp m with z | z
        · exact absurd (z ▸ h) nx.1
        · exact z
      obtain ⟨h1, h2⟩ := head_nodup nl nx.2 sub
      have p2 := (wo_perm (b :: t) (b :: xs) nl h1 h2)
      have p3 := (List.perm_append_left_iff (b :: xs)).mp (p.trans p2.symm)
      exact .cons nx.2 sub (can_chain rs _ ⟨fun r hr => c.1 r (List.mem_cons_of_mem _ hr), pc.2⟩ (w.sublist (wo_sub _ _)) p3)
theorem rgs_can {n : Nat} {xs : List Int} (o : Ord n xs) : Can (rgs n xs n) := by
  have k := o.rgs_ok n (Nat.le_refl n)
  have hd : ∀ r ∈ rgs n xs n, ∃ b, b < n ∧ r = ring n xs b ∧ r.head? = some b ∧ ∀ c ∈ r, b ≤ c := fun r hr => by
    obtain ⟨b, hb, rfl, h⟩ := k.each r hr
    exact ⟨b, hb, rfl, ring_head o hb, fun c hc => h c (mem_ring.mp hc)⟩
  refine ⟨fun r hr => ?_, ?_⟩
  · obtain ⟨b, hb, e, h1, h2⟩ := hd r hr
    have nd : r.Nodup := by rw [e]; exact o.ring_nodup hb
    cases r with
    | nil => cases h1
    | cons a ys =>
      have : a = b := by simpa using h1
      subst this
      refine ⟨a, ys, rfl, fun x hx => ?_⟩
      have := h2 x (List.mem_cons_of_mem _ hx)
      have ne : a ≠ x := fun z => (List.nodup_cons.mp nd).1 (z ▸ hx)
      bv_omega
  · have all : ∀ L : List (List Nat), (∀ r ∈ L, r ∈ rgs n xs n) → L.Pairwise (fun r r' => ∀ x ∈ r.head?, ∀ y ∈ r'.head?, x < y) → L.Pairwise (fun r r' => ∀ x ∈ r.head?, ∀ y ∈ r', x < y) := fun L => by
      induction L with
      | nil => exact fun _ _ => List.Pairwise.nil
      | cons r L ih =>
        intro hL w
        have w' := List.pairwise_cons.mp w
        refine List.pairwise_cons.mpr ⟨fun r' hr' x hx y hy => ?_, ih (fun r hr => hL r (List.mem_cons_of_mem _ hr)) w'.2⟩
        obtain ⟨b, _, _, h1, h2⟩ := hd r' (hL r' (List.mem_cons_of_mem _ hr'))
        have := w'.1 r' hr' x hx b (by rw [h1]; rfl)
        have := h2 y hy
        bv_omega
    exact all _ (fun r hr => hr) k.rise
theorem ord_chain {n : Nat} {xs : List Int} (o : Ord n xs) : Chain (List.range n) (rgs n xs n) := can_chain _ _ (rgs_can o) List.pairwise_lt_range (flatP o)
theorem chain_told {k : Nat} {l : List Nat} {rs : List (List Nat)} (C : Chain l rs) : (∀ r ∈ rs, r.length ≤ k) → ∃ N, Told k l N rs := by
  induction C with
  | nil => exact fun _ => ⟨0, .nil⟩
  | cons h1 h2 C ih =>
    intro h
    obtain ⟨N, T⟩ := ih fun r hr => h r (List.mem_cons_of_mem _ hr)
    exact ⟨_, .cons (h _ (List.mem_cons_self ..)) h1 h2 T⟩
theorem good_told {n k : Nat} {xs : List Int} (o : Ord n xs) (h : ∀ r ∈ rgs n xs n, r.length ≤ k) : ∃ N, Told k (List.range n) N (rgs n xs n) := chain_told (ord_chain o) h
end MR
set_option maxHeartbeats 4000000
namespace K42
open PySem L2 L2.L3
def top (i : Nat) : Stmt := PySem.Challenge.pw_ownboxes_k42_dealings_refused.main.body.getD i (.Pass ⟨0, 0, 0, 0⟩)
abbrev s_is_order : Stmt := top 14
abbrev s_ring_from : Stmt := top 15
abbrev s_rings_of : Stmt := top 16
abbrev s_order_by : Stmt := top 17
abbrev s_turned_back : Stmt := top 18
abbrev s_behind : Stmt := top 19
abbrev s_made_openings : Stmt := top 21
abbrev s_check_person : Stmt := top 22
abbrev s_check_people : Stmt := top 24
abbrev s_check_people_and_k : Stmt := top 25
abbrev s_many_by_lengths : Stmt := top 26
abbrev s_many_good : Stmt := top 27
abbrev s_many_first_rings : Stmt := top 29
abbrev s_many_with_first_ring : Stmt := top 30
abbrev s_ring_at : Stmt := top 31
abbrev s_ring_place : Stmt := top 32
abbrev s_good_at : Stmt := top 33
abbrev s_good_number : Stmt := top 34
abbrev s_opened_as : Stmt := top 36
abbrev s_finders_as : Stmt := top 37
abbrev s_dealing_at : Stmt := top 38
abbrev s_dealing_number : Stmt := top 39
abbrev s_l_order : Stmt := top 41
abbrev s_l_rings : Stmt := top 42
abbrev s_l_called : Stmt := top 43
abbrev s_l_asked : Stmt := top 44
abbrev s_l_bad_openings : Stmt := top 45
abbrev s_l_right : Stmt := top 46
abbrev s_law : Stmt := top 47
abbrev CLS : List Str := ["BadOrder", "BadOpenings", "NoPerson", "TooMany", "NoNumber"]
def B_is_order : Ev → Res Out := (sR (vAn (vB (b3 leI leI (eC (.int 1)) (eB lenD (aC (eV 0) aN)) (eC (.int 60)))) (e2 (fun x y => bD (eqD x y)) (eB sortD (aC (eV 0) aN)) (eB rangeL (aC (eB lenD (aC (eV 0) aN)) aN)))))
def F_is_order : List D → Res D := runF false 1 1 B_is_order
def B_ring_from : Ev → Res Out := (sQ (sS 2 (eB mkL (aC (eV 1) aN))) (sQ (sW 1000000 (b2 neD (e2 ixD (eV 0) (e2 ixD (eV 2) (e1 negD (eC (.int 1))))) (eV 1)) (sM 2 appD (aC (e2 ixD (eV 0) (e2 ixD (eV 2) (e1 negD (eC (.int 1))))) aN))) (sR (eB tupD (aC (eV 2) aN)))))
def F_ring_from : List D → Res D := runF false 2 3 B_ring_from
def B_rings_of : Ev → Res Out := (sQ (sS 1 (eB mkL aN)) (sQ (sS 2 (e2 repL (eB mkL (aC (eC (.bool false)) aN)) (eB lenD (aC (eV 0) aN)))) (sQ (sF (iR rng1 (aC (eB lenD (aC (eV 0) aN)) aN)) (gN 3) (sIf (tNt (tV (e2 ixD (eV 2) (eV 3)))) (sQ (sS 4 (eF F_ring_from (aC (eV 0) (aC (eV 3) aN)))) (sQ (sM 1 appD (aC (eV 4) aN)) (sF (iS (eV 4)) (gN 5) (sI 2 (eV 5) (eC (.bool true)))))) sN)) (sR (eV 1)))))
def F_rings_of : List D → Res D := runF true 1 6 B_rings_of
def B_order_by : Ev → Res Out := (sQ (sS 1 (eB mkL aN)) (sQ (sF (iS (eV 0)) (gN 2) (sQ (sIf (b2 eqD (eB lenD (aC (eV 2) aN)) (eC (.int 0))) (sRa "BadOrder" (aC (eC (.str "a ring has one box at least")) aN)) sN) (sM 1 extD (aC (eV 2) aN)))) (sQ (sIf (tNt (tV (eFA false F_is_order (aC (eV 1) aN)))) (sRa "BadOrder" (aC (eC (.str "rings have each of 1 to 60 boxes just once")) aN)) sN) (sQ (sS 3 (e2 repL (eB mkL (aC (eC (.int 0)) aN)) (eB lenD (aC (eV 1) aN)))) (sQ (sF (iS (eV 0)) (gN 2) (sF (iR rng1 (aC (eB lenD (aC (eV 2) aN)) aN)) (gN 4) (sI 3 (e2 ixD (eV 2) (e2 subI (eV 4) (eC (.int 1)))) (e2 ixD (eV 2) (eV 4))))) (sR (eB tupD (aC (eV 3) aN))))))))
def F_order_by : List D → Res D := runF false 1 5 B_order_by
def B_turned_back : Ev → Res Out := (sQ (sS 1 (e2 repL (eB mkL (aC (eC (.int 0)) aN)) (eB lenD (aC (eV 0) aN)))) (sQ (sF (i_enumerate (eV 0)) (gT 2 (gsC (gN 2) (gsC (gN 3) gsN))) (sI 1 (eV 3) (eV 2))) (sR (eB tupD (aC (eV 1) aN)))))
def F_turned_back : List D → Res D := runF false 1 4 B_turned_back
def B_behind : Ev → Res Out := (sQ (sIf (b2 neD (eB lenD (aC (eV 0) aN)) (eB lenD (aC (eV 1) aN))) (sRa "BadOrder" (aC (eC (.str "the two orders have not as many boxes")) aN)) sN) (sR (eB tupD (aC (eComp (iS (eV 0)) tYes (e2 ixD (eV 1) (eV 0)) [1]) aN))))
def F_behind : List D → Res D := runF false 2 2 B_behind
def B_made_openings : Ev → Res Out := (sQ (sIf (tNt (b3 leI leI (eC (.int 1)) (eV 0) (eC (.int 60)))) (sRa "BadOpenings" (aC (eC (.str "openings are for 1 to 60 people")) aN)) sN) (sQ (sIf (b2 neD (eB lenD (aC (eV 1) aN)) (eV 0)) (sRa "BadOpenings" (aC (eC (.str "each person has its openings")) aN)) sN) (sQ (sIf (tO (b2 ltI (eB min1D (aC (eV 1) aN)) (eC (.int 0))) (b2 gtI (eB max1D (aC (eV 1) aN)) (eV 0))) (sRa "BadOpenings" (aC (eC (.str "openings are from 0 to as many as there are boxes")) aN)) sN) (sR (eB tupD (aC (eV 1) aN))))))
def F_made_openings : List D → Res D := runF false 2 2 B_made_openings
def B_check_person : Ev → Res Out := (sIf (tNt (b3 leI ltI (eC (.int 0)) (eV 1) (eV 0))) (sRa "NoPerson" (aC (eC (.str "there is no such person")) aN)) sN)
def F_check_person : List D → Res D := runF false 2 2 B_check_person
def B_check_people : Ev → Res Out := (sIf (tNt (b3 leI leI (eC (.int 0)) (eV 0) (eC (.int 60)))) (sRa "TooMany" (aC (eC (.str "there are 0 to 60 people")) aN)) sN)
def F_check_people : List D → Res D := runF false 1 1 B_check_people
def B_check_people_and_k : Ev → Res Out := (sQ (sE (eF F_check_people (aC (eV 0) aN))) (sIf (b2 ltI (eV 1) (eC (.int 0))) (sRa "BadOpenings" (aC (eC (.str "openings are not below nought")) aN)) sN))
def F_check_people_and_k : List D → Res D := runF false 2 2 B_check_people_and_k
def B_many_by_lengths : Ev → Res Out := (sQ (sS 3 (eB mkL (aC (eC (.int 1)) aN))) (sQ (sF (iR rng2 (aC (eC (.int 1)) (aC (e2 addI (eV 0) (eC (.int 1))) aN))) (gN 4) (sQ (sS 5 (eC (.int 0))) (sQ (sS 6 (eC (.int 1))) (sQ (sF (iR rng2 (aC (eC (.int 1)) (aC (e2 addI (eB min2D (aC (eV 2) (aC (eV 4) aN))) (eC (.int 1))) aN))) (gN 7) (sQ (sIf (b2 geI (eV 7) (eV 1)) (sS 5 (e2 addI (eV 5) (e2 mulI (eV 6) (e2 ixD (eV 3) (e2 subI (eV 4) (eV 7)))))) sN) (sS 6 (e2 mulI (eV 6) (e2 subI (eV 4) (eV 7)))))) (sM 3 appD (aC (eV 5) aN)))))) (sR (eV 3))))
def F_many_by_lengths : List D → Res D := runF true 3 8 B_many_by_lengths
def B_many_good : Ev → Res Out := (sQ (sE (eF F_check_people_and_k (aC (eV 0) (aC (eV 1) aN)))) (sR (e2 ixD (eF F_many_by_lengths (aC (eV 0) (aC (eC (.int 1)) (aC (eV 1) aN)))) (eV 0))))
def F_many_good : List D → Res D := runF false 2 2 B_many_good
def B_many_first_rings : Ev → Res Out := (sQ (sS 2 (eC (.int 1))) (sQ (sF (iR rng2 (aC (eC (.int 1)) (aC (eV 1) aN))) (gN 3) (sS 2 (e2 mulI (eV 2) (e2 subI (eV 0) (eV 3))))) (sR (eV 2))))
def F_many_first_rings : List D → Res D := runF false 2 4 B_many_first_rings
def B_many_with_first_ring : Ev → Res Out := (sR (e2 mulI (eF F_many_first_rings (aC (eV 1) (aC (eV 2) aN))) (e2 ixD (eV 0) (e2 subI (eV 1) (eV 2)))))
def F_many_with_first_ring : List D → Res D := runF false 3 3 B_many_with_first_ring
def B_ring_at : Ev → Res Out := (sQ (sS 3 (eB mkL (aC (e2 ixD (eV 0) (eC (.int 0))) aN))) (sQ (sS 4 (eS slL (eV 0) (oS (eC (.int 1))) oN)) (sQ (sS 5 (eF F_many_first_rings (aC (eB lenD (aC (eV 0) aN)) (aC (eV 1) aN)))) (sQ (sS 6 (eV 2)) (sQ (sW 1000000 (b2 ltI (eB lenD (aC (eV 3) aN)) (eV 1)) (sQ (sS 5 (e2 fdivI (eV 5) (eB lenD (aC (eV 4) aN)))) (sQ (sAP 3 4 (e2 fdivI (eV 6) (eV 5))) (sS 6 (e2 modI (eV 6) (eV 5)))))) (sR (eB tupD (aC (eV 3) aN))))))))
def F_ring_at : List D → Res D := runF false 3 7 B_ring_at
def B_ring_place : Ev → Res Out := (sQ (sS 2 (eC (.int 0))) (sQ (sS 3 (eS slL (eV 0) (oS (eC (.int 1))) oN)) (sQ (sF (iS (eS slD (eV 1) (oS (eC (.int 1))) oN)) (gN 4) (sQ (sS 2 (e2 addI (e2 mulI (eV 2) (eB lenD (aC (eV 3) aN))) (eM1 ixDD (eV 3) (eV 4)))) (sM 3 remD (aC (eV 4) aN)))) (sR (eV 2)))))
def F_ring_place : List D → Res D := runF false 2 5 B_ring_place
def B_good_at : Ev → Res Out := (sQ (sIf (b2 eqD (eV 0) (eC (.int 0))) (sRa "TooMany" (aC (eC (.str "there are 1 to 60 people")) aN)) sN) (sQ (sE (eF F_check_people_and_k (aC (eV 0) (aC (eV 1) aN)))) (sQ (sS 3 (eF F_many_by_lengths (aC (eV 0) (aC (eC (.int 1)) (aC (eV 1) aN))))) (sQ (sIf (tNt (b3 leI ltI (eC (.int 0)) (eV 2) (e2 ixD (eV 3) (eV 0)))) (sRa "NoNumber" (aC (eC (.str "no good order has this number")) aN)) sN) (sQ (sS 4 (eB mkL aN)) (sQ (sS 5 (eB rangeL (aC (eV 0) aN))) (sQ (sS 6 (eV 2)) (sQ (sW 1000000 (b2 gtI (eB lenD (aC (eV 5) aN)) (eC (.int 0))) (sQ (sS 7 (eC (.int 1))) (sQ (sW 1000000 (b2 geI (eV 6) (eF F_many_with_first_ring (aC (eV 3) (aC (eB lenD (aC (eV 5) aN)) (aC (eV 7) aN))))) (sQ (sS 6 (e2 subI (eV 6) (eF F_many_with_first_ring (aC (eV 3) (aC (eB lenD (aC (eV 5) aN)) (aC (eV 7) aN)))))) (sS 7 (e2 addI (eV 7) (eC (.int 1)))))) (sQ (sS 8 (e2 ixD (eV 3) (e2 subI (eB lenD (aC (eV 5) aN)) (eV 7)))) (sQ (sS 9 (eF F_ring_at (aC (eV 5) (aC (eV 7) (aC (e2 fdivI (eV 6) (eV 8)) aN))))) (sQ (sM 4 appD (aC (eV 9) aN)) (sQ (sS 5 (eComp (iS (eV 5)) (b2 (inD true) (eV 0) (eV 1)) (eV 0) [9])) (sS 6 (e2 modI (eV 6) (eV 8)))))))))) (sR (eFA false F_order_by (aC (eV 4) aN)))))))))))
def F_good_at : List D → Res D := runF false 3 10 B_good_at
def B_good_number : Ev → Res Out := (sQ (sE (eF F_check_people_and_k (aC (eB lenD (aC (eV 0) aN)) (aC (eV 1) aN)))) (sQ (sS 2 (eF F_many_by_lengths (aC (eB lenD (aC (eV 0) aN)) (aC (eC (.int 1)) (aC (eV 1) aN))))) (sQ (sS 3 (eC (.int 0))) (sQ (sS 4 (eB rangeL (aC (eB lenD (aC (eV 0) aN)) aN))) (sQ (sF (iS (eF F_rings_of (aC (eV 0) aN))) (gN 5) (sQ (sIf (b2 gtI (eB lenD (aC (eV 5) aN)) (eV 1)) (sRa "NoNumber" (aC (eC (.str "the order is not good")) aN)) sN) (sQ (sF (iR rng2 (aC (eC (.int 1)) (aC (eB lenD (aC (eV 5) aN)) aN))) (gN 6) (sS 3 (e2 addI (eV 3) (eF F_many_with_first_ring (aC (eV 2) (aC (eB lenD (aC (eV 4) aN)) (aC (eV 6) aN))))))) (sQ (sS 3 (e2 addI (eV 3) (e2 mulI (eF F_ring_place (aC (eV 4) (aC (eV 5) aN))) (e2 ixD (eV 2) (e2 subI (eB lenD (aC (eV 4) aN)) (eB lenD (aC (eV 5) aN))))))) (sS 4 (eComp (iS (eV 4)) (b2 (inD true) (eV 0) (eV 1)) (eV 0) [5])))))) (sR (eV 3)))))))
def F_good_number : List D → Res D := runF false 2 7 B_good_number
def B_opened_as : Ev → Res Out := (sQ (sS 4 (eF F_behind (aC (eV 0) (aC (eV 1) aN)))) (sQ (sE (eF F_made_openings (aC (eB lenD (aC (eV 0) aN)) (aC (eV 2) aN)))) (sQ (sE (eF F_check_person (aC (eB lenD (aC (eV 0) aN)) (aC (eV 3) aN)))) (sR (eB listD (aC (eS slD (eF F_ring_from (aC (eV 4) (aC (e2 ixD (eV 1) (eV 3)) aN))) oN (oS (e2 ixD (eV 2) (eV 3)))) aN))))))
def F_opened_as : List D → Res D := runF true 4 5 B_opened_as
def B_finders_as : Ev → Res Out := (sQ (sS 3 (eF F_behind (aC (eV 0) (aC (eV 1) aN)))) (sQ (sE (eF F_made_openings (aC (eB lenD (aC (eV 0) aN)) (aC (eV 2) aN)))) (sQ (sS 4 (eB mkL aN)) (sQ (sF (i_enumerate (eV 1)) (gT 2 (gsC (gN 5) (gsC (gN 6) gsN))) (sIf (b2 geI (e2 ixD (eV 2) (eV 5)) (eB lenD (aC (eF F_ring_from (aC (eV 3) (aC (eV 6) aN))) aN))) (sM 4 appD (aC (eV 5) aN)) sN)) (sR (eB tupD (aC (eV 4) aN)))))))
def F_finders_as : List D → Res D := runF false 3 7 B_finders_as
def B_dealing_at : Ev → Res Out := (sR (eF F_behind (aC (eF F_turned_back (aC (eV 0) aN)) (aC (eF F_good_at (aC (eB lenD (aC (eV 0) aN)) (aC (eV 1) (aC (eV 2) aN)))) aN))))
def F_dealing_at : List D → Res D := runF false 3 3 B_dealing_at
def B_dealing_number : Ev → Res Out := (sR (eF F_good_number (aC (eF F_behind (aC (eV 0) (aC (eV 2) aN))) (aC (eV 1) aN))))
def F_dealing_number : List D → Res D := runF false 3 3 B_dealing_number
def B_l_order : Ev → Res Out := (sQ (sS 2 (eB mkL aN)) (sQ (sF (iR rng1 (aC (eV 1) aN)) (gN 3) (sQ (sM 2 insD (aC (e2 modI (eV 0) (e2 addI (eV 3) (eC (.int 1)))) (aC (eV 3) aN))) (sS 0 (e2 fdivI (eV 0) (e2 addI (eV 3) (eC (.int 1))))))) (sR (eB tupD (aC (eV 2) aN)))))
def F_l_order : List D → Res D := runF false 2 4 B_l_order
def F_l_rings : List D → Res D := ringsF
def B_l_called : Ev → Res Out := (sQ (sIf (b2 eqD (eV 0) (eC (.int 0))) (sR (eF F_opened_as (aC (eV 1) (aC (eV 2) (aC (e2 ixD (eV 3) (eC (.int 0))) (aC (e2 ixD (eV 3) (eC (.int 1))) aN)))))) sN) (sQ (sIf (b2 eqD (eV 0) (eC (.int 1))) (sR (eF F_finders_as (aC (eV 1) (aC (eV 2) (aC (e2 ixD (eV 3) (eC (.int 0))) aN))))) sN) (sQ (sIf (b2 eqD (eV 0) (eC (.int 2))) (sR (eF F_dealing_number (aC (eV 1) (aC (e2 ixD (eV 3) (eC (.int 2))) (aC (eV 2) aN))))) sN) (sR (eF F_dealing_at (aC (eV 1) (aC (e2 ixD (eV 3) (eC (.int 2))) (aC (e2 ixD (eV 3) (eC (.int 3))) aN))))))))
def F_l_called : List D → Res D := runF false 4 4 B_l_called
def B_l_asked : Ev → Res Out := (sQ (sS 4 (eC .none)) (sQ (sTry 5 CLS (sE (eF F_l_called (aC (eV 0) (aC (eV 1) (aC (eV 2) (aC (eV 3) aN)))))) (sS 4 (eV 5))) (sQ (sIf (tNt (tV (e1 (isiX CLS CLS) (eV 4)))) (sR (eC (.str "none"))) sN) (sQ (sIf (tV (e1 (isiX CLS ["BadBox", "BadGroup", "BadPlan", "BadText", "NoHelp", "TooMany"]) (eV 4))) (sR (eC (.str "another"))) sN) (sQ (sS 6 (eB mkL (aC (e1 (isiX CLS ["BadOrder"]) (eV 4)) (aC (e1 (isiX CLS ["BadOpenings"]) (eV 4)) (aC (e1 (isiX CLS ["NoPerson"]) (eV 4)) aN))))) (sQ (sM 6 appD (aC (e1 (isiX CLS ["NoNumber"]) (eV 4)) aN)) (sQ (sIf (b2 neD (eM1 cnDD (eV 6) (eC (.bool true))) (eC (.int 1))) (sR (eC (.str "another"))) sN) (sR (e2 ixD (eB mkL (aC (eC (.str "order")) (aC (eC (.str "openings")) (aC (eC (.str "person")) (aC (eC (.str "number")) aN))))) (eM1 ixDD (eV 6) (eC (.bool true))))))))))))
def F_l_asked : List D → Res D := runF false 4 7 B_l_asked
def B_l_bad_openings : Ev → Res Out := (sQ (sS 2 (e2 repL (eB mkL (aC (eV 1) aN)) (eV 1))) (sQ (sS 3 (e2 modI (e2 fdivI (eV 0) (eC (.int 5))) (eV 1))) (sQ (sS 4 (e2 mulI (e2 powI (eC (.int 10)) (eC (.int 40))) (e2 modI (e2 fdivI (eV 0) (eC (.int 300))) (eC (.int 2))))) (sQ (sI 2 (eV 3) (e2 ixD (eB mkL (aC (e2 subI (e1 negD (eC (.int 1))) (eV 4)) (aC (e2 addI (e2 addI (eV 1) (eC (.int 1))) (eV 4)) (aC (eC (.int 0)) (aC (eC (.int 1)) (aC (eV 1) aN)))))) (e2 modI (eV 0) (eC (.int 5))))) (sQ (sIf (b2 eqD (e2 modI (eV 0) (eC (.int 5))) (eC (.int 2))) (sM 2 popD (aC (eV 3) aN)) sN) (sQ (sIf (b2 gtI (e2 modI (eV 0) (eC (.int 5))) (eC (.int 2))) (sM 2 insD (aC (eV 3) (aC (eC (.int 1)) aN))) sN) (sR (eB tupD (aC (eV 2) aN)))))))))
def F_l_bad_openings : List D → Res D := runF false 2 5 B_l_bad_openings
def B_l_right : Ev → Res Out := (sQ (sS 3 (eB lenD (aC (eV 0) aN))) (sQ (sS 4 (eB tupD (aC (e2 repL (eB mkL (aC (eV 3) aN)) (eV 3)) aN))) (sQ (sS 5 (eF F_l_bad_openings (aC (eV 2) (aC (eV 3) aN)))) (sQ (sS 6 (e2 mulI (e2 powI (eC (.int 10)) (eC (.int 40))) (e2 modI (e2 fdivI (eV 2) (eC (.int 7))) (eC (.int 2))))) (sQ (sS 7 (e2 ixD (eB mkL (aC (e2 subI (e1 negD (eC (.int 1))) (eV 6)) (aC (e2 addI (eV 3) (eV 6)) aN))) (e2 modI (e2 fdivI (eV 2) (eC (.int 3))) (eC (.int 2))))) (sQ (sS 8 (e2 ixD (eB mkL (aC (e2 subI (e1 negD (eC (.int 1))) (eV 6)) (aC (e2 addI (eF F_many_good (aC (eV 3) (aC (eV 3) aN))) (eV 6)) aN))) (e2 modI (e2 fdivI (eV 2) (eC (.int 3))) (eC (.int 2))))) (sQ (sS 9 (eB mkL (aC (eS slD (eV 1) (oS (eC (.int 1))) oN) (aC (e2 catT (eV 1) (eB mkT (aC (eV 3) aN))) aN)))) (sQ (sF (iS (eV 9)) (gN 10) (sIf (b2 neD (eComp (iR rng1 (aC (eC (.int 3)) aN)) tYes (eF F_l_asked (aC (eV 0) (aC (eV 1) (aC (eV 2) (aC (eB mkT (aC (eV 3) (aC (eV 4) (aC (e1 negD (eC (.int 1))) (aC (e1 negD (eC (.int 1))) aN))))) aN))))) [0, 10, 5, 7]) (e2 repL (eB mkL (aC (eC (.str "order")) aN)) (eC (.int 3)))) (sR (eC (.bool false))) sN)) (sQ (sIf (b2 neD (eComp (iR rng1 (aC (eC (.int 4)) aN)) tYes (eF F_l_asked (aC (eV 0) (aC (eV 1) (aC (eV 2) (aC (eB mkT (aC (eV 3) (aC (eV 4) (aC (e2 subI (e1 negD (eC (.int 1))) (eV 5)) (aC (e1 negD (eC (.int 1))) aN))))) aN))))) [0, 1, 5, 7, 6]) (e2 repL (eB mkL (aC (eC (.str "openings")) aN)) (eC (.int 4)))) (sR (eC (.bool false))) sN) (sQ (sS 11 (eB mkT (aC (eV 4) (aC (eV 7) (aC (eV 3) (aC (eV 8) aN)))))) (sQ (sIf (b2 neD (eComp (iR rng1 (aC (eC (.int 4)) aN)) tYes (eF F_l_asked (aC (eV 0) (aC (eV 1) (aC (eV 2) (aC (eV 3) aN))))) [0, 1, 11]) (eB mkL (aC (eC (.str "person")) (aC (eC (.str "none")) (aC (eC (.str "none")) (aC (eC (.str "number")) aN)))))) (sR (eC (.bool false))) sN) (sQ (sS 12 (eB tupD (aC (eComp (iS (eV 0)) tYes (e2 ixD (eV 1) (eV 0)) [1]) aN))) (sQ (sS 13 (eB max1D (aC (eComp (iS (eF F_l_rings (aC (eV 12) aN))) tYes (eB lenD (aC (eV 0) aN)) []) aN))) (sR (e2 (fun x y => bD (eqD x y)) (eF F_l_asked (aC (eC (.int 2)) (aC (eV 0) (aC (eV 1) (aC (eB mkT (aC (eV 4) (aC (eC (.int 0)) (aC (e2 subI (eV 13) (eC (.int 1))) (aC (eC (.int 0)) aN))))) aN))))) (eC (.str "number")))))))))))))))))
def F_l_right : List D → Res D := runF false 3 14 B_l_right
def B_law : Ev → Res Out := (sQ (sF (iS (e2 catL (eB mkL (aC (eC (.int 0)) aN)) (eB listD (aC (eV 0) aN)))) (gN 1) (sQ (sS 1 (eB absD (aC (eV 1) aN))) (sQ (sS 2 (e2 addI (eC (.int 1)) (e2 modI (eV 1) (eC (.int 30))))) (sIf (tNt (tV (eF F_l_right (aC (eF F_l_order (aC (e2 fdivI (eV 1) (eC (.int 30))) (aC (eV 2) aN))) (aC (eF F_l_order (aC (e2 fdivI (eV 1) (eC (.int 77))) (aC (eV 2) aN))) (aC (e2 fdivI (eV 1) (eC (.int 30))) aN)))))) (sR (eC (.bool false))) sN)))) (sR (eC (.bool true))))
def F_law : List D → Res D := runF false 1 3 B_law
structure Txt [CN] (K : PySem.W.Frag) (mg : Str → Option Value) : Prop where
  g_ValueError : mg "ValueError" = none
  g_abs : mg "abs" = none
  g_enumerate : mg "enumerate" = none
  g_isinstance : mg "isinstance" = none
  g_len : mg "len" = none
  g_list : mg "list" = none
  g_max : mg "max" = none
  g_min : mg "min" = none
  g_range : mg "range" = none
  g_sorted : mg "sorted" = none
  g_tuple : mg "tuple" = none
  c_MOST_PEOPLE : ∃ u, mg "MOST_PEOPLE" = some u ∧ RelV (.int 60) u
  d_is_order : ∃ f fd, Has K mg "is_order" s_is_order f fd ["names"]
  d_ring_from : ∃ f fd, Has K mg "ring_from" s_ring_from f fd ["order", "box"]
  d_rings_of : ∃ f fd, Has K mg "rings_of" s_rings_of f fd ["order"]
  d_order_by : ∃ f fd, Has K mg "order_by" s_order_by f fd ["rings"]
  d_turned_back : ∃ f fd, Has K mg "turned_back" s_turned_back f fd ["order"]
  d_behind : ∃ f fd, Has K mg "behind" s_behind f fd ["one", "other"]
  d_made_openings : ∃ f fd, Has K mg "made_openings" s_made_openings f fd ["people", "numbers"]
  d_check_person : ∃ f fd, Has K mg "check_person" s_check_person f fd ["people", "person"]
  d_check_people : ∃ f fd, Has K mg "check_people" s_check_people f fd ["people"]
  d_check_people_and_k : ∃ f fd, Has K mg "check_people_and_k" s_check_people_and_k f fd ["people", "k"]
  d_many_by_lengths : ∃ f fd, Has K mg "many_by_lengths" s_many_by_lengths f fd ["people", "least", "most"]
  d_many_good : ∃ f fd, Has K mg "many_good" s_many_good f fd ["people", "k"]
  d_many_first_rings : ∃ f fd, Has K mg "many_first_rings" s_many_first_rings f fd ["boxes", "length"]
  d_many_with_first_ring : ∃ f fd, Has K mg "many_with_first_ring" s_many_with_first_ring f fd ["many", "boxes", "length"]
  d_ring_at : ∃ f fd, Has K mg "ring_at" s_ring_at f fd ["left", "length", "place"]
  d_ring_place : ∃ f fd, Has K mg "ring_place" s_ring_place f fd ["left", "ring"]
  d_good_at : ∃ f fd, Has K mg "good_at" s_good_at f fd ["people", "k", "number"]
  d_good_number : ∃ f fd, Has K mg "good_number" s_good_number f fd ["order", "k"]
  d_opened_as : ∃ f fd, Has K mg "opened_as" s_opened_as f fd ["order", "dealing", "openings", "person"]
  d_finders_as : ∃ f fd, Has K mg "finders_as" s_finders_as f fd ["order", "dealing", "openings"]
  d_dealing_at : ∃ f fd, Has K mg "dealing_at" s_dealing_at f fd ["order", "k", "number"]
  d_dealing_number : ∃ f fd, Has K mg "dealing_number" s_dealing_number f fd ["order", "k", "dealing"]
  d_l_order : ∃ f fd, Has K mg "_law_order" s_l_order f fd ["cell", "many"]
  d_l_rings : ∃ f fd, Has K mg "_law_rings" s_l_rings f fd ["order"]
  d_l_called : ∃ f fd, Has K mg "_law_called" s_l_called f fd ["way", "order", "dealing", "more"]
  d_l_asked : ∃ f fd, Has K mg "_law_asked" s_l_asked f fd ["way", "order", "dealing", "more"]
  d_l_bad_openings : ∃ f fd, Has K mg "_law_bad_openings" s_l_bad_openings f fd ["cell", "many"]
  d_l_right : ∃ f fd, Has K mg "_law_right" s_l_right f fd ["order", "dealing", "cell"]
  d_law : ∃ f fd, Has K mg "law" s_law f fd ["script"]
  x_BadBox : mg "BadBox" = some (.ref (CN.ad "BadBox"))
  x_BadGroup : mg "BadGroup" = some (.ref (CN.ad "BadGroup"))
  x_BadOpenings : mg "BadOpenings" = some (.ref (CN.ad "BadOpenings"))
  x_BadOrder : mg "BadOrder" = some (.ref (CN.ad "BadOrder"))
  x_BadPlan : mg "BadPlan" = some (.ref (CN.ad "BadPlan"))
  x_BadText : mg "BadText" = some (.ref (CN.ad "BadText"))
  x_BoxError : mg "BoxError" = some (.ref (CN.ad "BoxError"))
  x_NoHelp : mg "NoHelp" = some (.ref (CN.ad "NoHelp"))
  x_NoNumber : mg "NoNumber" = some (.ref (CN.ad "NoNumber"))
  x_NoPerson : mg "NoPerson" = some (.ref (CN.ad "NoPerson"))
  x_TooMany : mg "TooMany" = some (.ref (CN.ad "TooMany"))
  ox_BadOpenings : OwnX K "BadOpenings"
  ox_BadOrder : OwnX K "BadOrder"
  ox_NoNumber : OwnX K "NoNumber"
  ox_NoPerson : OwnX K "NoPerson"
  ox_TooMany : OwnX K "TooMany"
  kx_BadBox : IsK K CLS ["BadBox"] (.ref (CN.ad "BadBox"))
  kx_BadGroup : IsK K CLS ["BadGroup"] (.ref (CN.ad "BadGroup"))
  kx_BadOpenings : IsK K CLS ["BadOpenings"] (.ref (CN.ad "BadOpenings"))
  kx_BadOrder : IsK K CLS ["BadOrder"] (.ref (CN.ad "BadOrder"))
  kx_BadPlan : IsK K CLS ["BadPlan"] (.ref (CN.ad "BadPlan"))
  kx_BadText : IsK K CLS ["BadText"] (.ref (CN.ad "BadText"))
  kx_NoHelp : IsK K CLS ["NoHelp"] (.ref (CN.ad "NoHelp"))
  kx_NoNumber : IsK K CLS ["NoNumber"] (.ref (CN.ad "NoNumber"))
  kx_NoPerson : IsK K CLS ["NoPerson"] (.ref (CN.ad "NoPerson"))
  kx_TooMany : IsK K CLS ["TooMany"] (.ref (CN.ad "TooMany"))
  kv_ValueError : IsK K CLS CLS (.type "ValueError")
  tx_BoxError : ∀ c, CLS.contains c = true → PySem.W.kitCls K (.ref (CN.ad c)) (.ref (CN.ad "BoxError")) = some true
  tb_BoxError : PySem.W.subIn K (.ref (CN.ad "BoxError")) (.type "BaseException") = some true
section
variable [CN] {P : Program} {w : World} {K : PySem.W.Frag} {mg : Str → Option Value} {base : Heap}
theorem sc_is_order : FnScope ["names"] ["names"] (defScope s_is_order) := ⟨rfl, rfl, rfl, by decide +kernel, rfl, by decide +kernel, by decide +kernel⟩
theorem ok_is_order (T : Txt K mg) {f : Addr} {fd : FuncData} (h : Has K mg "is_order" s_is_order f fd ["names"]) : FnOk P w K mg base (CXV P w) 1 f fd ["names"] (spX false F_is_order) := by
  refine fnX_ok [] h.F sc_is_order fun cdv A outer s H E hr => ?_
  have nd := sc_is_order.nd
  have hu64 := hr.units
  have br := br_body (P := P) (w := w) (K := K) (mg := mg) (base := base) (N := ["names"]) (x := "is_order") (sc := defScope s_is_order) (f := f) (cdv := cdv) (A := A) (outer := outer) (s := s) (H := H) (E := E) (om := [])
  exact (yE (vY (re_and (re_chain op_le op_le pb_le pb_le yF (wG call_len_seq pc_len T.g_len PySem.boot_len (zM (zZ 0) zV)) (re_globI T.c_MOST_PEOPLE.choose_spec.1 T.c_MOST_PEOPLE.choose_spec.2)) (re_one (re_cmp (op_eqD hu64) pb_eq (wG call_sortedI pc_sort T.g_sorted (by rfl) (zM (zZ 0) zV)) (re_listRange T.g_list T.g_range (zM (wG call_len_seq pc_len T.g_len PySem.boot_len (zM (zZ 0) zV)) zV)))))))
theorem sc_ring_from : FnScope ["order", "box", "ring"] ["order", "box"] (defScope s_ring_from) := ⟨rfl, rfl, rfl, by decide +kernel, rfl, by decide +kernel, by decide +kernel⟩
theorem ok_ring_from (T : Txt K mg) {f : Addr} {fd : FuncData} (h : Has K mg "ring_from" s_ring_from f fd ["order", "box"]) : FnOk P w K mg base (CXV P w) 1 f fd ["order", "box"] (spX false F_ring_from) := by
  refine fnX_ok [2] h.F sc_ring_from fun cdv A outer s H E hr => ?_
  have nd := sc_ring_from.nd
  have hu64 := hr.units
  have br := br_body (P := P) (w := w) (K := K) (mg := mg) (base := base) (N := ["order", "box", "ring"]) (x := "ring_from") (sc := defScope s_ring_from) (f := f) (cdv := cdv) (A := A) (outer := outer) (s := s) (H := H) (E := E) (om := [2])
  exact (zR (vN 2 nd (vW (zX (zZ 1) zV))) (zR (rs_while 1000000 (vU (op_neD hu64) pb_ne (vS ix_seq vT (zZ 0) (vS ix_seq vT (vP 2) (uY yF))) (zZ 1)) (yE (vA 2 PySem.F.slot_list_append PySem.F.type_list_append mt_append pm_append (zX (vS ix_seq vT (zZ 0) (vS ix_seq vT (vP 2) (uY yF))) zV))) PassesOwn.leaving) (yE (vY (vQ call_tuple_of pc_tup T.g_tuple (by rfl) (zM (vP 2) zV))))))
theorem sc_rings_of : FnScope ["order", "rings", "seen", "box", "ring", "member"] ["order"] (defScope s_rings_of) := ⟨rfl, rfl, rfl, by decide +kernel, rfl, by decide +kernel, by decide +kernel⟩
theorem ok_rings_of (T : Txt K mg) {f : Addr} {fd : FuncData} (h : Has K mg "rings_of" s_rings_of f fd ["order"]) : FnOk P w K mg base (CXV P w) 2 f fd ["order"] (spX true F_rings_of) := by
  obtain ⟨f_ring_from, fd_ring_from, H_ring_from⟩ := T.d_ring_from
  have G_ring_from : FnOk P w K mg base (CXV P w) 1 f_ring_from fd_ring_from ["order", "box"] (spX false F_ring_from) := ok_ring_from T H_ring_from
  refine fnX_ok [1, 2] h.F sc_rings_of fun cdv A outer s H E hr => ?_
  have nd := sc_rings_of.nd
  have hu64 := hr.units
  have br := br_body (P := P) (w := w) (K := K) (mg := mg) (base := base) (N := ["order", "rings", "seen", "box", "ring", "member"]) (x := "rings_of") (sc := defScope s_rings_of) (f := f) (cdv := cdv) (A := A) (outer := outer) (s := s) (H := H) (E := E) (om := [1, 2])
  exact (zR (vN 1 nd (vW zV)) (zR (vN 2 nd (wF op_repR pr_rep (vW (zX uX zV)) (wG call_len_seq pc_len T.g_len PySem.boot_len (zM (zZ 0) zV)))) (zR (vJ (ri_range1 T.g_range (zM (wG call_len_seq pc_len T.g_len PySem.boot_len (zM (zZ 0) zV)) zV)) (rg_name 3 nd) (yE (vR (rt_not (rt_val (vS ix_seq vT (vP 2) (zZ 3)))) (zR (wB 4 nd (reX_callC G_ring_from H_ring_from (hr.mono (by decide)) br (zX (zZ 0) (zX (zZ 3) zV)))) (zR (vA 1 PySem.F.slot_list_append PySem.F.type_list_append mt_append pm_append (zX (zZ 4) zV)) (yE (vJ (vC (RE.rd (zZ 4))) (rg_name 5 nd) (yE (rs_item 2 uX (zZ 5))) PassesOwn.leaving)))) vX)) PassesOwn.leaving) (yE (rs_retO 1)))))
theorem sc_order_by : FnScope ["rings", "boxes", "ring", "names", "place"] ["rings"] (defScope s_order_by) := ⟨rfl, rfl, rfl, by decide +kernel, rfl, by decide +kernel, by decide +kernel⟩
theorem ok_order_by (T : Txt K mg) {f : Addr} {fd : FuncData} (h : Has K mg "order_by" s_order_by f fd ["rings"]) : FnOk P w K mg base (CXV P w) 2 f fd ["rings"] (spX false F_order_by) := by
  obtain ⟨f_is_order, fd_is_order, H_is_order⟩ := T.d_is_order
  have G_is_order : FnOk P w K mg base (CXV P w) 1 f_is_order fd_is_order ["names"] (spX false F_is_order) := ok_is_order T H_is_order
  refine fnX_ok [1, 3] h.F sc_order_by fun cdv A outer s H E hr => ?_
  have nd := sc_order_by.nd
  have hu64 := hr.units
  have br := br_body (P := P) (w := w) (K := K) (mg := mg) (base := base) (N := ["rings", "boxes", "ring", "names", "place"]) (x := "order_by") (sc := defScope s_order_by) (f := f) (cdv := cdv) (A := A) (outer := outer) (s := s) (H := H) (E := E) (om := [1, 3])
  exact (zR (vN 1 nd (vW zV)) (zR (vJ (vC (RE.rd (zZ 0))) (rg_name 2 nd) (zR (vR (vU (op_eqD hu64) pb_eq (wG call_len_seq pc_len T.g_len PySem.boot_len (zM (zZ 2) zV)) yF) (yE (vM br T.ox_BadOrder T.x_BadOrder (zM vV zV))) vX) (yE (rs_ext 1 (zZ 2)))) PassesOwn.leaving) (zR (vR (rt_not (rt_val (reX_callAC G_is_order H_is_order (hr.mono (by decide)) br (zM (vP 1) zV)))) (yE (vM br T.ox_BadOrder T.x_BadOrder (zM vV zV))) vX) (zR (vN 3 nd (wF op_repR pr_rep (vW (zX yF zV)) (wG call_len_seq pc_len T.g_len PySem.boot_len (zM (vP 1) zV)))) (zR (vJ (vC (RE.rd (zZ 0))) (rg_name 2 nd) (yE (vJ (ri_range1 T.g_range (zM (wG call_len_seq pc_len T.g_len PySem.boot_len (zM (zZ 2) zV)) zV)) (rg_name 4 nd) (yE (rs_item 3 (vS ix_seq vT (zZ 2) (zZ 4)) (vS ix_seq vT (zZ 2) (wF vE vG (zZ 4) yF)))) PassesOwn.leaving)) PassesOwn.leaving) (yE (vY (vQ call_tuple_of pc_tup T.g_tuple (by rfl) (zM (vP 3) zV)))))))))
theorem sc_turned_back : FnScope ["order", "boxes", "box", "name"] ["order"] (defScope s_turned_back) := ⟨rfl, rfl, rfl, by decide +kernel, rfl, by decide +kernel, by decide +kernel⟩
theorem ok_turned_back (T : Txt K mg) {f : Addr} {fd : FuncData} (h : Has K mg "turned_back" s_turned_back f fd ["order"]) : FnOk P w K mg base (CXV P w) 1 f fd ["order"] (spX false F_turned_back) := by
  refine fnX_ok [1] h.F sc_turned_back fun cdv A outer s H E hr => ?_
  have nd := sc_turned_back.nd
  have hu64 := hr.units
  have br := br_body (P := P) (w := w) (K := K) (mg := mg) (base := base) (N := ["order", "boxes", "box", "name"]) (x := "turned_back") (sc := defScope s_turned_back) (f := f) (cdv := cdv) (A := A) (outer := outer) (s := s) (H := H) (E := E) (om := [1])
  exact (zR (vN 1 nd (wF op_repR pr_rep (vW (zX yF zV)) (wG call_len_seq pc_len T.g_len PySem.boot_len (zM (zZ 0) zV)))) (zR (rs_forO (ri_enumerate T.g_enumerate (RE.rd (zZ 0))) (rg_tup rfl (rgs_cons (rg_name 2 nd) (rgs_cons (rg_name 3 nd) rgs_nil))) (yE (rs_item 1 (zZ 2) (zZ 3))) PassesOwn.leaving) (yE (vY (vQ call_tuple_of pc_tup T.g_tuple (by rfl) (zM (vP 1) zV))))))
theorem sc_behind : FnScope ["one", "other"] ["one", "other"] (defScope s_behind) := ⟨rfl, rfl, rfl, by decide +kernel, rfl, by decide +kernel, by decide +kernel⟩
theorem ok_behind (T : Txt K mg) {f : Addr} {fd : FuncData} (h : Has K mg "behind" s_behind f fd ["one", "other"]) : FnOk P w K mg base (CXV P w) 1 f fd ["one", "other"] (spX false F_behind) := by
  refine fnX_ok [] h.F sc_behind fun cdv A outer s H E hr => ?_
  have nd := sc_behind.nd
  have hu64 := hr.units
  have br := br_body (P := P) (w := w) (K := K) (mg := mg) (base := base) (N := ["one", "other"]) (x := "behind") (sc := defScope s_behind) (f := f) (cdv := cdv) (A := A) (outer := outer) (s := s) (H := H) (E := E) (om := [])
  exact (zR (vR (vU (op_neD hu64) pb_ne (wG call_len_seq pc_len T.g_len PySem.boot_len (zM (zZ 0) zV)) (wG call_len_seq pc_len T.g_len PySem.boot_len (zM (zZ 1) zV))) (yE (vM br T.ox_BadOrder T.x_BadOrder (zM vV zV))) vX) (yE (vY (vQ call_tuple_of pc_tup T.g_tuple (by rfl) (zM (re_comp (sc0 := defScope s_behind) (N0 := ["one", "other"]) (fs := ["other"]) (js := [1]) (by exact ⟨rfl, by decide +kernel, by decide +kernel, by decide +kernel, by decide +kernel, rfl, by decide +kernel, by decide +kernel⟩) rfl rfl rfl (RI.c (vC (RE.rd (zZ 0)))) (fun _ _ _ _ => rts_nil) (fun _ _ _ _ => (vS ix_seq vT (zZ 1) (zZ 0)))) zV)))))
theorem sc_made_openings : FnScope ["people", "numbers"] ["people", "numbers"] (defScope s_made_openings) := ⟨rfl, rfl, rfl, by decide +kernel, rfl, by decide +kernel, by decide +kernel⟩
theorem ok_made_openings (T : Txt K mg) {f : Addr} {fd : FuncData} (h : Has K mg "made_openings" s_made_openings f fd ["people", "numbers"]) : FnOk P w K mg base (CXV P w) 1 f fd ["people", "numbers"] (spX false F_made_openings) := by
  refine fnX_ok [] h.F sc_made_openings fun cdv A outer s H E hr => ?_
  have nd := sc_made_openings.nd
  have hu64 := hr.units
  have br := br_body (P := P) (w := w) (K := K) (mg := mg) (base := base) (N := ["people", "numbers"]) (x := "made_openings") (sc := defScope s_made_openings) (f := f) (cdv := cdv) (A := A) (outer := outer) (s := s) (H := H) (E := E) (om := [])
  exact (zR (vR (rt_not (rt_chain op_le op_le pb_le pb_le yF (zZ 0) (re_globI T.c_MOST_PEOPLE.choose_spec.1 T.c_MOST_PEOPLE.choose_spec.2))) (yE (vM br T.ox_BadOpenings T.x_BadOpenings (zM vV zV))) vX) (zR (vR (vU (op_neD hu64) pb_ne (wG call_len_seq pc_len T.g_len PySem.boot_len (zM (zZ 1) zV)) (zZ 0)) (yE (vM br T.ox_BadOpenings T.x_BadOpenings (zM vV zV))) vX) (zR (vR (RW.rt (rw_or (vU op_lt pb_lt (wG (call_min1 rfl) pc_min1 T.g_min PyProof.Rows.boot_min (zM (zZ 1) zV)) yF) (rw_or1 (vU op_gt pb_gt (wG (call_max1 rfl) pc_max1 T.g_max PyProof.Rows.boot_max (zM (zZ 1) zV)) (zZ 0))))) (yE (vM br T.ox_BadOpenings T.x_BadOpenings (zM vV zV))) vX) (yE (vY (vQ call_tuple_of pc_tup T.g_tuple (by rfl) (zM (zZ 1) zV)))))))
theorem sc_check_person : FnScope ["people", "person"] ["people", "person"] (defScope s_check_person) := ⟨rfl, rfl, rfl, by decide +kernel, rfl, by decide +kernel, by decide +kernel⟩
theorem ok_check_person (T : Txt K mg) {f : Addr} {fd : FuncData} (h : Has K mg "check_person" s_check_person f fd ["people", "person"]) : FnOk P w K mg base (CXV P w) 1 f fd ["people", "person"] (spX false F_check_person) := by
  refine fnX_ok [] h.F sc_check_person fun cdv A outer s H E hr => ?_
  have nd := sc_check_person.nd
  have hu64 := hr.units
  have br := br_body (P := P) (w := w) (K := K) (mg := mg) (base := base) (N := ["people", "person"]) (x := "check_person") (sc := defScope s_check_person) (f := f) (cdv := cdv) (A := A) (outer := outer) (s := s) (H := H) (E := E) (om := [])
  exact (yE (vR (rt_not (rt_chain op_le op_lt pb_le pb_lt yF (zZ 1) (zZ 0))) (yE (vM br T.ox_NoPerson T.x_NoPerson (zM vV zV))) vX))
theorem sc_check_people : FnScope ["people"] ["people"] (defScope s_check_people) := ⟨rfl, rfl, rfl, by decide +kernel, rfl, by decide +kernel, by decide +kernel⟩
theorem ok_check_people (T : Txt K mg) {f : Addr} {fd : FuncData} (h : Has K mg "check_people" s_check_people f fd ["people"]) : FnOk P w K mg base (CXV P w) 1 f fd ["people"] (spX false F_check_people) := by
  refine fnX_ok [] h.F sc_check_people fun cdv A outer s H E hr => ?_
  have nd := sc_check_people.nd
  have hu64 := hr.units
  have br := br_body (P := P) (w := w) (K := K) (mg := mg) (base := base) (N := ["people"]) (x := "check_people") (sc := defScope s_check_people) (f := f) (cdv := cdv) (A := A) (outer := outer) (s := s) (H := H) (E := E) (om := [])
  exact (yE (vR (rt_not (rt_chain op_le op_le pb_le pb_le yF (zZ 0) (re_globI T.c_MOST_PEOPLE.choose_spec.1 T.c_MOST_PEOPLE.choose_spec.2))) (yE (vM br T.ox_TooMany T.x_TooMany (zM vV zV))) vX))
theorem sc_check_people_and_k : FnScope ["people", "k"] ["people", "k"] (defScope s_check_people_and_k) := ⟨rfl, rfl, rfl, by decide +kernel, rfl, by decide +kernel, by decide +kernel⟩
theorem ok_check_people_and_k (T : Txt K mg) {f : Addr} {fd : FuncData} (h : Has K mg "check_people_and_k" s_check_people_and_k f fd ["people", "k"]) : FnOk P w K mg base (CXV P w) 2 f fd ["people", "k"] (spX false F_check_people_and_k) := by
  obtain ⟨f_check_people, fd_check_people, H_check_people⟩ := T.d_check_people
  have G_check_people : FnOk P w K mg base (CXV P w) 1 f_check_people fd_check_people ["people"] (spX false F_check_people) := ok_check_people T H_check_people
  refine fnX_ok [] h.F sc_check_people_and_k fun cdv A outer s H E hr => ?_
  have nd := sc_check_people_and_k.nd
  have hu64 := hr.units
  have br := br_body (P := P) (w := w) (K := K) (mg := mg) (base := base) (N := ["people", "k"]) (x := "check_people_and_k") (sc := defScope s_check_people_and_k) (f := f) (cdv := cdv) (A := A) (outer := outer) (s := s) (H := H) (E := E) (om := [])
  exact (zR (rs_expr (reX_callC G_check_people H_check_people (hr.mono (by decide)) br (zX (zZ 0) zV))) (yE (vR (vU op_lt pb_lt (zZ 1) yF) (yE (vM br T.ox_BadOpenings T.x_BadOpenings (zM vV zV))) vX)))
theorem sc_many_by_lengths : FnScope ["people", "least", "most", "many", "count", "total", "ways", "length"] ["people", "least", "most"] (defScope s_many_by_lengths) := ⟨rfl, rfl, rfl, by decide +kernel, rfl, by decide +kernel, by decide +kernel⟩
theorem ok_many_by_lengths (T : Txt K mg) {f : Addr} {fd : FuncData} (h : Has K mg "many_by_lengths" s_many_by_lengths f fd ["people", "least", "most"]) : FnOk P w K mg base (CXV P w) 1 f fd ["people", "least", "most"] (spX true F_many_by_lengths) := by
  refine fnX_ok [3] h.F sc_many_by_lengths fun cdv A outer s H E hr => ?_
  have nd := sc_many_by_lengths.nd
  have hu64 := hr.units
  have br := br_body (P := P) (w := w) (K := K) (mg := mg) (base := base) (N := ["people", "least", "most", "many", "count", "total", "ways", "length"]) (x := "many_by_lengths") (sc := defScope s_many_by_lengths) (f := f) (cdv := cdv) (A := A) (outer := outer) (s := s) (H := H) (E := E) (om := [3])
  exact (zR (vN 3 nd (vW (zX yF zV))) (zR (vJ (ri_range2 T.g_range (zM yF (zM (wF uZ vI (zZ 0) yF) zV))) (rg_name 4 nd) (zR (wB 5 nd yF) (zR (wB 6 nd yF) (zR (vJ (ri_range2 T.g_range (zM yF (zM (wF uZ vI (wG (call_min2 rfl) pc_min2 T.g_min PyProof.Rows.boot_min (zM (zZ 2) (zM (zZ 4) zV))) yF) zV))) (rg_name 7 nd) (zR (vR (vU op_ge pb_ge (zZ 7) (zZ 1)) (yE (rs_aug 5 nd iop_add vI (wF op_mulA pr_mul (zZ 6) (vS ix_seq vT (vP 3) (wF vE vG (zZ 4) (zZ 7)))))) vX) (yE (rs_aug 6 nd iop_mulA pr_mul (wF vE vG (zZ 4) (zZ 7))))) PassesOwn.leaving) (yE (vA 3 PySem.F.slot_list_append PySem.F.type_list_append mt_append pm_append (zX (zZ 5) zV)))))) PassesOwn.leaving) (yE (rs_retO 3))))
theorem sc_many_good : FnScope ["people", "k"] ["people", "k"] (defScope s_many_good) := ⟨rfl, rfl, rfl, by decide +kernel, rfl, by decide +kernel, by decide +kernel⟩
theorem ok_many_good (T : Txt K mg) {f : Addr} {fd : FuncData} (h : Has K mg "many_good" s_many_good f fd ["people", "k"]) : FnOk P w K mg base (CXV P w) 3 f fd ["people", "k"] (spX false F_many_good) := by
  obtain ⟨f_check_people_and_k, fd_check_people_and_k, H_check_people_and_k⟩ := T.d_check_people_and_k
  have G_check_people_and_k : FnOk P w K mg base (CXV P w) 2 f_check_people_and_k fd_check_people_and_k ["people", "k"] (spX false F_check_people_and_k) := ok_check_people_and_k T H_check_people_and_k
  obtain ⟨f_many_by_lengths, fd_many_by_lengths, H_many_by_lengths⟩ := T.d_many_by_lengths
  have G_many_by_lengths : FnOk P w K mg base (CXV P w) 1 f_many_by_lengths fd_many_by_lengths ["people", "least", "most"] (spX true F_many_by_lengths) := ok_many_by_lengths T H_many_by_lengths
  refine fnX_ok [] h.F sc_many_good fun cdv A outer s H E hr => ?_
  have nd := sc_many_good.nd
  have hu64 := hr.units
  have br := br_body (P := P) (w := w) (K := K) (mg := mg) (base := base) (N := ["people", "k"]) (x := "many_good") (sc := defScope s_many_good) (f := f) (cdv := cdv) (A := A) (outer := outer) (s := s) (H := H) (E := E) (om := [])
  exact (zR (rs_expr (reX_callC G_check_people_and_k H_check_people_and_k (hr.mono (by decide)) br (zX (zZ 0) (zX (zZ 1) zV)))) (yE (vY (vS ix_seq vT (reX_callN G_many_by_lengths H_many_by_lengths (hr.mono (by decide)) br (zX (zZ 0) (zX yF (zX (zZ 1) zV)))) (zZ 0)))))
theorem sc_many_first_rings : FnScope ["boxes", "length", "ways", "taken"] ["boxes", "length"] (defScope s_many_first_rings) := ⟨rfl, rfl, rfl, by decide +kernel, rfl, by decide +kernel, by decide +kernel⟩
theorem ok_many_first_rings (T : Txt K mg) {f : Addr} {fd : FuncData} (h : Has K mg "many_first_rings" s_many_first_rings f fd ["boxes", "length"]) : FnOk P w K mg base (CXV P w) 1 f fd ["boxes", "length"] (spX false F_many_first_rings) := by
  refine fnX_ok [] h.F sc_many_first_rings fun cdv A outer s H E hr => ?_
  have nd := sc_many_first_rings.nd
  have hu64 := hr.units
  have br := br_body (P := P) (w := w) (K := K) (mg := mg) (base := base) (N := ["boxes", "length", "ways", "taken"]) (x := "many_first_rings") (sc := defScope s_many_first_rings) (f := f) (cdv := cdv) (A := A) (outer := outer) (s := s) (H := H) (E := E) (om := [])
  exact (zR (wB 2 nd yF) (zR (vJ (ri_range2 T.g_range (zM yF (zM (zZ 1) zV))) (rg_name 3 nd) (yE (rs_aug 2 nd iop_mulA pr_mul (wF vE vG (zZ 0) (zZ 3)))) PassesOwn.leaving) (yE (vY (zZ 2)))))
theorem sc_many_with_first_ring : FnScope ["many", "boxes", "length"] ["many", "boxes", "length"] (defScope s_many_with_first_ring) := ⟨rfl, rfl, rfl, by decide +kernel, rfl, by decide +kernel, by decide +kernel⟩
theorem ok_many_with_first_ring (T : Txt K mg) {f : Addr} {fd : FuncData} (h : Has K mg "many_with_first_ring" s_many_with_first_ring f fd ["many", "boxes", "length"]) : FnOk P w K mg base (CXV P w) 2 f fd ["many", "boxes", "length"] (spX false F_many_with_first_ring) := by
  obtain ⟨f_many_first_rings, fd_many_first_rings, H_many_first_rings⟩ := T.d_many_first_rings
  have G_many_first_rings : FnOk P w K mg base (CXV P w) 1 f_many_first_rings fd_many_first_rings ["boxes", "length"] (spX false F_many_first_rings) := ok_many_first_rings T H_many_first_rings
  refine fnX_ok [] h.F sc_many_with_first_ring fun cdv A outer s H E hr => ?_
  have nd := sc_many_with_first_ring.nd
  have hu64 := hr.units
  have br := br_body (P := P) (w := w) (K := K) (mg := mg) (base := base) (N := ["many", "boxes", "length"]) (x := "many_with_first_ring") (sc := defScope s_many_with_first_ring) (f := f) (cdv := cdv) (A := A) (outer := outer) (s := s) (H := H) (E := E) (om := [])
  exact (yE (vY (wF op_mulA pr_mul (reX_callC G_many_first_rings H_many_first_rings (hr.mono (by decide)) br (zX (zZ 1) (zX (zZ 2) zV))) (vS ix_seq vT (zZ 0) (wF vE vG (zZ 1) (zZ 2))))))
theorem sc_ring_at : FnScope ["left", "length", "place", "ring", "others", "ways", "rest"] ["left", "length", "place"] (defScope s_ring_at) := ⟨rfl, rfl, rfl, by decide +kernel, rfl, by decide +kernel, by decide +kernel⟩
theorem ok_ring_at (T : Txt K mg) {f : Addr} {fd : FuncData} (h : Has K mg "ring_at" s_ring_at f fd ["left", "length", "place"]) : FnOk P w K mg base (CXV P w) 2 f fd ["left", "length", "place"] (spX false F_ring_at) := by
  obtain ⟨f_many_first_rings, fd_many_first_rings, H_many_first_rings⟩ := T.d_many_first_rings
  have G_many_first_rings : FnOk P w K mg base (CXV P w) 1 f_many_first_rings fd_many_first_rings ["boxes", "length"] (spX false F_many_first_rings) := ok_many_first_rings T H_many_first_rings
  refine fnX_ok [3, 4] h.F sc_ring_at fun cdv A outer s H E hr => ?_
  have nd := sc_ring_at.nd
  have hu64 := hr.units
  have br := br_body (P := P) (w := w) (K := K) (mg := mg) (base := base) (N := ["left", "length", "place", "ring", "others", "ways", "rest"]) (x := "ring_at") (sc := defScope s_ring_at) (f := f) (cdv := cdv) (A := A) (outer := outer) (s := s) (H := H) (E := E) (om := [3, 4])
  exact (zR (vN 3 nd (vW (zX (vS ix_seq vT (zZ 0) yF) zV))) (zR (vN 4 nd (re_sliceL (zZ 0) (ro_some yF) ro_none)) (zR (wB 5 nd (reX_callC G_many_first_rings H_many_first_rings (hr.mono (by decide)) br (zX (wG call_len_seq pc_len T.g_len PySem.boot_len (zM (zZ 0) zV)) (zX (zZ 1) zV)))) (zR (wB 6 nd (zZ 2)) (zR (rs_while 1000000 (vU op_lt pb_lt (wG call_len_seq pc_len T.g_len PySem.boot_len (zM (vP 3) zV)) (zZ 1)) (zR (rs_aug 5 nd iop_fdivA vK (wG call_len_seq pc_len T.g_len PySem.boot_len (zM (vP 4) zV))) (zR (rs_appPop 3 4 (wF vL vK (zZ 6) (zZ 5))) (yE (wB 6 nd (wF vF vD (zZ 6) (zZ 5)))))) PassesOwn.leaving) (yE (vY (vQ call_tuple_of pc_tup T.g_tuple (by rfl) (zM (vP 3) zV)))))))))
theorem sc_ring_place : FnScope ["left", "ring", "place", "others", "box"] ["left", "ring"] (defScope s_ring_place) := ⟨rfl, rfl, rfl, by decide +kernel, rfl, by decide +kernel, by decide +kernel⟩
theorem ok_ring_place (T : Txt K mg) {f : Addr} {fd : FuncData} (h : Has K mg "ring_place" s_ring_place f fd ["left", "ring"]) : FnOk P w K mg base (CXV P w) 1 f fd ["left", "ring"] (spX false F_ring_place) := by
  refine fnX_ok [3] h.F sc_ring_place fun cdv A outer s H E hr => ?_
  have nd := sc_ring_place.nd
  have hu64 := hr.units
  have br := br_body (P := P) (w := w) (K := K) (mg := mg) (base := base) (N := ["left", "ring", "place", "others", "box"]) (x := "ring_place") (sc := defScope s_ring_place) (f := f) (cdv := cdv) (A := A) (outer := outer) (s := s) (H := H) (E := E) (om := [3])
  exact (zR (wB 2 nd yF) (zR (vN 3 nd (re_sliceL (zZ 0) (ro_some yF) ro_none)) (zR (vJ (vC (RE.rd (re_sliceD (zZ 1) (ro_some yF) ro_none))) (rg_name 4 nd) (zR (wB 2 nd (wF uZ vI (wF op_mulA pr_mul (zZ 2) (wG call_len_seq pc_len T.g_len PySem.boot_len (zM (vP 3) zV))) (re_meth1 PySem.F.slot_list_index PySem.F.type_list_index mt_index p1_index (vP 3) (zZ 4)))) (yE (vA 3 PySem.F.slot_list_remove PySem.F.type_list_remove mt_remI pm_rem (zX (zZ 4) zV)))) PassesOwn.leaving) (yE (vY (zZ 2))))))
theorem sc_good_at : FnScope ["people", "k", "number", "many", "rings", "left", "rest", "length", "later", "ring"] ["people", "k", "number"] (defScope s_good_at) := ⟨rfl, rfl, rfl, by decide +kernel, rfl, by decide +kernel, by decide +kernel⟩
theorem ok_good_at (T : Txt K mg) {f : Addr} {fd : FuncData} (h : Has K mg "good_at" s_good_at f fd ["people", "k", "number"]) : FnOk P w K mg base (CXV P w) 3 f fd ["people", "k", "number"] (spX false F_good_at) := by
  obtain ⟨f_check_people_and_k, fd_check_people_and_k, H_check_people_and_k⟩ := T.d_check_people_and_k
  have G_check_people_and_k : FnOk P w K mg base (CXV P w) 2 f_check_people_and_k fd_check_people_and_k ["people", "k"] (spX false F_check_people_and_k) := ok_check_people_and_k T H_check_people_and_k
  obtain ⟨f_many_by_lengths, fd_many_by_lengths, H_many_by_lengths⟩ := T.d_many_by_lengths
  have G_many_by_lengths : FnOk P w K mg base (CXV P w) 1 f_many_by_lengths fd_many_by_lengths ["people", "least", "most"] (spX true F_many_by_lengths) := ok_many_by_lengths T H_many_by_lengths
  obtain ⟨f_many_with_first_ring, fd_many_with_first_ring, H_many_with_first_ring⟩ := T.d_many_with_first_ring
  have G_many_with_first_ring : FnOk P w K mg base (CXV P w) 2 f_many_with_first_ring fd_many_with_first_ring ["many", "boxes", "length"] (spX false F_many_with_first_ring) := ok_many_with_first_ring T H_many_with_first_ring
  obtain ⟨f_ring_at, fd_ring_at, H_ring_at⟩ := T.d_ring_at
  have G_ring_at : FnOk P w K mg base (CXV P w) 2 f_ring_at fd_ring_at ["left", "length", "place"] (spX false F_ring_at) := ok_ring_at T H_ring_at
  obtain ⟨f_order_by, fd_order_by, H_order_by⟩ := T.d_order_by
  have G_order_by : FnOk P w K mg base (CXV P w) 2 f_order_by fd_order_by ["rings"] (spX false F_order_by) := ok_order_by T H_order_by
  refine fnX_ok [4] h.F sc_good_at fun cdv A outer s H E hr => ?_
  have nd := sc_good_at.nd
  have hu64 := hr.units
  have br := br_body (P := P) (w := w) (K := K) (mg := mg) (base := base) (N := ["people", "k", "number", "many", "rings", "left", "rest", "length", "later", "ring"]) (x := "good_at") (sc := defScope s_good_at) (f := f) (cdv := cdv) (A := A) (outer := outer) (s := s) (H := H) (E := E) (om := [4])
  exact (zR (vR (vU (op_eqD hu64) pb_eq (zZ 0) yF) (yE (vM br T.ox_TooMany T.x_TooMany (zM vV zV))) vX) (zR (rs_expr (reX_callC G_check_people_and_k H_check_people_and_k (hr.mono (by decide)) br (zX (zZ 0) (zX (zZ 1) zV)))) (zR (wB 3 nd (RE.cl (reX_callN G_many_by_lengths H_many_by_lengths (hr.mono (by decide)) br (zX (zZ 0) (zX yF (zX (zZ 1) zV)))))) (zR (vR (rt_not (rt_chain op_le op_lt pb_le pb_lt yF (zZ 2) (vS ix_seq vT (zZ 3) (zZ 0)))) (yE (vM br T.ox_NoNumber T.x_NoNumber (zM vV zV))) vX) (zR (vN 4 nd (vW zV)) (zR (wB 5 nd (RE.cl (re_listRange T.g_list T.g_range (zM (zZ 0) zV)))) (zR (wB 6 nd (zZ 2)) (zR (rs_while 1000000 (vU op_gt pb_gt (wG call_len_seq pc_len T.g_len PySem.boot_len (zM (zZ 5) zV)) yF) (zR (wB 7 nd yF) (zR (rs_while 1000000 (vU op_ge pb_ge (zZ 6) (reX_callC G_many_with_first_ring H_many_with_first_ring (hr.mono (by decide)) br (zX (zZ 3) (zX (wG call_len_seq pc_len T.g_len PySem.boot_len (zM (zZ 5) zV)) (zX (zZ 7) zV))))) (zR (rs_aug 6 nd iop_sub vG (reX_callC G_many_with_first_ring H_many_with_first_ring (hr.mono (by decide)) br (zX (zZ 3) (zX (wG call_len_seq pc_len T.g_len PySem.boot_len (zM (zZ 5) zV)) (zX (zZ 7) zV))))) (yE (rs_aug 7 nd iop_add vI yF))) PassesOwn.leaving) (zR (wB 8 nd (vS ix_seq vT (zZ 3) (wF vE vG (wG call_len_seq pc_len T.g_len PySem.boot_len (zM (zZ 5) zV)) (zZ 7)))) (zR (wB 9 nd (reX_callC G_ring_at H_ring_at (hr.mono (by decide)) br (zX (zZ 5) (zX (zZ 7) (zX (wF vL vK (zZ 6) (zZ 8)) zV))))) (zR (vA 4 PySem.F.slot_list_append PySem.F.type_list_append mt_append pm_append (zX (zZ 9) zV)) (zR (rs_comp 5 nd (sc0 := defScope s_good_at) (N0 := ["people", "k", "number", "many", "rings", "left", "rest", "length", "later", "ring"]) (fs := ["ring"]) (js := [9]) (by exact ⟨rfl, by decide +kernel, by decide +kernel, by decide +kernel, by decide +kernel, rfl, by decide +kernel, by decide +kernel⟩) rfl rfl rfl (RI.c (vC (RE.rd (zZ 5)))) (fun _ _ _ _ => (rts_one (vU op_notIn_seq pb_in (zZ 0) (zZ 1)))) (fun _ _ _ _ => (zZ 0))) (yE (wB 6 nd (wF vF vD (zZ 6) (zZ 8)))))))))) PassesOwn.leaving) (yE (vY (reX_callAC G_order_by H_order_by (hr.mono (by decide)) br (zM (vP 4) zV))))))))))))
theorem sc_good_number : FnScope ["order", "k", "many", "number", "left", "ring", "length"] ["order", "k"] (defScope s_good_number) := ⟨rfl, rfl, rfl, by decide +kernel, rfl, by decide +kernel, by decide +kernel⟩
theorem ok_good_number (T : Txt K mg) {f : Addr} {fd : FuncData} (h : Has K mg "good_number" s_good_number f fd ["order", "k"]) : FnOk P w K mg base (CXV P w) 3 f fd ["order", "k"] (spX false F_good_number) := by
  obtain ⟨f_check_people_and_k, fd_check_people_and_k, H_check_people_and_k⟩ := T.d_check_people_and_k
  have G_check_people_and_k : FnOk P w K mg base (CXV P w) 2 f_check_people_and_k fd_check_people_and_k ["people", "k"] (spX false F_check_people_and_k) := ok_check_people_and_k T H_check_people_and_k
  obtain ⟨f_many_by_lengths, fd_many_by_lengths, H_many_by_lengths⟩ := T.d_many_by_lengths
  have G_many_by_lengths : FnOk P w K mg base (CXV P w) 1 f_many_by_lengths fd_many_by_lengths ["people", "least", "most"] (spX true F_many_by_lengths) := ok_many_by_lengths T H_many_by_lengths
  obtain ⟨f_rings_of, fd_rings_of, H_rings_of⟩ := T.d_rings_of
  have G_rings_of : FnOk P w K mg base (CXV P w) 2 f_rings_of fd_rings_of ["order"] (spX true F_rings_of) := ok_rings_of T H_rings_of
  obtain ⟨f_many_with_first_ring, fd_many_with_first_ring, H_many_with_first_ring⟩ := T.d_many_with_first_ring
  have G_many_with_first_ring : FnOk P w K mg base (CXV P w) 2 f_many_with_first_ring fd_many_with_first_ring ["many", "boxes", "length"] (spX false F_many_with_first_ring) := ok_many_with_first_ring T H_many_with_first_ring
  obtain ⟨f_ring_place, fd_ring_place, H_ring_place⟩ := T.d_ring_place
  have G_ring_place : FnOk P w K mg base (CXV P w) 1 f_ring_place fd_ring_place ["left", "ring"] (spX false F_ring_place) := ok_ring_place T H_ring_place
  refine fnX_ok [] h.F sc_good_number fun cdv A outer s H E hr => ?_
  have nd := sc_good_number.nd
  have hu64 := hr.units
  have br := br_body (P := P) (w := w) (K := K) (mg := mg) (base := base) (N := ["order", "k", "many", "number", "left", "ring", "length"]) (x := "good_number") (sc := defScope s_good_number) (f := f) (cdv := cdv) (A := A) (outer := outer) (s := s) (H := H) (E := E) (om := [])
  exact (zR (rs_expr (reX_callC G_check_people_and_k H_check_people_and_k (hr.mono (by decide)) br (zX (wG call_len_seq pc_len T.g_len PySem.boot_len (zM (zZ 0) zV)) (zX (zZ 1) zV)))) (zR (wB 2 nd (RE.cl (reX_callN G_many_by_lengths H_many_by_lengths (hr.mono (by decide)) br (zX (wG call_len_seq pc_len T.g_len PySem.boot_len (zM (zZ 0) zV)) (zX yF (zX (zZ 1) zV)))))) (zR (wB 3 nd yF) (zR (wB 4 nd (RE.cl (re_listRange T.g_list T.g_range (zM (wG call_len_seq pc_len T.g_len PySem.boot_len (zM (zZ 0) zV)) zV)))) (zR (vJ (vC (RE.rd (RE.cl (reX_callN G_rings_of H_rings_of (hr.mono (by decide)) br (zX (zZ 0) zV))))) (rg_name 5 nd) (zR (vR (vU op_gt pb_gt (wG call_len_seq pc_len T.g_len PySem.boot_len (zM (zZ 5) zV)) (zZ 1)) (yE (vM br T.ox_NoNumber T.x_NoNumber (zM vV zV))) vX) (zR (vJ (ri_range2 T.g_range (zM yF (zM (wG call_len_seq pc_len T.g_len PySem.boot_len (zM (zZ 5) zV)) zV))) (rg_name 6 nd) (yE (rs_aug 3 nd iop_add vI (reX_callC G_many_with_first_ring H_many_with_first_ring (hr.mono (by decide)) br (zX (zZ 2) (zX (wG call_len_seq pc_len T.g_len PySem.boot_len (zM (zZ 4) zV)) (zX (zZ 6) zV)))))) PassesOwn.leaving) (zR (rs_aug 3 nd iop_add vI (wF op_mulA pr_mul (reX_callC G_ring_place H_ring_place (hr.mono (by decide)) br (zX (zZ 4) (zX (zZ 5) zV))) (vS ix_seq vT (zZ 2) (wF vE vG (wG call_len_seq pc_len T.g_len PySem.boot_len (zM (zZ 4) zV)) (wG call_len_seq pc_len T.g_len PySem.boot_len (zM (zZ 5) zV)))))) (yE (rs_comp 4 nd (sc0 := defScope s_good_number) (N0 := ["order", "k", "many", "number", "left", "ring", "length"]) (fs := ["ring"]) (js := [5]) (by exact ⟨rfl, by decide +kernel, by decide +kernel, by decide +kernel, by decide +kernel, rfl, by decide +kernel, by decide +kernel⟩) rfl rfl rfl (RI.c (vC (RE.rd (zZ 4)))) (fun _ _ _ _ => (rts_one (vU op_notIn_seq pb_in (zZ 0) (zZ 1)))) (fun _ _ _ _ => (zZ 0))))))) PassesOwn.leaving) (yE (vY (zZ 3))))))))
theorem sc_opened_as : FnScope ["order", "dealing", "openings", "person", "dealt"] ["order", "dealing", "openings", "person"] (defScope s_opened_as) := ⟨rfl, rfl, rfl, by decide +kernel, rfl, by decide +kernel, by decide +kernel⟩
theorem ok_opened_as (T : Txt K mg) {f : Addr} {fd : FuncData} (h : Has K mg "opened_as" s_opened_as f fd ["order", "dealing", "openings", "person"]) : FnOk P w K mg base (CXV P w) 2 f fd ["order", "dealing", "openings", "person"] (spX true F_opened_as) := by
  obtain ⟨f_behind, fd_behind, H_behind⟩ := T.d_behind
  have G_behind : FnOk P w K mg base (CXV P w) 1 f_behind fd_behind ["one", "other"] (spX false F_behind) := ok_behind T H_behind
  obtain ⟨f_made_openings, fd_made_openings, H_made_openings⟩ := T.d_made_openings
  have G_made_openings : FnOk P w K mg base (CXV P w) 1 f_made_openings fd_made_openings ["people", "numbers"] (spX false F_made_openings) := ok_made_openings T H_made_openings
  obtain ⟨f_check_person, fd_check_person, H_check_person⟩ := T.d_check_person
  have G_check_person : FnOk P w K mg base (CXV P w) 1 f_check_person fd_check_person ["people", "person"] (spX false F_check_person) := ok_check_person T H_check_person
  obtain ⟨f_ring_from, fd_ring_from, H_ring_from⟩ := T.d_ring_from
  have G_ring_from : FnOk P w K mg base (CXV P w) 1 f_ring_from fd_ring_from ["order", "box"] (spX false F_ring_from) := ok_ring_from T H_ring_from
  refine fnX_ok [] h.F sc_opened_as fun cdv A outer s H E hr => ?_
  have nd := sc_opened_as.nd
  have hu64 := hr.units
  have br := br_body (P := P) (w := w) (K := K) (mg := mg) (base := base) (N := ["order", "dealing", "openings", "person", "dealt"]) (x := "opened_as") (sc := defScope s_opened_as) (f := f) (cdv := cdv) (A := A) (outer := outer) (s := s) (H := H) (E := E) (om := [])
  exact (zR (wB 4 nd (reX_callC G_behind H_behind (hr.mono (by decide)) br (zX (zZ 0) (zX (zZ 1) zV)))) (zR (rs_expr (reX_callC G_made_openings H_made_openings (hr.mono (by decide)) br (zX (wG call_len_seq pc_len T.g_len PySem.boot_len (zM (zZ 0) zV)) (zX (zZ 2) zV)))) (zR (rs_expr (reX_callC G_check_person H_check_person (hr.mono (by decide)) br (zX (wG call_len_seq pc_len T.g_len PySem.boot_len (zM (zZ 0) zV)) (zX (zZ 3) zV)))) (yE (rs_retW (vQ call_list_of pc_list T.g_list (by rfl) (zM (re_sliceD (reX_callC G_ring_from H_ring_from (hr.mono (by decide)) br (zX (zZ 4) (zX (vS ix_seq vT (zZ 1) (zZ 3)) zV))) ro_none (ro_some (vS ix_seq vT (zZ 2) (zZ 3)))) zV)))))))
theorem sc_finders_as : FnScope ["order", "dealing", "openings", "dealt", "found", "person", "number"] ["order", "dealing", "openings"] (defScope s_finders_as) := ⟨rfl, rfl, rfl, by decide +kernel, rfl, by decide +kernel, by decide +kernel⟩
theorem ok_finders_as (T : Txt K mg) {f : Addr} {fd : FuncData} (h : Has K mg "finders_as" s_finders_as f fd ["order", "dealing", "openings"]) : FnOk P w K mg base (CXV P w) 2 f fd ["order", "dealing", "openings"] (spX false F_finders_as) := by
  obtain ⟨f_behind, fd_behind, H_behind⟩ := T.d_behind
  have G_behind : FnOk P w K mg base (CXV P w) 1 f_behind fd_behind ["one", "other"] (spX false F_behind) := ok_behind T H_behind
  obtain ⟨f_made_openings, fd_made_openings, H_made_openings⟩ := T.d_made_openings
  have G_made_openings : FnOk P w K mg base (CXV P w) 1 f_made_openings fd_made_openings ["people", "numbers"] (spX false F_made_openings) := ok_made_openings T H_made_openings
  obtain ⟨f_ring_from, fd_ring_from, H_ring_from⟩ := T.d_ring_from
  have G_ring_from : FnOk P w K mg base (CXV P w) 1 f_ring_from fd_ring_from ["order", "box"] (spX false F_ring_from) := ok_ring_from T H_ring_from
  refine fnX_ok [4] h.F sc_finders_as fun cdv A outer s H E hr => ?_
  have nd := sc_finders_as.nd
  have hu64 := hr.units
  have br := br_body (P := P) (w := w) (K := K) (mg := mg) (base := base) (N := ["order", "dealing", "openings", "dealt", "found", "person", "number"]) (x := "finders_as") (sc := defScope s_finders_as) (f := f) (cdv := cdv) (A := A) (outer := outer) (s := s) (H := H) (E := E) (om := [4])
  exact (zR (wB 3 nd (reX_callC G_behind H_behind (hr.mono (by decide)) br (zX (zZ 0) (zX (zZ 1) zV)))) (zR (rs_expr (reX_callC G_made_openings H_made_openings (hr.mono (by decide)) br (zX (wG call_len_seq pc_len T.g_len PySem.boot_len (zM (zZ 0) zV)) (zX (zZ 2) zV)))) (zR (vN 4 nd (vW zV)) (zR (rs_forO (ri_enumerate T.g_enumerate (RE.rd (zZ 1))) (rg_tup rfl (rgs_cons (rg_name 5 nd) (rgs_cons (rg_name 6 nd) rgs_nil))) (yE (vR (vU op_ge pb_ge (vS ix_seq vT (zZ 2) (zZ 5)) (wG call_len_seq pc_len T.g_len PySem.boot_len (zM (reX_callC G_ring_from H_ring_from (hr.mono (by decide)) br (zX (zZ 3) (zX (zZ 6) zV))) zV))) (yE (vA 4 PySem.F.slot_list_append PySem.F.type_list_append mt_append pm_append (zX (zZ 5) zV))) vX)) PassesOwn.leaving) (yE (vY (vQ call_tuple_of pc_tup T.g_tuple (by rfl) (zM (vP 4) zV))))))))
theorem sc_dealing_at : FnScope ["order", "k", "number"] ["order", "k", "number"] (defScope s_dealing_at) := ⟨rfl, rfl, rfl, by decide +kernel, rfl, by decide +kernel, by decide +kernel⟩
theorem ok_dealing_at (T : Txt K mg) {f : Addr} {fd : FuncData} (h : Has K mg "dealing_at" s_dealing_at f fd ["order", "k", "number"]) : FnOk P w K mg base (CXV P w) 4 f fd ["order", "k", "number"] (spX false F_dealing_at) := by
  obtain ⟨f_behind, fd_behind, H_behind⟩ := T.d_behind
  have G_behind : FnOk P w K mg base (CXV P w) 1 f_behind fd_behind ["one", "other"] (spX false F_behind) := ok_behind T H_behind
  obtain ⟨f_turned_back, fd_turned_back, H_turned_back⟩ := T.d_turned_back
  have G_turned_back : FnOk P w K mg base (CXV P w) 1 f_turned_back fd_turned_back ["order"] (spX false F_turned_back) := ok_turned_back T H_turned_back
  obtain ⟨f_good_at, fd_good_at, H_good_at⟩ := T.d_good_at
  have G_good_at : FnOk P w K mg base (CXV P w) 3 f_good_at fd_good_at ["people", "k", "number"] (spX false F_good_at) := ok_good_at T H_good_at
  refine fnX_ok [] h.F sc_dealing_at fun cdv A outer s H E hr => ?_
  have nd := sc_dealing_at.nd
  have hu64 := hr.units
  have br := br_body (P := P) (w := w) (K := K) (mg := mg) (base := base) (N := ["order", "k", "number"]) (x := "dealing_at") (sc := defScope s_dealing_at) (f := f) (cdv := cdv) (A := A) (outer := outer) (s := s) (H := H) (E := E) (om := [])
  exact (yE (vY (reX_callC G_behind H_behind (hr.mono (by decide)) br (zX (reX_callC G_turned_back H_turned_back (hr.mono (by decide)) br (zX (zZ 0) zV)) (zX (reX_callC G_good_at H_good_at (hr.mono (by decide)) br (zX (wG call_len_seq pc_len T.g_len PySem.boot_len (zM (zZ 0) zV)) (zX (zZ 1) (zX (zZ 2) zV)))) zV)))))
theorem sc_dealing_number : FnScope ["order", "k", "dealing"] ["order", "k", "dealing"] (defScope s_dealing_number) := ⟨rfl, rfl, rfl, by decide +kernel, rfl, by decide +kernel, by decide +kernel⟩
theorem ok_dealing_number (T : Txt K mg) {f : Addr} {fd : FuncData} (h : Has K mg "dealing_number" s_dealing_number f fd ["order", "k", "dealing"]) : FnOk P w K mg base (CXV P w) 4 f fd ["order", "k", "dealing"] (spX false F_dealing_number) := by
  obtain ⟨f_good_number, fd_good_number, H_good_number⟩ := T.d_good_number
  have G_good_number : FnOk P w K mg base (CXV P w) 3 f_good_number fd_good_number ["order", "k"] (spX false F_good_number) := ok_good_number T H_good_number
  obtain ⟨f_behind, fd_behind, H_behind⟩ := T.d_behind
  have G_behind : FnOk P w K mg base (CXV P w) 1 f_behind fd_behind ["one", "other"] (spX false F_behind) := ok_behind T H_behind
  refine fnX_ok [] h.F sc_dealing_number fun cdv A outer s H E hr => ?_
  have nd := sc_dealing_number.nd
  have hu64 := hr.units
  have br := br_body (P := P) (w := w) (K := K) (mg := mg) (base := base) (N := ["order", "k", "dealing"]) (x := "dealing_number") (sc := defScope s_dealing_number) (f := f) (cdv := cdv) (A := A) (outer := outer) (s := s) (H := H) (E := E) (om := [])
  exact (yE (vY (reX_callC G_good_number H_good_number (hr.mono (by decide)) br (zX (reX_callC G_behind H_behind (hr.mono (by decide)) br (zX (zZ 0) (zX (zZ 2) zV))) (zX (zZ 1) zV)))))
theorem sc_l_order : FnScope ["cell", "many", "names", "k"] ["cell", "many"] (defScope s_l_order) := ⟨rfl, rfl, rfl, by decide +kernel, rfl, by decide +kernel, by decide +kernel⟩
theorem ok_l_order (T : Txt K mg) {f : Addr} {fd : FuncData} (h : Has K mg "_law_order" s_l_order f fd ["cell", "many"]) : FnOk P w K mg base (CXV P w) 1 f fd ["cell", "many"] (spX false F_l_order) := by
  refine fnX_ok [2] h.F sc_l_order fun cdv A outer s H E hr => ?_
  have nd := sc_l_order.nd
  have hu64 := hr.units
  have br := br_body (P := P) (w := w) (K := K) (mg := mg) (base := base) (N := ["cell", "many", "names", "k"]) (x := "_law_order") (sc := defScope s_l_order) (f := f) (cdv := cdv) (A := A) (outer := outer) (s := s) (H := H) (E := E) (om := [2])
  exact (zR (vN 2 nd (vW zV)) (zR (vJ (ri_range1 T.g_range (zM (zZ 1) zV)) (rg_name 3 nd) (zR (vA 2 PySem.F.slot_list_insert PySem.F.type_list_insert mt_insert pm_insert (zX (wF vF vD (zZ 0) (wF uZ vI (zZ 3) yF)) (zX (zZ 3) zV))) (yE (wB 0 nd (wF vL vK (zZ 0) (wF uZ vI (zZ 3) yF))))) PassesOwn.leaving) (yE (vY (vQ call_tuple_of pc_tup T.g_tuple (by rfl) (zM (vP 2) zV))))))
theorem sc_l_rings : FnScope ["order", "met", "rings", "first", "ring", "box"] ["order"] (defScope s_l_rings) := ⟨rfl, rfl, rfl, by decide +kernel, rfl, by decide +kernel, by decide +kernel⟩
theorem ok_l_rings (T : Txt K mg) {f : Addr} {fd : FuncData} (h : Has K mg "_law_rings" s_l_rings f fd ["order"]) : FnOk P w K mg base (CXV P w) 1 f fd ["order"] (spX true F_l_rings) := by
  refine fn_ringsX h.F sc_l_rings rfl rfl fun cdv A outer s H E hr => ?_
  have nd := sc_l_rings.nd
  exact pss_cons (ps_set (i := 1) nd rfl (Or.inl rfl) pe_dnewK) (pss_cons (ps_set (i := 2) nd rfl (Or.inl rfl) (pe_lst pa_nil)) (pss_cons (ps_for PassesOwn.leaving rfl (pi_range1 rfl T.g_range (pa_cons (pe_callB call_len_seq rfl T.g_len PySem.boot_len (pa_cons (pv 0) pa_nil)) pa_nil)) (pg_name (i := 3) nd rfl (Or.inl rfl)) (pss_cons (ps_set (i := 4) nd rfl (Or.inl rfl) (pe_lst pa_nil)) (pss_cons (ps_set (i := 5) nd rfl (Or.inl rfl) (pv 3)) (pss_cons (ps_while PassesOwn.leaving (pt_cmp (pc_dnotin (hu_of hr) (pv 5) (pv 1))) (pss_cons (ps_dput (hu_of hr) (pv 1) (pv 5) pe_bl rfl) (pss_cons (ps_expr (pe_bm PySem.F.plainAttrs_list PySem.F.slot_list_append PySem.F.type_list_append mt_append (pv 4) (pa_cons (pv 5) pa_nil))) (pss_one (ps_set (i := 5) nd rfl (Or.inl rfl) (pe_ix ix_tup (pv 0) (pv 5) (fun _ _ => rfl))))))) (pss_one (ps_if (pt_cmpR op_gt (pe_callB call_len_seq rfl T.g_len PySem.boot_len (pa_cons (pv 4) pa_nil)) pe_int (nomark _)) (pss_one (ps_expr (pe_bm PySem.F.plainAttrs_list PySem.F.slot_list_append PySem.F.type_list_append mt_append (pv 2) (pa_cons (pv 4) pa_nil)))) pss_nil)))))) (pss_one (ps_ret (pv 2)))))
theorem sc_l_called : FnScope ["way", "order", "dealing", "more"] ["way", "order", "dealing", "more"] (defScope s_l_called) := ⟨rfl, rfl, rfl, by decide +kernel, rfl, by decide +kernel, by decide +kernel⟩
theorem ok_l_called (T : Txt K mg) {f : Addr} {fd : FuncData} (h : Has K mg "_law_called" s_l_called f fd ["way", "order", "dealing", "more"]) : FnOk P w K mg base (CXV P w) 5 f fd ["way", "order", "dealing", "more"] (spX false F_l_called) := by
  obtain ⟨f_opened_as, fd_opened_as, H_opened_as⟩ := T.d_opened_as
  have G_opened_as : FnOk P w K mg base (CXV P w) 2 f_opened_as fd_opened_as ["order", "dealing", "openings", "person"] (spX true F_opened_as) := ok_opened_as T H_opened_as
  obtain ⟨f_finders_as, fd_finders_as, H_finders_as⟩ := T.d_finders_as
  have G_finders_as : FnOk P w K mg base (CXV P w) 2 f_finders_as fd_finders_as ["order", "dealing", "openings"] (spX false F_finders_as) := ok_finders_as T H_finders_as
  obtain ⟨f_dealing_number, fd_dealing_number, H_dealing_number⟩ := T.d_dealing_number
  have G_dealing_number : FnOk P w K mg base (CXV P w) 4 f_dealing_number fd_dealing_number ["order", "k", "dealing"] (spX false F_dealing_number) := ok_dealing_number T H_dealing_number
  obtain ⟨f_dealing_at, fd_dealing_at, H_dealing_at⟩ := T.d_dealing_at
  have G_dealing_at : FnOk P w K mg base (CXV P w) 4 f_dealing_at fd_dealing_at ["order", "k", "number"] (spX false F_dealing_at) := ok_dealing_at T H_dealing_at
  refine fnX_ok [] h.F sc_l_called fun cdv A outer s H E hr => ?_
  have nd := sc_l_called.nd
  have hu64 := hr.units
  have br := br_body (P := P) (w := w) (K := K) (mg := mg) (base := base) (N := ["way", "order", "dealing", "more"]) (x := "_law_called") (sc := defScope s_l_called) (f := f) (cdv := cdv) (A := A) (outer := outer) (s := s) (H := H) (E := E) (om := [])
  exact (zR (vR (vU (op_eqD hu64) pb_eq (zZ 0) yF) (yE (vY (RE.cl (reX_callN G_opened_as H_opened_as (hr.mono (by decide)) br (zX (zZ 1) (zX (zZ 2) (zX (vS ix_seq vT (zZ 3) yF) (zX (vS ix_seq vT (zZ 3) yF) zV)))))))) vX) (zR (vR (vU (op_eqD hu64) pb_eq (zZ 0) yF) (yE (vY (reX_callC G_finders_as H_finders_as (hr.mono (by decide)) br (zX (zZ 1) (zX (zZ 2) (zX (vS ix_seq vT (zZ 3) yF) zV)))))) vX) (zR (vR (vU (op_eqD hu64) pb_eq (zZ 0) yF) (yE (vY (reX_callC G_dealing_number H_dealing_number (hr.mono (by decide)) br (zX (zZ 1) (zX (vS ix_seq vT (zZ 3) yF) (zX (zZ 2) zV)))))) vX) (yE (vY (reX_callC G_dealing_at H_dealing_at (hr.mono (by decide)) br (zX (zZ 1) (zX (vS ix_seq vT (zZ 3) yF) (zX (vS ix_seq vT (zZ 3) yF) zV)))))))))
theorem sc_l_asked : FnScope ["way", "order", "dealing", "more", "caught", "e", "marks"] ["way", "order", "dealing", "more"] (defScope s_l_asked) := ⟨rfl, rfl, rfl, by decide +kernel, rfl, by decide +kernel, by decide +kernel⟩
theorem ok_l_asked (T : Txt K mg) {f : Addr} {fd : FuncData} (h : Has K mg "_law_asked" s_l_asked f fd ["way", "order", "dealing", "more"]) : FnOk P w K mg base (CXV P w) 6 f fd ["way", "order", "dealing", "more"] (spX false F_l_asked) := by
  obtain ⟨f_l_called, fd_l_called, H_l_called⟩ := T.d_l_called
  have G_l_called : FnOk P w K mg base (CXV P w) 5 f_l_called fd_l_called ["way", "order", "dealing", "more"] (spX false F_l_called) := ok_l_called T H_l_called
  refine fnX_ok [6] h.F sc_l_asked fun cdv A outer s H E hr => ?_
  have nd := sc_l_asked.nd
  have hu64 := hr.units
  have br := br_body (P := P) (w := w) (K := K) (mg := mg) (base := base) (N := ["way", "order", "dealing", "more", "caught", "e", "marks"]) (x := "_law_asked") (sc := defScope s_l_asked) (f := f) (cdv := cdv) (A := A) (outer := outer) (s := s) (H := H) (E := E) (om := [6])
  exact (zR (wB 4 nd re_non) (zR (rs_try 5 CLS nd (fun _ _ _ br => (yE (rs_expr (reX_callC G_l_called H_l_called (hr.mono (by decide)) br (zX (zZ 0) (zX (zZ 1) (zX (zZ 2) (zX (zZ 3) zV)))))))) (fun _ => (yE (wB 4 nd (zZ 5)))) T.tx_BoxError T.tb_BoxError T.x_BoxError) (zR (vR (rt_not (rt_val (re_isiXB CLS CLS T.kv_ValueError T.g_isinstance T.g_ValueError PyProof.Rows.Boot.«ValueError» (zZ 4)))) (yE (vY vV)) vX) (zR (vR (rt_val (re_isiXT CLS ["BadBox", "BadGroup", "BadPlan", "BadText", "NoHelp", "TooMany"] (List.forall_mem_cons.2 ⟨T.kx_BadBox, (List.forall_mem_cons.2 ⟨T.kx_BadGroup, (List.forall_mem_cons.2 ⟨T.kx_BadPlan, (List.forall_mem_cons.2 ⟨T.kx_BadText, (List.forall_mem_cons.2 ⟨T.kx_NoHelp, (List.forall_mem_cons.2 ⟨T.kx_TooMany, (fun _ h => nomatch h)⟩)⟩)⟩)⟩)⟩)⟩) T.g_isinstance (rn_cons T.x_BadBox (rn_cons T.x_BadGroup (rn_cons T.x_BadPlan (rn_cons T.x_BadText (rn_cons T.x_NoHelp (rn_cons T.x_TooMany rn_nil)))))) (zZ 4))) (yE (vY vV)) vX) (zR (vN 6 nd (vW (zX (re_isiX CLS ["BadOrder"] T.kx_BadOrder T.g_isinstance T.x_BadOrder (zZ 4)) (zX (re_isiX CLS ["BadOpenings"] T.kx_BadOpenings T.g_isinstance T.x_BadOpenings (zZ 4)) (zX (re_isiX CLS ["NoPerson"] T.kx_NoPerson T.g_isinstance T.x_NoPerson (zZ 4)) zV))))) (zR (vA 6 PySem.F.slot_list_append PySem.F.type_list_append mt_append pm_append (zX (re_isiX CLS ["NoNumber"] T.kx_NoNumber T.g_isinstance T.x_NoNumber (zZ 4)) zV)) (zR (vR (vU (op_neD hu64) pb_ne (re_meth1 PySem.F.slot_list_count PySem.F.type_list_count mt_count p1_count (vP 6) uX) yF) (yE (vY vV)) vX) (yE (vY (vS ix_seq vT (vW (zX vV (zX vV (zX vV (zX vV zV))))) (re_meth1 PySem.F.slot_list_index PySem.F.type_list_index mt_index p1_index (vP 6) uX)))))))))))
theorem sc_l_bad_openings : FnScope ["cell", "many", "good", "at", "far"] ["cell", "many"] (defScope s_l_bad_openings) := ⟨rfl, rfl, rfl, by decide +kernel, rfl, by decide +kernel, by decide +kernel⟩
theorem ok_l_bad_openings (T : Txt K mg) {f : Addr} {fd : FuncData} (h : Has K mg "_law_bad_openings" s_l_bad_openings f fd ["cell", "many"]) : FnOk P w K mg base (CXV P w) 1 f fd ["cell", "many"] (spX false F_l_bad_openings) := by
  refine fnX_ok [2] h.F sc_l_bad_openings fun cdv A outer s H E hr => ?_
  have nd := sc_l_bad_openings.nd
  have hu64 := hr.units
  have br := br_body (P := P) (w := w) (K := K) (mg := mg) (base := base) (N := ["cell", "many", "good", "at", "far"]) (x := "_law_bad_openings") (sc := defScope s_l_bad_openings) (f := f) (cdv := cdv) (A := A) (outer := outer) (s := s) (H := H) (E := E) (om := [2])
  exact (zR (vN 2 nd (wF op_repR pr_rep (vW (zX (zZ 1) zV)) (zZ 1))) (zR (wB 3 nd (wF vF vD (wF vL vK (zZ 0) yF) (zZ 1))) (zR (wB 4 nd (wF op_mulA pr_mul (wF op_pow pr_pow yF yF) (wF vF vD (wF vL vK (zZ 0) yF) yF))) (zR (rs_item 2 (vS ix_seq vT (vW (zX (wF vE vG (uY yF) (zZ 4)) (zX (wF uZ vI (wF uZ vI (zZ 1) yF) (zZ 4)) (zX yF (zX yF (zX (zZ 1) zV)))))) (wF vF vD (zZ 0) yF)) (zZ 3)) (zR (vR (vU (op_eqD hu64) pb_eq (wF vF vD (zZ 0) yF) yF) (yE (rs_methV 2 PySem.F.slot_list_pop PySem.F.type_list_pop mt_popAt pm_popAt (zX (zZ 3) zV))) vX) (zR (vR (vU op_gt pb_gt (wF vF vD (zZ 0) yF) yF) (yE (vA 2 PySem.F.slot_list_insert PySem.F.type_list_insert mt_insert pm_insert (zX (zZ 3) (zX yF zV)))) vX) (yE (vY (vQ call_tuple_of pc_tup T.g_tuple (by rfl) (zM (vP 2) zV))))))))))
theorem sc_l_right : FnScope ["order", "dealing", "cell", "many", "good", "bad", "far", "person", "number", "others", "other", "more", "made", "longest"] ["order", "dealing", "cell"] (defScope s_l_right) := ⟨rfl, rfl, rfl, by decide +kernel, rfl, by decide +kernel, by decide +kernel⟩
theorem ok_l_right (T : Txt K mg) {f : Addr} {fd : FuncData} (h : Has K mg "_law_right" s_l_right f fd ["order", "dealing", "cell"]) : FnOk P w K mg base (CXV P w) 7 f fd ["order", "dealing", "cell"] (spX false F_l_right) := by
  obtain ⟨f_l_bad_openings, fd_l_bad_openings, H_l_bad_openings⟩ := T.d_l_bad_openings
  have G_l_bad_openings : FnOk P w K mg base (CXV P w) 1 f_l_bad_openings fd_l_bad_openings ["cell", "many"] (spX false F_l_bad_openings) := ok_l_bad_openings T H_l_bad_openings
  obtain ⟨f_many_good, fd_many_good, H_many_good⟩ := T.d_many_good
  have G_many_good : FnOk P w K mg base (CXV P w) 3 f_many_good fd_many_good ["people", "k"] (spX false F_many_good) := ok_many_good T H_many_good
  obtain ⟨f_l_asked, fd_l_asked, H_l_asked⟩ := T.d_l_asked
  have G_l_asked : FnOk P w K mg base (CXV P w) 6 f_l_asked fd_l_asked ["way", "order", "dealing", "more"] (spX false F_l_asked) := ok_l_asked T H_l_asked
  obtain ⟨f_l_rings, fd_l_rings, H_l_rings⟩ := T.d_l_rings
  have G_l_rings : FnOk P w K mg base (CXV P w) 1 f_l_rings fd_l_rings ["order"] (spX true F_l_rings) := ok_l_rings T H_l_rings
  refine fnX_ok [] h.F sc_l_right fun cdv A outer s H E hr => ?_
  have nd := sc_l_right.nd
  have hu64 := hr.units
  have br := br_body (P := P) (w := w) (K := K) (mg := mg) (base := base) (N := ["order", "dealing", "cell", "many", "good", "bad", "far", "person", "number", "others", "other", "more", "made", "longest"]) (x := "_law_right") (sc := defScope s_l_right) (f := f) (cdv := cdv) (A := A) (outer := outer) (s := s) (H := H) (E := E) (om := [])
  exact (zR (wB 3 nd (wG call_len_seq pc_len T.g_len PySem.boot_len (zM (zZ 0) zV))) (zR (wB 4 nd (vQ call_tuple_of pc_tup T.g_tuple (by rfl) (zM (wF op_repR pr_rep (vW (zX (zZ 3) zV)) (zZ 3)) zV))) (zR (wB 5 nd (reX_callC G_l_bad_openings H_l_bad_openings (hr.mono (by decide)) br (zX (zZ 2) (zX (zZ 3) zV)))) (zR (wB 6 nd (wF op_mulA pr_mul (wF op_pow pr_pow yF yF) (wF vF vD (wF vL vK (zZ 2) yF) yF))) (zR (wB 7 nd (vS ix_seq vT (vW (zX (wF vE vG (uY yF) (zZ 6)) (zX (wF uZ vI (zZ 3) (zZ 6)) zV))) (wF vF vD (wF vL vK (zZ 2) yF) yF))) (zR (wB 8 nd (vS ix_seq vT (vW (zX (wF vE vG (uY yF) (zZ 6)) (zX (wF uZ vI (reX_callC G_many_good H_many_good (hr.mono (by decide)) br (zX (zZ 3) (zX (zZ 3) zV))) (zZ 6)) zV))) (wF vF vD (wF vL vK (zZ 2) yF) yF))) (zR (wB 9 nd (RE.cl (vW (zX (re_sliceD (zZ 1) (ro_some yF) ro_none) (zX (wF op_catU pr_catT (zZ 1) (re_tup (zX (zZ 3) zV))) zV))))) (zR (vJ (vC (RE.rd (zZ 9))) (rg_name 10 nd) (yE (vR (vU (op_neD hu64) pb_ne (re_comp (sc0 := defScope s_l_right) (N0 := ["order", "dealing", "cell", "many", "good", "bad", "far", "person", "number", "others", "other", "more", "made", "longest"]) (fs := ["order", "other", "bad", "person"]) (js := [0, 10, 5, 7]) (by exact ⟨rfl, by decide +kernel, by decide +kernel, by decide +kernel, by decide +kernel, rfl, by decide +kernel, by decide +kernel⟩) rfl rfl rfl (RI.c (ri_range1 T.g_range (zM yF zV))) (fun _ _ _ _ => rts_nil) (fun _ _ _ _ => (reX_callC G_l_asked H_l_asked (hr.mono (by decide)) (br_no fun _ _ h => h) (zX (zZ 0) (zX (zZ 1) (zX (zZ 2) (zX (re_tup (zX (zZ 3) (zX (zZ 4) (zX (uY yF) (zX (uY yF) zV))))) zV))))))) (wF op_repR pr_rep (vW (zX vV zV)) yF)) (yE (vY uX)) vX)) PassesOwn.leaving) (zR (vR (vU (op_neD hu64) pb_ne (re_comp (sc0 := defScope s_l_right) (N0 := ["order", "dealing", "cell", "many", "good", "bad", "far", "person", "number", "others", "other", "more", "made", "longest"]) (fs := ["order", "dealing", "bad", "person", "far"]) (js := [0, 1, 5, 7, 6]) (by exact ⟨rfl, by decide +kernel, by decide +kernel, by decide +kernel, by decide +kernel, rfl, by decide +kernel, by decide +kernel⟩) rfl rfl rfl (RI.c (ri_range1 T.g_range (zM yF zV))) (fun _ _ _ _ => rts_nil) (fun _ _ _ _ => (reX_callC G_l_asked H_l_asked (hr.mono (by decide)) (br_no fun _ _ h => h) (zX (zZ 0) (zX (zZ 1) (zX (zZ 2) (zX (re_tup (zX (zZ 3) (zX (zZ 4) (zX (wF vE vG (uY yF) (zZ 5)) (zX (uY yF) zV))))) zV))))))) (wF op_repR pr_rep (vW (zX vV zV)) yF)) (yE (vY uX)) vX) (zR (wB 11 nd (re_tup (zX (zZ 4) (zX (zZ 7) (zX (zZ 3) (zX (zZ 8) zV)))))) (zR (vR (vU (op_neD hu64) pb_ne (re_comp (sc0 := defScope s_l_right) (N0 := ["order", "dealing", "cell", "many", "good", "bad", "far", "person", "number", "others", "other", "more", "made", "longest"]) (fs := ["order", "dealing", "more"]) (js := [0, 1, 11]) (by exact ⟨rfl, by decide +kernel, by decide +kernel, by decide +kernel, by decide +kernel, rfl, by decide +kernel, by decide +kernel⟩) rfl rfl rfl (RI.c (ri_range1 T.g_range (zM yF zV))) (fun _ _ _ _ => rts_nil) (fun _ _ _ _ => (reX_callC G_l_asked H_l_asked (hr.mono (by decide)) (br_no fun _ _ h => h) (zX (zZ 0) (zX (zZ 1) (zX (zZ 2) (zX (zZ 3) zV))))))) (vW (zX vV (zX vV (zX vV (zX vV zV)))))) (yE (vY uX)) vX) (zR (wB 12 nd (vQ call_tuple_of pc_tup T.g_tuple (by rfl) (zM (re_comp (sc0 := defScope s_l_right) (N0 := ["order", "dealing", "cell", "many", "good", "bad", "far", "person", "number", "others", "other", "more", "made", "longest"]) (fs := ["dealing"]) (js := [1]) (by exact ⟨rfl, by decide +kernel, by decide +kernel, by decide +kernel, by decide +kernel, rfl, by decide +kernel, by decide +kernel⟩) rfl rfl rfl (RI.c (vC (RE.rd (zZ 0)))) (fun _ _ _ _ => rts_nil) (fun _ _ _ _ => (vS ix_seq vT (zZ 1) (zZ 0)))) zV))) (zR (wB 13 nd (wG (call_max1 rfl) pc_max1 T.g_max PyProof.Rows.boot_max (zM (re_comp (sc0 := defScope s_l_right) (N0 := ["order", "dealing", "cell", "many", "good", "bad", "far", "person", "number", "others", "other", "more", "made", "longest"]) (fs := []) (js := []) (by exact ⟨rfl, by decide +kernel, by decide +kernel, by decide +kernel, by decide +kernel, rfl, by decide +kernel, by decide +kernel⟩) rfl rfl rfl (RI.c (vC (RE.rd (RE.cl (reX_callN G_l_rings H_l_rings (hr.mono (by decide)) br (zX (zZ 12) zV)))))) (fun _ _ _ _ => rts_nil) (fun _ _ _ _ => (wG call_len_seq pc_len T.g_len PySem.boot_len (zM (zZ 0) zV)))) zV))) (yE (vY (re_cmp (op_eqD hu64) pb_eq (reX_callC G_l_asked H_l_asked (hr.mono (by decide)) br (zX yF (zX (zZ 0) (zX (zZ 1) (zX (re_tup (zX (zZ 4) (zX yF (zX (wF vE vG (zZ 13) yF) (zX yF zV))))) zV))))) vV))))))))))))))))
theorem sc_law : FnScope ["script", "cell", "many"] ["script"] (defScope s_law) := ⟨rfl, rfl, rfl, by decide +kernel, rfl, by decide +kernel, by decide +kernel⟩
theorem ok_law (T : Txt K mg) {f : Addr} {fd : FuncData} (h : Has K mg "law" s_law f fd ["script"]) : FnOk P w K mg base (CXV P w) 8 f fd ["script"] (spX false F_law) := by
  obtain ⟨f_l_right, fd_l_right, H_l_right⟩ := T.d_l_right
  have G_l_right : FnOk P w K mg base (CXV P w) 7 f_l_right fd_l_right ["order", "dealing", "cell"] (spX false F_l_right) := ok_l_right T H_l_right
  obtain ⟨f_l_order, fd_l_order, H_l_order⟩ := T.d_l_order
  have G_l_order : FnOk P w K mg base (CXV P w) 1 f_l_order fd_l_order ["cell", "many"] (spX false F_l_order) := ok_l_order T H_l_order
  refine fnX_ok [] h.F sc_law fun cdv A outer s H E hr => ?_
  have nd := sc_law.nd
  have hu64 := hr.units
  have br := br_body (P := P) (w := w) (K := K) (mg := mg) (base := base) (N := ["script", "cell", "many"]) (x := "law") (sc := defScope s_law) (f := f) (cdv := cdv) (A := A) (outer := outer) (s := s) (H := H) (E := E) (om := [])
  exact (zR (vJ (vC (RE.rd (RE.cl (wF op_catR pr_cat (vW (zX yF zV)) (vQ call_list_of pc_list T.g_list (by rfl) (zM (zZ 0) zV)))))) (rg_name 1 nd) (zR (wB 1 nd (wG call_abs pc_abs T.g_abs (by rfl) (zM (zZ 1) zV))) (zR (wB 2 nd (wF uZ vI yF (wF vF vD (zZ 1) yF))) (yE (vR (rt_not (rt_val (reX_callC G_l_right H_l_right (hr.mono (by decide)) br (zX (reX_callC G_l_order H_l_order (hr.mono (by decide)) br (zX (wF vL vK (zZ 1) yF) (zX (zZ 2) zV))) (zX (reX_callC G_l_order H_l_order (hr.mono (by decide)) br (zX (wF vL vK (zZ 1) yF) (zX (zZ 2) zV))) (zX (wF vL vK (zZ 1) yF) zV)))))) (yE (vY uX)) vX)))) PassesOwn.leaving) (yE (vY uX)))
end
end K42
set_option maxHeartbeats 4000000
namespace K42
open PySem L2 L2.L3 MR
def rI' (r : List Nat) : List Int := r.map fun (b : Nat) => (b : Int)
theorem eq_ring_from {n b : Nat} {xs : List Int} (o : Ord n xs) (hn : n ≤ 1000) (hb : b < n) : F_ring_from [tI xs, .int b] = .ok (tI (rI' (ring n xs b))) := by
  show (B_ring_from [some (tI xs), some (.int b), none]).bind (fin false) = _
  unfold B_ring_from
  simp -implicitDefEqProofs only [zA, zO, zN, xO, zY, yQ, yV, xF, wS, xE, yO, yI, xC, wW, yT, yN, xV, wV, xY, zG, xK, xP, xT, xM, xG, xA, wU, xI, yB, eV0, eVs, xN, xQ, xW, xS, yH, xX, xZ, wZ, xB, zF, yY, xU, yW, wR, zB, yR, yC, yA, xH, wY, xD, zJ, wT, yD, zH, zD, zE, yK, zL, zP, zK, xR, xL, zI, xJ, yG, zC, yZ, yM, yP, yS, yJ, yX, yU, yL, wJ, wP, wH, wI, wL, wN, wO, wK, wM, Res.bind_ok, Res.bind_no, Res.bind_ex, Res.lft_some, Res.lft_none, Option.map_some, Option.bind_some, List.set_cons_zero, List.set_cons_succ, List.length_cons, List.length_nil, if_true, if_false, Bool.false_eq_true, ite_true, ite_false, Bool.not_true, Bool.not_false]
  obtain ⟨a1, a2, a3, a4⟩ := o.per_spec hb
  have last : ∀ i, atI ((List.range (i + 1)).map fun j => PyData.int ((it xs j b : Nat) : Int)) (-1) = some (.int ((it xs i b : Nat) : Int)) := fun i => by
    rw [List.range_succ, List.map_append]
    exact atI_last _ _
  have nx : ∀ i, atI (xs.map PyData.int) ((it xs i b : Nat) : Int) = some (.int ((it xs (i + 1) b : Nat) : Int)) := fun i => by
    have hi := o.it_lt hb i
    rw [atI_map, atI_getD (by rw [o.len]; exact hi), o.nxt_int hi]
    rfl
  obtain ⟨ρ', e, rfl⟩ := whM_ok (t := b2 neD (e2 ixD (eV 0) (e2 ixD (eV 2) (e1 negD (eC (.int 1))))) (eV 1)) (b := sM 2 appD (aC (e2 ixD (eV 0) (e2 ixD (eV 2) (e1 negD (eC (.int 1))))) aN))
    (fun i ρ => ρ = [some (tI xs), some (.int b), some (.list ((List.range (i + 1)).map fun j => PyData.int ((it xs j b : Nat) : Int)))]) (per n xs b - 1) 1000000 [some (tI xs), some (.int b), some (.list [.int b])] rfl (by
      rintro i ρ hi rfl
      simp -implicitDefEqProofs only [zA, zO, zN, xO, zY, yQ, yV, xF, wS, xE, yO, yI, xC, wW, yT, yN, xV, wV, xY, zG, xK, xP, xT, xM, xG, xA, wU, xI, yB, eV0, eVs, xN, xQ, xW, xS, yH, xX, xZ, wZ, xB, zF, yY, xU, yW, wR, zB, yR, yC, yA, xH, wY, xD, zJ, wT, yD, zH, zD, zE, yK, zL, zP, zK, xR, xL, zI, xJ, yG, zC, yZ, yM, yP, yS, yJ, yX, yU, yL, wJ, wP, wH, wI, wL, wN, wO, wK, wM, Res.bind_ok, Res.bind_no, Res.bind_ex, Res.lft_some, Res.lft_none, Option.map_some, Option.bind_some, List.set_cons_zero, List.set_cons_succ, List.length_cons, List.length_nil, if_true, if_false, Bool.false_eq_true, ite_true, ite_false, Bool.not_true, Bool.not_false, last, nx, neD_int]
      have ne := a4 (i + 1) (by bv_omega) (by bv_omega)
      rw [decide_eq_false (by bv_omega)]
      refine ⟨rfl, _, ?_, rfl⟩
      simp -implicitDefEqProofs only [zA, zO, zN, xO, zY, yQ, yV, xF, wS, xE, yO, yI, xC, wW, yT, yN, xV, wV, xY, zG, xK, xP, xT, xM, xG, xA, wU, xI, yB, eV0, eVs, xN, xQ, xW, xS, yH, xX, xZ, wZ, xB, zF, yY, xU, yW, wR, zB, yR, yC, yA, xH, wY, xD, zJ, wT, yD, zH, zD, zE, yK, zL, zP, zK, xR, xL, zI, xJ, yG, zC, yZ, yM, yP, yS, yJ, yX, yU, yL, wJ, wP, wH, wI, wL, wN, wO, wK, wM, Res.bind_ok, Res.bind_no, Res.bind_ex, Res.lft_some, Res.lft_none, Option.map_some, Option.bind_some, List.set_cons_zero, List.set_cons_succ, List.length_cons, List.length_nil, if_true, if_false, Bool.false_eq_true, ite_true, ite_false, Bool.not_true, Bool.not_false, app_le (l := (List.range (i + 1)).map fun j => PyData.int ((it xs j b : Nat) : Int)) (by rw [List.length_map, List.length_range]; bv_omega)]
      congr 2
      simp only [List.range_succ, List.map_append, List.map_cons, List.map_nil]) (by
      rintro ρ rfl
      simp -implicitDefEqProofs only [zA, zO, zN, xO, zY, yQ, yV, xF, wS, xE, yO, yI, xC, wW, yT, yN, xV, wV, xY, zG, xK, xP, xT, xM, xG, xA, wU, xI, yB, eV0, eVs, xN, xQ, xW, xS, yH, xX, xZ, wZ, xB, zF, yY, xU, yW, wR, zB, yR, yC, yA, xH, wY, xD, zJ, wT, yD, zH, zD, zE, yK, zL, zP, zK, xR, xL, zI, xJ, yG, zC, yZ, yM, yP, yS, yJ, yX, yU, yL, wJ, wP, wH, wI, wL, wN, wO, wK, wM, Res.bind_ok, Res.bind_no, Res.bind_ex, Res.lft_some, Res.lft_none, Option.map_some, Option.bind_some, List.set_cons_zero, List.set_cons_succ, List.length_cons, List.length_nil, if_true, if_false, Bool.false_eq_true, ite_true, ite_false, Bool.not_true, Bool.not_false, last, nx, neD_int]
      rw [show per n xs b - 1 + 1 = per n xs b by bv_omega, a3, decide_eq_true rfl]
      rfl) (by bv_omega)
  rw [e]
  simp -implicitDefEqProofs only [zA, zO, zN, xO, zY, yQ, yV, xF, wS, xE, yO, yI, xC, wW, yT, yN, xV, wV, xY, zG, xK, xP, xT, xM, xG, xA, wU, xI, yB, eV0, eVs, xN, xQ, xW, xS, yH, xX, xZ, wZ, xB, zF, yY, xU, yW, wR, zB, yR, yC, yA, xH, wY, xD, zJ, wT, yD, zH, zD, zE, yK, zL, zP, zK, xR, xL, zI, xJ, yG, zC, yZ, yM, yP, yS, yJ, yX, yU, yL, wJ, wP, wH, wI, wL, wN, wO, wK, wM, Res.bind_ok, Res.bind_no, Res.bind_ex, Res.lft_some, Res.lft_none, Option.map_some, Option.bind_some, List.set_cons_zero, List.set_cons_succ, List.length_cons, List.length_nil, if_true, if_false, Bool.false_eq_true, ite_true, ite_false, Bool.not_true, Bool.not_false]
  congr 2
  rw [show per n xs b - 1 + 1 = per n xs b by bv_omega]
  unfold rI' ring
  rw [List.map_map, List.map_map]
  rfl
abbrev ringsD (n : Nat) (xs : List Int) (m : Nat) : List (List Int) := (rgs n xs m).map rI'
theorem eq_rings_of {n : Nat} {xs : List Int} (o : Ord n xs) (hn : n ≤ 1000) : F_rings_of [tI xs] = .ok (rows (ringsD n xs n)) := by
  show (B_rings_of [some (tI xs), none, none, none, none, none]).bind (fin true) = _
  unfold B_rings_of
  simp -implicitDefEqProofs only [zA, zO, zN, xO, zY, yQ, yV, xF, wS, xE, yO, yI, xC, wW, yT, yN, xV, wV, xY, zG, xK, xP, xT, xM, xG, xA, wU, xI, yB, eV0, eVs, xN, xQ, xW, xS, yH, xX, xZ, wZ, xB, zF, yY, xU, yW, wR, zB, yR, yC, yA, xH, wY, xD, zJ, wT, yD, zH, zD, zE, yK, zL, zP, zK, xR, xL, zI, xJ, yG, zC, yZ, yM, yP, yS, yJ, yX, yU, yL, wJ, wP, wH, wI, wL, wN, wO, wK, wM, Res.bind_ok, Res.bind_no, Res.bind_ex, Res.lft_some, Res.lft_none, Option.map_some, Option.bind_some, List.set_cons_zero, List.set_cons_succ, List.length_cons, List.length_nil, if_true, if_false, Bool.false_eq_true, ite_true, ite_false, Bool.not_true, Bool.not_false, List.length_map, o.len, repL_one _ n hn, rng_nat hn, replicate_map]
  have cnt : ∀ m, m ≤ n → (rgs n xs m).length ≤ m := by
    intro m
    induction m with
    | zero => intro _; simp [rgs]
    | succ m ih =>
      intro h
      have := ih (by bv_omega)
      rw [rgs]
      split
      · bv_omega
      · rw [List.length_append, List.length_singleton]; bv_omega
  obtain ⟨ρ', e, x, y, z, rfl⟩ := forM_ok (g := gN 3) (b := sIf (tNt (tV (e2 ixD (eV 2) (eV 3)))) (sQ (sS 4 (eF F_ring_from (aC (eV 0) (aC (eV 3) aN)))) (sQ (sM 1 appD (aC (eV 4) aN)) (sF (iS (eV 4)) (gN 5) (sI 2 (eV 5) (eC (.bool true)))))) sN)
    (fun i ρ => ∃ x y z, ρ = [some (tI xs), some (rows (ringsD n xs i)), some (.list ((List.range n).map fun c => .bool (has (rgs n xs i) c))), x, y, z]) ((List.range n).map fun (i : Nat) => PyData.int (i : Int)) [some (tI xs), some (.list []), some (.list ((List.range n).map fun _ => .bool false)), none, none, none] ⟨none, none, none, rfl⟩ (by
      rintro i d ρ hd ⟨x, y, z, rfl⟩
      obtain ⟨hi, rfl⟩ := rng_get hd
      cases hh : has (rgs n xs i) i with
      | true =>
        refine ⟨_, [some (tI xs), some (rows (ringsD n xs i)), some (.list ((List.range n).map fun c => .bool (has (rgs n xs i) c))), some (.int i), y, z], rfl, ?_, some (.int i), y, z, ?_⟩
        · simp -implicitDefEqProofs only [zA, zO, zN, xO, zY, yQ, yV, xF, wS, xE, yO, yI, xC, wW, yT, yN, xV, wV, xY, zG, xK, xP, xT, xM, xG, xA, wU, xI, yB, eV0, eVs, xN, xQ, xW, xS, yH, xX, xZ, wZ, xB, zF, yY, xU, yW, wR, zB, yR, yC, yA, xH, wY, xD, zJ, wT, yD, zH, zD, zE, yK, zL, zP, zK, xR, xL, zI, xJ, yG, zC, yZ, yM, yP, yS, yJ, yX, yU, yL, wJ, wP, wH, wI, wL, wN, wO, wK, wM, Res.bind_ok, Res.bind_no, Res.bind_ex, Res.lft_some, Res.lft_none, Option.map_some, Option.bind_some, List.set_cons_zero, List.set_cons_succ, List.length_cons, List.length_nil, if_true, if_false, Bool.false_eq_true, ite_true, ite_false, Bool.not_true, Bool.not_false, atI_range hi, hh]
        · unfold ringsD
          rw [rgs, if_pos hh]
      | false =>
        have hh' : ¬ has (rgs n xs i) i = true := by rw [hh]; exact Bool.false_ne_true
        obtain ⟨ρ2, e2, x2, rfl⟩ := forM_ok (g := gN 5) (b := sI 2 (eV 5) (eC (.bool true)))
          (fun j ρ => ∃ x, ρ = [some (tI xs), some (rows (ringsD n xs i ++ [rI' (ring n xs i)])), some (.list ((List.range n).map fun c => .bool (has (rgs n xs i) c || ((ring n xs i).take j).contains c))), some (.int i), some (tI (rI' (ring n xs i))), x]) ((rI' (ring n xs i)).map PyData.int)
          [some (tI xs), some (rows (ringsD n xs i ++ [rI' (ring n xs i)])), some (.list ((List.range n).map fun c => .bool (has (rgs n xs i) c))), some (.int i), some (tI (rI' (ring n xs i))), z] ⟨z, by simp⟩ (by
            rintro j d ρ hd ⟨x, rfl⟩
            unfold rI' at hd
            rw [List.map_map, List.getElem?_map] at hd
            obtain ⟨m, hm, rfl⟩ := Option.map_eq_some_iff.mp hd
            have hmr : m ∈ ring n xs i := List.mem_of_getElem? hm
            have hml : m < n := o.in_lt hi (mem_ring.mp hmr)
            refine ⟨_, _, rfl, ?_, some (.int m), rfl⟩
            simp -implicitDefEqProofs only [zA, zO, zN, xO, zY, yQ, yV, xF, wS, xE, yO, yI, xC, wW, yT, yN, xV, wV, xY, zG, xK, xP, xT, xM, xG, xA, wU, xI, yB, eV0, eVs, xN, xQ, xW, xS, yH, xX, xZ, wZ, xB, zF, yY, xU, yW, wR, zB, yR, yC, yA, xH, wY, xD, zJ, wT, yD, zH, zD, zE, yK, zL, zP, zK, xR, xL, zI, xJ, yG, zC, yZ, yM, yP, yS, yJ, yX, yU, yL, wJ, wP, wH, wI, wL, wN, wO, wK, wM, Res.bind_ok, Res.bind_no, Res.bind_ex, Res.lft_some, Res.lft_none, Option.map_some, Option.bind_some, List.set_cons_zero, List.set_cons_succ, List.length_cons, List.length_nil, if_true, if_false, Bool.false_eq_true, ite_true, ite_false, Bool.not_true, Bool.not_false, Function.comp, setD_range hml]
            congr 6
            refine congrArg PyData.list (List.map_congr_left fun c _ => ?_)
            rw [List.take_succ, hm]
            by_cases ec : c = m
            · subst ec
              rw [if_pos rfl]
              simp
            · rw [if_neg ec]
              simp [ec])
        refine ⟨_, _, rfl, ?_, some (.int i), some (tI (rI' (ring n xs i))), x2, rfl⟩
        have e5 : rows (ringsD n xs i) = .list ((ringsD n xs i).map tI) := rfl
        simp -implicitDefEqProofs only [zA, zO, zN, xO, zY, yQ, yV, xF, wS, xE, yO, yI, xC, wW, yT, yN, xV, wV, xY, zG, xK, xP, xT, xM, xG, xA, wU, xI, yB, eV0, eVs, xN, xQ, xW, xS, yH, xX, xZ, wZ, xB, zF, yY, xU, yW, wR, zB, yR, yC, yA, xH, wY, xD, zJ, wT, yD, zH, zD, zE, yK, zL, zP, zK, xR, xL, zI, xJ, yG, zC, yZ, yM, yP, yS, yJ, yX, yU, yL, wJ, wP, wH, wI, wL, wN, wO, wK, wM, Res.bind_ok, Res.bind_no, Res.bind_ex, Res.lft_some, Res.lft_none, Option.map_some, Option.bind_some, List.set_cons_zero, List.set_cons_succ, List.length_cons, List.length_nil, if_true, if_false, Bool.false_eq_true, ite_true, ite_false, Bool.not_true, Bool.not_false, atI_range hi, hh, eq_ring_from o hn hi, app_le (l := (ringsD n xs i).map tI) (d := tI (rI' (ring n xs i))) (by rw [List.length_map, List.length_map]; have := cnt i (by bv_omega); bv_omega)]
        have e6 : (ringsD n xs i).map tI ++ [tI (rI' (ring n xs i))] = (ringsD n xs i ++ [rI' (ring n xs i)]).map tI := by rw [List.map_append]; rfl
        rw [e6, e2]
        congr 2
        have e7 : ringsD n xs (i + 1) = ringsD n xs i ++ [rI' (ring n xs i)] := by
          unfold ringsD
          rw [rgs, if_neg hh', List.map_append]
          rfl
        rw [e7]
        congr 4
        refine congrArg PyData.list (List.map_congr_left fun c _ => ?_)
        congr 1
        rw [rgs, if_neg hh']
        unfold has rI'
        rw [List.any_append, List.length_map, List.length_map, List.take_length]
        simp)
  rw [List.length_map, List.length_range] at e
  rw [e]
  rfl
theorem rI_len (l : List Nat) : (rI' l).length = l.length := by unfold rI'; simp
theorem rI_app (a b : List Nat) : rI' (a ++ b) = rI' a ++ rI' b := by unfold rI'; simp
structure Opn (n : Nat) (ops : List Int) : Prop where
  len : ops.length = n
  bd : ∀ x ∈ ops, 0 ≤ x ∧ x ≤ n
theorem eq_made_openings {n : Nat} {ops : List Int} (p : Opn n ops) (h1 : 1 ≤ n) (h2 : n ≤ 60) : F_made_openings [.int n, tI ops] = .ok (tI ops) := by
  show (B_made_openings [some (.int n), some (tI ops)]).bind (fin false) = _
  unfold B_made_openings
  have hne : ops ≠ [] := fun z => by have := p.len; rw [z] at this; simp at this; bv_omega
  have a1 := p.bd _ (minL_mem hne)
  have a2 := p.bd _ (maxL_mem hne)
  simp -implicitDefEqProofs only [zA, zO, zN, xO, zY, yQ, yV, xF, wS, xE, yO, yI, xC, wW, yT, yN, xV, wV, xY, zG, xK, xP, xT, xM, xG, xA, wU, xI, yB, eV0, eVs, xN, xQ, xW, xS, yH, xX, xZ, wZ, xB, zF, yY, xU, yW, wR, zB, yR, yC, yA, xH, wY, xD, zJ, wT, yD, zH, zD, zE, yK, zL, zP, zK, xR, xL, zI, xJ, yG, zC, yZ, yM, yP, yS, yJ, yX, yU, yL, wJ, wP, wH, wI, wL, wN, wO, wK, wM, Res.bind_ok, Res.bind_no, Res.bind_ex, Res.lft_some, Res.lft_none, Option.map_some, Option.bind_some, List.set_cons_zero, List.set_cons_succ, List.length_cons, List.length_nil, if_true, if_false, Bool.false_eq_true, ite_true, ite_false, Bool.not_true, Bool.not_false, List.length_map, p.len, neD_int, min1_tI hne, max1_tI hne, decide_eq_true (show (1 : Int) ≤ (n : Int) by bv_omega), decide_eq_true (show (n : Int) ≤ 60 by bv_omega), decide_true, decide_eq_false (show ¬ minL ops < 0 by bv_omega), decide_eq_false (show ¬ (n : Int) < maxL ops by bv_omega)]
def BadO (p : Int) (ys : List Int) : Prop := ¬ (1 ≤ p ∧ p ≤ 60 ∧ (ys.length : Int) = p ∧ ∀ y ∈ ys, 0 ≤ y ∧ y ≤ p)
theorem ex_made_openings {d : D} {ys : List Int} (hd : d = lI ys ∨ d = tI ys) {p : Int} (h : BadO p ys) : F_made_openings [.int p, d] = .ex "BadOpenings" := by
  show (B_made_openings [some (.int p), some d]).bind (fin false) = _
  unfold B_made_openings
  have ln : lenD [d] = some (.int (ys.length : Int)) := by
    rcases hd with rfl | rfl
    · rw [zL]; simp only [zD, Option.map_some, List.length_map]
    · rw [zL]; simp only [zE, Option.map_some, List.length_map]
  have z1 : (if ([PyData.str "openings are for 1 to 60 people"] : List D).length ≤ sizeLine then (Res.ex "BadOpenings" : Res Out) else .no) = .ex "BadOpenings" := if_pos (by decide)
  have z2 : (if ([PyData.str "each person has its openings"] : List D).length ≤ sizeLine then (Res.ex "BadOpenings" : Res Out) else .no) = .ex "BadOpenings" := if_pos (by decide)
  have z3 : (if ([PyData.str "openings are from 0 to as many as there are boxes"] : List D).length ≤ sizeLine then (Res.ex "BadOpenings" : Res Out) else .no) = .ex "BadOpenings" := if_pos (by decide)
  by_cases p1 : 1 ≤ p
  · by_cases p2 : p ≤ 60
    · by_cases p3 : (ys.length : Int) = p
      · have hne : ys ≠ [] := fun z => by rw [z] at p3; simp at p3; bv_omega
        have mn : min1D [d] = some (.int (minL ys)) := by
          rcases hd with rfl | rfl
          · exact min1_lI hne
          · exact min1_tI hne
        have mx : max1D [d] = some (.int (maxL ys)) := by
          rcases hd with rfl | rfl
          · exact max1_lI hne
          · exact max1_tI hne
        have hex : minL ys < 0 ∨ p < maxL ys := by
          by_cases c1 : minL ys < 0
          · exact .inl c1
          · by_cases c2 : p < maxL ys
            · exact .inr c2
            · refine absurd ⟨p1, p2, p3, fun y hy => ?_⟩ h
              have := minL_le hy
              have := le_maxL hy
              bv_omega
        rcases hex with c | c
        · simp -implicitDefEqProofs only [xY, zG, zF, xU, xZ, xX, yB, xW, yA, yC, eV0, eVs, yD, xV, vH, Res.bind_ok, Res.bind_ex, Res.lft_some, ln, mn, mx, neD_int, decide_eq_true p1, decide_eq_true p2, decide_eq_true p3, decide_eq_true c, if_true, if_false, Bool.not_true, Bool.not_false, Bool.false_eq_true, z3]
        · by_cases c1 : minL ys < 0
          · simp -implicitDefEqProofs only [xY, zG, zF, xU, xZ, xX, yB, xW, yA, yC, eV0, eVs, yD, xV, vH, Res.bind_ok, Res.bind_ex, Res.lft_some, ln, mn, mx, neD_int, decide_eq_true p1, decide_eq_true p2, decide_eq_true p3, decide_eq_true c1, if_true, if_false, Bool.not_true, Bool.not_false, Bool.false_eq_true, z3]
          · simp -implicitDefEqProofs only [xY, zG, zF, xU, xZ, xX, yB, xW, yA, yC, eV0, eVs, yD, xV, vH, Res.bind_ok, Res.bind_ex, Res.lft_some, ln, mn, mx, neD_int, decide_eq_true p1, decide_eq_true p2, decide_eq_true p3, decide_eq_false c1, decide_eq_true c, if_true, if_false, Bool.not_true, Bool.not_false, Bool.false_eq_true, z3]
      · simp -implicitDefEqProofs only [xY, zG, zF, xU, xZ, xX, yB, xW, yA, yC, eV0, eVs, yD, xV, vH, Res.bind_ok, Res.bind_ex, Res.lft_some, ln, neD_int, decide_eq_true p1, decide_eq_true p2, decide_eq_false p3, if_true, if_false, Bool.not_true, Bool.not_false, Bool.false_eq_true, z2]
    · simp -implicitDefEqProofs only [xY, zG, zF, xZ, yB, xW, yA, yC, eV0, eVs, yD, vH, Res.bind_ok, Res.bind_ex, Res.lft_some, decide_eq_true p1, decide_eq_false p2, if_true, if_false, Bool.not_true, Bool.not_false, Bool.false_eq_true, z1]
  · simp -implicitDefEqProofs only [xY, zG, zF, xZ, yB, xW, yA, yC, eV0, eVs, yD, vH, Res.bind_ok, Res.bind_ex, Res.lft_some, decide_eq_false p1, if_true, if_false, Bool.not_true, Bool.not_false, Bool.false_eq_true, z1]
theorem Opn.at {n : Nat} {ops : List Int} (q : Opn n ops) {p : Nat} (h : p < n) : 0 ≤ ops.getD p 0 ∧ ops.getD p 0 ≤ n := q.bd _ (MR.getD_mem (by rw [q.len]; exact h))
theorem atI_opn {n : Nat} {ops : List Int} (q : Opn n ops) {p : Nat} (h : p < n) : atI (ops.map PyData.int) (p : Int) = some (.int ((ops.getD p 0).toNat : Int)) := by
  have := q.at h
  rw [atI_map, atI_getD (by rw [q.len]; exact h), Option.map_some]
  congr 2
  bv_omega
theorem eq_check_people {n : Nat} (h : n ≤ 60) : F_check_people [.int n] = .ok .none := by
  show (B_check_people [some (.int n)]).bind (fin false) = _
  unfold B_check_people
  simp -implicitDefEqProofs only [zA, zO, zN, xO, zY, yQ, yV, xF, wS, xE, yO, yI, xC, wW, yT, yN, xV, wV, xY, zG, xK, xP, xT, xM, xG, xA, wU, xI, yB, eV0, eVs, xN, xQ, xW, xS, yH, xX, xZ, wZ, xB, zF, yY, xU, yW, wR, zB, yR, yC, yA, xH, wY, xD, zJ, wT, yD, zH, zD, zE, yK, zL, zP, zK, xR, xL, zI, xJ, yG, zC, yZ, yM, yP, yS, yJ, yX, yU, yL, wJ, wP, wH, wI, wL, wN, wO, wK, wM, Res.bind_ok, Res.bind_no, Res.bind_ex, Res.lft_some, Res.lft_none, Option.map_some, Option.bind_some, List.set_cons_zero, List.set_cons_succ, List.length_cons, List.length_nil, if_true, if_false, Bool.false_eq_true, ite_true, ite_false, Bool.not_true, Bool.not_false, decide_eq_true (show (0 : Int) ≤ (n : Int) by bv_omega), decide_eq_true (show (n : Int) ≤ 60 by bv_omega)]
theorem eq_check_people_and_k {n : Nat} {k : Int} (h : n ≤ 60) (hk : 0 ≤ k) : F_check_people_and_k [.int n, .int k] = .ok .none := by
  show (B_check_people_and_k [some (.int n), some (.int k)]).bind (fin false) = _
  unfold B_check_people_and_k
  simp -implicitDefEqProofs only [zA, zO, zN, xO, zY, yQ, yV, xF, wS, xE, yO, yI, xC, wW, yT, yN, xV, wV, xY, zG, xK, xP, xT, xM, xG, xA, wU, xI, yB, eV0, eVs, xN, xQ, xW, xS, yH, xX, xZ, wZ, xB, zF, yY, xU, yW, wR, zB, yR, yC, yA, xH, wY, xD, zJ, wT, yD, zH, zD, zE, yK, zL, zP, zK, xR, xL, zI, xJ, yG, zC, yZ, yM, yP, yS, yJ, yX, yU, yL, wJ, wP, wH, wI, wL, wN, wO, wK, wM, Res.bind_ok, Res.bind_no, Res.bind_ex, Res.lft_some, Res.lft_none, Option.map_some, Option.bind_some, List.set_cons_zero, List.set_cons_succ, List.length_cons, List.length_nil, if_true, if_false, Bool.false_eq_true, ite_true, ite_false, Bool.not_true, Bool.not_false, eq_check_people h, decide_eq_false (show ¬ k < 0 by bv_omega)]
theorem ex_check_pk2 {n : Nat} {k : Int} (h : n ≤ 60) (hk : k < 0) : F_check_people_and_k [.int n, .int k] = .ex "BadOpenings" := by
  show (B_check_people_and_k [some (.int n), some (.int k)]).bind (fin false) = _
  unfold B_check_people_and_k
  have z1 : (if ([PyData.str "openings are not below nought"] : List D).length ≤ sizeLine then (Res.ex "BadOpenings" : Res Out) else .no) = .ex "BadOpenings" := if_pos (by decide)
  simp -implicitDefEqProofs only [xY, xT, zG, xX, xS, yB, yA, yC, eV0, eVs, yD, vH, Res.bind_ok, Res.bind_ex, Res.lft_some, eq_check_people h, decide_eq_true hk, if_true, z1]
theorem small_ff {c j : Nat} (hc : c ≤ 61) (hj : j ≤ 61) : Small (M12.ff ((c : Int) - 1) j) := ⟨367, by decide, M12.ff_abs3 c j hc hj⟩
theorem small_G {l k : Int} {n : Nat} (hn : n ≤ 60) : Small (M12.G l k n) := ⟨24001, by decide, M12.G_abs2 l k n hn⟩
theorem castT {i j : Nat} (h : j < i + 1) : (i : Int) + 1 - ((j : Int) + 1) = ((i - j : Nat) : Int) := by bv_omega
theorem mulT {x : Int} {i j : Nat} (h : j < i + 1) (h' : i < 60) : MulOk x ((i : Int) + 1 - ((j : Int) + 1)) := MulOk.right (by bv_omega) (by bv_omega)
theorem le61 {i j : Nat} (h : j < i + 1) (h' : i < 60) : i + 1 ≤ 61 ∧ j ≤ 61 ∧ i - j ≤ 60 := by bv_omega
theorem eq_many_by_lengths {n : Nat} (l : Int) {k : Int} (hn : n ≤ 60) (hk : 0 ≤ k) : F_many_by_lengths [.int n, .int l, .int k] = .ok (lI (M12.mbl l k n)) := by
  show (B_many_by_lengths [some (.int n), some (.int l), some (.int k), none, none, none, none, none]).bind (fin true) = _
  unfold B_many_by_lengths
  simp -implicitDefEqProofs only [zA, zO, zN, xO, zY, yQ, yV, xF, wS, xE, yO, yI, xC, wW, yT, yN, xV, wV, xY, zG, xK, xP, xT, xM, xG, xA, wU, xI, yB, eV0, eVs, xN, xQ, xW, xS, yH, xX, xZ, wZ, xB, zF, yY, xU, yW, wR, zB, yR, yC, yA, xH, wY, xD, zJ, wT, yD, zH, zD, zE, yK, zL, zP, zK, xR, xL, zI, xJ, yG, zC, yZ, yM, yP, yS, yJ, yX, yU, yL, wJ, wP, wH, wI, wL, wN, wO, wK, wM, Res.bind_ok, Res.bind_no, Res.bind_ex, Res.lft_some, Res.lft_none, Option.map_some, Option.bind_some, List.set_cons_zero, List.set_cons_succ, List.length_cons, List.length_nil, if_true, if_false, Bool.false_eq_true, ite_true, ite_false, Bool.not_true, Bool.not_false, rng2_one (m := (n : Int)) (by bv_omega) (by bv_omega), Int.toNat_natCast]
  refine forM_b2 (fun i ρ => ∃ c t w x, ρ = [some (.int n), some (.int l), some (.int k), some (lI (M12.mbl l k i)), c, t, w, x]) ⟨none, none, none, none, rfl⟩ ?_ ?_
  · rintro i d ρ hd ⟨c, t, w, x, rfl⟩
    obtain ⟨hi, rfl⟩ := rngN_get hd
    have hlen : (M12.mbl l k i).length = i + 1 := M12.mbl_length l k i
    have hm : (if (i : Int) + 1 < k then (i : Int) + 1 else k) = min k ((i : Int) + 1) := by split <;> bv_omega
    have inner : ∃ y, L3.forM (gN 7) (sQ (sIf (b2 geI (eV 7) (eV 1)) (sS 5 (e2 addI (eV 5) (e2 mulI (eV 6) (e2 ixD (eV 3) (e2 subI (eV 4) (eV 7)))))) sN) (sS 6 (e2 mulI (eV 6) (e2 subI (eV 4) (eV 7))))) ((List.range (min k ((i : Int) + 1)).toNat).map fun (j : Nat) => PyData.int ((j : Int) + 1))
        [some (.int n), some (.int l), some (.int k), some (lI (M12.mbl l k i)), some (.int ((i : Int) + 1)), some (.int 0), some (.int 1), x] = .ok (.nx [some (.int n), some (.int l), some (.int k), some (lI (M12.mbl l k i)), some (.int ((i : Int) + 1)), some (.int (M12.tot l (M12.mbl l k i) (min k ((i : Int) + 1)).toNat)), some (.int (M12.ff (((i + 1 : Nat) : Int) - 1) (min k ((i : Int) + 1)).toNat)), y]) := by
      obtain ⟨ρ', e, y, rfl⟩ := forM_ok (g := gN 7) (b := sQ (sIf (b2 geI (eV 7) (eV 1)) (sS 5 (e2 addI (eV 5) (e2 mulI (eV 6) (e2 ixD (eV 3) (e2 subI (eV 4) (eV 7)))))) sN) (sS 6 (e2 mulI (eV 6) (e2 subI (eV 4) (eV 7)))))
        (fun j ρ => ∃ y, ρ = [some (.int n), some (.int l), some (.int k), some (lI (M12.mbl l k i)), some (.int ((i : Int) + 1)), some (.int (M12.tot l (M12.mbl l k i) j)), some (.int (M12.ff (((i + 1 : Nat) : Int) - 1) j)), y]) ((List.range (min k ((i : Int) + 1)).toNat).map fun (j : Nat) => PyData.int ((j : Int) + 1))
        [some (.int n), some (.int l), some (.int k), some (lI (M12.mbl l k i)), some (.int ((i : Int) + 1)), some (.int 0), some (.int 1), x] ⟨x, rfl⟩ (by
          rintro j d ρ hd ⟨y, rfl⟩
          obtain ⟨hj, rfl⟩ := rngN_get hd
          have hj1 : j < i + 1 := by bv_omega
          have ii : i < 60 := by bv_omega
          obtain ⟨q1, q2, q3⟩ := le61 hj1 ii
          have hv := atI_lI (xs := M12.mbl l k i) (i := (i : Int) + 1 - ((j : Int) + 1)) (j := i - j) (castT hj1) (by rw [hlen]; exact Nat.lt_succ_of_le (Nat.sub_le _ _))
          rw [M12.mbl_at l k i (i - j) (Nat.sub_le _ _)] at hv
          have e2 : M12.ff (((i + 1 : Nat) : Int) - 1) j * ((i : Int) + 1 - ((j : Int) + 1)) = M12.ff (((i + 1 : Nat) : Int) - 1) (j + 1) := by
            rw [M12.ff]
            congr 1
            bv_omega
          have m1 := mulO_ok (i := M12.ff (((i + 1 : Nat) : Int) - 1) j) (j := M12.G l k (i - j)) (.inr ⟨small_ff q1 q2, small_G q3⟩)
          have m2 := mulO_ok (i := M12.ff (((i + 1 : Nat) : Int) - 1) j) (j := (i : Int) + 1 - ((j : Int) + 1)) (mulT hj1 ii)
          by_cases hl : l ≤ (j : Int) + 1
          · refine ⟨_, _, rfl, ?_, some (.int ((j : Int) + 1)), rfl⟩
            simp -implicitDefEqProofs only [zA, zO, zN, xO, zY, yQ, yV, xF, wS, xE, yO, yI, xC, wW, yT, yN, xV, wV, xY, zG, xK, xP, xT, xM, xG, xA, wU, xI, yB, eV0, eVs, xN, xQ, xW, xS, yH, xX, xZ, wZ, xB, zF, yY, xU, yW, wR, zB, yR, yC, yA, xH, wY, xD, zJ, wT, yD, zH, zD, zE, yK, zL, zP, zK, xR, xL, zI, xJ, yG, zC, yZ, yM, yP, yS, yJ, yX, yU, yL, wJ, wP, wH, wI, wL, wN, wO, wK, wM, Res.bind_ok, Res.bind_no, Res.bind_ex, Res.lft_some, Res.lft_none, Option.map_some, Option.bind_some, List.set_cons_zero, List.set_cons_succ, List.length_cons, List.length_nil, if_true, if_false, Bool.false_eq_true, ite_true, ite_false, Bool.not_true, Bool.not_false, decide_eq_true hl, hv, m1, m2, e2]
            rw [M12.tot, if_pos hl, hlen, Nat.add_sub_add_right, M12.mbl_at l k i (i - j) (Nat.sub_le _ _)]
          · refine ⟨_, _, rfl, ?_, some (.int ((j : Int) + 1)), rfl⟩
            simp -implicitDefEqProofs only [zA, zO, zN, xO, zY, yQ, yV, xF, wS, xE, yO, yI, xC, wW, yT, yN, xV, wV, xY, zG, xK, xP, xT, xM, xG, xA, wU, xI, yB, eV0, eVs, xN, xQ, xW, xS, yH, xX, xZ, wZ, xB, zF, yY, xU, yW, wR, zB, yR, yC, yA, xH, wY, xD, zJ, wT, yD, zH, zD, zE, yK, zL, zP, zK, xR, xL, zI, xJ, yG, zC, yZ, yM, yP, yS, yJ, yX, yU, yL, wJ, wP, wH, wI, wL, wN, wO, wK, wM, Res.bind_ok, Res.bind_no, Res.bind_ex, Res.lft_some, Res.lft_none, Option.map_some, Option.bind_some, List.set_cons_zero, List.set_cons_succ, List.length_cons, List.length_nil, if_true, if_false, Bool.false_eq_true, ite_true, ite_false, Bool.not_true, Bool.not_false, decide_eq_false hl, m2, e2]
            rw [M12.tot, if_neg hl])
      rw [List.length_map, List.length_range] at e
      exact ⟨y, e⟩
    obtain ⟨y, inner⟩ := inner
    refine ⟨_, _, rfl, ?_, some (.int ((i : Int) + 1)), some (.int (M12.tot l (M12.mbl l k i) (min k ((i : Int) + 1)).toNat)), some (.int (M12.ff (((i + 1 : Nat) : Int) - 1) (min k ((i : Int) + 1)).toNat)), y, rfl⟩
    simp -implicitDefEqProofs only [zA, zO, zN, xO, zY, yQ, yV, xF, wS, xE, yO, yI, xC, wW, yT, yN, xV, wV, xY, zG, xK, xP, xT, xM, xG, xA, wU, xI, yB, eV0, eVs, xN, xQ, xW, xS, yH, xX, xZ, wZ, xB, zF, yY, xU, yW, wR, zB, yR, yC, yA, xH, wY, xD, zJ, wT, yD, zH, zD, zE, yK, zL, zP, zK, xR, xL, zI, xJ, yG, zC, yZ, yM, yP, yS, yJ, yX, yU, yL, wJ, wP, wH, wI, wL, wN, wO, wK, wM, Res.bind_ok, Res.bind_no, Res.bind_ex, Res.lft_some, Res.lft_none, Option.map_some, Option.bind_some, List.set_cons_zero, List.set_cons_succ, List.length_cons, List.length_nil, if_true, if_false, Bool.false_eq_true, ite_true, ite_false, Bool.not_true, Bool.not_false, min2D, hm, rng2_one (m := min k ((i : Int) + 1)) (by bv_omega) (by bv_omega), inner, app_le (l := (M12.mbl l k i).map PyData.int) (by rw [List.length_map]; bv_omega)]
    simp only [M12.mbl, lI, List.map_append, List.map_cons, List.map_nil]
  · rintro ρ ⟨c, t, w, x, rfl⟩
    rw [List.length_map, List.length_range]
    simp -implicitDefEqProofs only [zA, zO, zN, xO, zY, yQ, yV, xF, wS, xE, yO, yI, xC, wW, yT, yN, xV, wV, xY, zG, xK, xP, xT, xM, xG, xA, wU, xI, yB, eV0, eVs, xN, xQ, xW, xS, yH, xX, xZ, wZ, xB, zF, yY, xU, yW, wR, zB, yR, yC, yA, xH, wY, xD, zJ, wT, yD, zH, zD, zE, yK, zL, zP, zK, xR, xL, zI, xJ, yG, zC, yZ, yM, yP, yS, yJ, yX, yU, yL, wJ, wP, wH, wI, wL, wN, wO, wK, wM, Res.bind_ok, Res.bind_no, Res.bind_ex, Res.lft_some, Res.lft_none, Option.map_some, Option.bind_some, List.set_cons_zero, List.set_cons_succ, List.length_cons, List.length_nil, if_true, if_false, Bool.false_eq_true, ite_true, ite_false, Bool.not_true, Bool.not_false]
theorem eq_many_good {n : Nat} {k : Int} (hn : n ≤ 60) (hk : 0 ≤ k) : F_many_good [.int n, .int k] = .ok (.int (M12.G 1 k n)) := by
  show (B_many_good [some (.int n), some (.int k)]).bind (fin false) = _
  unfold B_many_good
  have g1 := M12.mbl_length 1 k n
  have hv := atI_lI (xs := M12.mbl 1 k n) (i := (n : Int)) (j := n) rfl (by bv_omega)
  rw [M12.mbl_at 1 k n n (Nat.le_refl _)] at hv
  simp -implicitDefEqProofs only [zA, zO, zN, xO, zY, yQ, yV, xF, wS, xE, yO, yI, xC, wW, yT, yN, xV, wV, xY, zG, xK, xP, xT, xM, xG, xA, wU, xI, yB, eV0, eVs, xN, xQ, xW, xS, yH, xX, xZ, wZ, xB, zF, yY, xU, yW, wR, zB, yR, yC, yA, xH, wY, xD, zJ, wT, yD, zH, zD, zE, yK, zL, zP, zK, xR, xL, zI, xJ, yG, zC, yZ, yM, yP, yS, yJ, yX, yU, yL, wJ, wP, wH, wI, wL, wN, wO, wK, wM, Res.bind_ok, Res.bind_no, Res.bind_ex, Res.lft_some, Res.lft_none, Option.map_some, Option.bind_some, List.set_cons_zero, List.set_cons_succ, List.length_cons, List.length_nil, if_true, if_false, Bool.false_eq_true, ite_true, ite_false, Bool.not_true, Bool.not_false, eq_check_people_and_k hn hk, eq_many_by_lengths 1 hn hk, hv]
theorem setD_lI {xs : List Int} {a : Nat} (h : a < xs.length) (v : Int) : setD (xs.map PyData.int) (.int (a : Int)) (.int v) = some ((xs.set a v).map PyData.int) := by
  unfold setD
  simp only
  rw [List.length_map, ixN_nat h, Option.map_some, List.map_set]
theorem eq_behind {n : Nat} {xs ys : List Int} (o : Ord n xs) (o' : Ord n ys) (hn : n ≤ 1000) : F_behind [tI xs, tI ys] = .ok (tI (cmpO n xs ys)) := by
  show (B_behind [some (tI xs), some (tI ys)]).bind (fin false) = _
  unfold B_behind
  have c1 : eComp (iS (eV 0)) tYes (e2 ixD (eV 1) (eV 0)) [1] [some (tI xs), some (tI ys)] = .ok (lI (cmpO n xs ys)) := by
    have := eComp_all (mi := iS (eV 0)) (me := e2 ixD (eV 1) (eV 0)) (js := [1]) (ρ := [some (tI xs), some (tI ys)]) (fun b : Nat => PyData.int ((nxt xs b : Nat) : Int)) (fun b : Nat => PyData.int ((nxt ys (nxt xs b) : Nat) : Int)) (List.range n) (by
        simp -implicitDefEqProofs only [zA, zO, zN, xO, zY, yQ, yV, xF, wS, xE, yO, yI, xC, wW, yT, yN, xV, wV, xY, zG, xK, xP, xT, xM, xG, xA, wU, xI, yB, eV0, eVs, xN, xQ, xW, xS, yH, xX, xZ, wZ, xB, zF, yY, xU, yW, wR, zB, yR, yC, yA, xH, wY, xD, zJ, wT, yD, zH, zD, zE, yK, zL, zP, zK, xR, xL, zI, xJ, yG, zC, yZ, yM, yP, yS, yJ, yX, yU, yL, wJ, wP, wH, wI, wL, wN, wO, wK, wM, Res.bind_ok, Res.bind_no, Res.bind_ex, Res.lft_some, Res.lft_none, Option.map_some, Option.bind_some, List.set_cons_zero, List.set_cons_succ, List.length_cons, List.length_nil, if_true, if_false, Bool.false_eq_true, ite_true, ite_false, Bool.not_true, Bool.not_false]
        congr 1
        rw [show xs.map PyData.int = (ofN n (nxt xs)).map PyData.int by rw [ofN_same o]]
        unfold ofN
        rw [List.map_map]
        rfl) (by rw [List.length_range]; exact hn) (fun b hb => by
        have hb := List.mem_range.mp hb
        have h2 := o.nxt_lt hb
        show e2 ixD _ _ [some (.int ((nxt xs b : Nat) : Int)), some (tI ys)] = _
        simp -implicitDefEqProofs only [zA, zO, zN, xO, zY, yQ, yV, xF, wS, xE, yO, yI, xC, wW, yT, yN, xV, wV, xY, zG, xK, xP, xT, xM, xG, xA, wU, xI, yB, eV0, eVs, xN, xQ, xW, xS, yH, xX, xZ, wZ, xB, zF, yY, xU, yW, wR, zB, yR, yC, yA, xH, wY, xD, zJ, wT, yD, zH, zD, zE, yK, zL, zP, zK, xR, xL, zI, xJ, yG, zC, yZ, yM, yP, yS, yJ, yX, yU, yL, wJ, wP, wH, wI, wL, wN, wO, wK, wM, Res.bind_ok, Res.bind_no, Res.bind_ex, Res.lft_some, Res.lft_none, Option.map_some, Option.bind_some, List.set_cons_zero, List.set_cons_succ, List.length_cons, List.length_nil, if_true, if_false, Bool.false_eq_true, ite_true, ite_false, Bool.not_true, Bool.not_false, atI_map]
        rw [atI_getD (by rw [o'.len]; exact h2), o'.nxt_int h2]
        rfl)
    rw [this]
    unfold cmpO ofN
    simp only [lI, List.map_map, Function.comp_def]
  simp -implicitDefEqProofs only [zA, zO, zN, xO, zY, yQ, yV, xF, wS, xE, yO, yI, xC, wW, yT, yN, xV, wV, xY, zG, xK, xP, xT, xM, xG, xA, wU, xI, yB, eV0, eVs, xN, xQ, xW, xS, yH, xX, xZ, wZ, xB, zF, yY, xU, yW, wR, zB, yR, yC, yA, xH, wY, xD, zJ, wT, yD, zH, zD, zE, yK, zL, zP, zK, xR, xL, zI, xJ, yG, zC, yZ, yM, yP, yS, yJ, yX, yU, yL, wJ, wP, wH, wI, wL, wN, wO, wK, wM, Res.bind_ok, Res.bind_no, Res.bind_ex, Res.lft_some, Res.lft_none, Option.map_some, Option.bind_some, List.set_cons_zero, List.set_cons_succ, List.length_cons, List.length_nil, if_true, if_false, Bool.false_eq_true, ite_true, ite_false, Bool.not_true, Bool.not_false, List.length_map, o.len, o'.len, neD_int, decide_true, c1]
theorem ex_behind {xs ys : List Int} (h : xs.length ≠ ys.length) : F_behind [tI xs, tI ys] = .ex "BadOrder" := by
  show (B_behind [some (tI xs), some (tI ys)]).bind (fin false) = _
  unfold B_behind
  simp -implicitDefEqProofs only [zA, zO, zN, xO, zY, yQ, yV, xF, wS, xE, yO, yI, xC, wW, yT, yN, xV, wV, xY, zG, xK, xP, xT, xM, xG, xA, wU, xI, yB, eV0, eVs, xN, xQ, xW, xS, yH, xX, xZ, wZ, xB, zF, yY, xU, yW, wR, zB, yR, yC, yA, xH, wY, xD, zJ, wT, yD, zH, zD, zE, yK, zL, zP, zK, xR, xL, zI, xJ, yG, zC, yZ, yM, yP, yS, yJ, yX, yU, yL, wJ, wP, wH, wI, wL, wN, wO, wK, wM, Res.bind_ok, Res.bind_no, Res.bind_ex, Res.lft_some, Res.lft_none, Option.map_some, Option.bind_some, List.set_cons_zero, List.set_cons_succ, List.length_cons, List.length_nil, if_true, if_false, Bool.false_eq_true, ite_true, ite_false, Bool.not_true, Bool.not_false, List.length_map, neD_int, decide_eq_false (show ¬ ((xs.length : Nat) : Int) = ((ys.length : Nat) : Int) by bv_omega), vH, if_pos (show 1 ≤ sizeLine by decide), if_pos (show 0 + 1 ≤ sizeLine by decide)]
theorem eq_turned_back {n : Nat} {xs : List Int} (o : Ord n xs) (hn : n ≤ 1000) : F_turned_back [tI xs] = .ok (tI (invO n xs)) := by
  show (B_turned_back [some (tI xs), none, none, none]).bind (fin false) = _
  unfold B_turned_back
  have rp : repL (.list [.int 0]) (.int ((n : Nat) : Int)) = some (.list ((List.range n).map fun c => PyData.int (((if whr n xs c < 0 then whr n xs c else 0 : Nat)) : Int))) := by
    rw [repL_one _ _ hn, replicate_map]
    rfl
  simp -implicitDefEqProofs only [zA, zO, zN, xO, zY, yQ, yV, xF, wS, xE, yO, yI, xC, wW, yT, yN, xV, wV, xY, zG, xK, xP, xT, xM, xG, xA, wU, xI, yB, eV0, eVs, xN, xQ, xW, xS, yH, xX, xZ, wZ, xB, zF, yY, xU, yW, wR, zB, yR, yC, yA, xH, wY, xD, zJ, wT, yD, zH, zD, zE, yK, zL, zP, zK, xR, xL, zI, xJ, yG, zC, yZ, yM, yP, yS, yJ, yX, yU, yL, wJ, wP, wH, wI, wL, wN, wO, wK, wM, Res.bind_ok, Res.bind_no, Res.bind_ex, Res.lft_some, Res.lft_none, Option.map_some, Option.bind_some, List.set_cons_zero, List.set_cons_succ, List.length_cons, List.length_nil, if_true, if_false, Bool.false_eq_true, ite_true, ite_false, Bool.not_true, Bool.not_false, List.length_map, o.len, rp]
  refine forM_b2 (fun i ρ => ∃ x y, ρ = [some (tI xs), some (.list ((List.range n).map fun c => PyData.int (((if whr n xs c < i then whr n xs c else 0 : Nat)) : Int))), x, y]) ⟨none, none, rfl⟩ ?_ ?_
  · rintro i d ρ hd ⟨x, y, rfl⟩
    unfold enumD at hd
    rw [List.getElem?_map] at hd
    obtain ⟨j, ej, rfl⟩ := Option.map_eq_some_iff.mp hd
    have hi : i < n := by
      have := (List.getElem?_eq_some_iff.mp ej).1
      rw [List.length_range, List.length_map, o.len] at this
      exact this
    rw [List.getElem?_range (by rw [List.length_map, o.len]; exact hi)] at ej
    cases ej
    have gd : (xs.map PyData.int).getD i .none = .int ((nxt xs i : Nat) : Int) := by
      rw [List.getD_eq_getElem?_getD, List.getElem?_map, List.getElem?_eq_getElem (by rw [o.len]; exact hi)]
      have e := o.nxt_int hi
      rw [List.getD_eq_getElem?_getD, List.getElem?_eq_getElem (by rw [o.len]; exact hi)] at e
      show PyData.int _ = _
      rw [← e]
      rfl
    rw [gd]
    refine ⟨_, [some (tI xs), some (.list ((List.range n).map fun c => PyData.int (((if whr n xs c < i + 1 then whr n xs c else 0 : Nat)) : Int))), some (.int ((i : Nat) : Int)), some (.int ((nxt xs i : Nat) : Int))], rfl, ?_, _, _, rfl⟩
    simp -implicitDefEqProofs only [zA, zO, zN, xO, zY, yQ, yV, xF, wS, xE, yO, yI, xC, wW, yT, yN, xV, wV, xY, zG, xK, xP, xT, xM, xG, xA, wU, xI, yB, eV0, eVs, xN, xQ, xW, xS, yH, xX, xZ, wZ, xB, zF, yY, xU, yW, wR, zB, yR, yC, yA, xH, wY, xD, zJ, wT, yD, zH, zD, zE, yK, zL, zP, zK, xR, xL, zI, xJ, yG, zC, yZ, yM, yP, yS, yJ, yX, yU, yL, wJ, wP, wH, wI, wL, wN, wO, wK, wM, Res.bind_ok, Res.bind_no, Res.bind_ex, Res.lft_some, Res.lft_none, Option.map_some, Option.bind_some, List.set_cons_zero, List.set_cons_succ, List.length_cons, List.length_nil, if_true, if_false, Bool.false_eq_true, ite_true, ite_false, Bool.not_true, Bool.not_false, setD_range (o.nxt_lt hi)]
    refine congrArg (fun z => Res.ok (Out.nx [some (tI xs), some (PyData.list z), some (.int ((i : Nat) : Int)), some (.int ((nxt xs i : Nat) : Int))])) (List.map_congr_left fun c hc => ?_)
    have hc := List.mem_range.mp hc
    obtain ⟨w1, w2⟩ := whr_spec o hc
    by_cases e : c = nxt xs i
    · subst e
      rw [if_pos rfl, whr_nxt o hi, if_pos (by bv_omega)]
    · rw [if_neg e]
      have ne : whr n xs c ≠ i := fun z => e (by rw [← z, w2])
      by_cases l : whr n xs c < i
      · rw [if_pos l, if_pos (by bv_omega)]
      · rw [if_neg l, if_neg (by bv_omega)]
  · rintro ρ ⟨x, y, rfl⟩
    have le : (enumD (xs.map PyData.int)).length = n := by unfold enumD; rw [List.length_map, List.length_range, List.length_map, o.len]
    rw [le]
    simp -implicitDefEqProofs only [zA, zO, zN, xO, zY, yQ, yV, xF, wS, xE, yO, yI, xC, wW, yT, yN, xV, wV, xY, zG, xK, xP, xT, xM, xG, xA, wU, xI, yB, eV0, eVs, xN, xQ, xW, xS, yH, xX, xZ, wZ, xB, zF, yY, xU, yW, wR, zB, yR, yC, yA, xH, wY, xD, zJ, wT, yD, zH, zD, zE, yK, zL, zP, zK, xR, xL, zI, xJ, yG, zC, yZ, yM, yP, yS, yJ, yX, yU, yL, wJ, wP, wH, wI, wL, wN, wO, wK, wM, Res.bind_ok, Res.bind_no, Res.bind_ex, Res.lft_some, Res.lft_none, Option.map_some, Option.bind_some, List.set_cons_zero, List.set_cons_succ, List.length_cons, List.length_nil, if_true, if_false, Bool.false_eq_true, ite_true, ite_false, Bool.not_true, Bool.not_false]
    unfold invO ofN
    refine congrArg (fun z => Res.ok (PyData.tuple z)) ?_
    rw [List.map_map]
    refine List.map_congr_left fun c hc => ?_
    have hc := List.mem_range.mp hc
    rw [if_pos (whr_spec o hc).1]
    rfl
def fdA (n : Nat) (xs ds ops : List Int) (p : Nat) : Bool := decide (per n (cmpO n xs ds) (nxt ds p) ≤ (ops.getD p 0).toNat)
theorem eq_finders_as {n : Nat} {xs ds ops : List Int} (o : Ord n xs) (o' : Ord n ds) (q : Opn n ops) (h1 : 1 ≤ n) (h2 : n ≤ 60) : F_finders_as [tI xs, tI ds, tI ops] = .ok (tI (rI' ((List.range n).filter (fdA n xs ds ops)))) := by
  show (B_finders_as [some (tI xs), some (tI ds), some (tI ops), none, none, none, none]).bind (fin false) = _
  unfold B_finders_as
  have hle : ∀ i, ((List.range i).filter (fdA n xs ds ops)).length ≤ i := fun i => Nat.le_trans (List.length_filter_le _ _) (by rw [List.length_range]; exact Nat.le_refl i)
  simp -implicitDefEqProofs only [zA, zO, zN, xO, zY, yQ, yV, xF, wS, xE, yO, yI, xC, wW, yT, yN, xV, wV, xY, zG, xK, xP, xT, xM, xG, xA, wU, xI, yB, eV0, eVs, xN, xQ, xW, xS, yH, xX, xZ, wZ, xB, zF, yY, xU, yW, wR, zB, yR, yC, yA, xH, wY, xD, zJ, wT, yD, zH, zD, zE, yK, zL, zP, zK, xR, xL, zI, xJ, yG, zC, yZ, yM, yP, yS, yJ, yX, yU, yL, wJ, wP, wH, wI, wL, wN, wO, wK, wM, Res.bind_ok, Res.bind_no, Res.bind_ex, Res.lft_some, Res.lft_none, Option.map_some, Option.bind_some, List.set_cons_zero, List.set_cons_succ, List.length_cons, List.length_nil, if_true, if_false, Bool.false_eq_true, ite_true, ite_false, Bool.not_true, Bool.not_false, List.length_map, o.len, eq_behind o o' (show n ≤ 1000 by bv_omega), eq_made_openings q h1 h2]
  refine forM_b2 (fun i ρ => ∃ x y, ρ = [some (tI xs), some (tI ds), some (tI ops), some (tI (cmpO n xs ds)), some (lI (rI' ((List.range i).filter (fdA n xs ds ops)))), x, y]) ⟨none, none, rfl⟩ ?_ ?_
  · rintro i d ρ hd ⟨x, y, rfl⟩
    unfold enumD at hd
    rw [List.getElem?_map] at hd
    obtain ⟨j, ej, rfl⟩ := Option.map_eq_some_iff.mp hd
    have hi : i < n := by
      have := (List.getElem?_eq_some_iff.mp ej).1
      rw [List.length_range, List.length_map, o'.len] at this
      exact this
    rw [List.getElem?_range (by rw [List.length_map, o'.len]; exact hi)] at ej
    cases ej
    have gd : (ds.map PyData.int).getD i .none = .int ((nxt ds i : Nat) : Int) := by
      rw [List.getD_eq_getElem?_getD, List.getElem?_map, List.getElem?_eq_getElem (by rw [o'.len]; exact hi)]
      have e := o'.nxt_int hi
      rw [List.getD_eq_getElem?_getD, List.getElem?_eq_getElem (by rw [o'.len]; exact hi)] at e
      show PyData.int _ = _
      rw [← e]
      rfl
    rw [gd]
    refine ⟨_, [some (tI xs), some (tI ds), some (tI ops), some (tI (cmpO n xs ds)), some (lI (rI' ((List.range (i + 1)).filter (fdA n xs ds ops)))), some (.int ((i : Nat) : Int)), some (.int ((nxt ds i : Nat) : Int))], rfl, ?_, _, _, rfl⟩
    have el : ((rI' (ring n (cmpO n xs ds) (nxt ds i))).map PyData.int).length = per n (cmpO n xs ds) (nxt ds i) := by rw [List.length_map, rI_len, ring_length]
    have rs : (List.range (i + 1)).filter (fdA n xs ds ops) = (List.range i).filter (fdA n xs ds ops) ++ (if fdA n xs ds ops i then [i] else []) := by
      rw [List.range_succ, List.filter_append]
      congr 1
      by_cases h : fdA n xs ds ops i = true <;> simp [h]
    have lle : ((rI' ((List.range i).filter (fdA n xs ds ops))).map PyData.int).length ≤ 1000 := by
      rw [List.length_map, rI_len]
      have := hle i
      bv_omega
    by_cases h : fdA n xs ds ops i = true
    · have hd : decide ((per n (cmpO n xs ds) (nxt ds i) : Int) ≤ ((ops.getD i 0).toNat : Int)) = true := by
        have := of_decide_eq_true h
        exact decide_eq_true (by bv_omega)
      simp -implicitDefEqProofs only [zA, zO, zN, xO, zY, yQ, yV, xF, wS, xE, yO, yI, xC, wW, yT, yN, xV, wV, xY, zG, xK, xP, xT, xM, xG, xA, wU, xI, yB, eV0, eVs, xN, xQ, xW, xS, yH, xX, xZ, wZ, xB, zF, yY, xU, yW, wR, zB, yR, yC, yA, xH, wY, xD, zJ, wT, yD, zH, zD, zE, yK, zL, zP, zK, xR, xL, zI, xJ, yG, zC, yZ, yM, yP, yS, yJ, yX, yU, yL, wJ, wP, wH, wI, wL, wN, wO, wK, wM, Res.bind_ok, Res.bind_no, Res.bind_ex, Res.lft_some, Res.lft_none, Option.map_some, Option.bind_some, List.set_cons_zero, List.set_cons_succ, List.length_cons, List.length_nil, if_true, if_false, Bool.false_eq_true, ite_true, ite_false, Bool.not_true, Bool.not_false, atI_opn q hi, eq_ring_from (cmpO_ord o o') (show n ≤ 1000 by bv_omega) (o'.nxt_lt hi), el, hd, app_le lle]
      rw [rs, if_pos h, rI_app]
      simp only [lI, List.map_append]
      rfl
    · have hd : decide ((per n (cmpO n xs ds) (nxt ds i) : Int) ≤ ((ops.getD i 0).toNat : Int)) = false := by
        have h' : fdA n xs ds ops i = false := by simpa using h
        have := of_decide_eq_false h'
        exact decide_eq_false (by bv_omega)
      simp -implicitDefEqProofs only [zA, zO, zN, xO, zY, yQ, yV, xF, wS, xE, yO, yI, xC, wW, yT, yN, xV, wV, xY, zG, xK, xP, xT, xM, xG, xA, wU, xI, yB, eV0, eVs, xN, xQ, xW, xS, yH, xX, xZ, wZ, xB, zF, yY, xU, yW, wR, zB, yR, yC, yA, xH, wY, xD, zJ, wT, yD, zH, zD, zE, yK, zL, zP, zK, xR, xL, zI, xJ, yG, zC, yZ, yM, yP, yS, yJ, yX, yU, yL, wJ, wP, wH, wI, wL, wN, wO, wK, wM, Res.bind_ok, Res.bind_no, Res.bind_ex, Res.lft_some, Res.lft_none, Option.map_some, Option.bind_some, List.set_cons_zero, List.set_cons_succ, List.length_cons, List.length_nil, if_true, if_false, Bool.false_eq_true, ite_true, ite_false, Bool.not_true, Bool.not_false, atI_opn q hi, eq_ring_from (cmpO_ord o o') (show n ≤ 1000 by bv_omega) (o'.nxt_lt hi), el, hd]
      rw [rs, if_neg h, List.append_nil]
  · rintro ρ ⟨x, y, rfl⟩
    have le : (enumD (ds.map PyData.int)).length = n := by unfold enumD; rw [List.length_map, List.length_range, List.length_map, o'.len]
    simp -implicitDefEqProofs only [zA, zO, zN, xO, zY, yQ, yV, xF, wS, xE, yO, yI, xC, wW, yT, yN, xV, wV, xY, zG, xK, xP, xT, xM, xG, xA, wU, xI, yB, eV0, eVs, xN, xQ, xW, xS, yH, xX, xZ, wZ, xB, zF, yY, xU, yW, wR, zB, yR, yC, yA, xH, wY, xD, zJ, wT, yD, zH, zD, zE, yK, zL, zP, zK, xR, xL, zI, xJ, yG, zC, yZ, yM, yP, yS, yJ, yX, yU, yL, wJ, wP, wH, wI, wL, wN, wO, wK, wM, Res.bind_ok, Res.bind_no, Res.bind_ex, Res.lft_some, Res.lft_none, Option.map_some, Option.bind_some, List.set_cons_zero, List.set_cons_succ, List.length_cons, List.length_nil, if_true, if_false, Bool.false_eq_true, ite_true, ite_false, Bool.not_true, Bool.not_false, le]
theorem eq_many_first_rings {m j : Nat} (hm : m < 60) (hj : j ≤ m) : F_many_first_rings [.int ((m + 1 : Nat) : Int), .int ((j + 1 : Nat) : Int)] = .ok (.int ((nf m j : Nat) : Int)) := by
  show (B_many_first_rings [some (.int ((m + 1 : Nat) : Int)), some (.int ((j + 1 : Nat) : Int)), none, none]).bind (fin false) = _
  unfold B_many_first_rings
  have rg := rng2_nat (a := 1) (b := j + 1) (by bv_omega) (by bv_omega)
  rw [show ((1 : Nat) : Int) = 1 from rfl, Nat.add_sub_cancel] at rg
  simp -implicitDefEqProofs only [zA, zO, zN, xO, zY, yQ, yV, xF, wS, xE, yO, yI, xC, wW, yT, yN, xV, wV, xY, zG, xK, xP, xT, xM, xG, xA, wU, xI, yB, eV0, eVs, xN, xQ, xW, xS, yH, xX, xZ, wZ, xB, zF, yY, xU, yW, wR, zB, yR, yC, yA, xH, wY, xD, zJ, wT, yD, zH, zD, zE, yK, zL, zP, zK, xR, xL, zI, xJ, yG, zC, yZ, yM, yP, yS, yJ, yX, yU, yL, wJ, wP, wH, wI, wL, wN, wO, wK, wM, Res.bind_ok, Res.bind_no, Res.bind_ex, Res.lft_some, Res.lft_none, Option.map_some, Option.bind_some, List.set_cons_zero, List.set_cons_succ, List.length_cons, List.length_nil, if_true, if_false, Bool.false_eq_true, ite_true, ite_false, Bool.not_true, Bool.not_false, rg]
  refine forM_b2 (fun i ρ => ∃ a, ρ = [some (.int ((m + 1 : Nat) : Int)), some (.int ((j + 1 : Nat) : Int)), some (.int ((nf m i : Nat) : Int)), a]) ⟨none, rfl⟩ ?_ ?_
  · rintro i d ρ hd ⟨a, rfl⟩
    obtain ⟨hi, rfl⟩ := rngN_get hd
    have m1 := mulO_ok (i := ((nf m i : Nat) : Int)) (j := ((m + 1 : Nat) : Int) - ((1 + i : Nat) : Int)) (MulOk.right (by bv_omega) (by bv_omega))
    have e : ((nf m i : Nat) : Int) * (((m + 1 : Nat) : Int) - ((1 + i : Nat) : Int)) = ((nf m (i + 1) : Nat) : Int) := by
      rw [nf_last i m (by bv_omega), Int.natCast_mul, show ((m + 1 : Nat) : Int) - ((1 + i : Nat) : Int) = ((m - i : Nat) : Int) by bv_omega]
    refine ⟨_, _, rfl, ?_, some (.int ((1 + i : Nat) : Int)), rfl⟩
    simp -implicitDefEqProofs only [zA, zO, zN, xO, zY, yQ, yV, xF, wS, xE, yO, yI, xC, wW, yT, yN, xV, wV, xY, zG, xK, xP, xT, xM, xG, xA, wU, xI, yB, eV0, eVs, xN, xQ, xW, xS, yH, xX, xZ, wZ, xB, zF, yY, xU, yW, wR, zB, yR, yC, yA, xH, wY, xD, zJ, wT, yD, zH, zD, zE, yK, zL, zP, zK, xR, xL, zI, xJ, yG, zC, yZ, yM, yP, yS, yJ, yX, yU, yL, wJ, wP, wH, wI, wL, wN, wO, wK, wM, Res.bind_ok, Res.bind_no, Res.bind_ex, Res.lft_some, Res.lft_none, Option.map_some, Option.bind_some, List.set_cons_zero, List.set_cons_succ, List.length_cons, List.length_nil, if_true, if_false, Bool.false_eq_true, ite_true, ite_false, Bool.not_true, Bool.not_false, m1, e]
  · rintro ρ ⟨a, rfl⟩
    rw [List.length_map, List.length_range]
    simp -implicitDefEqProofs only [zA, zO, zN, xO, zY, yQ, yV, xF, wS, xE, yO, yI, xC, wW, yT, yN, xV, wV, xY, zG, xK, xP, xT, xM, xG, xA, wU, xI, yB, eV0, eVs, xN, xQ, xW, xS, yH, xX, xZ, wZ, xB, zF, yY, xU, yW, wR, zB, yR, yC, yA, xH, wY, xD, zJ, wT, yD, zH, zD, zE, yK, zL, zP, zK, xR, xL, zI, xJ, yG, zC, yZ, yM, yP, yS, yJ, yX, yU, yL, wJ, wP, wH, wI, wL, wN, wO, wK, wM, Res.bind_ok, Res.bind_no, Res.bind_ex, Res.lft_some, Res.lft_none, Option.map_some, Option.bind_some, List.set_cons_zero, List.set_cons_succ, List.length_cons, List.length_nil, if_true, if_false, Bool.false_eq_true, ite_true, ite_false, Bool.not_true, Bool.not_false]
theorem small_nf {m j : Nat} (hm : m < 60) (hj : j ≤ m) : Small ((nf m j : Nat) : Int) := by
  rw [← ff_nf, show (m : Int) = ((m + 1 : Nat) : Int) - 1 by bv_omega]
  exact small_ff (by bv_omega) (by bv_omega)
theorem eq_many_with_first_ring {n k m j : Nat} (hn : n ≤ 60) (hm : m < n) (hj : j ≤ m) : F_many_with_first_ring [lI (M12.mbl 1 (k : Int) n), .int ((m + 1 : Nat) : Int), .int ((j + 1 : Nat) : Int)] = .ok (.int ((nf m j * gn k (m - j) : Nat) : Int)) := by
  show (B_many_with_first_ring [some (lI (M12.mbl 1 (k : Int) n)), some (.int ((m + 1 : Nat) : Int)), some (.int ((j + 1 : Nat) : Int))]).bind (fin false) = _
  unfold B_many_with_first_ring
  have lm := M12.mbl_length 1 (k : Int) n
  have at1 := atI_lI (xs := M12.mbl 1 (k : Int) n) (i := ((m + 1 : Nat) : Int) - ((j + 1 : Nat) : Int)) (j := m - j) (by bv_omega) (by bv_omega)
  rw [M12.mbl_at 1 (k : Int) n (m - j) (by bv_omega), gn_int] at at1
  have m1 := mulO_ok (i := ((nf m j : Nat) : Int)) (j := ((gn k (m - j) : Nat) : Int)) (.inr ⟨small_nf (by bv_omega) hj, by rw [← gn_int]; exact small_G (by bv_omega)⟩)
  simp -implicitDefEqProofs only [zA, zO, zN, xO, zY, yQ, yV, xF, wS, xE, yO, yI, xC, wW, yT, yN, xV, wV, xY, zG, xK, xP, xT, xM, xG, xA, wU, xI, yB, eV0, eVs, xN, xQ, xW, xS, yH, xX, xZ, wZ, xB, zF, yY, xU, yW, wR, zB, yR, yC, yA, xH, wY, xD, zJ, wT, yD, zH, zD, zE, yK, zL, zP, zK, xR, xL, zI, xJ, yG, zC, yZ, yM, yP, yS, yJ, yX, yU, yL, wJ, wP, wH, wI, wL, wN, wO, wK, wM, Res.bind_ok, Res.bind_no, Res.bind_ex, Res.lft_some, Res.lft_none, Option.map_some, Option.bind_some, List.set_cons_zero, List.set_cons_succ, List.length_cons, List.length_nil, if_true, if_false, Bool.false_eq_true, ite_true, ite_false, Bool.not_true, Bool.not_false, eq_many_first_rings (show m < 60 by bv_omega) hj, at1, m1]
  rw [Int.natCast_mul]
theorem nf_big : ∀ (j m : Nat), m ≤ 60 → nf m j ≤ 2 ^ (6 * j)
  | 0, _, _ => by simp [nf]
  | j + 1, m, h => by
    have := nf_big j (m - 1) (by bv_omega)
    rw [nf, show 6 * (j + 1) = 6 * j + 6 by bv_omega, Nat.pow_add, Nat.mul_comm]
    exact Nat.mul_le_mul this (by bv_omega)
theorem rI_er (l : List Nat) (q : Nat) : (rI' l).eraseIdx q = rI' (l.eraseIdx q) := erase_map _ l q
theorem set_get {ys : List Int} {a b : Nat} {v : Int} (h : a < ys.length) : (ys.set a v).getD b 0 = if a = b then v else ys.getD b 0 := by
  rw [List.getD_eq_getElem?_getD, List.getElem?_set]
  by_cases e : a = b
  · subst e
    rw [if_pos rfl, if_pos rfl, if_pos h]
    rfl
  · rw [if_neg e, if_neg e, List.getD_eq_getElem?_getD]
theorem rI_has (r : List Nat) (b : Nat) : (rI' r).contains (b : Int) = r.contains b := by
  unfold rI'
  induction r with
  | nil => rfl
  | cons a r ih =>
    rw [List.map_cons, List.contains_cons, List.contains_cons, ih]
    congr 1
    rw [Bool.eq_iff_iff]
    simp
    bv_omega
theorem castS {a b : Nat} (h : b ≤ a) : ((a + 1 : Nat) : Int) - ((b + 1 : Nat) : Int) = ((a - b : Nat) : Int) := by bv_omega
abbrev RX : Ev → Res Out := sRa "NoNumber" (aC (eC (.str "the order is not good")) aN)
theorem find_idxN : ∀ (l : List Nat) (x : Nat), x ∈ l → ((rI' l).findIdx? fun a => a == (x : Int)) = some (l.idxOf x)
  | [], x, h => nomatch h
  | a :: l, x, h => by
    show ((((a : Nat) : Int) :: rI' l).findIdx? fun b => b == (x : Int)) = _
    rw [List.findIdx?_cons, List.idxOf_cons]
    by_cases e : a = x
    · subst e
      rw [show (((a : Nat) : Int) == (a : Int)) = true by simp, show (a == a) = true by simp]
      rfl
    · have h' : x ∈ l := by
        rcases List.mem_cons.mp h with z | z
        · exact absurd z.symm e
        · exact z
      rw [show (((a : Nat) : Int) == (x : Int)) = false by simp; bv_omega, show (a == x) = false by simpa using e, find_idxN l x h']
      rfl
theorem idx_rI {l : List Nat} {x : Nat} (h : x ∈ l) (hl : l.length ≤ 1000) : ixDD ((rI' l).map PyData.int) (.int (x : Int)) = some (.int ((l.idxOf x : Nat) : Int)) := by
  unfold ixDD
  rw [if_pos ⟨rfl, by rw [List.all_map]; exact List.all_eq_true.mpr fun _ _ => rfl, by rw [List.length_map, rI_len]; exact hl⟩, List.findIdx?_map]
  rw [show ((fun z => eqF z (PyData.int (x : Int))) ∘ PyData.int) = fun a : Int => a == (x : Int) from funext fun a => rfl, find_idxN l x h]
  rfl
theorem getN_idx {l : List Nat} {x : Nat} (h : x ∈ l) : l.getD (l.idxOf x) 0 = x := by
  have li := List.idxOf_lt_length_iff.mpr h
  rw [List.getD, List.getElem?_eq_getElem li]
  simp
theorem rem_rI {l : List Nat} {x : Nat} (nd : l.Nodup) (h : x ∈ l) : remD ((rI' l).map PyData.int) [.int (x : Int)] = some ((rI' (l.erase x)).map PyData.int) := by
  unfold remD
  simp only
  have li := List.idxOf_lt_length_iff.mpr h
  have e2 := (idx_ofN l (l.idxOf x) nd li).2
  rw [getN_idx h] at e2
  rw [intsOf_map, Option.bind_some, find_idxN l x h, e2, Option.map_some, rI_er]
theorem drop_at {xs : List Nat} {i x : Nat} (h : xs[i]? = some x) : xs.drop i = x :: xs.drop (i + 1) := by
  have hi : i < xs.length := (List.getElem?_eq_some_iff.mp h).1
  rw [List.drop_eq_getElem_cons hi]
  congr 1
  exact (List.getElem?_eq_some_iff.mp h).2
theorem eq_ring_place {a : Nat} {t xs : List Nat} (ht : t.length < 60) (nt : t.Nodup) (nx : xs.Nodup) (hs : ∀ x ∈ xs, x ∈ t) : F_ring_place [lI (rI' (a :: t)), tI (rI' (a :: xs))] = .ok (.int ((pr' t xs : Nat) : Int)) := by
  show (B_ring_place [some (lI (rI' (a :: t))), some (tI (rI' (a :: xs))), none, none, none]).bind (fin false) = _
  unfold B_ring_place
  have cut : ∀ l : List Nat, cutD ((rI' (a :: l)).map PyData.int) (some 1) none = (rI' l).map PyData.int := fun l => by
    rw [cutD_map, show (1 : Int) = ((1 : Nat) : Int) from rfl, cut_from]
    rfl
  simp -implicitDefEqProofs only [zA, zO, zN, xO, zY, yQ, yV, xF, wS, xE, yO, yI, xC, wW, yT, yN, xV, wV, xY, zG, xK, xP, xT, xM, xG, xA, wU, xI, yB, eV0, eVs, xN, xQ, xW, xS, yH, xX, xZ, wZ, xB, zF, yY, xU, yW, wR, zB, yR, yC, yA, xH, wY, xD, zJ, wT, yD, zH, zD, zE, yK, zL, zP, zK, xR, xL, zI, xJ, yG, zC, yZ, yM, yP, yS, yJ, yX, yU, yL, wJ, wP, wH, wI, wL, wN, wO, wK, wM, Res.bind_ok, Res.bind_no, Res.bind_ex, Res.lft_some, Res.lft_none, Option.map_some, Option.bind_some, List.set_cons_zero, List.set_cons_succ, List.length_cons, List.length_nil, if_true, if_false, Bool.false_eq_true, ite_true, ite_false, Bool.not_true, Bool.not_false, cut]
  refine forM_b2 (fun i ρ => ∃ (l : List Nat) (b : Nat) (w : Option D), l.Nodup ∧ l.length ≤ t.length ∧ (∀ x ∈ xs.drop i, x ∈ l) ∧ b * nf l.length (xs.length - i) + pr' l (xs.drop i) = pr' t xs ∧ ρ = [some (lI (rI' (a :: t))), some (tI (rI' (a :: xs))), some (.int (b : Int)), some (lI (rI' l)), w])
    ⟨t, 0, none, nt, Nat.le_refl _, hs, by rw [Nat.zero_mul, Nat.zero_add, List.drop_zero], rfl⟩ ?_ ?_
  · rintro i d ρ hd ⟨l, b, w, nl, ll, hl, e, rfl⟩
    unfold rI' at hd
    rw [List.map_map, List.getElem?_map] at hd
    obtain ⟨x, hx, rfl⟩ := Option.map_eq_some_iff.mp hd
    have dr := drop_at hx
    have hi : i < xs.length := (List.getElem?_eq_some_iff.mp hx).1
    have nd := List.Pairwise.drop (i := i) nx
    rw [dr] at hl e nd
    have mx := hl x (List.mem_cons_self ..)
    have le : (l.erase x).length = l.length - 1 := List.length_erase_of_mem mx
    have lp : 0 < l.length := List.length_pos_of_mem mx
    refine ⟨_, _, rfl, ?_, l.erase x, b * l.length + l.idxOf x, some (.int (x : Int)), nl.erase x, by bv_omega, sub_er nd hl, ?_, rfl⟩
    · have m1 := mulO_ok (i := (b : Int)) (j := ((l.length : Nat) : Int)) (MulOk.right (by bv_omega) (by bv_omega))
      have lm : ((rI' l).map PyData.int).length = l.length := by rw [List.length_map, rI_len]
      show sQ _ _ [some (lI (rI' (a :: t))), some (tI (rI' (a :: xs))), some (.int (b : Int)), some (lI (rI' l)), some (.int (x : Int))] = _
      simp -implicitDefEqProofs only [zA, zO, zN, xO, zY, yQ, yV, xF, wS, xE, yO, yI, xC, wW, yT, yN, xV, wV, xY, zG, xK, xP, xT, xM, xG, xA, wU, xI, yB, eV0, eVs, xN, xQ, xW, xS, yH, xX, xZ, wZ, xB, zF, yY, xU, yW, wR, zB, yR, yC, yA, xH, wY, xD, zJ, wT, yD, zH, zD, zE, yK, zL, zP, zK, xR, xL, zI, xJ, yG, zC, yZ, yM, yP, yS, yJ, yX, yU, yL, wJ, wP, wH, wI, wL, wN, wO, wK, wM, Res.bind_ok, Res.bind_no, Res.bind_ex, Res.lft_some, Res.lft_none, Option.map_some, Option.bind_some, List.set_cons_zero, List.set_cons_succ, List.length_cons, List.length_nil, if_true, if_false, Bool.false_eq_true, ite_true, ite_false, Bool.not_true, Bool.not_false, lm, m1, idx_rI mx (show l.length ≤ 1000 by bv_omega), rem_rI nl mx]
      rw [Int.natCast_add, Int.natCast_mul]
    · obtain ⟨j, hj⟩ : ∃ j, xs.length - i = j + 1 := ⟨xs.length - i - 1, by bv_omega⟩
      have hj2 : xs.length - (i + 1) = j := by bv_omega
      have hj3 : (xs.drop (i + 1)).length = j := by rw [List.length_drop]; bv_omega
      rw [hj, nf, pr', hj3] at e
      rw [hj2, le, ← e, Nat.add_mul, ← Nat.mul_assoc, Nat.add_assoc]
  · rintro ρ ⟨l, b, w, nl, ll, hl, e, rfl⟩
    rw [List.length_map, rI_len, Nat.sub_self, List.drop_length, nf, pr', Nat.mul_one, Nat.add_zero] at e
    subst e
    simp -implicitDefEqProofs only [zA, zO, zN, xO, zY, yQ, yV, xF, wS, xE, yO, yI, xC, wW, yT, yN, xV, wV, xY, zG, xK, xP, xT, xM, xG, xA, wU, xI, yB, eV0, eVs, xN, xQ, xW, xS, yH, xX, xZ, wZ, xB, zF, yY, xU, yW, wR, zB, yR, yC, yA, xH, wY, xD, zJ, wT, yD, zH, zD, zE, yK, zL, zP, zK, xR, xL, zI, xJ, yG, zC, yZ, yM, yP, yS, yJ, yX, yU, yL, wJ, wP, wH, wI, wL, wN, wO, wK, wM, Res.bind_ok, Res.bind_no, Res.bind_ex, Res.lft_some, Res.lft_none, Option.map_some, Option.bind_some, List.set_cons_zero, List.set_cons_succ, List.length_cons, List.length_nil, if_true, if_false, Bool.false_eq_true, ite_true, ite_false, Bool.not_true, Bool.not_false]
def gnB : Ev → Res Out := (sQ (sF (iR rng2 (aC (eC (.int 1)) (aC (eB lenD (aC (eV 5) aN)) aN))) (gN 6) (sS 3 (e2 addI (eV 3) (eF F_many_with_first_ring (aC (eV 2) (aC (eB lenD (aC (eV 4) aN)) (aC (eV 6) aN))))))) (sQ (sS 3 (e2 addI (eV 3) (e2 mulI (eF F_ring_place (aC (eV 4) (aC (eV 5) aN))) (e2 ixD (eV 2) (e2 subI (eB lenD (aC (eV 4) aN)) (eB lenD (aC (eV 5) aN))))))) (sS 4 (eComp (iS (eV 4)) (b2 (inD true) (eV 0) (eV 1)) (eV 0) [5]))))
theorem gnB_ok {n k c a : Nat} {t xs : List Nat} {u0 u1 u6 : Option D} (hn : n ≤ 60) (ht : t.length < n) (nd : (a :: t).Nodup) (nx : xs.Nodup) (hs : ∀ x ∈ xs, x ∈ t) : ∃ v6,
    gnB [u0, u1, some (lI (M12.mbl 1 (k : Int) n)), some (.int (c : Int)), some (lI (rI' (a :: t))), some (tI (rI' (a :: xs))), u6] = .ok (.nx [u0, u1, some (lI (M12.mbl 1 (k : Int) n)), some (.int ((c + (smN (gn k) (t.length + 1) xs.length + pr' t xs * gn k (t.length - xs.length)) : Nat) : Int)), some (lI (rI' (wo (a :: t) (a :: xs)))), some (tI (rI' (a :: xs))), v6]) := by
  have tl := (List.nodup_cons.mp nd).2
  have xl := sub_len xs t nx hs
  have t60 := Nat.lt_of_lt_of_le ht hn
  have tn := Nat.le_trans (Nat.sub_le t.length xs.length) (Nat.le_of_lt ht)
  have len0 : ((rI' (a :: t)).map PyData.int).length = t.length + 1 := by rw [List.length_map, rI_len]; rfl
  have len1 : ((rI' (a :: xs)).map PyData.int).length = xs.length + 1 := by rw [List.length_map, rI_len]; rfl
  have rg := rng2_nat (a := 1) (b := xs.length + 1) (by decide) (Nat.le_trans (Nat.succ_le_of_lt (Nat.lt_of_le_of_lt xl t60)) (by decide))
  rw [show ((1 : Nat) : Int) = 1 from rfl, Nat.add_sub_cancel] at rg
  obtain ⟨ρ', e, v6, rfl⟩ := forM_ok (g := gN 6) (b := sS 3 (e2 addI (eV 3) (eF F_many_with_first_ring (aC (eV 2) (aC (eB lenD (aC (eV 4) aN)) (aC (eV 6) aN))))))
    (fun i ρ => ∃ v6, ρ = [u0, u1, some (lI (M12.mbl 1 (k : Int) n)), some (.int ((c + smN (gn k) (t.length + 1) i : Nat) : Int)), some (lI (rI' (a :: t))), some (tI (rI' (a :: xs))), v6])
    ((List.range xs.length).map fun (i : Nat) => PyData.int ((1 + i : Nat) : Int)) [u0, u1, some (lI (M12.mbl 1 (k : Int) n)), some (.int (c : Int)), some (lI (rI' (a :: t))), some (tI (rI' (a :: xs))), u6] ⟨u6, rfl⟩ (by
      rintro i d ρ hd ⟨v6, rfl⟩
      obtain ⟨hi, rfl⟩ := rngN_get hd
      have mw := eq_many_with_first_ring (n := n) (k := k) (m := t.length) (j := i) hn ht (Nat.le_trans (Nat.le_of_lt hi) xl)
      refine ⟨_, _, rfl, ?_, some (.int ((i + 1 : Nat) : Int)), rfl⟩
      rw [Nat.add_comm 1 i]
      simp -implicitDefEqProofs only [zA, zO, zN, xO, zY, yQ, yV, xF, wS, xE, yO, yI, xC, wW, yT, yN, xV, wV, xY, zG, xK, xP, xT, xM, xG, xA, wU, xI, yB, eV0, eVs, xN, xQ, xW, xS, yH, xX, xZ, wZ, xB, zF, yY, xU, yW, wR, zB, yR, yC, yA, xH, wY, xD, zJ, wT, yD, zH, zD, zE, yK, zL, zP, zK, xR, xL, zI, xJ, yG, zC, yZ, yM, yP, yS, yJ, yX, yU, yL, wJ, wP, wH, wI, wL, wN, wO, wK, wM, Res.bind_ok, Res.bind_no, Res.bind_ex, Res.lft_some, Res.lft_none, Option.map_some, Option.bind_some, List.set_cons_zero, List.set_cons_succ, List.length_cons, List.length_nil, if_true, if_false, Bool.false_eq_true, ite_true, ite_false, Bool.not_true, Bool.not_false, len0, mw]
      rw [smN, Nat.add_sub_cancel, Nat.add_sub_add_right, ← Nat.add_assoc, Int.natCast_add (c + _)])
  rw [List.length_map, List.length_range] at e
  refine ⟨v6, ?_⟩
  have lm := M12.mbl_length 1 (k : Int) n
  have at1 := atI_lI (xs := M12.mbl 1 (k : Int) n) (i := ((t.length + 1 : Nat) : Int) - ((xs.length + 1 : Nat) : Int)) (j := t.length - xs.length) (castS xl) (by rw [lm]; exact Nat.lt_succ_of_le tn)
  rw [M12.mbl_at 1 (k : Int) n (t.length - xs.length) tn, gn_int] at at1
  have rp := eq_ring_place (a := a) (t := t) (xs := xs) t60 tl nx hs
  have pl := pr_lt xs t tl nx hs
  have sp : Small ((pr' t xs : Nat) : Int) := ⟨361, by decide, by
    rw [Int.natAbs_natCast]
    exact Nat.lt_of_lt_of_le pl (Nat.le_trans (nf_big xs.length t.length (Nat.le_of_lt t60)) (Nat.pow_le_pow_right (by decide) (by bv_omega)))⟩
  have m1 := mulO_ok (i := ((pr' t xs : Nat) : Int)) (j := ((gn k (t.length - xs.length) : Nat) : Int)) (.inr ⟨sp, by rw [← gn_int]; exact small_G (Nat.le_trans tn hn)⟩)
  have cc : ∀ (x3 x6 : Option D), eComp (iS (eV 4)) (b2 (inD true) (eV 0) (eV 1)) (eV 0) [5] [u0, u1, some (lI (M12.mbl 1 (k : Int) n)), x3, some (lI (rI' (a :: t))), some (tI (rI' (a :: xs))), x6] = .ok (lI (rI' (wo (a :: t) (a :: xs)))) := fun x3 x6 => by
    rw [eComp_eq (fun b : Nat => PyData.int (b : Int)) (fun b => !(a :: xs).contains b) (fun b : Nat => PyData.int (b : Int)) (a :: t) (by
      simp -implicitDefEqProofs only [zA, zO, zN, xO, zY, yQ, yV, xF, wS, xE, yO, yI, xC, wW, yT, yN, xV, wV, xY, zG, xK, xP, xT, xM, xG, xA, wU, xI, yB, eV0, eVs, xN, xQ, xW, xS, yH, xX, xZ, wZ, xB, zF, yY, xU, yW, wR, zB, yR, yC, yA, xH, wY, xD, zJ, wT, yD, zH, zD, zE, yK, zL, zP, zK, xR, xL, zI, xJ, yG, zC, yZ, yM, yP, yS, yJ, yX, yU, yL, wJ, wP, wH, wI, wL, wN, wO, wK, wM, Res.bind_ok, Res.bind_no, Res.bind_ex, Res.lft_some, Res.lft_none, Option.map_some, Option.bind_some, List.set_cons_zero, List.set_cons_succ, List.length_cons, List.length_nil, if_true, if_false, Bool.false_eq_true, ite_true, ite_false, Bool.not_true, Bool.not_false]
      unfold rI'
      rw [List.map_map]
      rfl) (Nat.le_trans (Nat.succ_le_of_lt t60) (by decide)) (fun b hb => by
      show b2 (inD true) (eV 0) (eV 1) [some (.int (b : Int)), some (tI (rI' (a :: xs)))] = _
      simp -implicitDefEqProofs only [zA, zO, zN, xO, zY, yQ, yV, xF, wS, xE, yO, yI, xC, wW, yT, yN, xV, wV, xY, zG, xK, xP, xT, xM, xG, xA, wU, xI, yB, eV0, eVs, xN, xQ, xW, xS, yH, xX, xZ, wZ, xB, zF, yY, xU, yW, wR, zB, yR, yC, yA, xH, wY, xD, zJ, wT, yD, zH, zD, zE, yK, zL, zP, zK, xR, xL, zI, xJ, yG, zC, yZ, yM, yP, yS, yJ, yX, yU, yL, wJ, wP, wH, wI, wL, wN, wO, wK, wM, Res.bind_ok, Res.bind_no, Res.bind_ex, Res.lft_some, Res.lft_none, Option.map_some, Option.bind_some, List.set_cons_zero, List.set_cons_succ, List.length_cons, List.length_nil, if_true, if_false, Bool.false_eq_true, ite_true, ite_false, Bool.not_true, Bool.not_false, inD_t, rI_has]) (fun b hb _ => rfl)]
    unfold wo rI' lI
    rw [List.map_map]
    rfl
  unfold gnB
  simp -implicitDefEqProofs only [zA, zO, zN, xO, zY, yQ, yV, xF, wS, xE, yO, yI, xC, wW, yT, yN, xV, wV, xY, zG, xK, xP, xT, xM, xG, xA, wU, xI, yB, eV0, eVs, xN, xQ, xW, xS, yH, xX, xZ, wZ, xB, zF, yY, xU, yW, wR, zB, yR, yC, yA, xH, wY, xD, zJ, wT, yD, zH, zD, zE, yK, zL, zP, zK, xR, xL, zI, xJ, yG, zC, yZ, yM, yP, yS, yJ, yX, yU, yL, wJ, wP, wH, wI, wL, wN, wO, wK, wM, Res.bind_ok, Res.bind_no, Res.bind_ex, Res.lft_some, Res.lft_none, Option.map_some, Option.bind_some, List.set_cons_zero, List.set_cons_succ, List.length_cons, List.length_nil, if_true, if_false, Bool.false_eq_true, ite_true, ite_false, Bool.not_true, Bool.not_false, len0, len1, rg]
  rw [e]
  simp -implicitDefEqProofs only [zA, zO, zN, xO, zY, yQ, yV, xF, wS, xE, yO, yI, xC, wW, yT, yN, xV, wV, xY, zG, xK, xP, xT, xM, xG, xA, wU, xI, yB, eV0, eVs, xN, xQ, xW, xS, yH, xX, xZ, wZ, xB, zF, yY, xU, yW, wR, zB, yR, yC, yA, xH, wY, xD, zJ, wT, yD, zH, zD, zE, yK, zL, zP, zK, xR, xL, zI, xJ, yG, zC, yZ, yM, yP, yS, yJ, yX, yU, yL, wJ, wP, wH, wI, wL, wN, wO, wK, wM, Res.bind_ok, Res.bind_no, Res.bind_ex, Res.lft_some, Res.lft_none, Option.map_some, Option.bind_some, List.set_cons_zero, List.set_cons_succ, List.length_cons, List.length_nil, if_true, if_false, Bool.false_eq_true, ite_true, ite_false, Bool.not_true, Bool.not_false, rp, len0, len1, at1, m1, cc]
  rw [← Nat.add_assoc, Int.natCast_add (c + _), Int.natCast_mul]
theorem gn_loop {n k : Nat} {u0 : Option D} (hn : n ≤ 60) {l : List Nat} {N : Nat} {rs : List (List Nat)} (T : Told k l N rs) : ∀ (c : Nat) (u5 u6 : Option D), l.Nodup → l.length ≤ n →
    ∃ v5 v6, L3.forM (gN 5) (sQ (sIf (b2 gtI (eB lenD (aC (eV 5) aN)) (eV 1)) RX sN) gnB) (rs.map fun r => tI (rI' r)) [u0, some (.int (k : Int)), some (lI (M12.mbl 1 (k : Int) n)), some (.int (c : Int)), some (lI (rI' l)), u5, u6] = .ok (.nx [u0, some (.int (k : Int)), some (lI (M12.mbl 1 (k : Int) n)), some (.int ((c + N : Nat) : Int)), some (lI []), v5, v6]) := by
  induction T with
  | nil => exact fun c u5 u6 _ _ => ⟨u5, u6, rfl⟩
  | @cons a t xs M rs h1 h2 h3 T ih =>
    intro c u5 u6 nd hl
    rw [List.length_cons] at hl
    obtain ⟨w6, eb⟩ := gnB_ok (k := k) (c := c) (u0 := u0) (u1 := some (.int (k : Int))) (u6 := u6) hn (show t.length < n by bv_omega) nd h2 h3
    obtain ⟨v5, v6, e⟩ := ih (c + (smN (gn k) (t.length + 1) xs.length + pr' t xs * gn k (t.length - xs.length))) (some (tI (rI' (a :: xs)))) w6 (nd.sublist (wo_sub _ _)) (by
      have := (wo_sub (a :: t) (a :: xs)).length_le
      rw [List.length_cons] at this
      bv_omega)
    have len1 : ((rI' (a :: xs)).map PyData.int).length = xs.length + 1 := by rw [List.length_map, rI_len]; rfl
    refine ⟨v5, v6, ?_⟩
    rw [List.map_cons, L3.forM]
    have g1 : gN 5 (tI (rI' (a :: xs))) [u0, some (.int (k : Int)), some (lI (M12.mbl 1 (k : Int) n)), some (.int (c : Int)), some (lI (rI' (a :: t))), u5, u6] = some [u0, some (.int (k : Int)), some (lI (M12.mbl 1 (k : Int) n)), some (.int (c : Int)), some (lI (rI' (a :: t))), some (tI (rI' (a :: xs))), u6] := rfl
    have b1 : sQ (sIf (b2 gtI (eB lenD (aC (eV 5) aN)) (eV 1)) RX sN) gnB [u0, some (.int (k : Int)), some (lI (M12.mbl 1 (k : Int) n)), some (.int (c : Int)), some (lI (rI' (a :: t))), some (tI (rI' (a :: xs))), u6] = gnB [u0, some (.int (k : Int)), some (lI (M12.mbl 1 (k : Int) n)), some (.int (c : Int)), some (lI (rI' (a :: t))), some (tI (rI' (a :: xs))), u6] := by
      simp -implicitDefEqProofs only [zA, zO, zN, xO, zY, yQ, yV, xF, wS, xE, yO, yI, xC, wW, yT, yN, xV, wV, xY, zG, xK, xP, xT, xM, xG, xA, wU, xI, yB, eV0, eVs, xN, xQ, xW, xS, yH, xX, xZ, wZ, xB, zF, yY, xU, yW, wR, zB, yR, yC, yA, xH, wY, xD, zJ, wT, yD, zH, zD, zE, yK, zL, zP, zK, xR, xL, zI, xJ, yG, zC, yZ, yM, yP, yS, yJ, yX, yU, yL, wJ, wP, wH, wI, wL, wN, wO, wK, wM, Res.bind_ok, Res.bind_no, Res.bind_ex, Res.lft_some, Res.lft_none, Option.map_some, Option.bind_some, List.set_cons_zero, List.set_cons_succ, List.length_cons, List.length_nil, if_true, if_false, Bool.false_eq_true, ite_true, ite_false, Bool.not_true, Bool.not_false, len1, decide_eq_false (show ¬ (k : Int) < ((xs.length + 1 : Nat) : Int) by bv_omega)]
    rw [g1, Res.lft_some, Res.bind_ok, b1, eb, Res.bind_ok]
    simp only
    rw [e, Nat.add_assoc c]
theorem eq_good_number {n k N : Nat} {xs : List Int} (o : Ord n xs) (h2 : n ≤ 60) (T : Told k (List.range n) N (rgs n xs n)) : F_good_number [tI xs, .int (k : Int)] = .ok (.int (N : Int)) := by
  show (B_good_number [some (tI xs), some (.int (k : Int)), none, none, none, none, none]).bind (fin false) = _
  have hl : (xs.map PyData.int).length = n := by rw [List.length_map, o.len]
  have rl : rangeL [.int (n : Int)] = some (lI (rI' (List.range n))) := rangeL_nat (by bv_omega)
  obtain ⟨v5, v6, e⟩ := gn_loop (n := n) (u0 := some (tI xs)) h2 T 0 none none List.nodup_range (by simp)
  rw [Nat.zero_add] at e
  have er := eq_rings_of o (show n ≤ 1000 by bv_omega)
  unfold B_good_number
  simp -implicitDefEqProofs only [zA, zO, zN, xO, zY, yQ, yV, xF, wS, xE, yO, yI, xC, wW, yT, yN, xV, wV, xY, zG, xK, xP, xT, xM, xG, xA, wU, xI, yB, eV0, eVs, xN, xQ, xW, xS, yH, xX, xZ, wZ, xB, zF, yY, xU, yW, wR, zB, yR, yC, yA, xH, wY, xD, zJ, wT, yD, zH, zD, zE, yK, zL, zP, zK, xR, xL, zI, xJ, yG, zC, yZ, yM, yP, yS, yJ, yX, yU, yL, wJ, wP, wH, wI, wL, wN, wO, wK, wM, Res.bind_ok, Res.bind_no, Res.bind_ex, Res.lft_some, Res.lft_none, Option.map_some, Option.bind_some, List.set_cons_zero, List.set_cons_succ, List.length_cons, List.length_nil, if_true, if_false, Bool.false_eq_true, ite_true, ite_false, Bool.not_true, Bool.not_false, hl, eq_check_people_and_k h2 (show 0 ≤ (k : Int) by bv_omega), eq_many_by_lengths 1 h2 (show 0 ≤ (k : Int) by bv_omega), rl, er]
  rw [List.map_map]
  unfold gnB RX at e
  have e' : L3.forM _ _ (List.map (tI ∘ rI') (rgs n xs n)) [some (tI xs), some (.int (k : Int)), some (lI (M12.mbl 1 (k : Int) n)), some (.int 0), some (lI (rI' (List.range n))), none, none] = _ := e
  rw [e']
  simp -implicitDefEqProofs only [zA, zO, zN, xO, zY, yQ, yV, xF, wS, xE, yO, yI, xC, wW, yT, yN, xV, wV, xY, zG, xK, xP, xT, xM, xG, xA, wU, xI, yB, eV0, eVs, xN, xQ, xW, xS, yH, xX, xZ, wZ, xB, zF, yY, xU, yW, wR, zB, yR, yC, yA, xH, wY, xD, zJ, wT, yD, zH, zD, zE, yK, zL, zP, zK, xR, xL, zI, xJ, yG, zC, yZ, yM, yP, yS, yJ, yX, yU, yL, wJ, wP, wH, wI, wL, wN, wO, wK, wM, Res.bind_ok, Res.bind_no, Res.bind_ex, Res.lft_some, Res.lft_none, Option.map_some, Option.bind_some, List.set_cons_zero, List.set_cons_succ, List.length_cons, List.length_nil, if_true, if_false, Bool.false_eq_true, ite_true, ite_false, Bool.not_true, Bool.not_false]
theorem ex_good_at_k {n : Nat} {k N : Int} (h1 : 1 ≤ n) (h2 : n ≤ 60) (hk : k < 0) : F_good_at [.int (n : Int), .int k, .int N] = .ex "BadOpenings" := by
  show (B_good_at [some (.int (n : Int)), some (.int k), some (.int N), none, none, none, none, none, none, none]).bind (fin false) = _
  unfold B_good_at
  simp -implicitDefEqProofs only [zA, zO, zN, xO, zY, yQ, yV, xF, wS, xE, yO, yI, xC, wW, yT, yN, xV, wV, xY, zG, xK, xP, xT, xM, xG, xA, wU, xI, yB, eV0, eVs, xN, xQ, xW, xS, yH, xX, xZ, wZ, xB, zF, yY, xU, yW, wR, zB, yR, yC, yA, xH, wY, xD, zJ, wT, yD, zH, zD, zE, yK, zL, zP, zK, xR, xL, zI, xJ, yG, zC, yZ, yM, yP, yS, yJ, yX, yU, yL, wJ, wP, wH, wI, wL, wN, wO, wK, wM, Res.bind_ok, Res.bind_no, Res.bind_ex, Res.lft_some, Res.lft_none, Option.map_some, Option.bind_some, List.set_cons_zero, List.set_cons_succ, List.length_cons, List.length_nil, if_true, if_false, Bool.false_eq_true, ite_true, ite_false, Bool.not_true, Bool.not_false, eqD_int, decide_eq_false (show ¬ (n : Int) = 0 by bv_omega), ex_check_pk2 h2 hk]
theorem ex_good_at_no {n k : Nat} {N : Int} (h1 : 1 ≤ n) (h2 : n ≤ 60) (hN : ¬ (0 ≤ N ∧ N < ((gn k n : Nat) : Int))) : F_good_at [.int (n : Int), .int (k : Int), .int N] = .ex "NoNumber" := by
  show (B_good_at [some (.int (n : Int)), some (.int (k : Int)), some (.int N), none, none, none, none, none, none, none]).bind (fin false) = _
  unfold B_good_at
  have lm := M12.mbl_length 1 (k : Int) n
  have at1 := atI_lI (xs := M12.mbl 1 (k : Int) n) (i := (n : Int)) (j := n) rfl (by bv_omega)
  rw [M12.mbl_at 1 (k : Int) n n (Nat.le_refl _), gn_int] at at1
  have z1 : (if ([PyData.str "no good order has this number"] : List D).length ≤ sizeLine then (Res.ex "NoNumber" : Res Out) else .no) = .ex "NoNumber" := if_pos (by decide)
  have pre := decide_eq_false (show ¬ (n : Int) = 0 by bv_omega)
  have c1 := eq_check_people_and_k h2 (show 0 ≤ (k : Int) by bv_omega)
  have c2 := eq_many_by_lengths 1 h2 (show 0 ≤ (k : Int) by bv_omega)
  by_cases p1 : 0 ≤ N
  · have p2 : ¬ N < ((gn k n : Nat) : Int) := fun z => hN ⟨p1, z⟩
    simp -implicitDefEqProofs only [xV, xY, xT, xP, xS, zG, zF, xZ, xX, xQ, xR, yB, yA, yC, eV0, eVs, yD, vH, Res.bind_ok, Res.bind_ex, Res.lft_some, List.set_cons_zero, List.set_cons_succ, eqD_int, pre, c1, c2, at1, decide_eq_true p1, decide_eq_false p2, if_true, if_false, Bool.not_true, Bool.not_false, Bool.false_eq_true, z1]
  · simp -implicitDefEqProofs only [xV, xY, xT, xP, xS, zG, zF, xZ, xX, xQ, xR, yB, yA, yC, eV0, eVs, yD, vH, Res.bind_ok, Res.bind_ex, Res.lft_some, List.set_cons_zero, List.set_cons_succ, eqD_int, pre, c1, c2, at1, decide_eq_false p1, if_true, if_false, Bool.not_true, Bool.not_false, Bool.false_eq_true, z1]
theorem ex_good_number_k {n : Nat} {k : Int} {xs : List Int} (o : Ord n xs) (h2 : n ≤ 60) (hk : k < 0) : F_good_number [tI xs, .int k] = .ex "BadOpenings" := by
  show (B_good_number [some (tI xs), some (.int k), none, none, none, none, none]).bind (fin false) = _
  unfold B_good_number
  have hl : (xs.map PyData.int).length = n := by rw [List.length_map, o.len]
  simp -implicitDefEqProofs only [zA, zO, zN, xO, zY, yQ, yV, xF, wS, xE, yO, yI, xC, wW, yT, yN, xV, wV, xY, zG, xK, xP, xT, xM, xG, xA, wU, xI, yB, eV0, eVs, xN, xQ, xW, xS, yH, xX, xZ, wZ, xB, zF, yY, xU, yW, wR, zB, yR, yC, yA, xH, wY, xD, zJ, wT, yD, zH, zD, zE, yK, zL, zP, zK, xR, xL, zI, xJ, yG, zC, yZ, yM, yP, yS, yJ, yX, yU, yL, wJ, wP, wH, wI, wL, wN, wO, wK, wM, Res.bind_ok, Res.bind_no, Res.bind_ex, Res.lft_some, Res.lft_none, Option.map_some, Option.bind_some, List.set_cons_zero, List.set_cons_succ, List.length_cons, List.length_nil, if_true, if_false, Bool.false_eq_true, ite_true, ite_false, Bool.not_true, Bool.not_false, hl, ex_check_pk2 h2 hk]
theorem gn_ex_loop {n k : Nat} {u0 : Option D} (hn : n ≤ 60) {l : List Nat} {rs : List (List Nat)} (C : Chain l rs) : ∀ (c : Nat) (u5 u6 : Option D), l.Nodup → l.length ≤ n → (∃ r ∈ rs, k < r.length) →
    L3.forM (gN 5) (sQ (sIf (b2 gtI (eB lenD (aC (eV 5) aN)) (eV 1)) RX sN) gnB) (rs.map fun r => tI (rI' r)) [u0, some (.int (k : Int)), some (lI (M12.mbl 1 (k : Int) n)), some (.int (c : Int)), some (lI (rI' l)), u5, u6] = .ex "NoNumber" := by
  induction C with
  | nil => exact fun c u5 u6 _ _ ⟨r, hr, _⟩ => nomatch hr
  | @cons a t xs rs h2 h3 T ih =>
    intro c u5 u6 nd hl hb
    rw [List.length_cons] at hl
    have len1 : ((rI' (a :: xs)).map PyData.int).length = xs.length + 1 := by rw [List.length_map, rI_len]; rfl
    rw [List.map_cons, L3.forM]
    have g1 : gN 5 (tI (rI' (a :: xs))) [u0, some (.int (k : Int)), some (lI (M12.mbl 1 (k : Int) n)), some (.int (c : Int)), some (lI (rI' (a :: t))), u5, u6] = some [u0, some (.int (k : Int)), some (lI (M12.mbl 1 (k : Int) n)), some (.int (c : Int)), some (lI (rI' (a :: t))), some (tI (rI' (a :: xs))), u6] := rfl
    rw [g1, Res.lft_some, Res.bind_ok]
    by_cases q : k < xs.length + 1
    · have z1 : (if ([PyData.str "the order is not good"] : List D).length ≤ sizeLine then (Res.ex "NoNumber" : Res Out) else .no) = .ex "NoNumber" := if_pos (by decide)
      have b1 : sQ (sIf (b2 gtI (eB lenD (aC (eV 5) aN)) (eV 1)) RX sN) gnB [u0, some (.int (k : Int)), some (lI (M12.mbl 1 (k : Int) n)), some (.int (c : Int)), some (lI (rI' (a :: t))), some (tI (rI' (a :: xs))), u6] = .ex "NoNumber" := by
        unfold RX
        simp -implicitDefEqProofs only [xY, zG, xX, xW, yB, yA, yC, eV0, eVs, yD, zL, zE, Option.map_some, len1, vH, Res.bind_ok, Res.bind_ex, Res.lft_some, decide_eq_true (show (k : Int) < ((xs.length + 1 : Nat) : Int) by bv_omega), if_true, z1]
      rw [b1, Res.bind_ex]
    · obtain ⟨w6, eb⟩ := gnB_ok (k := k) (c := c) (u0 := u0) (u1 := some (.int (k : Int))) (u6 := u6) hn (show t.length < n by bv_omega) nd h2 h3
      have e := ih (c + (smN (gn k) (t.length + 1) xs.length + pr' t xs * gn k (t.length - xs.length))) (some (tI (rI' (a :: xs)))) w6 (nd.sublist (wo_sub _ _)) (by
        have := (wo_sub (a :: t) (a :: xs)).length_le
        rw [List.length_cons] at this
        bv_omega) (by
        obtain ⟨r, hr, hk⟩ := hb
        rcases List.mem_cons.mp hr with rfl | hr
        · exact absurd hk (by rw [List.length_cons]; bv_omega)
        · exact ⟨r, hr, hk⟩)
      have b1 : sQ (sIf (b2 gtI (eB lenD (aC (eV 5) aN)) (eV 1)) RX sN) gnB [u0, some (.int (k : Int)), some (lI (M12.mbl 1 (k : Int) n)), some (.int (c : Int)), some (lI (rI' (a :: t))), some (tI (rI' (a :: xs))), u6] = gnB [u0, some (.int (k : Int)), some (lI (M12.mbl 1 (k : Int) n)), some (.int (c : Int)), some (lI (rI' (a :: t))), some (tI (rI' (a :: xs))), u6] := by
        simp -implicitDefEqProofs only [zA, zO, zN, xO, zY, yQ, yV, xF, wS, xE, yO, yI, xC, wW, yT, yN, xV, wV, xY, zG, xK, xP, xT, xM, xG, xA, wU, xI, yB, eV0, eVs, xN, xQ, xW, xS, yH, xX, xZ, wZ, xB, zF, yY, xU, yW, wR, zB, yR, yC, yA, xH, wY, xD, zJ, wT, yD, zH, zD, zE, yK, zL, zP, zK, xR, xL, zI, xJ, yG, zC, yZ, yM, yP, yS, yJ, yX, yU, yL, wJ, wP, wH, wI, wL, wN, wO, wK, wM, Res.bind_ok, Res.bind_no, Res.bind_ex, Res.lft_some, Res.lft_none, Option.map_some, Option.bind_some, List.set_cons_zero, List.set_cons_succ, List.length_cons, List.length_nil, if_true, if_false, Bool.false_eq_true, ite_true, ite_false, Bool.not_true, Bool.not_false, len1, decide_eq_false (show ¬ (k : Int) < ((xs.length + 1 : Nat) : Int) by bv_omega)]
      rw [b1, eb, Res.bind_ok]
      simp only
      rw [e]
theorem ex_good_number_no {n k : Nat} {xs : List Int} (o : Ord n xs) (h2 : n ≤ 60) (hb : ∃ r ∈ rgs n xs n, k < r.length) : F_good_number [tI xs, .int (k : Int)] = .ex "NoNumber" := by
  show (B_good_number [some (tI xs), some (.int (k : Int)), none, none, none, none, none]).bind (fin false) = _
  have hl : (xs.map PyData.int).length = n := by rw [List.length_map, o.len]
  have rl : rangeL [.int (n : Int)] = some (lI (rI' (List.range n))) := rangeL_nat (by bv_omega)
  have e := gn_ex_loop (n := n) (u0 := some (tI xs)) h2 (ord_chain o) 0 none none List.nodup_range (by simp) hb
  have er := eq_rings_of o (show n ≤ 1000 by bv_omega)
  unfold B_good_number
  simp -implicitDefEqProofs only [zA, zO, zN, xO, zY, yQ, yV, xF, wS, xE, yO, yI, xC, wW, yT, yN, xV, wV, xY, zG, xK, xP, xT, xM, xG, xA, wU, xI, yB, eV0, eVs, xN, xQ, xW, xS, yH, xX, xZ, wZ, xB, zF, yY, xU, yW, wR, zB, yR, yC, yA, xH, wY, xD, zJ, wT, yD, zH, zD, zE, yK, zL, zP, zK, xR, xL, zI, xJ, yG, zC, yZ, yM, yP, yS, yJ, yX, yU, yL, wJ, wP, wH, wI, wL, wN, wO, wK, wM, Res.bind_ok, Res.bind_no, Res.bind_ex, Res.lft_some, Res.lft_none, Option.map_some, Option.bind_some, List.set_cons_zero, List.set_cons_succ, List.length_cons, List.length_nil, if_true, if_false, Bool.false_eq_true, ite_true, ite_false, Bool.not_true, Bool.not_false, hl, eq_check_people_and_k h2 (show 0 ≤ (k : Int) by bv_omega), eq_many_by_lengths 1 h2 (show 0 ≤ (k : Int) by bv_omega), rl, er]
  rw [List.map_map]
  unfold gnB RX at e
  have e' : L3.forM _ _ (List.map (tI ∘ rI') (rgs n xs n)) [some (tI xs), some (.int (k : Int)), some (lI (M12.mbl 1 (k : Int) n)), some (.int 0), some (lI (rI' (List.range n))), none, none] = _ := e
  rw [e', Res.bind_ex, Res.bind_ex]
theorem eq_l_order (c : Int) (n : Nat) (hn : n ≤ 1000) : F_l_order [.int c, .int n] = .ok (tI (lawOrd c n).1) := by
  show (B_l_order [some (.int c), some (.int n), none, none]).bind (fin false) = _
  unfold B_l_order
  simp -implicitDefEqProofs only [zA, zO, zN, xO, zY, yQ, yV, xF, wS, xE, yO, yI, xC, wW, yT, yN, xV, wV, xY, zG, xK, xP, xT, xM, xG, xA, wU, xI, yB, eV0, eVs, xN, xQ, xW, xS, yH, xX, xZ, wZ, xB, zF, yY, xU, yW, wR, zB, yR, yC, yA, xH, wY, xD, zJ, wT, yD, zH, zD, zE, yK, zL, zP, zK, xR, xL, zI, xJ, yG, zC, yZ, yM, yP, yS, yJ, yX, yU, yL, wJ, wP, wH, wI, wL, wN, wO, wK, wM, Res.bind_ok, Res.bind_no, Res.bind_ex, Res.lft_some, Res.lft_none, Option.map_some, Option.bind_some, List.set_cons_zero, List.set_cons_succ, List.length_cons, List.length_nil, if_true, if_false, Bool.false_eq_true, ite_true, ite_false, Bool.not_true, Bool.not_false, rng_nat hn]
  obtain ⟨ρ', e, x, rfl⟩ := forM_ok (g := gN 3) (b := sQ (sM 2 insD (aC (e2 modI (eV 0) (e2 addI (eV 3) (eC (.int 1)))) (aC (eV 3) aN))) (sS 0 (e2 fdivI (eV 0) (e2 addI (eV 3) (eC (.int 1))))))
    (fun i ρ => ∃ x, ρ = [some (.int (lawOrd c i).2), some (.int n), some (lI (lawOrd c i).1), x]) ((List.range n).map fun (i : Nat) => PyData.int (i : Int)) [some (.int c), some (.int n), some (.list []), none] ⟨none, rfl⟩ (by
      rintro i d ρ hd ⟨x, rfl⟩
      obtain ⟨hi, rfl⟩ := rng_get hd
      refine ⟨_, _, rfl, ?_, some (.int i), rfl⟩
      have hl : (lawOrd c i).1.length = i := (lawOrd_ord c i).len
      have h1 : (0 : Int) < (i : Int) + 1 := by bv_omega
      have h2 := Int.emod_nonneg (lawOrd c i).2 (show ((i : Int) + 1) ≠ 0 by bv_omega)
      have h3 := Int.emod_lt_of_pos (lawOrd c i).2 h1
      simp -implicitDefEqProofs only [zA, zO, zN, xO, zY, yQ, yV, xF, wS, xE, yO, yI, xC, wW, yT, yN, xV, wV, xY, zG, xK, xP, xT, xM, xG, xA, wU, xI, yB, eV0, eVs, xN, xQ, xW, xS, yH, xX, xZ, wZ, xB, zF, yY, xU, yW, wR, zB, yR, yC, yA, xH, wY, xD, zJ, wT, yD, zH, zD, zE, yK, zL, zP, zK, xR, xL, zI, xJ, yG, zC, yZ, yM, yP, yS, yJ, yX, yU, yL, wJ, wP, wH, wI, wL, wN, wO, wK, wM, Res.bind_ok, Res.bind_no, Res.bind_ex, Res.lft_some, Res.lft_none, Option.map_some, Option.bind_some, List.set_cons_zero, List.set_cons_succ, List.length_cons, List.length_nil, if_true, if_false, Bool.false_eq_true, ite_true, ite_false, Bool.not_true, Bool.not_false, modO, fdivO, if_pos h1, if_pos (DivOk.small h1 (by bv_omega)), ins_le (l := (lawOrd c i).1.map PyData.int) (d := .int i) h2 (by rw [List.length_map, hl]; bv_omega) (by rw [List.length_map, hl]; bv_omega)]
      simp only [lawOrd, insAt, lI, List.map_append, List.map_cons, List.map_take, List.map_drop])
  rw [List.length_map, List.length_range] at e
  rw [e]
  rfl
theorem mkT4 (a b c d : D) : mkT [a, b, c, d] = some (.tuple [a, b, c, d]) := if_pos (show 4 ≤ sizeLine by decide)
theorem p40 : ∃ P : Int, 0 < P ∧ powO 10 40 = some P := ⟨10 ^ 40, by decide, by unfold powO; rw [if_pos (by decide)]; rfl⟩
theorem mkL5 (a b c d e : D) : mkL [a, b, c, d, e] = some (.list [a, b, c, d, e]) := if_pos (show 5 ≤ sizeLine by decide)
theorem a40 (x y z w : D) : atI [x, y, z, w] 0 = some x := rfl
theorem a41 (x y z w : D) : atI [x, y, z, w] 1 = some y := rfl
theorem a42 (x y z w : D) : atI [x, y, z, w] 2 = some z := rfl
theorem a43 (x y z w : D) : atI [x, y, z, w] 3 = some w := rfl
def wayC (w : Nat) (o d m0 m1 m2 m3 : D) : Res D := if w = 0 then F_opened_as [o, d, m0, m1] else if w = 1 then F_finders_as [o, d, m0] else if w = 2 then F_dealing_number [o, m2, d] else F_dealing_at [o, m2, m3]
theorem called_way {w : Nat} (hw : w < 4) {o d m0 m1 m2 m3 : D} : F_l_called [.int (w : Int), o, d, .tuple [m0, m1, m2, m3]] = wayC w o d m0 m1 m2 m3 := by
  show (B_l_called [some (.int (w : Int)), some o, some d, some (.tuple [m0, m1, m2, m3])]).bind (fin false) = _
  unfold B_l_called
  rcases (show w = 0 ∨ w = 1 ∨ w = 2 ∨ w = 3 by bv_omega) with rfl | rfl | rfl | rfl
  · generalize h : wayC 0 o d m0 m1 m2 m3 = r
    have h : F_opened_as [o, d, m0, m1] = r := h
    simp -implicitDefEqProofs only [zA, zO, zN, xO, zY, yQ, yV, xF, wS, xE, yO, yI, xC, wW, yT, yN, xV, wV, xY, zG, xK, xP, xT, xM, xG, xA, wU, xI, yB, eV0, eVs, xN, xQ, xW, xS, yH, xX, xZ, wZ, xB, zF, yY, xU, yW, wR, zB, yR, yC, yA, xH, wY, xD, zJ, wT, yD, zH, zD, zE, yK, zL, zP, zK, xR, xL, zI, xJ, yG, zC, yZ, yM, yP, yS, yJ, yX, yU, yL, wJ, wP, wH, wI, wL, wN, wO, wK, wM, Res.bind_ok, Res.bind_no, Res.bind_ex, Res.lft_some, Res.lft_none, Option.map_some, Option.bind_some, List.set_cons_zero, List.set_cons_succ, List.length_cons, List.length_nil, if_true, if_false, Bool.false_eq_true, ite_true, ite_false, Bool.not_true, Bool.not_false, eqD_int, show ((0 : Nat) : Int) = 0 from rfl, decide_true, a40, a41, h]
    cases r <;> rfl
  · generalize h : wayC 1 o d m0 m1 m2 m3 = r
    have h : F_finders_as [o, d, m0] = r := h
    simp -implicitDefEqProofs only [zA, zO, zN, xO, zY, yQ, yV, xF, wS, xE, yO, yI, xC, wW, yT, yN, xV, wV, xY, zG, xK, xP, xT, xM, xG, xA, wU, xI, yB, eV0, eVs, xN, xQ, xW, xS, yH, xX, xZ, wZ, xB, zF, yY, xU, yW, wR, zB, yR, yC, yA, xH, wY, xD, zJ, wT, yD, zH, zD, zE, yK, zL, zP, zK, xR, xL, zI, xJ, yG, zC, yZ, yM, yP, yS, yJ, yX, yU, yL, wJ, wP, wH, wI, wL, wN, wO, wK, wM, Res.bind_ok, Res.bind_no, Res.bind_ex, Res.lft_some, Res.lft_none, Option.map_some, Option.bind_some, List.set_cons_zero, List.set_cons_succ, List.length_cons, List.length_nil, if_true, if_false, Bool.false_eq_true, ite_true, ite_false, Bool.not_true, Bool.not_false, eqD_int, show ((1 : Nat) : Int) = 1 from rfl, decide_eq_false (show ¬ (1 : Int) = 0 by decide), decide_true, a40, h]
    cases r <;> rfl
  · generalize h : wayC 2 o d m0 m1 m2 m3 = r
    have h : F_dealing_number [o, m2, d] = r := h
    simp -implicitDefEqProofs only [zA, zO, zN, xO, zY, yQ, yV, xF, wS, xE, yO, yI, xC, wW, yT, yN, xV, wV, xY, zG, xK, xP, xT, xM, xG, xA, wU, xI, yB, eV0, eVs, xN, xQ, xW, xS, yH, xX, xZ, wZ, xB, zF, yY, xU, yW, wR, zB, yR, yC, yA, xH, wY, xD, zJ, wT, yD, zH, zD, zE, yK, zL, zP, zK, xR, xL, zI, xJ, yG, zC, yZ, yM, yP, yS, yJ, yX, yU, yL, wJ, wP, wH, wI, wL, wN, wO, wK, wM, Res.bind_ok, Res.bind_no, Res.bind_ex, Res.lft_some, Res.lft_none, Option.map_some, Option.bind_some, List.set_cons_zero, List.set_cons_succ, List.length_cons, List.length_nil, if_true, if_false, Bool.false_eq_true, ite_true, ite_false, Bool.not_true, Bool.not_false, eqD_int, show ((2 : Nat) : Int) = 2 from rfl, decide_eq_false (show ¬ (2 : Int) = 0 by decide), decide_eq_false (show ¬ (2 : Int) = 1 by decide), decide_true, a42, h]
    cases r <;> rfl
  · generalize h : wayC 3 o d m0 m1 m2 m3 = r
    have h : F_dealing_at [o, m2, m3] = r := h
    simp -implicitDefEqProofs only [zA, zO, zN, xO, zY, yQ, yV, xF, wS, xE, yO, yI, xC, wW, yT, yN, xV, wV, xY, zG, xK, xP, xT, xM, xG, xA, wU, xI, yB, eV0, eVs, xN, xQ, xW, xS, yH, xX, xZ, wZ, xB, zF, yY, xU, yW, wR, zB, yR, yC, yA, xH, wY, xD, zJ, wT, yD, zH, zD, zE, yK, zL, zP, zK, xR, xL, zI, xJ, yG, zC, yZ, yM, yP, yS, yJ, yX, yU, yL, wJ, wP, wH, wI, wL, wN, wO, wK, wM, Res.bind_ok, Res.bind_no, Res.bind_ex, Res.lft_some, Res.lft_none, Option.map_some, Option.bind_some, List.set_cons_zero, List.set_cons_succ, List.length_cons, List.length_nil, if_true, if_false, Bool.false_eq_true, ite_true, ite_false, Bool.not_true, Bool.not_false, eqD_int, show ((3 : Nat) : Int) = 3 from rfl, decide_eq_false (show ¬ (3 : Int) = 0 by decide), decide_eq_false (show ¬ (3 : Int) = 1 by decide), decide_eq_false (show ¬ (3 : Int) = 2 by decide), a42, a43, h]
    cases r <;> rfl
def asB : Ev → Res Out := sE (eF F_l_called (aC (eV 0) (aC (eV 1) (aC (eV 2) (aC (eV 3) aN)))))
def asT : Ev → Res Out := (sQ (sIf (tNt (tV (e1 (isiX CLS CLS) (eV 4)))) (sR (eC (.str "none"))) sN) (sQ (sIf (tV (e1 (isiX CLS ["BadBox", "BadGroup", "BadPlan", "BadText", "NoHelp", "TooMany"]) (eV 4))) (sR (eC (.str "another"))) sN) (sQ (sS 6 (eB mkL (aC (e1 (isiX CLS ["BadOrder"]) (eV 4)) (aC (e1 (isiX CLS ["BadOpenings"]) (eV 4)) (aC (e1 (isiX CLS ["NoPerson"]) (eV 4)) aN))))) (sQ (sM 6 appD (aC (e1 (isiX CLS ["NoNumber"]) (eV 4)) aN)) (sQ (sIf (b2 neD (eM1 cnDD (eV 6) (eC (.bool true))) (eC (.int 1))) (sR (eC (.str "another"))) sN) (sR (e2 ixD (eB mkL (aC (eC (.str "order")) (aC (eC (.str "openings")) (aC (eC (.str "person")) (aC (eC (.str "number")) aN))))) (eM1 ixDD (eV 6) (eC (.bool true))))))))))
theorem asked_u : B_l_asked = (sQ (sS 4 (eC .none)) (sQ (sTry 5 CLS asB (sS 4 (eV 5))) asT)) := rfl
theorem asked_ok {a b c d r : D} (h : F_l_called [a, b, c, d] = .ok r) : F_l_asked [a, b, c, d] = .ok (.str "none") := by
  show (B_l_asked [some a, some b, some c, some d, none, none, none]).bind (fin false) = _
  rw [asked_u]
  have t1 : sTry 5 CLS asB (sS 4 (eV 5)) [some a, some b, some c, some d, some .none, none, none] = .ok (.nx [some a, some b, some c, some d, some .none, none, none]) := sTry_ok (by unfold asB; simp -implicitDefEqProofs only [zA, zO, zN, xO, zY, yQ, yV, xF, wS, xE, yO, yI, xC, wW, yT, yN, xV, wV, xY, zG, xK, xP, xT, xM, xG, xA, wU, xI, yB, eV0, eVs, xN, xQ, xW, xS, yH, xX, xZ, wZ, xB, zF, yY, xU, yW, wR, zB, yR, yC, yA, xH, wY, xD, zJ, wT, yD, zH, zD, zE, yK, zL, zP, zK, xR, xL, zI, xJ, yG, zC, yZ, yM, yP, yS, yJ, yX, yU, yL, wJ, wP, wH, wI, wL, wN, wO, wK, wM, Res.bind_ok, Res.bind_no, Res.bind_ex, Res.lft_some, Res.lft_none, Option.map_some, Option.bind_some, List.set_cons_zero, List.set_cons_succ, List.length_cons, List.length_nil, if_true, if_false, Bool.false_eq_true, ite_true, ite_false, Bool.not_true, Bool.not_false, h])
  unfold asT
  simp -implicitDefEqProofs only [zA, zO, zN, xO, zY, yQ, yV, xF, wS, xE, yO, yI, xC, wW, yT, yN, xV, wV, xY, zG, xK, xP, xT, xM, xG, xA, wU, xI, yB, eV0, eVs, xN, xQ, xW, xS, yH, xX, xZ, wZ, xB, zF, yY, xU, yW, wR, zB, yR, yC, yA, xH, wY, xD, zJ, wT, yD, zH, zD, zE, yK, zL, zP, zK, xR, xL, zI, xJ, yG, zC, yZ, yM, yP, yS, yJ, yX, yU, yL, wJ, wP, wH, wI, wL, wN, wO, wK, wM, Res.bind_ok, Res.bind_no, Res.bind_ex, Res.lft_some, Res.lft_none, Option.map_some, Option.bind_some, List.set_cons_zero, List.set_cons_succ, List.length_cons, List.length_nil, if_true, if_false, Bool.false_eq_true, ite_true, ite_false, Bool.not_true, Bool.not_false, t1, isiX_n]
theorem asT_ex {c w : Str} {a1 a2 a3 a4 : Bool} {j : Nat} (i1 : isiX CLS CLS (excD c) = some (.bool true)) (i2 : isiX CLS ["BadBox", "BadGroup", "BadPlan", "BadText", "NoHelp", "TooMany"] (excD c) = some (.bool false)) (i3 : isiX CLS ["BadOrder"] (excD c) = some (.bool a1)) (i4 : isiX CLS ["BadOpenings"] (excD c) = some (.bool a2)) (i5 : isiX CLS ["NoPerson"] (excD c) = some (.bool a3)) (i6 : isiX CLS ["NoNumber"] (excD c) = some (.bool a4))
    (k1 : cnDD [.bool a1, .bool a2, .bool a3, .bool a4] (.bool true) = some (.int 1)) (k2 : ixDD [.bool a1, .bool a2, .bool a3, .bool a4] (.bool true) = some (.int (j : Int))) (k3 : atI [PyData.str "order", .str "openings", .str "person", .str "number"] (j : Int) = some (.str w)) : asT [none, none, none, none, some (excD c), none, none] = .ok (.rt (.str w)) := by
  have ap : appD [PyData.bool a1, .bool a2, .bool a3] [.bool a4] = some [.bool a1, .bool a2, .bool a3, .bool a4] := app_le (show 3 ≤ 1000 by decide)
  unfold asT
  simp -implicitDefEqProofs only [zA, zO, zN, xO, zY, yQ, yV, xF, wS, xE, yO, yI, xC, wW, yT, yN, xV, wV, xY, zG, xK, xP, xT, xM, xG, xA, wU, xI, yB, eV0, eVs, xN, xQ, xW, xS, yH, xX, xZ, wZ, xB, zF, yY, xU, yW, wR, zB, yR, yC, yA, xH, wY, xD, zJ, wT, yD, zH, zD, zE, yK, zL, zP, zK, xR, xL, zI, xJ, yG, zC, yZ, yM, yP, yS, yJ, yX, yU, yL, wJ, wP, wH, wI, wL, wN, wO, wK, wM, Res.bind_ok, Res.bind_no, Res.bind_ex, Res.lft_some, Res.lft_none, Option.map_some, Option.bind_some, List.set_cons_zero, List.set_cons_succ, List.length_cons, List.length_nil, if_true, if_false, Bool.false_eq_true, ite_true, ite_false, Bool.not_true, Bool.not_false, i1, i2, i3, i4, i5, i6, ap, k1, k2, k3, neD_int, decide_true]
def wordX (c : Str) : Str := if c = "BadOrder" then "order" else if c = "BadOpenings" then "openings" else if c = "NoPerson" then "person" else "number"
theorem asked_ex {a b d e : D} {c : Str} (h : F_l_called [a, b, d, e] = .ex c) (hc : c = "BadOrder" ∨ c = "BadOpenings" ∨ c = "NoPerson" ∨ c = "NoNumber") : F_l_asked [a, b, d, e] = .ok (.str (wordX c)) := by
  show (B_l_asked [some a, some b, some d, some e, none, none, none]).bind (fin false) = _
  rw [asked_u]
  have t0 : ∀ c : Str, CLS.contains c = true → F_l_called [a, b, d, e] = .ex c → sTry 5 CLS asB (sS 4 (eV 5)) [some a, some b, some d, some e, some .none, none, none] = .ok (.nx [none, none, none, none, some (excD c), none, none]) := fun c hc h => by
    rw [sTry_ex (c := c) (by unfold asB; simp -implicitDefEqProofs only [zA, zO, zN, xO, zY, yQ, yV, xF, wS, xE, yO, yI, xC, wW, yT, yN, xV, wV, xY, zG, xK, xP, xT, xM, xG, xA, wU, xI, yB, eV0, eVs, xN, xQ, xW, xS, yH, xX, xZ, wZ, xB, zF, yY, xU, yW, wR, zB, yR, yC, yA, xH, wY, xD, zJ, wT, yD, zH, zD, zE, yK, zL, zP, zK, xR, xL, zI, xJ, yG, zC, yZ, yM, yP, yS, yJ, yX, yU, yL, wJ, wP, wH, wI, wL, wN, wO, wK, wM, Res.bind_ok, Res.bind_no, Res.bind_ex, Res.lft_some, Res.lft_none, Option.map_some, Option.bind_some, List.set_cons_zero, List.set_cons_succ, List.length_cons, List.length_nil, if_true, if_false, Bool.false_eq_true, ite_true, ite_false, Bool.not_true, Bool.not_false, h]) hc]
    rfl
  rcases hc with rfl | rfl | rfl | rfl
  · have t1 := t0 _ (by decide) h
    have t2 := asT_ex (c := "BadOrder") (w := "order") (a1 := true) (a2 := false) (a3 := false) (a4 := false) (j := 0) (by rw [isiX_x, if_pos (by decide)]; rfl) (by rw [isiX_x, if_pos (by decide)]; rfl) (by rw [isiX_x, if_pos (by decide)]; rfl) (by rw [isiX_x, if_pos (by decide)]; rfl) (by rw [isiX_x, if_pos (by decide)]; rfl) (by rw [isiX_x, if_pos (by decide)]; rfl) rfl rfl rfl
    simp -implicitDefEqProofs only [zA, zO, zN, xO, zY, yQ, yV, xF, wS, xE, yO, yI, xC, wW, yT, yN, xV, wV, xY, zG, xK, xP, xT, xM, xG, xA, wU, xI, yB, eV0, eVs, xN, xQ, xW, xS, yH, xX, xZ, wZ, xB, zF, yY, xU, yW, wR, zB, yR, yC, yA, xH, wY, xD, zJ, wT, yD, zH, zD, zE, yK, zL, zP, zK, xR, xL, zI, xJ, yG, zC, yZ, yM, yP, yS, yJ, yX, yU, yL, wJ, wP, wH, wI, wL, wN, wO, wK, wM, Res.bind_ok, Res.bind_no, Res.bind_ex, Res.lft_some, Res.lft_none, Option.map_some, Option.bind_some, List.set_cons_zero, List.set_cons_succ, List.length_cons, List.length_nil, if_true, if_false, Bool.false_eq_true, ite_true, ite_false, Bool.not_true, Bool.not_false, t1, t2]
    rfl
  · have t1 := t0 _ (by decide) h
    have t2 := asT_ex (c := "BadOpenings") (w := "openings") (a1 := false) (a2 := true) (a3 := false) (a4 := false) (j := 1) (by rw [isiX_x, if_pos (by decide)]; rfl) (by rw [isiX_x, if_pos (by decide)]; rfl) (by rw [isiX_x, if_pos (by decide)]; rfl) (by rw [isiX_x, if_pos (by decide)]; rfl) (by rw [isiX_x, if_pos (by decide)]; rfl) (by rw [isiX_x, if_pos (by decide)]; rfl) rfl rfl rfl
    simp -implicitDefEqProofs only [zA, zO, zN, xO, zY, yQ, yV, xF, wS, xE, yO, yI, xC, wW, yT, yN, xV, wV, xY, zG, xK, xP, xT, xM, xG, xA, wU, xI, yB, eV0, eVs, xN, xQ, xW, xS, yH, xX, xZ, wZ, xB, zF, yY, xU, yW, wR, zB, yR, yC, yA, xH, wY, xD, zJ, wT, yD, zH, zD, zE, yK, zL, zP, zK, xR, xL, zI, xJ, yG, zC, yZ, yM, yP, yS, yJ, yX, yU, yL, wJ, wP, wH, wI, wL, wN, wO, wK, wM, Res.bind_ok, Res.bind_no, Res.bind_ex, Res.lft_some, Res.lft_none, Option.map_some, Option.bind_some, List.set_cons_zero, List.set_cons_succ, List.length_cons, List.length_nil, if_true, if_false, Bool.false_eq_true, ite_true, ite_false, Bool.not_true, Bool.not_false, t1, t2]
    rw [wordX, if_neg (by decide), if_pos rfl]
  · have t1 := t0 _ (by decide) h
    have t2 := asT_ex (c := "NoPerson") (w := "person") (a1 := false) (a2 := false) (a3 := true) (a4 := false) (j := 2) (by rw [isiX_x, if_pos (by decide)]; rfl) (by rw [isiX_x, if_pos (by decide)]; rfl) (by rw [isiX_x, if_pos (by decide)]; rfl) (by rw [isiX_x, if_pos (by decide)]; rfl) (by rw [isiX_x, if_pos (by decide)]; rfl) (by rw [isiX_x, if_pos (by decide)]; rfl) rfl rfl rfl
    simp -implicitDefEqProofs only [zA, zO, zN, xO, zY, yQ, yV, xF, wS, xE, yO, yI, xC, wW, yT, yN, xV, wV, xY, zG, xK, xP, xT, xM, xG, xA, wU, xI, yB, eV0, eVs, xN, xQ, xW, xS, yH, xX, xZ, wZ, xB, zF, yY, xU, yW, wR, zB, yR, yC, yA, xH, wY, xD, zJ, wT, yD, zH, zD, zE, yK, zL, zP, zK, xR, xL, zI, xJ, yG, zC, yZ, yM, yP, yS, yJ, yX, yU, yL, wJ, wP, wH, wI, wL, wN, wO, wK, wM, Res.bind_ok, Res.bind_no, Res.bind_ex, Res.lft_some, Res.lft_none, Option.map_some, Option.bind_some, List.set_cons_zero, List.set_cons_succ, List.length_cons, List.length_nil, if_true, if_false, Bool.false_eq_true, ite_true, ite_false, Bool.not_true, Bool.not_false, t1, t2]
    rw [wordX, if_neg (by decide), if_neg (by decide), if_pos rfl]
  · have t1 := t0 _ (by decide) h
    have t2 := asT_ex (c := "NoNumber") (w := "number") (a1 := false) (a2 := false) (a3 := false) (a4 := true) (j := 3) (by rw [isiX_x, if_pos (by decide)]; rfl) (by rw [isiX_x, if_pos (by decide)]; rfl) (by rw [isiX_x, if_pos (by decide)]; rfl) (by rw [isiX_x, if_pos (by decide)]; rfl) (by rw [isiX_x, if_pos (by decide)]; rfl) (by rw [isiX_x, if_pos (by decide)]; rfl) rfl rfl rfl
    simp -implicitDefEqProofs only [zA, zO, zN, xO, zY, yQ, yV, xF, wS, xE, yO, yI, xC, wW, yT, yN, xV, wV, xY, zG, xK, xP, xT, xM, xG, xA, wU, xI, yB, eV0, eVs, xN, xQ, xW, xS, yH, xX, xZ, wZ, xB, zF, yY, xU, yW, wR, zB, yR, yC, yA, xH, wY, xD, zJ, wT, yD, zH, zD, zE, yK, zL, zP, zK, xR, xL, zI, xJ, yG, zC, yZ, yM, yP, yS, yJ, yX, yU, yL, wJ, wP, wH, wI, wL, wN, wO, wK, wM, Res.bind_ok, Res.bind_no, Res.bind_ex, Res.lft_some, Res.lft_none, Option.map_some, Option.bind_some, List.set_cons_zero, List.set_cons_succ, List.length_cons, List.length_nil, if_true, if_false, Bool.false_eq_true, ite_true, ite_false, Bool.not_true, Bool.not_false, t1, t2]
    rw [wordX, if_neg (by decide), if_neg (by decide), if_neg (by decide)]
theorem ways_order {w : Nat} (hw : w < 3) {xs ys : List Int} (h : xs.length ≠ ys.length) (m0 m1 m2 m3 : D) : F_l_asked [.int (w : Int), tI xs, tI ys, .tuple [m0, m1, m2, m3]] = .ok (.str "order") := by
  have q : wayC w (tI xs) (tI ys) m0 m1 m2 m3 = .ex "BadOrder" := by
    have e := ex_behind h
    rcases (show w = 0 ∨ w = 1 ∨ w = 2 by bv_omega) with rfl | rfl | rfl
    · show (B_opened_as [some (tI xs), some (tI ys), some m0, some m1, none]).bind (fin true) = _
      unfold B_opened_as
      simp -implicitDefEqProofs only [zA, zO, zN, xO, zY, yQ, yV, xF, wS, xE, yO, yI, xC, wW, yT, yN, xV, wV, xY, zG, xK, xP, xT, xM, xG, xA, wU, xI, yB, eV0, eVs, xN, xQ, xW, xS, yH, xX, xZ, wZ, xB, zF, yY, xU, yW, wR, zB, yR, yC, yA, xH, wY, xD, zJ, wT, yD, zH, zD, zE, yK, zL, zP, zK, xR, xL, zI, xJ, yG, zC, yZ, yM, yP, yS, yJ, yX, yU, yL, wJ, wP, wH, wI, wL, wN, wO, wK, wM, Res.bind_ok, Res.bind_no, Res.bind_ex, Res.lft_some, Res.lft_none, Option.map_some, Option.bind_some, List.set_cons_zero, List.set_cons_succ, List.length_cons, List.length_nil, if_true, if_false, Bool.false_eq_true, ite_true, ite_false, Bool.not_true, Bool.not_false, e]
    · show (B_finders_as [some (tI xs), some (tI ys), some m0, none, none, none, none]).bind (fin false) = _
      unfold B_finders_as
      simp -implicitDefEqProofs only [zA, zO, zN, xO, zY, yQ, yV, xF, wS, xE, yO, yI, xC, wW, yT, yN, xV, wV, xY, zG, xK, xP, xT, xM, xG, xA, wU, xI, yB, eV0, eVs, xN, xQ, xW, xS, yH, xX, xZ, wZ, xB, zF, yY, xU, yW, wR, zB, yR, yC, yA, xH, wY, xD, zJ, wT, yD, zH, zD, zE, yK, zL, zP, zK, xR, xL, zI, xJ, yG, zC, yZ, yM, yP, yS, yJ, yX, yU, yL, wJ, wP, wH, wI, wL, wN, wO, wK, wM, Res.bind_ok, Res.bind_no, Res.bind_ex, Res.lft_some, Res.lft_none, Option.map_some, Option.bind_some, List.set_cons_zero, List.set_cons_succ, List.length_cons, List.length_nil, if_true, if_false, Bool.false_eq_true, ite_true, ite_false, Bool.not_true, Bool.not_false, e]
    · show (B_dealing_number [some (tI xs), some m2, some (tI ys)]).bind (fin false) = _
      unfold B_dealing_number
      simp -implicitDefEqProofs only [zA, zO, zN, xO, zY, yQ, yV, xF, wS, xE, yO, yI, xC, wW, yT, yN, xV, wV, xY, zG, xK, xP, xT, xM, xG, xA, wU, xI, yB, eV0, eVs, xN, xQ, xW, xS, yH, xX, xZ, wZ, xB, zF, yY, xU, yW, wR, zB, yR, yC, yA, xH, wY, xD, zJ, wT, yD, zH, zD, zE, yK, zL, zP, zK, xR, xL, zI, xJ, yG, zC, yZ, yM, yP, yS, yJ, yX, yU, yL, wJ, wP, wH, wI, wL, wN, wO, wK, wM, Res.bind_ok, Res.bind_no, Res.bind_ex, Res.lft_some, Res.lft_none, Option.map_some, Option.bind_some, List.set_cons_zero, List.set_cons_succ, List.length_cons, List.length_nil, if_true, if_false, Bool.false_eq_true, ite_true, ite_false, Bool.not_true, Bool.not_false, e]
  rw [asked_ex (c := "BadOrder") (by rw [called_way (by bv_omega), q]) (.inl rfl), wordX, if_pos rfl]
theorem ways_open {n w : Nat} (hw : w < 4) {xs ds bad : List Int} (o : Ord n xs) (o' : Ord n ds) (h1 : 1 ≤ n) (h2 : n ≤ 60) (hb : BadO (n : Int) bad) {k : Int} (hk : k < 0) (m1 : D) (N : Int) : F_l_asked [.int (w : Int), tI xs, tI ds, .tuple [tI bad, m1, .int k, .int N]] = .ok (.str "openings") := by
  have hl : (xs.map PyData.int).length = n := by rw [List.length_map, o.len]
  have eb := eq_behind o o' (show n ≤ 1000 by bv_omega)
  have q : wayC w (tI xs) (tI ds) (tI bad) m1 (.int k) (.int N) = .ex "BadOpenings" := by
    have e := ex_made_openings (.inr rfl) hb
    rcases (show w = 0 ∨ w = 1 ∨ w = 2 ∨ w = 3 by bv_omega) with rfl | rfl | rfl | rfl
    · show (B_opened_as [some (tI xs), some (tI ds), some (tI bad), some m1, none]).bind (fin true) = _
      unfold B_opened_as
      simp -implicitDefEqProofs only [zA, zO, zN, xO, zY, yQ, yV, xF, wS, xE, yO, yI, xC, wW, yT, yN, xV, wV, xY, zG, xK, xP, xT, xM, xG, xA, wU, xI, yB, eV0, eVs, xN, xQ, xW, xS, yH, xX, xZ, wZ, xB, zF, yY, xU, yW, wR, zB, yR, yC, yA, xH, wY, xD, zJ, wT, yD, zH, zD, zE, yK, zL, zP, zK, xR, xL, zI, xJ, yG, zC, yZ, yM, yP, yS, yJ, yX, yU, yL, wJ, wP, wH, wI, wL, wN, wO, wK, wM, Res.bind_ok, Res.bind_no, Res.bind_ex, Res.lft_some, Res.lft_none, Option.map_some, Option.bind_some, List.set_cons_zero, List.set_cons_succ, List.length_cons, List.length_nil, if_true, if_false, Bool.false_eq_true, ite_true, ite_false, Bool.not_true, Bool.not_false, eb, hl, e]
    · show (B_finders_as [some (tI xs), some (tI ds), some (tI bad), none, none, none, none]).bind (fin false) = _
      unfold B_finders_as
      simp -implicitDefEqProofs only [zA, zO, zN, xO, zY, yQ, yV, xF, wS, xE, yO, yI, xC, wW, yT, yN, xV, wV, xY, zG, xK, xP, xT, xM, xG, xA, wU, xI, yB, eV0, eVs, xN, xQ, xW, xS, yH, xX, xZ, wZ, xB, zF, yY, xU, yW, wR, zB, yR, yC, yA, xH, wY, xD, zJ, wT, yD, zH, zD, zE, yK, zL, zP, zK, xR, xL, zI, xJ, yG, zC, yZ, yM, yP, yS, yJ, yX, yU, yL, wJ, wP, wH, wI, wL, wN, wO, wK, wM, Res.bind_ok, Res.bind_no, Res.bind_ex, Res.lft_some, Res.lft_none, Option.map_some, Option.bind_some, List.set_cons_zero, List.set_cons_succ, List.length_cons, List.length_nil, if_true, if_false, Bool.false_eq_true, ite_true, ite_false, Bool.not_true, Bool.not_false, eb, hl, e]
    · show (B_dealing_number [some (tI xs), some (.int k), some (tI ds)]).bind (fin false) = _
      unfold B_dealing_number
      simp -implicitDefEqProofs only [zA, zO, zN, xO, zY, yQ, yV, xF, wS, xE, yO, yI, xC, wW, yT, yN, xV, wV, xY, zG, xK, xP, xT, xM, xG, xA, wU, xI, yB, eV0, eVs, xN, xQ, xW, xS, yH, xX, xZ, wZ, xB, zF, yY, xU, yW, wR, zB, yR, yC, yA, xH, wY, xD, zJ, wT, yD, zH, zD, zE, yK, zL, zP, zK, xR, xL, zI, xJ, yG, zC, yZ, yM, yP, yS, yJ, yX, yU, yL, wJ, wP, wH, wI, wL, wN, wO, wK, wM, Res.bind_ok, Res.bind_no, Res.bind_ex, Res.lft_some, Res.lft_none, Option.map_some, Option.bind_some, List.set_cons_zero, List.set_cons_succ, List.length_cons, List.length_nil, if_true, if_false, Bool.false_eq_true, ite_true, ite_false, Bool.not_true, Bool.not_false, eb, ex_good_number_k (cmpO_ord o o') h2 hk]
    · show (B_dealing_at [some (tI xs), some (.int k), some (.int N)]).bind (fin false) = _
      unfold B_dealing_at
      simp -implicitDefEqProofs only [zA, zO, zN, xO, zY, yQ, yV, xF, wS, xE, yO, yI, xC, wW, yT, yN, xV, wV, xY, zG, xK, xP, xT, xM, xG, xA, wU, xI, yB, eV0, eVs, xN, xQ, xW, xS, yH, xX, xZ, wZ, xB, zF, yY, xU, yW, wR, zB, yR, yC, yA, xH, wY, xD, zJ, wT, yD, zH, zD, zE, yK, zL, zP, zK, xR, xL, zI, xJ, yG, zC, yZ, yM, yP, yS, yJ, yX, yU, yL, wJ, wP, wH, wI, wL, wN, wO, wK, wM, Res.bind_ok, Res.bind_no, Res.bind_ex, Res.lft_some, Res.lft_none, Option.map_some, Option.bind_some, List.set_cons_zero, List.set_cons_succ, List.length_cons, List.length_nil, if_true, if_false, Bool.false_eq_true, ite_true, ite_false, Bool.not_true, Bool.not_false, eq_turned_back o (show n ≤ 1000 by bv_omega), hl, ex_good_at_k (N := N) h1 h2 hk]
  rw [asked_ex (c := "BadOpenings") (by rw [called_way hw, q]) (.inr (.inl rfl)), wordX, if_neg (by decide), if_pos rfl]
theorem ex_check_person {n : Nat} {p : Int} (h : ¬ (0 ≤ p ∧ p < (n : Int))) : F_check_person [.int (n : Int), .int p] = .ex "NoPerson" := by
  show (B_check_person [some (.int (n : Int)), some (.int p)]).bind (fin false) = _
  unfold B_check_person
  have z1 : (if ([PyData.str "there is no such person"] : List D).length ≤ sizeLine then (Res.ex "NoPerson" : Res Out) else .no) = .ex "NoPerson" := if_pos (by decide)
  by_cases p1 : 0 ≤ p
  · have p2 : ¬ p < (n : Int) := fun z => h ⟨p1, z⟩
    simp -implicitDefEqProofs only [zG, zF, xZ, yB, yA, yC, eV0, eVs, yD, vH, Res.bind_ok, Res.bind_ex, Res.lft_some, decide_eq_true p1, decide_eq_false p2, if_true, if_false, Bool.not_true, Bool.not_false, Bool.false_eq_true, z1]
  · simp -implicitDefEqProofs only [zG, zF, xZ, yB, yA, yC, eV0, eVs, yD, vH, Res.bind_ok, Res.bind_ex, Res.lft_some, decide_eq_false p1, if_true, if_false, Bool.not_true, Bool.not_false, Bool.false_eq_true, z1]
theorem dn_ok {n k : Nat} {xs ds : List Int} (o : Ord n xs) (o' : Ord n ds) (h2 : n ≤ 60) (hk : ∀ r ∈ rgs n (cmpO n xs ds) n, r.length ≤ k) : ∃ N : Nat, F_dealing_number [tI xs, .int (k : Int), tI ds] = .ok (.int (N : Int)) := by
  obtain ⟨N, T⟩ := good_told (k := k) (cmpO_ord o o') hk
  refine ⟨N, ?_⟩
  show (B_dealing_number [some (tI xs), some (.int (k : Int)), some (tI ds)]).bind (fin false) = _
  unfold B_dealing_number
  simp -implicitDefEqProofs only [zA, zO, zN, xO, zY, yQ, yV, xF, wS, xE, yO, yI, xC, wW, yT, yN, xV, wV, xY, zG, xK, xP, xT, xM, xG, xA, wU, xI, yB, eV0, eVs, xN, xQ, xW, xS, yH, xX, xZ, wZ, xB, zF, yY, xU, yW, wR, zB, yR, yC, yA, xH, wY, xD, zJ, wT, yD, zH, zD, zE, yK, zL, zP, zK, xR, xL, zI, xJ, yG, zC, yZ, yM, yP, yS, yJ, yX, yU, yL, wJ, wP, wH, wI, wL, wN, wO, wK, wM, Res.bind_ok, Res.bind_no, Res.bind_ex, Res.lft_some, Res.lft_none, Option.map_some, Option.bind_some, List.set_cons_zero, List.set_cons_succ, List.length_cons, List.length_nil, if_true, if_false, Bool.false_eq_true, ite_true, ite_false, Bool.not_true, Bool.not_false, eq_behind o o' (show n ≤ 1000 by bv_omega), eq_good_number (cmpO_ord o o') h2 T]
theorem ring_le {n : Nat} {xs : List Int} (o : Ord n xs) : ∀ r ∈ rgs n xs n, r.length ≤ n := fun r hr => by
  obtain ⟨b, hb, rfl, _⟩ := (o.rgs_ok n (Nat.le_refl n)).each r hr
  rw [ring_length]
  exact (o.per_spec hb).2.1
theorem ways_last {n w : Nat} (hw : w < 4) {xs ds ops : List Int} (o : Ord n xs) (o' : Ord n ds) (q : Opn n ops) (h1 : 1 ≤ n) (h2 : n ≤ 60) {p N : Int} (hp : ¬ (0 ≤ p ∧ p < (n : Int))) (hN : ¬ (0 ≤ N ∧ N < ((gn n n : Nat) : Int))) :
    F_l_asked [.int (w : Int), tI xs, tI ds, .tuple [tI ops, .int p, .int (n : Int), .int N]] = .ok (.str (if w = 0 then "person" else if w = 3 then "number" else "none")) := by
  have hl : (xs.map PyData.int).length = n := by rw [List.length_map, o.len]
  have eb := eq_behind o o' (show n ≤ 1000 by bv_omega)
  have cw := called_way (w := w) hw (o := tI xs) (d := tI ds) (m0 := tI ops) (m1 := .int p) (m2 := .int (n : Int)) (m3 := .int N)
  rcases (show w = 0 ∨ w = 1 ∨ w = 2 ∨ w = 3 by bv_omega) with rfl | rfl | rfl | rfl
  · have : F_opened_as [tI xs, tI ds, tI ops, .int p] = .ex "NoPerson" := by
      show (B_opened_as [some (tI xs), some (tI ds), some (tI ops), some (.int p), none]).bind (fin true) = _
      unfold B_opened_as
      simp -implicitDefEqProofs only [zA, zO, zN, xO, zY, yQ, yV, xF, wS, xE, yO, yI, xC, wW, yT, yN, xV, wV, xY, zG, xK, xP, xT, xM, xG, xA, wU, xI, yB, eV0, eVs, xN, xQ, xW, xS, yH, xX, xZ, wZ, xB, zF, yY, xU, yW, wR, zB, yR, yC, yA, xH, wY, xD, zJ, wT, yD, zH, zD, zE, yK, zL, zP, zK, xR, xL, zI, xJ, yG, zC, yZ, yM, yP, yS, yJ, yX, yU, yL, wJ, wP, wH, wI, wL, wN, wO, wK, wM, Res.bind_ok, Res.bind_no, Res.bind_ex, Res.lft_some, Res.lft_none, Option.map_some, Option.bind_some, List.set_cons_zero, List.set_cons_succ, List.length_cons, List.length_nil, if_true, if_false, Bool.false_eq_true, ite_true, ite_false, Bool.not_true, Bool.not_false, eb, hl, eq_made_openings q h1 h2, ex_check_person hp]
    rw [asked_ex (c := "NoPerson") (by rw [cw, wayC, if_pos rfl]; exact this) (.inr (.inr (.inl rfl))), wordX, if_neg (by decide), if_neg (by decide), if_pos rfl, if_pos rfl]
  · rw [asked_ok (by rw [cw, wayC, if_neg (by decide), if_pos rfl]; exact eq_finders_as o o' q h1 h2), if_neg (by decide), if_neg (by decide)]
  · obtain ⟨M, e⟩ := dn_ok (k := n) o o' h2 (ring_le (cmpO_ord o o'))
    rw [asked_ok (by rw [cw, wayC, if_neg (by decide), if_neg (by decide), if_pos rfl]; exact e), if_neg (by decide), if_neg (by decide)]
  · have : F_dealing_at [tI xs, .int (n : Int), .int N] = .ex "NoNumber" := by
      show (B_dealing_at [some (tI xs), some (.int (n : Int)), some (.int N)]).bind (fin false) = _
      unfold B_dealing_at
      simp -implicitDefEqProofs only [zA, zO, zN, xO, zY, yQ, yV, xF, wS, xE, yO, yI, xC, wW, yT, yN, xV, wV, xY, zG, xK, xP, xT, xM, xG, xA, wU, xI, yB, eV0, eVs, xN, xQ, xW, xS, yH, xX, xZ, wZ, xB, zF, yY, xU, yW, wR, zB, yR, yC, yA, xH, wY, xD, zJ, wT, yD, zH, zD, zE, yK, zL, zP, zK, xR, xL, zI, xJ, yG, zC, yZ, yM, yP, yS, yJ, yX, yU, yL, wJ, wP, wH, wI, wL, wN, wO, wK, wM, Res.bind_ok, Res.bind_no, Res.bind_ex, Res.lft_some, Res.lft_none, Option.map_some, Option.bind_some, List.set_cons_zero, List.set_cons_succ, List.length_cons, List.length_nil, if_true, if_false, Bool.false_eq_true, ite_true, ite_false, Bool.not_true, Bool.not_false, eq_turned_back o (show n ≤ 1000 by bv_omega), hl, ex_good_at_no (k := n) h1 h2 hN]
    rw [asked_ex (c := "NoNumber") (by rw [cw, wayC, if_neg (by decide), if_neg (by decide), if_neg (by decide)]; exact this) (.inr (.inr (.inr rfl))), wordX, if_neg (by decide), if_neg (by decide), if_neg (by decide), if_neg (by decide), if_pos rfl]
theorem way_long {n k : Nat} {xs ds : List Int} (o : Ord n xs) (o' : Ord n ds) (h2 : n ≤ 60) (hb : ∃ r ∈ rgs n (cmpO n xs ds) n, k < r.length) (m0 m1 m3 : D) : F_l_asked [.int 2, tI xs, tI ds, .tuple [m0, m1, .int (k : Int), m3]] = .ok (.str "number") := by
  have : F_dealing_number [tI xs, .int (k : Int), tI ds] = .ex "NoNumber" := by
    show (B_dealing_number [some (tI xs), some (.int (k : Int)), some (tI ds)]).bind (fin false) = _
    unfold B_dealing_number
    simp -implicitDefEqProofs only [zA, zO, zN, xO, zY, yQ, yV, xF, wS, xE, yO, yI, xC, wW, yT, yN, xV, wV, xY, zG, xK, xP, xT, xM, xG, xA, wU, xI, yB, eV0, eVs, xN, xQ, xW, xS, yH, xX, xZ, wZ, xB, zF, yY, xU, yW, wR, zB, yR, yC, yA, xH, wY, xD, zJ, wT, yD, zH, zD, zE, yK, zL, zP, zK, xR, xL, zI, xJ, yG, zC, yZ, yM, yP, yS, yJ, yX, yU, yL, wJ, wP, wH, wI, wL, wN, wO, wK, wM, Res.bind_ok, Res.bind_no, Res.bind_ex, Res.lft_some, Res.lft_none, Option.map_some, Option.bind_some, List.set_cons_zero, List.set_cons_succ, List.length_cons, List.length_nil, if_true, if_false, Bool.false_eq_true, ite_true, ite_false, Bool.not_true, Bool.not_false, eq_behind o o' (show n ≤ 1000 by bv_omega), ex_good_number_no (cmpO_ord o o') h2 hb]
  have cw := called_way (w := 2) (by decide) (o := tI xs) (d := tI ds) (m0 := m0) (m1 := m1) (m2 := .int (k : Int)) (m3 := m3)
  have e := asked_ex (c := "NoNumber") (by rw [cw, wayC, if_neg (by decide), if_neg (by decide), if_pos rfl]; exact this) (.inr (.inr (.inr rfl)))
  rw [wordX, if_neg (by decide), if_neg (by decide), if_neg (by decide)] at e
  exact e
theorem pop_int {l : List Int} {a : Nat} (h : a < l.length) (hl : l.length ≤ 1000) : popD (l.map PyData.int) [.int (a : Int)] = some ((l.eraseIdx a).map PyData.int) := by
  unfold popD
  simp only
  rw [if_pos ⟨by bv_omega, by rw [List.length_map]; bv_omega, by bv_omega⟩, Int.toNat_natCast, erase_map]
theorem ins_int {l : List Int} {a : Nat} {v : Int} (h : a ≤ l.length) (hl : l.length ≤ 1000) : insD (l.map PyData.int) [.int (a : Int), .int v] = some ((l.take a ++ v :: l.drop a).map PyData.int) := by
  rw [ins_le (by bv_omega) (by rw [List.length_map]; bv_omega) (by rw [List.length_map]; exact hl), Int.toNat_natCast, List.map_append, List.map_cons, List.map_take, List.map_drop]
theorem eq_l_bad_openings (c : Int) {n : Nat} (h1 : 1 ≤ n) (hn : n ≤ 60) : ∃ ys, BadO (n : Int) ys ∧ F_l_bad_openings [.int c, .int (n : Int)] = .ok (tI ys) := by
  obtain ⟨P, hP, pw⟩ := p40
  have D5 : DivOk 5 := DivOk.small (by decide) (by decide)
  have D300 : DivOk 300 := DivOk.small (by decide) (by decide)
  have m1 := mulO_ok (i := P) (j := c / 300 % 2) (MulOk.right (by bv_omega) (by bv_omega))
  have f0 : 0 ≤ P * (c / 300 % 2) := Int.mul_nonneg (by bv_omega) (by bv_omega)
  generalize hf : P * (c / 300 % 2) = f at m1 f0
  have o0 := Int.emod_nonneg (c / 5) (show (n : Int) ≠ 0 by bv_omega)
  have o1 := Int.emod_lt_of_pos (c / 5) (show (0 : Int) < (n : Int) by bv_omega)
  obtain ⟨a, ha⟩ : ∃ a : Nat, c / 5 % (n : Int) = (a : Int) := ⟨(c / 5 % (n : Int)).toNat, by bv_omega⟩
  have han : a < n := by bv_omega
  have rp : repL (.list [.int (n : Int)]) (.int ((n : Nat) : Int)) = some (lI (List.replicate n (n : Int))) := by
    rw [repL_one _ _ (by bv_omega), lI, List.map_replicate]
  have rl : (List.replicate n (n : Int)).length = n := List.length_replicate
  have sd : ∀ v : Int, setD ((List.replicate n (n : Int)).map PyData.int) (.int (a : Int)) (.int v) = some (((List.replicate n (n : Int)).set a v).map PyData.int) := fun v => setD_lI (by rw [rl]; exact han) v
  have sl : ∀ v : Int, ((List.replicate n (n : Int)).set a v).length = n := fun v => by rw [List.length_set, rl]
  have mem : ∀ v : Int, v ∈ (List.replicate n (n : Int)).set a v := fun v => by
    refine List.mem_iff_getElem?.mpr ⟨a, ?_⟩
    rw [List.getElem?_set_self (by rw [rl]; exact han)]
  have base : ∀ v : Int, atI [PyData.int (-1 - f), .int ((n : Int) + 1 + f), .int 0, .int 1, .int (n : Int)] (c % 5) = some (.int v) → ∀ ys : List Int,
      ((c % 5 < 2 ∧ ys = (List.replicate n (n : Int)).set a v) ∨ (c % 5 = 2 ∧ ys = ((List.replicate n (n : Int)).set a v).eraseIdx a) ∨ (2 < c % 5 ∧ ys = ((List.replicate n (n : Int)).set a v).take a ++ 1 :: ((List.replicate n (n : Int)).set a v).drop a)) → F_l_bad_openings [.int c, .int (n : Int)] = .ok (tI ys) := fun v hv ys hy => by
    show (B_l_bad_openings [some (.int c), some (.int (n : Int)), none, none, none]).bind (fin false) = _
    unfold B_l_bad_openings
    rcases hy with ⟨h, rfl⟩ | ⟨h, rfl⟩ | ⟨h, rfl⟩
    · simp -implicitDefEqProofs only [zA, zO, zN, xO, zY, yQ, yV, xF, wS, xE, yO, yI, xC, wW, yT, yN, xV, wV, xY, zG, xK, xP, xT, xM, xG, xA, wU, xI, yB, eV0, eVs, xN, xQ, xW, xS, yH, xX, xZ, wZ, xB, zF, yY, xU, yW, wR, zB, yR, yC, yA, xH, wY, xD, zJ, wT, yD, zH, zD, zE, yK, zL, zP, zK, xR, xL, zI, xJ, yG, zC, yZ, yM, yP, yS, yJ, yX, yU, yL, wJ, wP, wH, wI, wL, wN, wO, wK, wM, Res.bind_ok, Res.bind_no, Res.bind_ex, Res.lft_some, Res.lft_none, Option.map_some, Option.bind_some, List.set_cons_zero, List.set_cons_succ, List.length_cons, List.length_nil, if_true, if_false, Bool.false_eq_true, ite_true, ite_false, Bool.not_true, Bool.not_false, rp, pw, modO, fdivO, if_pos D5, if_pos D300, if_pos (show (0 : Int) < (n : Int) by bv_omega), ha, if_pos (show (0 : Int) < 2 by decide), if_pos (show (0 : Int) < 5 by decide), m1, mkL5, hv, sd, eqD_int, decide_eq_false (show ¬ c % 5 = 2 by bv_omega), decide_eq_false (show ¬ 2 < c % 5 by bv_omega)]
    · simp -implicitDefEqProofs only [zA, zO, zN, xO, zY, yQ, yV, xF, wS, xE, yO, yI, xC, wW, yT, yN, xV, wV, xY, zG, xK, xP, xT, xM, xG, xA, wU, xI, yB, eV0, eVs, xN, xQ, xW, xS, yH, xX, xZ, wZ, xB, zF, yY, xU, yW, wR, zB, yR, yC, yA, xH, wY, xD, zJ, wT, yD, zH, zD, zE, yK, zL, zP, zK, xR, xL, zI, xJ, yG, zC, yZ, yM, yP, yS, yJ, yX, yU, yL, wJ, wP, wH, wI, wL, wN, wO, wK, wM, Res.bind_ok, Res.bind_no, Res.bind_ex, Res.lft_some, Res.lft_none, Option.map_some, Option.bind_some, List.set_cons_zero, List.set_cons_succ, List.length_cons, List.length_nil, if_true, if_false, Bool.false_eq_true, ite_true, ite_false, Bool.not_true, Bool.not_false, rp, pw, modO, fdivO, if_pos D5, if_pos D300, if_pos (show (0 : Int) < (n : Int) by bv_omega), ha, if_pos (show (0 : Int) < 2 by decide), if_pos (show (0 : Int) < 5 by decide), m1, mkL5, hv, sd, eqD_int, decide_eq_true h, pop_int (l := (List.replicate n (n : Int)).set a v) (a := a) (by rw [sl]; exact han) (by rw [sl]; bv_omega), decide_eq_false (show ¬ 2 < c % 5 by bv_omega)]
    · simp -implicitDefEqProofs only [zA, zO, zN, xO, zY, yQ, yV, xF, wS, xE, yO, yI, xC, wW, yT, yN, xV, wV, xY, zG, xK, xP, xT, xM, xG, xA, wU, xI, yB, eV0, eVs, xN, xQ, xW, xS, yH, xX, xZ, wZ, xB, zF, yY, xU, yW, wR, zB, yR, yC, yA, xH, wY, xD, zJ, wT, yD, zH, zD, zE, yK, zL, zP, zK, xR, xL, zI, xJ, yG, zC, yZ, yM, yP, yS, yJ, yX, yU, yL, wJ, wP, wH, wI, wL, wN, wO, wK, wM, Res.bind_ok, Res.bind_no, Res.bind_ex, Res.lft_some, Res.lft_none, Option.map_some, Option.bind_some, List.set_cons_zero, List.set_cons_succ, List.length_cons, List.length_nil, if_true, if_false, Bool.false_eq_true, ite_true, ite_false, Bool.not_true, Bool.not_false, rp, pw, modO, fdivO, if_pos D5, if_pos D300, if_pos (show (0 : Int) < (n : Int) by bv_omega), ha, if_pos (show (0 : Int) < 2 by decide), if_pos (show (0 : Int) < 5 by decide), m1, mkL5, hv, sd, eqD_int, decide_eq_false (show ¬ c % 5 = 2 by bv_omega), decide_eq_true h, ins_int (l := (List.replicate n (n : Int)).set a v) (a := a) (v := 1) (by rw [sl]; bv_omega) (by rw [sl]; bv_omega)]
  rcases (show c % 5 = 0 ∨ c % 5 = 1 ∨ c % 5 = 2 ∨ c % 5 = 3 ∨ c % 5 = 4 by bv_omega) with h | h | h | h | h
  · exact ⟨_, fun z => by have := z.2.2.2 _ (mem (-1 - f)); bv_omega, base (-1 - f) (by rw [h]; rfl) _ (.inl ⟨by bv_omega, rfl⟩)⟩
  · exact ⟨_, fun z => by have := z.2.2.2 _ (mem ((n : Int) + 1 + f)); bv_omega, base ((n : Int) + 1 + f) (by rw [h]; rfl) _ (.inl ⟨by bv_omega, rfl⟩)⟩
  · exact ⟨_, fun z => by have := z.2.2.1; rw [List.length_eraseIdx_of_lt (by rw [sl]; exact han), sl] at this; bv_omega, base 0 (by rw [h]; rfl) _ (.inr (.inl ⟨h, rfl⟩))⟩
  · exact ⟨_, fun z => by have := z.2.2.1; rw [List.length_append, List.length_cons, List.length_take, List.length_drop, sl] at this; bv_omega, base 1 (by rw [h]; rfl) _ (.inr (.inr ⟨by bv_omega, rfl⟩))⟩
  · exact ⟨_, fun z => by have := z.2.2.1; rw [List.length_append, List.length_cons, List.length_take, List.length_drop, sl] at this; bv_omega, base (n : Int) (by rw [h]; rfl) _ (.inr (.inr ⟨by bv_omega, rfl⟩))⟩
def riL : Ev → Res Out := (sIf (b2 neD (eComp (iR rng1 (aC (eC (.int 3)) aN)) tYes (eF F_l_asked (aC (eV 0) (aC (eV 1) (aC (eV 2) (aC (eB mkT (aC (eV 3) (aC (eV 4) (aC (e1 negD (eC (.int 1))) (aC (e1 negD (eC (.int 1))) aN))))) aN))))) [0, 10, 5, 7]) (e2 repL (eB mkL (aC (eC (.str "order")) aN)) (eC (.int 3)))) (sR (eC (.bool false))) sN)
def riO : Ev → Res Out := (sIf (b2 neD (eComp (iR rng1 (aC (eC (.int 4)) aN)) tYes (eF F_l_asked (aC (eV 0) (aC (eV 1) (aC (eV 2) (aC (eB mkT (aC (eV 3) (aC (eV 4) (aC (e2 subI (e1 negD (eC (.int 1))) (eV 5)) (aC (e1 negD (eC (.int 1))) aN))))) aN))))) [0, 1, 5, 7, 6]) (e2 repL (eB mkL (aC (eC (.str "openings")) aN)) (eC (.int 4)))) (sR (eC (.bool false))) sN)
def riM : Ev → Res Out := (sIf (b2 neD (eComp (iR rng1 (aC (eC (.int 4)) aN)) tYes (eF F_l_asked (aC (eV 0) (aC (eV 1) (aC (eV 2) (aC (eV 3) aN))))) [0, 1, 11]) (eB mkL (aC (eC (.str "person")) (aC (eC (.str "none")) (aC (eC (.str "none")) (aC (eC (.str "number")) aN)))))) (sR (eC (.bool false))) sN)
def riE : Ev → Res Out := (sQ (sS 12 (eB tupD (aC (eComp (iS (eV 0)) tYes (e2 ixD (eV 1) (eV 0)) [1]) aN))) (sQ (sS 13 (eB max1D (aC (eComp (iS (eF F_l_rings (aC (eV 12) aN))) tYes (eB lenD (aC (eV 0) aN)) []) aN))) (sR (e2 (fun x y => bD (eqD x y)) (eF F_l_asked (aC (eC (.int 2)) (aC (eV 0) (aC (eV 1) (aC (eB mkT (aC (eV 4) (aC (eC (.int 0)) (aC (e2 subI (eV 13) (eC (.int 1))) (aC (eC (.int 0)) aN))))) aN))))) (eC (.str "number"))))))
theorem right_u : B_l_right = (sQ (sS 3 (eB lenD (aC (eV 0) aN))) (sQ (sS 4 (eB tupD (aC (e2 repL (eB mkL (aC (eV 3) aN)) (eV 3)) aN))) (sQ (sS 5 (eF F_l_bad_openings (aC (eV 2) (aC (eV 3) aN)))) (sQ (sS 6 (e2 mulI (e2 powI (eC (.int 10)) (eC (.int 40))) (e2 modI (e2 fdivI (eV 2) (eC (.int 7))) (eC (.int 2))))) (sQ (sS 7 (e2 ixD (eB mkL (aC (e2 subI (e1 negD (eC (.int 1))) (eV 6)) (aC (e2 addI (eV 3) (eV 6)) aN))) (e2 modI (e2 fdivI (eV 2) (eC (.int 3))) (eC (.int 2))))) (sQ (sS 8 (e2 ixD (eB mkL (aC (e2 subI (e1 negD (eC (.int 1))) (eV 6)) (aC (e2 addI (eF F_many_good (aC (eV 3) (aC (eV 3) aN))) (eV 6)) aN))) (e2 modI (e2 fdivI (eV 2) (eC (.int 3))) (eC (.int 2))))) (sQ (sS 9 (eB mkL (aC (eS slD (eV 1) (oS (eC (.int 1))) oN) (aC (e2 catT (eV 1) (eB mkT (aC (eV 3) aN))) aN)))) (sQ (sF (iS (eV 9)) (gN 10) riL) (sQ riO (sQ (sS 11 (eB mkT (aC (eV 4) (aC (eV 7) (aC (eV 3) (aC (eV 8) aN)))))) (sQ riM riE))))))))))) := rfl
theorem r3 : rng1 [.int 3] = some ((List.range 3).map fun (i : Nat) => PyData.int (i : Int)) := rng_nat (n := 3) (by decide)
theorem r4 : rng1 [.int 4] = some ((List.range 4).map fun (i : Nat) => PyData.int (i : Int)) := rng_nat (n := 4) (by decide)
theorem riL_ok {xs ys bad : List Int} {p : Int} (h : xs.length ≠ ys.length) {u1 u2 u3 u4 u6 u8 u9 u11 u12 u13 : Option D} : riL [some (tI xs), u1, u2, u3, u4, some (tI bad), u6, some (.int p), u8, u9, some (tI ys), u11, u12, u13] = .ok (.nx [some (tI xs), u1, u2, u3, u4, some (tI bad), u6, some (.int p), u8, u9, some (tI ys), u11, u12, u13]) := by
  have cc : eComp (iR rng1 (aC (eC (.int 3)) aN)) tYes (eF F_l_asked (aC (eV 0) (aC (eV 1) (aC (eV 2) (aC (eB mkT (aC (eV 3) (aC (eV 4) (aC (e1 negD (eC (.int 1))) (aC (e1 negD (eC (.int 1))) aN))))) aN))))) [0, 10, 5, 7] [some (tI xs), u1, u2, u3, u4, some (tI bad), u6, some (.int p), u8, u9, some (tI ys), u11, u12, u13] = .ok (.list [.str "order", .str "order", .str "order"]) := by
    rw [eComp_all (fun j : Nat => PyData.int (j : Int)) (fun _ => PyData.str "order") (List.range 3) (by simp -implicitDefEqProofs only [zA, zO, zN, xO, zY, yQ, yV, xF, wS, xE, yO, yI, xC, wW, yT, yN, xV, wV, xY, zG, xK, xP, xT, xM, xG, xA, wU, xI, yB, eV0, eVs, xN, xQ, xW, xS, yH, xX, xZ, wZ, xB, zF, yY, xU, yW, wR, zB, yR, yC, yA, xH, wY, xD, zJ, wT, yD, zH, zD, zE, yK, zL, zP, zK, xR, xL, zI, xJ, yG, zC, yZ, yM, yP, yS, yJ, yX, yU, yL, wJ, wP, wH, wI, wL, wN, wO, wK, wM, Res.bind_ok, Res.bind_no, Res.bind_ex, Res.lft_some, Res.lft_none, Option.map_some, Option.bind_some, List.set_cons_zero, List.set_cons_succ, List.length_cons, List.length_nil, if_true, if_false, Bool.false_eq_true, ite_true, ite_false, Bool.not_true, Bool.not_false, r3]) (by decide) fun j hj => by
      show eF F_l_asked _ [some (.int (j : Int)), some (tI xs), some (tI ys), some (tI bad), some (.int p)] = _
      simp -implicitDefEqProofs only [zA, zO, zN, xO, zY, yQ, yV, xF, wS, xE, yO, yI, xC, wW, yT, yN, xV, wV, xY, zG, xK, xP, xT, xM, xG, xA, wU, xI, yB, eV0, eVs, xN, xQ, xW, xS, yH, xX, xZ, wZ, xB, zF, yY, xU, yW, wR, zB, yR, yC, yA, xH, wY, xD, zJ, wT, yD, zH, zD, zE, yK, zL, zP, zK, xR, xL, zI, xJ, yG, zC, yZ, yM, yP, yS, yJ, yX, yU, yL, wJ, wP, wH, wI, wL, wN, wO, wK, wM, Res.bind_ok, Res.bind_no, Res.bind_ex, Res.lft_some, Res.lft_none, Option.map_some, Option.bind_some, List.set_cons_zero, List.set_cons_succ, List.length_cons, List.length_nil, if_true, if_false, Bool.false_eq_true, ite_true, ite_false, Bool.not_true, Bool.not_false, mkT4, ways_order (List.mem_range.mp hj) h]]
    rfl
  have ro : repL (.list [.str "order"]) (.int 3) = some (.list [.str "order", .str "order", .str "order"]) := repL_one (.str "order") 3 (by decide)
  have n1 : neD (.list [.str "order", .str "order", .str "order"]) (.list [.str "order", .str "order", .str "order"]) = some false := by decide +kernel
  unfold riL
  simp -implicitDefEqProofs only [zA, zO, zN, xO, zY, yQ, yV, xF, wS, xE, yO, yI, xC, wW, yT, yN, xV, wV, xY, zG, xK, xP, xT, xM, xG, xA, wU, xI, yB, eV0, eVs, xN, xQ, xW, xS, yH, xX, xZ, wZ, xB, zF, yY, xU, yW, wR, zB, yR, yC, yA, xH, wY, xD, zJ, wT, yD, zH, zD, zE, yK, zL, zP, zK, xR, xL, zI, xJ, yG, zC, yZ, yM, yP, yS, yJ, yX, yU, yL, wJ, wP, wH, wI, wL, wN, wO, wK, wM, Res.bind_ok, Res.bind_no, Res.bind_ex, Res.lft_some, Res.lft_none, Option.map_some, Option.bind_some, List.set_cons_zero, List.set_cons_succ, List.length_cons, List.length_nil, if_true, if_false, Bool.false_eq_true, ite_true, ite_false, Bool.not_true, Bool.not_false, cc, ro, n1]
theorem riO_ok {n : Nat} {xs ds bad : List Int} (o : Ord n xs) (o' : Ord n ds) (h1 : 1 ≤ n) (h2 : n ≤ 60) (hb : BadO (n : Int) bad) {p f : Int} (hf : 0 ≤ f) {u2 u3 u4 u8 u9 u10 u11 u12 u13 : Option D} : riO [some (tI xs), some (tI ds), u2, u3, u4, some (tI bad), some (.int f), some (.int p), u8, u9, u10, u11, u12, u13] = .ok (.nx [some (tI xs), some (tI ds), u2, u3, u4, some (tI bad), some (.int f), some (.int p), u8, u9, u10, u11, u12, u13]) := by
  have cc : eComp (iR rng1 (aC (eC (.int 4)) aN)) tYes (eF F_l_asked (aC (eV 0) (aC (eV 1) (aC (eV 2) (aC (eB mkT (aC (eV 3) (aC (eV 4) (aC (e2 subI (e1 negD (eC (.int 1))) (eV 5)) (aC (e1 negD (eC (.int 1))) aN))))) aN))))) [0, 1, 5, 7, 6] [some (tI xs), some (tI ds), u2, u3, u4, some (tI bad), some (.int f), some (.int p), u8, u9, u10, u11, u12, u13] = .ok (.list [.str "openings", .str "openings", .str "openings", .str "openings"]) := by
    rw [eComp_all (fun j : Nat => PyData.int (j : Int)) (fun _ => PyData.str "openings") (List.range 4) (by simp -implicitDefEqProofs only [zA, zO, zN, xO, zY, yQ, yV, xF, wS, xE, yO, yI, xC, wW, yT, yN, xV, wV, xY, zG, xK, xP, xT, xM, xG, xA, wU, xI, yB, eV0, eVs, xN, xQ, xW, xS, yH, xX, xZ, wZ, xB, zF, yY, xU, yW, wR, zB, yR, yC, yA, xH, wY, xD, zJ, wT, yD, zH, zD, zE, yK, zL, zP, zK, xR, xL, zI, xJ, yG, zC, yZ, yM, yP, yS, yJ, yX, yU, yL, wJ, wP, wH, wI, wL, wN, wO, wK, wM, Res.bind_ok, Res.bind_no, Res.bind_ex, Res.lft_some, Res.lft_none, Option.map_some, Option.bind_some, List.set_cons_zero, List.set_cons_succ, List.length_cons, List.length_nil, if_true, if_false, Bool.false_eq_true, ite_true, ite_false, Bool.not_true, Bool.not_false, r4]) (by decide) fun j hj => by
      show eF F_l_asked _ [some (.int (j : Int)), some (tI xs), some (tI ds), some (tI bad), some (.int p), some (.int f)] = _
      simp -implicitDefEqProofs only [zA, zO, zN, xO, zY, yQ, yV, xF, wS, xE, yO, yI, xC, wW, yT, yN, xV, wV, xY, zG, xK, xP, xT, xM, xG, xA, wU, xI, yB, eV0, eVs, xN, xQ, xW, xS, yH, xX, xZ, wZ, xB, zF, yY, xU, yW, wR, zB, yR, yC, yA, xH, wY, xD, zJ, wT, yD, zH, zD, zE, yK, zL, zP, zK, xR, xL, zI, xJ, yG, zC, yZ, yM, yP, yS, yJ, yX, yU, yL, wJ, wP, wH, wI, wL, wN, wO, wK, wM, Res.bind_ok, Res.bind_no, Res.bind_ex, Res.lft_some, Res.lft_none, Option.map_some, Option.bind_some, List.set_cons_zero, List.set_cons_succ, List.length_cons, List.length_nil, if_true, if_false, Bool.false_eq_true, ite_true, ite_false, Bool.not_true, Bool.not_false, mkT4, ways_open (k := -1 - f) (N := -1) (List.mem_range.mp hj) o o' h1 h2 hb (by bv_omega)]]
    rfl
  have ro : repL (.list [.str "openings"]) (.int 4) = some (.list [.str "openings", .str "openings", .str "openings", .str "openings"]) := repL_one (.str "openings") 4 (by decide)
  have n1 : neD (.list [.str "openings", .str "openings", .str "openings", .str "openings"]) (.list [.str "openings", .str "openings", .str "openings", .str "openings"]) = some false := by decide +kernel
  unfold riO
  simp -implicitDefEqProofs only [zA, zO, zN, xO, zY, yQ, yV, xF, wS, xE, yO, yI, xC, wW, yT, yN, xV, wV, xY, zG, xK, xP, xT, xM, xG, xA, wU, xI, yB, eV0, eVs, xN, xQ, xW, xS, yH, xX, xZ, wZ, xB, zF, yY, xU, yW, wR, zB, yR, yC, yA, xH, wY, xD, zJ, wT, yD, zH, zD, zE, yK, zL, zP, zK, xR, xL, zI, xJ, yG, zC, yZ, yM, yP, yS, yJ, yX, yU, yL, wJ, wP, wH, wI, wL, wN, wO, wK, wM, Res.bind_ok, Res.bind_no, Res.bind_ex, Res.lft_some, Res.lft_none, Option.map_some, Option.bind_some, List.set_cons_zero, List.set_cons_succ, List.length_cons, List.length_nil, if_true, if_false, Bool.false_eq_true, ite_true, ite_false, Bool.not_true, Bool.not_false, cc, ro, n1]
theorem riM_ok {n : Nat} {xs ds ops : List Int} (o : Ord n xs) (o' : Ord n ds) (q : Opn n ops) (h1 : 1 ≤ n) (h2 : n ≤ 60) {p N : Int} (hp : ¬ (0 ≤ p ∧ p < (n : Int))) (hN : ¬ (0 ≤ N ∧ N < ((gn n n : Nat) : Int))) {u2 u3 u4 u5 u6 u7 u8 u9 u10 u12 u13 : Option D} : riM [some (tI xs), some (tI ds), u2, u3, u4, u5, u6, u7, u8, u9, u10, some (.tuple [tI ops, .int p, .int (n : Int), .int N]), u12, u13] = .ok (.nx [some (tI xs), some (tI ds), u2, u3, u4, u5, u6, u7, u8, u9, u10, some (.tuple [tI ops, .int p, .int (n : Int), .int N]), u12, u13]) := by
  have cc : eComp (iR rng1 (aC (eC (.int 4)) aN)) tYes (eF F_l_asked (aC (eV 0) (aC (eV 1) (aC (eV 2) (aC (eV 3) aN))))) [0, 1, 11] [some (tI xs), some (tI ds), u2, u3, u4, u5, u6, u7, u8, u9, u10, some (.tuple [tI ops, .int p, .int (n : Int), .int N]), u12, u13] = .ok (.list [.str "person", .str "none", .str "none", .str "number"]) := by
    rw [eComp_all (fun j : Nat => PyData.int (j : Int)) (fun j : Nat => PyData.str (if j = 0 then "person" else if j = 3 then "number" else "none")) (List.range 4) (by simp -implicitDefEqProofs only [zA, zO, zN, xO, zY, yQ, yV, xF, wS, xE, yO, yI, xC, wW, yT, yN, xV, wV, xY, zG, xK, xP, xT, xM, xG, xA, wU, xI, yB, eV0, eVs, xN, xQ, xW, xS, yH, xX, xZ, wZ, xB, zF, yY, xU, yW, wR, zB, yR, yC, yA, xH, wY, xD, zJ, wT, yD, zH, zD, zE, yK, zL, zP, zK, xR, xL, zI, xJ, yG, zC, yZ, yM, yP, yS, yJ, yX, yU, yL, wJ, wP, wH, wI, wL, wN, wO, wK, wM, Res.bind_ok, Res.bind_no, Res.bind_ex, Res.lft_some, Res.lft_none, Option.map_some, Option.bind_some, List.set_cons_zero, List.set_cons_succ, List.length_cons, List.length_nil, if_true, if_false, Bool.false_eq_true, ite_true, ite_false, Bool.not_true, Bool.not_false, r4]) (by decide) fun j hj => by
      show eF F_l_asked _ [some (.int (j : Int)), some (tI xs), some (tI ds), some (.tuple [tI ops, .int p, .int (n : Int), .int N])] = _
      simp -implicitDefEqProofs only [zA, zO, zN, xO, zY, yQ, yV, xF, wS, xE, yO, yI, xC, wW, yT, yN, xV, wV, xY, zG, xK, xP, xT, xM, xG, xA, wU, xI, yB, eV0, eVs, xN, xQ, xW, xS, yH, xX, xZ, wZ, xB, zF, yY, xU, yW, wR, zB, yR, yC, yA, xH, wY, xD, zJ, wT, yD, zH, zD, zE, yK, zL, zP, zK, xR, xL, zI, xJ, yG, zC, yZ, yM, yP, yS, yJ, yX, yU, yL, wJ, wP, wH, wI, wL, wN, wO, wK, wM, Res.bind_ok, Res.bind_no, Res.bind_ex, Res.lft_some, Res.lft_none, Option.map_some, Option.bind_some, List.set_cons_zero, List.set_cons_succ, List.length_cons, List.length_nil, if_true, if_false, Bool.false_eq_true, ite_true, ite_false, Bool.not_true, Bool.not_false, ways_last (List.mem_range.mp hj) o o' q h1 h2 hp hN]]
    rfl
  have n1 : neD (.list [.str "person", .str "none", .str "none", .str "number"]) (.list [.str "person", .str "none", .str "none", .str "number"]) = some false := by decide +kernel
  unfold riM
  simp -implicitDefEqProofs only [zA, zO, zN, xO, zY, yQ, yV, xF, wS, xE, yO, yI, xC, wW, yT, yN, xV, wV, xY, zG, xK, xP, xT, xM, xG, xA, wU, xI, yB, eV0, eVs, xN, xQ, xW, xS, yH, xX, xZ, wZ, xB, zF, yY, xU, yW, wR, zB, yR, yC, yA, xH, wY, xD, zJ, wT, yD, zH, zD, zE, yK, zL, zP, zK, xR, xL, zI, xJ, yG, zC, yZ, yM, yP, yS, yJ, yX, yU, yL, wJ, wP, wH, wI, wL, wN, wO, wK, wM, Res.bind_ok, Res.bind_no, Res.bind_ex, Res.lft_some, Res.lft_none, Option.map_some, Option.bind_some, List.set_cons_zero, List.set_cons_succ, List.length_cons, List.length_nil, if_true, if_false, Bool.false_eq_true, ite_true, ite_false, Bool.not_true, Bool.not_false, cc, n1]
theorem riE_ok {n : Nat} {xs ds : List Int} {d4 : D} (o : Ord n xs) (o' : Ord n ds) (h1 : 1 ≤ n) (h2 : n ≤ 60) {u2 u3 u5 u6 u7 u8 u9 u10 u11 u12 u13 : Option D} : riE [some (tI xs), some (tI ds), u2, u3, some d4, u5, u6, u7, u8, u9, u10, u11, u12, u13] = .ok (.rt (.bool true)) := by
  have oc := cmpO_ord o o'
  have er : F_l_rings [tI (cmpO n xs ds)] = .ok (.list ((rgs n (cmpO n xs ds) n).map fun r => lI (rI' r))) := ringsF_eq oc (by bv_omega)
  have few : (rgs n (cmpO n xs ds) n).length ≤ n := rgs_few n
  have cc : ∀ a12 a13 : Option D, eComp (iS (eV 0)) tYes (e2 ixD (eV 1) (eV 0)) [1] [some (tI xs), some (tI ds), u2, u3, some d4, u5, u6, u7, u8, u9, u10, u11, a12, a13] = .ok (lI (cmpO n xs ds)) := fun a12 a13 => by
    rw [eComp_all (fun b : Nat => PyData.int ((nxt xs b : Nat) : Int)) (fun b : Nat => PyData.int ((nxt ds (nxt xs b) : Nat) : Int)) (List.range n) (by
        simp -implicitDefEqProofs only [zA, zO, zN, xO, zY, yQ, yV, xF, wS, xE, yO, yI, xC, wW, yT, yN, xV, wV, xY, zG, xK, xP, xT, xM, xG, xA, wU, xI, yB, eV0, eVs, xN, xQ, xW, xS, yH, xX, xZ, wZ, xB, zF, yY, xU, yW, wR, zB, yR, yC, yA, xH, wY, xD, zJ, wT, yD, zH, zD, zE, yK, zL, zP, zK, xR, xL, zI, xJ, yG, zC, yZ, yM, yP, yS, yJ, yX, yU, yL, wJ, wP, wH, wI, wL, wN, wO, wK, wM, Res.bind_ok, Res.bind_no, Res.bind_ex, Res.lft_some, Res.lft_none, Option.map_some, Option.bind_some, List.set_cons_zero, List.set_cons_succ, List.length_cons, List.length_nil, if_true, if_false, Bool.false_eq_true, ite_true, ite_false, Bool.not_true, Bool.not_false]
        congr 1
        rw [show xs.map PyData.int = (ofN n (nxt xs)).map PyData.int by rw [ofN_same o]]
        unfold ofN
        rw [List.map_map]
        rfl) (by rw [List.length_range]; bv_omega) (fun b hb => by
        have hb := List.mem_range.mp hb
        have h2 := o.nxt_lt hb
        show e2 ixD _ _ [some (.int ((nxt xs b : Nat) : Int)), some (tI ds)] = _
        simp -implicitDefEqProofs only [zA, zO, zN, xO, zY, yQ, yV, xF, wS, xE, yO, yI, xC, wW, yT, yN, xV, wV, xY, zG, xK, xP, xT, xM, xG, xA, wU, xI, yB, eV0, eVs, xN, xQ, xW, xS, yH, xX, xZ, wZ, xB, zF, yY, xU, yW, wR, zB, yR, yC, yA, xH, wY, xD, zJ, wT, yD, zH, zD, zE, yK, zL, zP, zK, xR, xL, zI, xJ, yG, zC, yZ, yM, yP, yS, yJ, yX, yU, yL, wJ, wP, wH, wI, wL, wN, wO, wK, wM, Res.bind_ok, Res.bind_no, Res.bind_ex, Res.lft_some, Res.lft_none, Option.map_some, Option.bind_some, List.set_cons_zero, List.set_cons_succ, List.length_cons, List.length_nil, if_true, if_false, Bool.false_eq_true, ite_true, ite_false, Bool.not_true, Bool.not_false, atI_map]
        rw [atI_getD (by rw [o'.len]; exact h2), o'.nxt_int h2]
        rfl)]
    unfold cmpO ofN
    simp only [lI, List.map_map, Function.comp_def]
  have c2 : ∀ a13 : Option D, eComp (iS (eF F_l_rings (aC (eV 12) aN))) tYes (eB lenD (aC (eV 0) aN)) [] [some (tI xs), some (tI ds), u2, u3, some d4, u5, u6, u7, u8, u9, u10, u11, some (tI (cmpO n xs ds)), a13] = .ok (lI ((rgs n (cmpO n xs ds) n).map fun r => ((r.length : Nat) : Int))) := fun a13 => by
    rw [eComp_all (fun r : List Nat => lI (rI' r)) (fun r => PyData.int ((r.length : Nat) : Int)) (rgs n (cmpO n xs ds) n) (by simp -implicitDefEqProofs only [zA, zO, zN, xO, zY, yQ, yV, xF, wS, xE, yO, yI, xC, wW, yT, yN, xV, wV, xY, zG, xK, xP, xT, xM, xG, xA, wU, xI, yB, eV0, eVs, xN, xQ, xW, xS, yH, xX, xZ, wZ, xB, zF, yY, xU, yW, wR, zB, yR, yC, yA, xH, wY, xD, zJ, wT, yD, zH, zD, zE, yK, zL, zP, zK, xR, xL, zI, xJ, yG, zC, yZ, yM, yP, yS, yJ, yX, yU, yL, wJ, wP, wH, wI, wL, wN, wO, wK, wM, Res.bind_ok, Res.bind_no, Res.bind_ex, Res.lft_some, Res.lft_none, Option.map_some, Option.bind_some, List.set_cons_zero, List.set_cons_succ, List.length_cons, List.length_nil, if_true, if_false, Bool.false_eq_true, ite_true, ite_false, Bool.not_true, Bool.not_false, er]) (by bv_omega) fun r _ => by
      have lr : ((rI' r).map PyData.int).length = r.length := by rw [List.length_map, rI_len]
      show eB lenD (aC (eV 0) aN) [some (lI (rI' r))] = _
      simp -implicitDefEqProofs only [zA, zO, zN, xO, zY, yQ, yV, xF, wS, xE, yO, yI, xC, wW, yT, yN, xV, wV, xY, zG, xK, xP, xT, xM, xG, xA, wU, xI, yB, eV0, eVs, xN, xQ, xW, xS, yH, xX, xZ, wZ, xB, zF, yY, xU, yW, wR, zB, yR, yC, yA, xH, wY, xD, zJ, wT, yD, zH, zD, zE, yK, zL, zP, zK, xR, xL, zI, xJ, yG, zC, yZ, yM, yP, yS, yJ, yX, yU, yL, wJ, wP, wH, wI, wL, wN, wO, wK, wM, Res.bind_ok, Res.bind_no, Res.bind_ex, Res.lft_some, Res.lft_none, Option.map_some, Option.bind_some, List.set_cons_zero, List.set_cons_succ, List.length_cons, List.length_nil, if_true, if_false, Bool.false_eq_true, ite_true, ite_false, Bool.not_true, Bool.not_false, lr]]
    rw [lI, List.map_map]
    rfl
  have ne : ((rgs n (cmpO n xs ds) n).map fun r => ((r.length : Nat) : Int)) ≠ [] := fun z => by
    obtain ⟨r, hr, _⟩ := (oc.rgs_ok n (Nat.le_refl n)).cover 0 (by bv_omega)
    rw [List.map_eq_nil_iff] at z
    rw [z] at hr
    cases hr
  have em := max1_lI ne
  obtain ⟨r, hr, e⟩ := List.mem_map.mp (maxL_mem ne)
  have rp : 0 < r.length := by
    obtain ⟨b, hb, rfl, _⟩ := (oc.rgs_ok n (Nat.le_refl n)).each r hr
    rw [ring_length]
    exact (oc.per_spec hb).1
  obtain ⟨k, hk⟩ : ∃ k : Nat, maxL ((rgs n (cmpO n xs ds) n).map fun r => ((r.length : Nat) : Int)) - 1 = (k : Int) := ⟨r.length - 1, by bv_omega⟩
  have wl := way_long (k := k) o o' h2 ⟨r, hr, by bv_omega⟩ d4 (.int 0) (.int 0)
  have n1 : eqD (.str "number") (.str "number") = some true := by decide +kernel
  unfold riE
  simp -implicitDefEqProofs only [zA, zO, zN, xO, zY, yQ, yV, xF, wS, xE, yO, yI, xC, wW, yT, yN, xV, wV, xY, zG, xK, xP, xT, xM, xG, xA, wU, xI, yB, eV0, eVs, xN, xQ, xW, xS, yH, xX, xZ, wZ, xB, zF, yY, xU, yW, wR, zB, yR, yC, yA, xH, wY, xD, zJ, wT, yD, zH, zD, zE, yK, zL, zP, zK, xR, xL, zI, xJ, yG, zC, yZ, yM, yP, yS, yJ, yX, yU, yL, wJ, wP, wH, wI, wL, wN, wO, wK, wM, Res.bind_ok, Res.bind_no, Res.bind_ex, Res.lft_some, Res.lft_none, Option.map_some, Option.bind_some, List.set_cons_zero, List.set_cons_succ, List.length_cons, List.length_nil, if_true, if_false, Bool.false_eq_true, ite_true, ite_false, Bool.not_true, Bool.not_false, cc, c2, em, hk, mkT4, wl, n1]
theorem eq_l_right {n : Nat} {c : Int} {xs ds : List Int} (o : Ord n xs) (o' : Ord n ds) (h1 : 1 ≤ n) (h2 : n ≤ 60) : F_l_right [tI xs, tI ds, .int c] = .ok (.bool true) := by
  show (B_l_right [some (tI xs), some (tI ds), some (.int c), none, none, none, none, none, none, none, none, none, none, none]).bind (fin false) = _
  rw [right_u]
  obtain ⟨P, hP, pw⟩ := p40
  have D7 : DivOk 7 := DivOk.small (by decide) (by decide)
  have D3 : DivOk 3 := DivOk.small (by decide) (by decide)
  have m1 := mulO_ok (i := P) (j := c / 7 % 2) (MulOk.right (by bv_omega) (by bv_omega))
  have f0 : 0 ≤ P * (c / 7 % 2) := Int.mul_nonneg (by bv_omega) (by bv_omega)
  generalize hf : P * (c / 7 % 2) = f at m1 f0
  obtain ⟨bad, hb, eb⟩ := eq_l_bad_openings c h1 h2
  have hl : (xs.map PyData.int).length = n := by rw [List.length_map, o.len]
  have rp : repL (.list [.int (n : Int)]) (.int ((n : Nat) : Int)) = some (lI (List.replicate n (n : Int))) := by
    rw [repL_one _ _ (by bv_omega), lI, List.map_replicate]
  have q : Opn n (List.replicate n (n : Int)) := ⟨by simp, fun x hx => by have := List.eq_of_mem_replicate hx; bv_omega⟩
  obtain ⟨p, hp, ep⟩ : ∃ p : Int, ¬ (0 ≤ p ∧ p < (n : Int)) ∧ atI [PyData.int (-1 - f), PyData.int ((n : Int) + f)] (c / 3 % 2) = some (.int p) := by
    rcases (show c / 3 % 2 = 0 ∨ c / 3 % 2 = 1 by bv_omega) with h | h
    · exact ⟨-1 - f, by bv_omega, by rw [h]; rfl⟩
    · exact ⟨(n : Int) + f, by bv_omega, by rw [h]; rfl⟩
  obtain ⟨N, hN, eN⟩ : ∃ N : Int, ¬ (0 ≤ N ∧ N < ((gn n n : Nat) : Int)) ∧ atI [PyData.int (-1 - f), PyData.int (((gn n n : Nat) : Int) + f)] (c / 3 % 2) = some (.int N) := by
    rcases (show c / 3 % 2 = 0 ∨ c / 3 % 2 = 1 by bv_omega) with h | h
    · exact ⟨-1 - f, by bv_omega, by rw [h]; rfl⟩
    · exact ⟨((gn n n : Nat) : Int) + f, by bv_omega, by rw [h]; rfl⟩
  have mg := eq_many_good (n := n) (k := (n : Int)) h2 (by bv_omega)
  rw [gn_int] at mg
  have cut : cutD (ds.map PyData.int) (some 1) none = (ds.drop 1).map PyData.int := by
    rw [show (1 : Int) = ((1 : Nat) : Int) from rfl, cut_from, List.map_drop]
  have ct : catT (tI ds) (.tuple [.int (n : Int)]) = some (tI (ds ++ [(n : Int)])) := catT_tI (xs := ds) (ys := [(n : Int)]) (by simp; rw [o'.len]; bv_omega)
  have l1 : xs.length ≠ (ds.drop 1).length := by rw [List.length_drop, o.len, o'.len]; bv_omega
  have l2 : xs.length ≠ (ds ++ [(n : Int)]).length := by rw [List.length_append, o.len, o'.len, List.length_singleton]; bv_omega
  have fl : ∃ y, L3.forM (gN 10) riL [PyData.tuple ((ds.drop 1).map PyData.int), tI (ds ++ [(n : Int)])] [some (tI xs), some (tI ds), some (.int c), some (.int (n : Int)), some (.tuple ((List.replicate n (n : Int)).map PyData.int)), some (tI bad), some (.int f), some (.int p), some (.int N), some (.list [PyData.tuple ((ds.drop 1).map PyData.int), tI (ds ++ [(n : Int)])]), none, none, none, none] = .ok (.nx [some (tI xs), some (tI ds), some (.int c), some (.int (n : Int)), some (.tuple ((List.replicate n (n : Int)).map PyData.int)), some (tI bad), some (.int f), some (.int p), some (.int N), some (.list [PyData.tuple ((ds.drop 1).map PyData.int), tI (ds ++ [(n : Int)])]), y, none, none, none]) := by
    obtain ⟨ρ', e, y, rfl⟩ := forM_ok (g := gN 10) (b := riL) (fun _ ρ => ∃ y, ρ = [some (tI xs), some (tI ds), some (.int c), some (.int (n : Int)), some (.tuple ((List.replicate n (n : Int)).map PyData.int)), some (tI bad), some (.int f), some (.int p), some (.int N), some (.list [PyData.tuple ((ds.drop 1).map PyData.int), tI (ds ++ [(n : Int)])]), y, none, none, none]) [PyData.tuple ((ds.drop 1).map PyData.int), tI (ds ++ [(n : Int)])] [some (tI xs), some (tI ds), some (.int c), some (.int (n : Int)), some (.tuple ((List.replicate n (n : Int)).map PyData.int)), some (tI bad), some (.int f), some (.int p), some (.int N), some (.list [PyData.tuple ((ds.drop 1).map PyData.int), tI (ds ++ [(n : Int)])]), none, none, none, none] ⟨none, rfl⟩ (by
      rintro j d ρ hd ⟨y, rfl⟩
      obtain ⟨ys, hy, rfl⟩ : ∃ ys : List Int, xs.length ≠ ys.length ∧ d = tI ys := by
        have := List.mem_of_getElem? hd
        simp only [List.mem_cons, List.not_mem_nil, or_false] at this
        rcases this with rfl | rfl
        · exact ⟨_, l1, rfl⟩
        · exact ⟨_, l2, rfl⟩
      exact ⟨_, _, rfl, riL_ok hy, some (tI ys), rfl⟩)
    exact ⟨y, e⟩
  obtain ⟨y, fl⟩ := fl
  have eO := riO_ok (p := p) (f := f) o o' h1 h2 hb f0 (u2 := some (.int c)) (u3 := some (.int (n : Int))) (u4 := some (.tuple ((List.replicate n (n : Int)).map PyData.int))) (u8 := some (.int N)) (u9 := some (.list [PyData.tuple ((ds.drop 1).map PyData.int), tI (ds ++ [(n : Int)])])) (u10 := y) (u11 := none) (u12 := none) (u13 := none)
  have eM := riM_ok o o' q h1 h2 hp hN (u2 := some (.int c)) (u3 := some (.int (n : Int))) (u4 := some (.tuple ((List.replicate n (n : Int)).map PyData.int))) (u5 := some (tI bad)) (u6 := some (.int f)) (u7 := some (.int p)) (u8 := some (.int N)) (u9 := some (.list [PyData.tuple ((ds.drop 1).map PyData.int), tI (ds ++ [(n : Int)])])) (u10 := y) (u12 := none) (u13 := none)
  have eE := riE_ok (d4 := .tuple ((List.replicate n (n : Int)).map PyData.int)) o o' h1 h2 (u2 := some (.int c)) (u3 := some (.int (n : Int))) (u5 := some (tI bad)) (u6 := some (.int f)) (u7 := some (.int p)) (u8 := some (.int N)) (u9 := some (.list [PyData.tuple ((ds.drop 1).map PyData.int), tI (ds ++ [(n : Int)])])) (u10 := y) (u11 := some (.tuple [tI (List.replicate n (n : Int)), .int p, .int (n : Int), .int N])) (u12 := none) (u13 := none)
  have eM' : riM _ = .ok (.nx _) := eM
  simp -implicitDefEqProofs only [zA, zO, zN, xO, zY, yQ, yV, xF, wS, xE, yO, yI, xC, wW, yT, yN, xV, wV, xY, zG, xK, xP, xT, xM, xG, xA, wU, xI, yB, eV0, eVs, xN, xQ, xW, xS, yH, xX, xZ, wZ, xB, zF, yY, xU, yW, wR, zB, yR, yC, yA, xH, wY, xD, zJ, wT, yD, zH, zD, zE, yK, zL, zP, zK, xR, xL, zI, xJ, yG, zC, yZ, yM, yP, yS, yJ, yX, yU, yL, wJ, wP, wH, wI, wL, wN, wO, wK, wM, Res.bind_ok, Res.bind_no, Res.bind_ex, Res.lft_some, Res.lft_none, Option.map_some, Option.bind_some, List.set_cons_zero, List.set_cons_succ, List.length_cons, List.length_nil, if_true, if_false, Bool.false_eq_true, ite_true, ite_false, Bool.not_true, Bool.not_false, hl, rp, eb, pw, modO, fdivO, if_pos D7, if_pos D3, if_pos (show (0 : Int) < 2 by decide), m1, ep, mg, eN, cut, ct, fl, eO, mkT4]
  rw [eM, Res.bind_ok]
  simp only
  rw [eE]
  rfl
theorem law_true (ns : List Int) (h : ns.length ≤ 63) : F_law [.list (ns.map PyData.int)] = .ok (.bool true) := by
  show (B_law [some (lI ns), none, none]).bind (fin false) = _
  unfold B_law
  have c2 : catL (.list [.int 0]) (lI ns) = _ := catL_lI (xs := [0]) (ys := ns) (by simp; bv_omega)
  have c2' : catL (.list [.int 0]) (.list (ns.map PyData.int)) = _ := c2
  simp -implicitDefEqProofs only [zA, zO, zN, xO, zY, yQ, yV, xF, wS, xE, yO, yI, xC, wW, yT, yN, xV, wV, xY, zG, xK, xP, xT, xM, xG, xA, wU, xI, yB, eV0, eVs, xN, xQ, xW, xS, yH, xX, xZ, wZ, xB, zF, yY, xU, yW, wR, zB, yR, yC, yA, xH, wY, xD, zJ, wT, yD, zH, zD, zE, yK, zL, zP, zK, xR, xL, zI, xJ, yG, zC, yZ, yM, yP, yS, yJ, yX, yU, yL, wJ, wP, wH, wI, wL, wN, wO, wK, wM, Res.bind_ok, Res.bind_no, Res.bind_ex, Res.lft_some, Res.lft_none, Option.map_some, Option.bind_some, List.set_cons_zero, List.set_cons_succ, List.length_cons, List.length_nil, if_true, if_false, Bool.false_eq_true, ite_true, ite_false, Bool.not_true, Bool.not_false, c2']
  refine forM_b2 (fun i ρ => ∃ a b, ρ = [some (lI ns), a, b]) ⟨none, none, rfl⟩ ?_ ?_
  · rintro i d ρ hd ⟨x, y, rfl⟩
    rw [List.getElem?_map] at hd
    obtain ⟨c, _, rfl⟩ := Option.map_eq_some_iff.mp hd
    obtain ⟨c', hc'⟩ : ∃ c' : Nat, (if c < 0 then -c else c) = (c' : Int) := ⟨(if c < 0 then -c else c).toNat, by split <;> bv_omega⟩
    have ab : absD [.int c] = some (.int (c' : Int)) := by rw [← hc']; rfl
    obtain ⟨n, hn⟩ : ∃ n : Nat, 1 + (c' : Int) % 30 = (n : Int) := ⟨(1 + (c' : Int) % 30).toNat, by bv_omega⟩
    have r1 := eq_l_order ((c' : Int) / 30) n (by bv_omega)
    have r2 := eq_l_order ((c' : Int) / 77) n (by bv_omega)
    have o1 := lawOrd_ord ((c' : Int) / 30) n
    have o2 := lawOrd_ord ((c' : Int) / 77) n
    refine ⟨_, [some (lI ns), some (.int (c' : Int)), some (.int (n : Int))], rfl, ?_, _, _, rfl⟩
    simp -implicitDefEqProofs only [zA, zO, zN, xO, zY, yQ, yV, xF, wS, xE, yO, yI, xC, wW, yT, yN, xV, wV, xY, zG, xK, xP, xT, xM, xG, xA, wU, xI, yB, eV0, eVs, xN, xQ, xW, xS, yH, xX, xZ, wZ, xB, zF, yY, xU, yW, wR, zB, yR, yC, yA, xH, wY, xD, zJ, wT, yD, zH, zD, zE, yK, zL, zP, zK, xR, xL, zI, xJ, yG, zC, yZ, yM, yP, yS, yJ, yX, yU, yL, wJ, wP, wH, wI, wL, wN, wO, wK, wM, Res.bind_ok, Res.bind_no, Res.bind_ex, Res.lft_some, Res.lft_none, Option.map_some, Option.bind_some, List.set_cons_zero, List.set_cons_succ, List.length_cons, List.length_nil, if_true, if_false, Bool.false_eq_true, ite_true, ite_false, Bool.not_true, Bool.not_false, ab, modO, fdivO, if_pos (show (0 : Int) < 30 by decide), if_pos (DivOk.small (show (0 : Int) < 30 by decide) (by decide)), if_pos (DivOk.small (show (0 : Int) < 77 by decide) (by decide)), hn, r1, r2, eq_l_right (c := (c' : Int) / 30) o1 o2 (show 1 ≤ n by bv_omega) (show n ≤ 60 by bv_omega)]
  · rintro ρ ⟨a, b, rfl⟩
    simp -implicitDefEqProofs only [zA, zO, zN, xO, zY, yQ, yV, xF, wS, xE, yO, yI, xC, wW, yT, yN, xV, wV, xY, zG, xK, xP, xT, xM, xG, xA, wU, xI, yB, eV0, eVs, xN, xQ, xW, xS, yH, xX, xZ, wZ, xB, zF, yY, xU, yW, wR, zB, yR, yC, yA, xH, wY, xD, zJ, wT, yD, zH, zD, zE, yK, zL, zP, zK, xR, xL, zI, xJ, yG, zC, yZ, yM, yP, yS, yJ, yX, yU, yL, wJ, wP, wH, wI, wL, wN, wO, wK, wM, Res.bind_ok, Res.bind_no, Res.bind_ex, Res.lft_some, Res.lft_none, Option.map_some, Option.bind_some, List.set_cons_zero, List.set_cons_succ, List.length_cons, List.length_nil, if_true, if_false, Bool.false_eq_true, ite_true, ite_false, Bool.not_true, Bool.not_false]
end K42
def PySem.W.Fast.tw11834475342693273851 : PySem.Program := PySem.Challenge.pw_ownboxes_k42_dealings_refused
theorem PySem.W.Fast.te11834475342693273851 : PySem.Challenge.pw_ownboxes_k42_dealings_refused = PySem.W.Fast.tw11834475342693273851 := rfl
def PySem.W.Fast.tw13287390294584979244 : Unit := ()
def PySem.W.Fast.tw17081995681938919209 : Unit := ()
def PySem.W.Fast.tw4130770849381141209 : Unit := ()
open PySem PySem.W PyProof.Rows
theorem K42.big_mk {K : PySem.W.Frag} {vZ wE zW zT wC wD wQ wA zU zS zQ : PySem.Addr} (n_BadBox : PySem.W.nsIn K PySem.mainGlobals "BadBox" = some (some (.ref vZ))) (n_BadGroup : PySem.W.nsIn K PySem.mainGlobals "BadGroup" = some (some (.ref wE))) (n_BadOpenings : PySem.W.nsIn K PySem.mainGlobals "BadOpenings" = some (some (.ref zW))) (n_BadOrder : PySem.W.nsIn K PySem.mainGlobals "BadOrder" = some (some (.ref zT))) (n_BadPlan : PySem.W.nsIn K PySem.mainGlobals "BadPlan" = some (some (.ref wC))) (n_BadText : PySem.W.nsIn K PySem.mainGlobals "BadText" = some (some (.ref wD))) (n_BoxError : PySem.W.nsIn K PySem.mainGlobals "BoxError" = some (some (.ref wQ))) (n_NoHelp : PySem.W.nsIn K PySem.mainGlobals "NoHelp" = some (some (.ref wA))) (n_NoNumber : PySem.W.nsIn K PySem.mainGlobals "NoNumber" = some (some (.ref zU))) (n_NoPerson : PySem.W.nsIn K PySem.mainGlobals "NoPerson" = some (some (.ref zS))) (n_TooMany : PySem.W.nsIn K PySem.mainGlobals "TooMany" = some (some (.ref zQ))) (o_BadOrder : PySem.W.excIn K zT L2.L3.bmV "ValueError.__new__" = true) (g1_BadOrder : PySem.W.findIn K (.ref zT) "__getattribute__" = some (some (.builtin "BaseException.__getattribute__"))) (g2_BadOrder : PySem.W.findIn K (.ref zT) "__getattr__" = some none) (g3_BadOrder : PySem.W.findIn K (.ref zT) "__class__" = some (some (.builtin "object.__class__"))) (g4_BadOrder : PySem.W.kitOne K (.ref zT) (.type "BaseException") = some true) (g5_BadOrder : PySem.W.kitOne K (.ref zT) (.type "object") = some true) (g6_BadOrder : (PySem.W.clsIn K zT).isSome = true) (o_BadOpenings : PySem.W.excIn K zW L2.L3.bmV "ValueError.__new__" = true) (g1_BadOpenings : PySem.W.findIn K (.ref zW) "__getattribute__" = some (some (.builtin "BaseException.__getattribute__"))) (g2_BadOpenings : PySem.W.findIn K (.ref zW) "__getattr__" = some none) (g3_BadOpenings : PySem.W.findIn K (.ref zW) "__class__" = some (some (.builtin "object.__class__"))) (g4_BadOpenings : PySem.W.kitOne K (.ref zW) (.type "BaseException") = some true) (g5_BadOpenings : PySem.W.kitOne K (.ref zW) (.type "object") = some true) (g6_BadOpenings : (PySem.W.clsIn K zW).isSome = true) (o_NoPerson : PySem.W.excIn K zS L2.L3.bmV "ValueError.__new__" = true) (g1_NoPerson : PySem.W.findIn K (.ref zS) "__getattribute__" = some (some (.builtin "BaseException.__getattribute__"))) (g2_NoPerson : PySem.W.findIn K (.ref zS) "__getattr__" = some none) (g3_NoPerson : PySem.W.findIn K (.ref zS) "__class__" = some (some (.builtin "object.__class__"))) (g4_NoPerson : PySem.W.kitOne K (.ref zS) (.type "BaseException") = some true) (g5_NoPerson : PySem.W.kitOne K (.ref zS) (.type "object") = some true) (g6_NoPerson : (PySem.W.clsIn K zS).isSome = true) (o_TooMany : PySem.W.excIn K zQ L2.L3.bmV "ValueError.__new__" = true) (g1_TooMany : PySem.W.findIn K (.ref zQ) "__getattribute__" = some (some (.builtin "BaseException.__getattribute__"))) (g2_TooMany : PySem.W.findIn K (.ref zQ) "__getattr__" = some none) (g3_TooMany : PySem.W.findIn K (.ref zQ) "__class__" = some (some (.builtin "object.__class__"))) (g4_TooMany : PySem.W.kitOne K (.ref zQ) (.type "BaseException") = some true) (g5_TooMany : PySem.W.kitOne K (.ref zQ) (.type "object") = some true) (g6_TooMany : (PySem.W.clsIn K zQ).isSome = true) (o_NoNumber : PySem.W.excIn K zU L2.L3.bmV "ValueError.__new__" = true) (g1_NoNumber : PySem.W.findIn K (.ref zU) "__getattribute__" = some (some (.builtin "BaseException.__getattribute__"))) (g2_NoNumber : PySem.W.findIn K (.ref zU) "__getattr__" = some none) (g3_NoNumber : PySem.W.findIn K (.ref zU) "__class__" = some (some (.builtin "object.__class__"))) (g4_NoNumber : PySem.W.kitOne K (.ref zU) (.type "BaseException") = some true) (g5_NoNumber : PySem.W.kitOne K (.ref zU) (.type "object") = some true) (g6_NoNumber : (PySem.W.clsIn K zU).isSome = true) (z_BadBox : PySem.W.kitOne K (.type "NoneType") (.ref vZ) = some false) (t_BadOrder_BadBox : PySem.W.kitOne K (.ref zT) (.ref vZ) = some false) (t_BadOpenings_BadBox : PySem.W.kitOne K (.ref zW) (.ref vZ) = some false) (t_NoPerson_BadBox : PySem.W.kitOne K (.ref zS) (.ref vZ) = some false) (t_TooMany_BadBox : PySem.W.kitOne K (.ref zQ) (.ref vZ) = some false) (t_NoNumber_BadBox : PySem.W.kitOne K (.ref zU) (.ref vZ) = some false) (z_BadGroup : PySem.W.kitOne K (.type "NoneType") (.ref wE) = some false) (t_BadOrder_BadGroup : PySem.W.kitOne K (.ref zT) (.ref wE) = some false) (t_BadOpenings_BadGroup : PySem.W.kitOne K (.ref zW) (.ref wE) = some false) (t_NoPerson_BadGroup : PySem.W.kitOne K (.ref zS) (.ref wE) = some false) (t_TooMany_BadGroup : PySem.W.kitOne K (.ref zQ) (.ref wE) = some false) (t_NoNumber_BadGroup : PySem.W.kitOne K (.ref zU) (.ref wE) = some false) (z_BadOpenings : PySem.W.kitOne K (.type "NoneType") (.ref zW) = some false) (t_BadOrder_BadOpenings : PySem.W.kitOne K (.ref zT) (.ref zW) = some false) (t_BadOpenings_BadOpenings : PySem.W.kitOne K (.ref zW) (.ref zW) = some true) (t_NoPerson_BadOpenings : PySem.W.kitOne K (.ref zS) (.ref zW) = some false) (t_TooMany_BadOpenings : PySem.W.kitOne K (.ref zQ) (.ref zW) = some false) (t_NoNumber_BadOpenings : PySem.W.kitOne K (.ref zU) (.ref zW) = some false) (z_BadOrder : PySem.W.kitOne K (.type "NoneType") (.ref zT) = some false) (t_BadOrder_BadOrder : PySem.W.kitOne K (.ref zT) (.ref zT) = some true) (t_BadOpenings_BadOrder : PySem.W.kitOne K (.ref zW) (.ref zT) = some false) (t_NoPerson_BadOrder : PySem.W.kitOne K (.ref zS) (.ref zT) = some false) (t_TooMany_BadOrder : PySem.W.kitOne K (.ref zQ) (.ref zT) = some false) (t_NoNumber_BadOrder : PySem.W.kitOne K (.ref zU) (.ref zT) = some false) (z_BadPlan : PySem.W.kitOne K (.type "NoneType") (.ref wC) = some false) (t_BadOrder_BadPlan : PySem.W.kitOne K (.ref zT) (.ref wC) = some false) (t_BadOpenings_BadPlan : PySem.W.kitOne K (.ref zW) (.ref wC) = some false) (t_NoPerson_BadPlan : PySem.W.kitOne K (.ref zS) (.ref wC) = some false) (t_TooMany_BadPlan : PySem.W.kitOne K (.ref zQ) (.ref wC) = some false) (t_NoNumber_BadPlan : PySem.W.kitOne K (.ref zU) (.ref wC) = some false) (z_BadText : PySem.W.kitOne K (.type "NoneType") (.ref wD) = some false) (t_BadOrder_BadText : PySem.W.kitOne K (.ref zT) (.ref wD) = some false) (t_BadOpenings_BadText : PySem.W.kitOne K (.ref zW) (.ref wD) = some false) (t_NoPerson_BadText : PySem.W.kitOne K (.ref zS) (.ref wD) = some false) (t_TooMany_BadText : PySem.W.kitOne K (.ref zQ) (.ref wD) = some false) (t_NoNumber_BadText : PySem.W.kitOne K (.ref zU) (.ref wD) = some false) (z_NoHelp : PySem.W.kitOne K (.type "NoneType") (.ref wA) = some false) (t_BadOrder_NoHelp : PySem.W.kitOne K (.ref zT) (.ref wA) = some false) (t_BadOpenings_NoHelp : PySem.W.kitOne K (.ref zW) (.ref wA) = some false) (t_NoPerson_NoHelp : PySem.W.kitOne K (.ref zS) (.ref wA) = some false) (t_TooMany_NoHelp : PySem.W.kitOne K (.ref zQ) (.ref wA) = some false) (t_NoNumber_NoHelp : PySem.W.kitOne K (.ref zU) (.ref wA) = some false) (z_NoNumber : PySem.W.kitOne K (.type "NoneType") (.ref zU) = some false) (t_BadOrder_NoNumber : PySem.W.kitOne K (.ref zT) (.ref zU) = some false) (t_BadOpenings_NoNumber : PySem.W.kitOne K (.ref zW) (.ref zU) = some false) (t_NoPerson_NoNumber : PySem.W.kitOne K (.ref zS) (.ref zU) = some false) (t_TooMany_NoNumber : PySem.W.kitOne K (.ref zQ) (.ref zU) = some false) (t_NoNumber_NoNumber : PySem.W.kitOne K (.ref zU) (.ref zU) = some true) (z_NoPerson : PySem.W.kitOne K (.type "NoneType") (.ref zS) = some false) (t_BadOrder_NoPerson : PySem.W.kitOne K (.ref zT) (.ref zS) = some false) (t_BadOpenings_NoPerson : PySem.W.kitOne K (.ref zW) (.ref zS) = some false) (t_NoPerson_NoPerson : PySem.W.kitOne K (.ref zS) (.ref zS) = some true) (t_TooMany_NoPerson : PySem.W.kitOne K (.ref zQ) (.ref zS) = some false) (t_NoNumber_NoPerson : PySem.W.kitOne K (.ref zU) (.ref zS) = some false) (z_TooMany : PySem.W.kitOne K (.type "NoneType") (.ref zQ) = some false) (t_BadOrder_TooMany : PySem.W.kitOne K (.ref zT) (.ref zQ) = some false) (t_BadOpenings_TooMany : PySem.W.kitOne K (.ref zW) (.ref zQ) = some false) (t_NoPerson_TooMany : PySem.W.kitOne K (.ref zS) (.ref zQ) = some false) (t_TooMany_TooMany : PySem.W.kitOne K (.ref zQ) (.ref zQ) = some true) (t_NoNumber_TooMany : PySem.W.kitOne K (.ref zU) (.ref zQ) = some false) (z_ValueError : PySem.W.kitOne K (.type "NoneType") (.type "ValueError") = some false) (t_BadOrder_ValueError : PySem.W.kitOne K (.ref zT) (.type "ValueError") = some true) (t_BadOpenings_ValueError : PySem.W.kitOne K (.ref zW) (.type "ValueError") = some true) (t_NoPerson_ValueError : PySem.W.kitOne K (.ref zS) (.type "ValueError") = some true) (t_TooMany_ValueError : PySem.W.kitOne K (.ref zQ) (.type "ValueError") = some true) (t_NoNumber_ValueError : PySem.W.kitOne K (.ref zU) (.type "ValueError") = some true) (b_BoxError : PySem.W.kitOne K (.ref wQ) (.type "BaseException") = some true) (c_BadOrder_BoxError : PySem.W.kitOne K (.ref zT) (.ref wQ) = some true) (d_BadOrder_BoxError : (PySem.Value.ref zT == PySem.Value.ref wQ) = false) (c_BadOpenings_BoxError : PySem.W.kitOne K (.ref zW) (.ref wQ) = some true) (d_BadOpenings_BoxError : (PySem.Value.ref zW == PySem.Value.ref wQ) = false) (c_NoPerson_BoxError : PySem.W.kitOne K (.ref zS) (.ref wQ) = some true) (d_NoPerson_BoxError : (PySem.Value.ref zS == PySem.Value.ref wQ) = false) (c_TooMany_BoxError : PySem.W.kitOne K (.ref zQ) (.ref wQ) = some true) (d_TooMany_BoxError : (PySem.Value.ref zQ == PySem.Value.ref wQ) = false) (c_NoNumber_BoxError : PySem.W.kitOne K (.ref zU) (.ref wQ) = some true) (d_NoNumber_BoxError : (PySem.Value.ref zU == PySem.Value.ref wQ) = false) : ∃ vZ wE zW zT wC wD wQ wA zU zS zQ : PySem.Addr, (PySem.W.nsIn K PySem.mainGlobals "BadBox" = some (some (.ref vZ))) ∧ (PySem.W.nsIn K PySem.mainGlobals "BadGroup" = some (some (.ref wE))) ∧ (PySem.W.nsIn K PySem.mainGlobals "BadOpenings" = some (some (.ref zW))) ∧ (PySem.W.nsIn K PySem.mainGlobals "BadOrder" = some (some (.ref zT))) ∧ (PySem.W.nsIn K PySem.mainGlobals "BadPlan" = some (some (.ref wC))) ∧ (PySem.W.nsIn K PySem.mainGlobals "BadText" = some (some (.ref wD))) ∧ (PySem.W.nsIn K PySem.mainGlobals "BoxError" = some (some (.ref wQ))) ∧ (PySem.W.nsIn K PySem.mainGlobals "NoHelp" = some (some (.ref wA))) ∧ (PySem.W.nsIn K PySem.mainGlobals "NoNumber" = some (some (.ref zU))) ∧ (PySem.W.nsIn K PySem.mainGlobals "NoPerson" = some (some (.ref zS))) ∧ (PySem.W.nsIn K PySem.mainGlobals "TooMany" = some (some (.ref zQ))) ∧ (PySem.W.excIn K zT L2.L3.bmV "ValueError.__new__" = true) ∧ (PySem.W.findIn K (.ref zT) "__getattribute__" = some (some (.builtin "BaseException.__getattribute__"))) ∧ (PySem.W.findIn K (.ref zT) "__getattr__" = some none) ∧ (PySem.W.findIn K (.ref zT) "__class__" = some (some (.builtin "object.__class__"))) ∧ (PySem.W.kitOne K (.ref zT) (.type "BaseException") = some true) ∧ (PySem.W.kitOne K (.ref zT) (.type "object") = some true) ∧ ((PySem.W.clsIn K zT).isSome = true) ∧ (PySem.W.excIn K zW L2.L3.bmV "ValueError.__new__" = true) ∧ (PySem.W.findIn K (.ref zW) "__getattribute__" = some (some (.builtin "BaseException.__getattribute__"))) ∧ (PySem.W.findIn K (.ref zW) "__getattr__" = some none) ∧ (PySem.W.findIn K (.ref zW) "__class__" = some (some (.builtin "object.__class__"))) ∧ (PySem.W.kitOne K (.ref zW) (.type "BaseException") = some true) ∧ (PySem.W.kitOne K (.ref zW) (.type "object") = some true) ∧ ((PySem.W.clsIn K zW).isSome = true) ∧ (PySem.W.excIn K zS L2.L3.bmV "ValueError.__new__" = true) ∧ (PySem.W.findIn K (.ref zS) "__getattribute__" = some (some (.builtin "BaseException.__getattribute__"))) ∧ (PySem.W.findIn K (.ref zS) "__getattr__" = some none) ∧ (PySem.W.findIn K (.ref zS) "__class__" = some (some (.builtin "object.__class__"))) ∧ (PySem.W.kitOne K (.ref zS) (.type "BaseException") = some true) ∧ (PySem.W.kitOne K (.ref zS) (.type "object") = some true) ∧ ((PySem.W.clsIn K zS).isSome = true) ∧ (PySem.W.excIn K zQ L2.L3.bmV "ValueError.__new__" = true) ∧ (PySem.W.findIn K (.ref zQ) "__getattribute__" = some (some (.builtin "BaseException.__getattribute__"))) ∧ (PySem.W.findIn K (.ref zQ) "__getattr__" = some none) ∧ (PySem.W.findIn K (.ref zQ) "__class__" = some (some (.builtin "object.__class__"))) ∧ (PySem.W.kitOne K (.ref zQ) (.type "BaseException") = some true) ∧ (PySem.W.kitOne K (.ref zQ) (.type "object") = some true) ∧ ((PySem.W.clsIn K zQ).isSome = true) ∧ (PySem.W.excIn K zU L2.L3.bmV "ValueError.__new__" = true) ∧ (PySem.W.findIn K (.ref zU) "__getattribute__" = some (some (.builtin "BaseException.__getattribute__"))) ∧ (PySem.W.findIn K (.ref zU) "__getattr__" = some none) ∧ (PySem.W.findIn K (.ref zU) "__class__" = some (some (.builtin "object.__class__"))) ∧ (PySem.W.kitOne K (.ref zU) (.type "BaseException") = some true) ∧ (PySem.W.kitOne K (.ref zU) (.type "object") = some true) ∧ ((PySem.W.clsIn K zU).isSome = true) ∧ (PySem.W.kitOne K (.type "NoneType") (.ref vZ) = some false) ∧ (PySem.W.kitOne K (.ref zT) (.ref vZ) = some false) ∧ (PySem.W.kitOne K (.ref zW) (.ref vZ) = some false) ∧ (PySem.W.kitOne K (.ref zS) (.ref vZ) = some false) ∧ (PySem.W.kitOne K (.ref zQ) (.ref vZ) = some false) ∧ (PySem.W.kitOne K (.ref zU) (.ref vZ) = some false) ∧ (PySem.W.kitOne K (.type "NoneType") (.ref wE) = some false) ∧ (PySem.W.kitOne K (.ref zT) (.ref wE) = some false) ∧ (PySem.W.kitOne K (.ref zW) (.ref wE) = some false) ∧ (PySem.W.kitOne K (.ref zS) (.ref wE) = some false) ∧ (PySem.W.kitOne K (.ref zQ) (.ref wE) = some false) ∧ (PySem.W.kitOne K (.ref zU) (.ref wE) = some false) ∧ (PySem.W.kitOne K (.type "NoneType") (.ref zW) = some false) ∧ (PySem.W.kitOne K (.ref zT) (.ref zW) = some false) ∧ (PySem.W.kitOne K (.ref zW) (.ref zW) = some true) ∧ (PySem.W.kitOne K (.ref zS) (.ref zW) = some false) ∧ (PySem.W.kitOne K (.ref zQ) (.ref zW) = some false) ∧ (PySem.W.kitOne K (.ref zU) (.ref zW) = some false) ∧ (PySem.W.kitOne K (.type "NoneType") (.ref zT) = some false) ∧ (PySem.W.kitOne K (.ref zT) (.ref zT) = some true) ∧ (PySem.W.kitOne K (.ref zW) (.ref zT) = some false) ∧ (PySem.W.kitOne K (.ref zS) (.ref zT) = some false) ∧ (PySem.W.kitOne K (.ref zQ) (.ref zT) = some false) ∧ (PySem.W.kitOne K (.ref zU) (.ref zT) = some false) ∧ (PySem.W.kitOne K (.type "NoneType") (.ref wC) = some false) ∧ (PySem.W.kitOne K (.ref zT) (.ref wC) = some false) ∧ (PySem.W.kitOne K (.ref zW) (.ref wC) = some false) ∧ (PySem.W.kitOne K (.ref zS) (.ref wC) = some false) ∧ (PySem.W.kitOne K (.ref zQ) (.ref wC) = some false) ∧ (PySem.W.kitOne K (.ref zU) (.ref wC) = some false) ∧ (PySem.W.kitOne K (.type "NoneType") (.ref wD) = some false) ∧ (PySem.W.kitOne K (.ref zT) (.ref wD) = some false) ∧ (PySem.W.kitOne K (.ref zW) (.ref wD) = some false) ∧ (PySem.W.kitOne K (.ref zS) (.ref wD) = some false) ∧ (PySem.W.kitOne K (.ref zQ) (.ref wD) = some false) ∧ (PySem.W.kitOne K (.ref zU) (.ref wD) = some false) ∧ (PySem.W.kitOne K (.type "NoneType") (.ref wA) = some false) ∧ (PySem.W.kitOne K (.ref zT) (.ref wA) = some false) ∧ (PySem.W.kitOne K (.ref zW) (.ref wA) = some false) ∧ (PySem.W.kitOne K (.ref zS) (.ref wA) = some false) ∧ (PySem.W.kitOne K (.ref zQ) (.ref wA) = some false) ∧ (PySem.W.kitOne K (.ref zU) (.ref wA) = some false) ∧ (PySem.W.kitOne K (.type "NoneType") (.ref zU) = some false) ∧ (PySem.W.kitOne K (.ref zT) (.ref zU) = some false) ∧ (PySem.W.kitOne K (.ref zW) (.ref zU) = some false) ∧ (PySem.W.kitOne K (.ref zS) (.ref zU) = some false) ∧ (PySem.W.kitOne K (.ref zQ) (.ref zU) = some false) ∧ (PySem.W.kitOne K (.ref zU) (.ref zU) = some true) ∧ (PySem.W.kitOne K (.type "NoneType") (.ref zS) = some false) ∧ (PySem.W.kitOne K (.ref zT) (.ref zS) = some false) ∧ (PySem.W.kitOne K (.ref zW) (.ref zS) = some false) ∧ (PySem.W.kitOne K (.ref zS) (.ref zS) = some true) ∧ (PySem.W.kitOne K (.ref zQ) (.ref zS) = some false) ∧ (PySem.W.kitOne K (.ref zU) (.ref zS) = some false) ∧ (PySem.W.kitOne K (.type "NoneType") (.ref zQ) = some false) ∧ (PySem.W.kitOne K (.ref zT) (.ref zQ) = some false) ∧ (PySem.W.kitOne K (.ref zW) (.ref zQ) = some false) ∧ (PySem.W.kitOne K (.ref zS) (.ref zQ) = some false) ∧ (PySem.W.kitOne K (.ref zQ) (.ref zQ) = some true) ∧ (PySem.W.kitOne K (.ref zU) (.ref zQ) = some false) ∧ (PySem.W.kitOne K (.type "NoneType") (.type "ValueError") = some false) ∧ (PySem.W.kitOne K (.ref zT) (.type "ValueError") = some true) ∧ (PySem.W.kitOne K (.ref zW) (.type "ValueError") = some true) ∧ (PySem.W.kitOne K (.ref zS) (.type "ValueError") = some true) ∧ (PySem.W.kitOne K (.ref zQ) (.type "ValueError") = some true) ∧ (PySem.W.kitOne K (.ref zU) (.type "ValueError") = some true) ∧ (PySem.W.kitOne K (.ref wQ) (.type "BaseException") = some true) ∧ (PySem.W.kitOne K (.ref zT) (.ref wQ) = some true) ∧ ((PySem.Value.ref zT == PySem.Value.ref wQ) = false) ∧ (PySem.W.kitOne K (.ref zW) (.ref wQ) = some true) ∧ ((PySem.Value.ref zW == PySem.Value.ref wQ) = false) ∧ (PySem.W.kitOne K (.ref zS) (.ref wQ) = some true) ∧ ((PySem.Value.ref zS == PySem.Value.ref wQ) = false) ∧ (PySem.W.kitOne K (.ref zQ) (.ref wQ) = some true) ∧ ((PySem.Value.ref zQ == PySem.Value.ref wQ) = false) ∧ (PySem.W.kitOne K (.ref zU) (.ref wQ) = some true) ∧ ((PySem.Value.ref zU == PySem.Value.ref wQ) = false) := ⟨vZ, wE, zW, zT, wC, wD, wQ, wA, zU, zS, zQ, n_BadBox, n_BadGroup, n_BadOpenings, n_BadOrder, n_BadPlan, n_BadText, n_BoxError, n_NoHelp, n_NoNumber, n_NoPerson, n_TooMany, o_BadOrder, g1_BadOrder, g2_BadOrder, g3_BadOrder, g4_BadOrder, g5_BadOrder, g6_BadOrder, o_BadOpenings, g1_BadOpenings, g2_BadOpenings, g3_BadOpenings, g4_BadOpenings, g5_BadOpenings, g6_BadOpenings, o_NoPerson, g1_NoPerson, g2_NoPerson, g3_NoPerson, g4_NoPerson, g5_NoPerson, g6_NoPerson, o_TooMany, g1_TooMany, g2_TooMany, g3_TooMany, g4_TooMany, g5_TooMany, g6_TooMany, o_NoNumber, g1_NoNumber, g2_NoNumber, g3_NoNumber, g4_NoNumber, g5_NoNumber, g6_NoNumber, z_BadBox, t_BadOrder_BadBox, t_BadOpenings_BadBox, t_NoPerson_BadBox, t_TooMany_BadBox, t_NoNumber_BadBox, z_BadGroup, t_BadOrder_BadGroup, t_BadOpenings_BadGroup, t_NoPerson_BadGroup, t_TooMany_BadGroup, t_NoNumber_BadGroup, z_BadOpenings, t_BadOrder_BadOpenings, t_BadOpenings_BadOpenings, t_NoPerson_BadOpenings, t_TooMany_BadOpenings, t_NoNumber_BadOpenings, z_BadOrder, t_BadOrder_BadOrder, t_BadOpenings_BadOrder, t_NoPerson_BadOrder, t_TooMany_BadOrder, t_NoNumber_BadOrder, z_BadPlan, t_BadOrder_BadPlan, t_BadOpenings_BadPlan, t_NoPerson_BadPlan, t_TooMany_BadPlan, t_NoNumber_BadPlan, z_BadText, t_BadOrder_BadText, t_BadOpenings_BadText, t_NoPerson_BadText, t_TooMany_BadText, t_NoNumber_BadText, z_NoHelp, t_BadOrder_NoHelp, t_BadOpenings_NoHelp, t_NoPerson_NoHelp, t_TooMany_NoHelp, t_NoNumber_NoHelp, z_NoNumber, t_BadOrder_NoNumber, t_BadOpenings_NoNumber, t_NoPerson_NoNumber, t_TooMany_NoNumber, t_NoNumber_NoNumber, z_NoPerson, t_BadOrder_NoPerson, t_BadOpenings_NoPerson, t_NoPerson_NoPerson, t_TooMany_NoPerson, t_NoNumber_NoPerson, z_TooMany, t_BadOrder_TooMany, t_BadOpenings_TooMany, t_NoPerson_TooMany, t_TooMany_TooMany, t_NoNumber_TooMany, z_ValueError, t_BadOrder_ValueError, t_BadOpenings_ValueError, t_NoPerson_ValueError, t_TooMany_ValueError, t_NoNumber_ValueError, b_BoxError, c_BadOrder_BoxError, d_BadOrder_BoxError, c_BadOpenings_BoxError, d_BadOpenings_BoxError, c_NoPerson_BoxError, d_NoPerson_BoxError, c_TooMany_BoxError, d_TooMany_BoxError, c_NoNumber_BoxError, d_NoNumber_BoxError⟩
set_option maxRecDepth 100000 in
set_option maxHeartbeats 0 in
theorem PySem.Challenge.cw_ownboxes_k42_dealings_refused_holds : PySem.Challenge.rw_ownboxes_k42_dealings_refused.Holds := by
  w_on; o_law; k_head; (case hw => w_witness2)
  k_fill
  refine L2.L3.walk_valX (F := K42.F_law) (k := 8) (l := PySem.Challenge.rw_ownboxes_k42_dealings_refused) K42.law_true ⟨rfl, by decide, by decide⟩ rfl rfl (fun w h Y => PySem.W.kIn_of Y) (fun w => by rfl) ?F
  case F =>
    intro w mg fa h KX G hmg
    letI cn : L2.L3.CN := L2.L3.cnOf (L2.KOf KX)
    have D_is_order : ∃ f fd, L2.Has (L2.KOf KX) mg "is_order" K42.s_is_order f fd ["names"] := by
      dsimp only [L2.KOf]
      refine' ⟨_, _, L2.has_mk KX G ?a ?l ?c ?k ?b⟩
      (case a => k_is); (case l => k_is); (case c => k_is); (case k => k_is)
      (case b => intro _ _ _ _ _ _; refine L2.L3.ls1 ?_; exact fun _ => rfl)
    have D_ring_from : ∃ f fd, L2.Has (L2.KOf KX) mg "ring_from" K42.s_ring_from f fd ["order", "box"] := by
      dsimp only [L2.KOf]
      refine' ⟨_, _, L2.has_mk KX G ?a ?l ?c ?k ?b⟩
      (case a => k_is); (case l => k_is); (case c => k_is); (case k => k_is)
      (case b => intro _ _ _ _ _ _; refine L2.L3.ls2 ?_; exact fun _ _ => rfl)
    have D_rings_of : ∃ f fd, L2.Has (L2.KOf KX) mg "rings_of" K42.s_rings_of f fd ["order"] := by
      dsimp only [L2.KOf]
      refine' ⟨_, _, L2.has_mk KX G ?a ?l ?c ?k ?b⟩
      (case a => k_is); (case l => k_is); (case c => k_is); (case k => k_is)
      (case b => intro _ _ _ _ _ _; refine L2.L3.ls1 ?_; exact fun _ => rfl)
    have D_order_by : ∃ f fd, L2.Has (L2.KOf KX) mg "order_by" K42.s_order_by f fd ["rings"] := by
      dsimp only [L2.KOf]
      refine' ⟨_, _, L2.has_mk KX G ?a ?l ?c ?k ?b⟩
      (case a => k_is); (case l => k_is); (case c => k_is); (case k => k_is)
      (case b => intro _ _ _ _ _ _; refine L2.L3.ls1 ?_; exact fun _ => rfl)
    have D_turned_back : ∃ f fd, L2.Has (L2.KOf KX) mg "turned_back" K42.s_turned_back f fd ["order"] := by
      dsimp only [L2.KOf]
      refine' ⟨_, _, L2.has_mk KX G ?a ?l ?c ?k ?b⟩
      (case a => k_is); (case l => k_is); (case c => k_is); (case k => k_is)
      (case b => intro _ _ _ _ _ _; refine L2.L3.ls1 ?_; exact fun _ => rfl)
    have D_behind : ∃ f fd, L2.Has (L2.KOf KX) mg "behind" K42.s_behind f fd ["one", "other"] := by
      dsimp only [L2.KOf]
      refine' ⟨_, _, L2.has_mk KX G ?a ?l ?c ?k ?b⟩
      (case a => k_is); (case l => k_is); (case c => k_is); (case k => k_is)
      (case b => intro _ _ _ _ _ _; refine L2.L3.ls2 ?_; exact fun _ _ => rfl)
    have D_made_openings : ∃ f fd, L2.Has (L2.KOf KX) mg "made_openings" K42.s_made_openings f fd ["people", "numbers"] := by
      dsimp only [L2.KOf]
      refine' ⟨_, _, L2.has_mk KX G ?a ?l ?c ?k ?b⟩
      (case a => k_is); (case l => k_is); (case c => k_is); (case k => k_is)
      (case b => intro _ _ _ _ _ _; refine L2.L3.ls2 ?_; exact fun _ _ => rfl)
    have D_check_person : ∃ f fd, L2.Has (L2.KOf KX) mg "check_person" K42.s_check_person f fd ["people", "person"] := by
      dsimp only [L2.KOf]
      refine' ⟨_, _, L2.has_mk KX G ?a ?l ?c ?k ?b⟩
      (case a => k_is); (case l => k_is); (case c => k_is); (case k => k_is)
      (case b => intro _ _ _ _ _ _; refine L2.L3.ls2 ?_; exact fun _ _ => rfl)
    have D_check_people : ∃ f fd, L2.Has (L2.KOf KX) mg "check_people" K42.s_check_people f fd ["people"] := by
      dsimp only [L2.KOf]
      refine' ⟨_, _, L2.has_mk KX G ?a ?l ?c ?k ?b⟩
      (case a => k_is); (case l => k_is); (case c => k_is); (case k => k_is)
      (case b => intro _ _ _ _ _ _; refine L2.L3.ls1 ?_; exact fun _ => rfl)
    have D_check_people_and_k : ∃ f fd, L2.Has (L2.KOf KX) mg "check_people_and_k" K42.s_check_people_and_k f fd ["people", "k"] := by
      dsimp only [L2.KOf]
      refine' ⟨_, _, L2.has_mk KX G ?a ?l ?c ?k ?b⟩
      (case a => k_is); (case l => k_is); (case c => k_is); (case k => k_is)
      (case b => intro _ _ _ _ _ _; refine L2.L3.ls2 ?_; exact fun _ _ => rfl)
    have D_many_by_lengths : ∃ f fd, L2.Has (L2.KOf KX) mg "many_by_lengths" K42.s_many_by_lengths f fd ["people", "least", "most"] := by
      dsimp only [L2.KOf]
      refine' ⟨_, _, L2.has_mk KX G ?a ?l ?c ?k ?b⟩
      (case a => k_is); (case l => k_is); (case c => k_is); (case k => k_is)
      (case b => intro _ _ _ _ _ _; refine L2.L3.ls3 ?_; exact fun _ _ _ => rfl)
    have D_many_good : ∃ f fd, L2.Has (L2.KOf KX) mg "many_good" K42.s_many_good f fd ["people", "k"] := by
      dsimp only [L2.KOf]
      refine' ⟨_, _, L2.has_mk KX G ?a ?l ?c ?k ?b⟩
      (case a => k_is); (case l => k_is); (case c => k_is); (case k => k_is)
      (case b => intro _ _ _ _ _ _; refine L2.L3.ls2 ?_; exact fun _ _ => rfl)
    have D_many_first_rings : ∃ f fd, L2.Has (L2.KOf KX) mg "many_first_rings" K42.s_many_first_rings f fd ["boxes", "length"] := by
      dsimp only [L2.KOf]
      refine' ⟨_, _, L2.has_mk KX G ?a ?l ?c ?k ?b⟩
      (case a => k_is); (case l => k_is); (case c => k_is); (case k => k_is)
      (case b => intro _ _ _ _ _ _; refine L2.L3.ls2 ?_; exact fun _ _ => rfl)
    have D_many_with_first_ring : ∃ f fd, L2.Has (L2.KOf KX) mg "many_with_first_ring" K42.s_many_with_first_ring f fd ["many", "boxes", "length"] := by
      dsimp only [L2.KOf]
      refine' ⟨_, _, L2.has_mk KX G ?a ?l ?c ?k ?b⟩
      (case a => k_is); (case l => k_is); (case c => k_is); (case k => k_is)
      (case b => intro _ _ _ _ _ _; refine L2.L3.ls3 ?_; exact fun _ _ _ => rfl)
    have D_ring_at : ∃ f fd, L2.Has (L2.KOf KX) mg "ring_at" K42.s_ring_at f fd ["left", "length", "place"] := by
      dsimp only [L2.KOf]
      refine' ⟨_, _, L2.has_mk KX G ?a ?l ?c ?k ?b⟩
      (case a => k_is); (case l => k_is); (case c => k_is); (case k => k_is)
      (case b => intro _ _ _ _ _ _; refine L2.L3.ls3 ?_; exact fun _ _ _ => rfl)
    have D_ring_place : ∃ f fd, L2.Has (L2.KOf KX) mg "ring_place" K42.s_ring_place f fd ["left", "ring"] := by
      dsimp only [L2.KOf]
      refine' ⟨_, _, L2.has_mk KX G ?a ?l ?c ?k ?b⟩
      (case a => k_is); (case l => k_is); (case c => k_is); (case k => k_is)
      (case b => intro _ _ _ _ _ _; refine L2.L3.ls2 ?_; exact fun _ _ => rfl)
    have D_good_at : ∃ f fd, L2.Has (L2.KOf KX) mg "good_at" K42.s_good_at f fd ["people", "k", "number"] := by
      dsimp only [L2.KOf]
      refine' ⟨_, _, L2.has_mk KX G ?a ?l ?c ?k ?b⟩
      (case a => k_is); (case l => k_is); (case c => k_is); (case k => k_is)
      (case b => intro _ _ _ _ _ _; refine L2.L3.ls3 ?_; exact fun _ _ _ => rfl)
    have D_good_number : ∃ f fd, L2.Has (L2.KOf KX) mg "good_number" K42.s_good_number f fd ["order", "k"] := by
      dsimp only [L2.KOf]
      refine' ⟨_, _, L2.has_mk KX G ?a ?l ?c ?k ?b⟩
      (case a => k_is); (case l => k_is); (case c => k_is); (case k => k_is)
      (case b => intro _ _ _ _ _ _; refine L2.L3.ls2 ?_; exact fun _ _ => rfl)
    have D_opened_as : ∃ f fd, L2.Has (L2.KOf KX) mg "opened_as" K42.s_opened_as f fd ["order", "dealing", "openings", "person"] := by
      dsimp only [L2.KOf]
      refine' ⟨_, _, L2.has_mk KX G ?a ?l ?c ?k ?b⟩
      (case a => k_is); (case l => k_is); (case c => k_is); (case k => k_is)
      (case b => intro _ _ _ _ _ _; refine L2.L3.ls4 ?_; exact fun _ _ _ _ => rfl)
    have D_finders_as : ∃ f fd, L2.Has (L2.KOf KX) mg "finders_as" K42.s_finders_as f fd ["order", "dealing", "openings"] := by
      dsimp only [L2.KOf]
      refine' ⟨_, _, L2.has_mk KX G ?a ?l ?c ?k ?b⟩
      (case a => k_is); (case l => k_is); (case c => k_is); (case k => k_is)
      (case b => intro _ _ _ _ _ _; refine L2.L3.ls3 ?_; exact fun _ _ _ => rfl)
    have D_dealing_at : ∃ f fd, L2.Has (L2.KOf KX) mg "dealing_at" K42.s_dealing_at f fd ["order", "k", "number"] := by
      dsimp only [L2.KOf]
      refine' ⟨_, _, L2.has_mk KX G ?a ?l ?c ?k ?b⟩
      (case a => k_is); (case l => k_is); (case c => k_is); (case k => k_is)
      (case b => intro _ _ _ _ _ _; refine L2.L3.ls3 ?_; exact fun _ _ _ => rfl)
    have D_dealing_number : ∃ f fd, L2.Has (L2.KOf KX) mg "dealing_number" K42.s_dealing_number f fd ["order", "k", "dealing"] := by
      dsimp only [L2.KOf]
      refine' ⟨_, _, L2.has_mk KX G ?a ?l ?c ?k ?b⟩
      (case a => k_is); (case l => k_is); (case c => k_is); (case k => k_is)
      (case b => intro _ _ _ _ _ _; refine L2.L3.ls3 ?_; exact fun _ _ _ => rfl)
    have D_l_order : ∃ f fd, L2.Has (L2.KOf KX) mg "_law_order" K42.s_l_order f fd ["cell", "many"] := by
      dsimp only [L2.KOf]
      refine' ⟨_, _, L2.has_mk KX G ?a ?l ?c ?k ?b⟩
      (case a => k_is); (case l => k_is); (case c => k_is); (case k => k_is)
      (case b => intro _ _ _ _ _ _; refine L2.L3.ls2 ?_; exact fun _ _ => rfl)
    have D_l_rings : ∃ f fd, L2.Has (L2.KOf KX) mg "_law_rings" K42.s_l_rings f fd ["order"] := by
      dsimp only [L2.KOf]
      refine' ⟨_, _, L2.has_mk KX G ?a ?l ?c ?k ?b⟩
      (case a => k_is); (case l => k_is); (case c => k_is); (case k => k_is)
      (case b => intro _ _ _ _ _ _; refine L2.L3.ls1 ?_; exact fun _ => rfl)
    have D_l_called : ∃ f fd, L2.Has (L2.KOf KX) mg "_law_called" K42.s_l_called f fd ["way", "order", "dealing", "more"] := by
      dsimp only [L2.KOf]
      refine' ⟨_, _, L2.has_mk KX G ?a ?l ?c ?k ?b⟩
      (case a => k_is); (case l => k_is); (case c => k_is); (case k => k_is)
      (case b => intro _ _ _ _ _ _; refine L2.L3.ls4 ?_; exact fun _ _ _ _ => rfl)
    have D_l_asked : ∃ f fd, L2.Has (L2.KOf KX) mg "_law_asked" K42.s_l_asked f fd ["way", "order", "dealing", "more"] := by
      dsimp only [L2.KOf]
      refine' ⟨_, _, L2.has_mk KX G ?a ?l ?c ?k ?b⟩
      (case a => k_is); (case l => k_is); (case c => k_is); (case k => k_is)
      (case b => intro _ _ _ _ _ _; refine L2.L3.ls4 ?_; exact fun _ _ _ _ => rfl)
    have D_l_bad_openings : ∃ f fd, L2.Has (L2.KOf KX) mg "_law_bad_openings" K42.s_l_bad_openings f fd ["cell", "many"] := by
      dsimp only [L2.KOf]
      refine' ⟨_, _, L2.has_mk KX G ?a ?l ?c ?k ?b⟩
      (case a => k_is); (case l => k_is); (case c => k_is); (case k => k_is)
      (case b => intro _ _ _ _ _ _; refine L2.L3.ls2 ?_; exact fun _ _ => rfl)
    have D_l_right : ∃ f fd, L2.Has (L2.KOf KX) mg "_law_right" K42.s_l_right f fd ["order", "dealing", "cell"] := by
      dsimp only [L2.KOf]
      refine' ⟨_, _, L2.has_mk KX G ?a ?l ?c ?k ?b⟩
      (case a => k_is); (case l => k_is); (case c => k_is); (case k => k_is)
      (case b => intro _ _ _ _ _ _; refine L2.L3.ls3 ?_; exact fun _ _ _ => rfl)
    have D_law : ∃ f fd, L2.Has (L2.KOf KX) mg "law" K42.s_law f fd ["script"] ∧ (∀ (s : Shared) (u : Value), BindsTo s fd ⟨[u], []⟩ [("script", u)]) := by
      dsimp only [L2.KOf]
      refine' ⟨_, _, L2.has_mk KX G ?a ?l ?c ?k ?b, ?d⟩
      (case a => k_is); (case l => k_is); (case c => k_is); (case k => k_is)
      (case b => intro _ _ _ _ _ _; refine L2.L3.ls1 ?_; exact fun _ => rfl)
      (case d => exact fun s u => .of_eq rfl)
    have BIG : ∃ vZ wE zW zT wC wD wQ wA zU zS zQ : PySem.Addr, (PySem.W.nsIn (L2.KOf KX) PySem.mainGlobals "BadBox" = some (some (.ref vZ))) ∧ (PySem.W.nsIn (L2.KOf KX) PySem.mainGlobals "BadGroup" = some (some (.ref wE))) ∧ (PySem.W.nsIn (L2.KOf KX) PySem.mainGlobals "BadOpenings" = some (some (.ref zW))) ∧ (PySem.W.nsIn (L2.KOf KX) PySem.mainGlobals "BadOrder" = some (some (.ref zT))) ∧ (PySem.W.nsIn (L2.KOf KX) PySem.mainGlobals "BadPlan" = some (some (.ref wC))) ∧ (PySem.W.nsIn (L2.KOf KX) PySem.mainGlobals "BadText" = some (some (.ref wD))) ∧ (PySem.W.nsIn (L2.KOf KX) PySem.mainGlobals "BoxError" = some (some (.ref wQ))) ∧ (PySem.W.nsIn (L2.KOf KX) PySem.mainGlobals "NoHelp" = some (some (.ref wA))) ∧ (PySem.W.nsIn (L2.KOf KX) PySem.mainGlobals "NoNumber" = some (some (.ref zU))) ∧ (PySem.W.nsIn (L2.KOf KX) PySem.mainGlobals "NoPerson" = some (some (.ref zS))) ∧ (PySem.W.nsIn (L2.KOf KX) PySem.mainGlobals "TooMany" = some (some (.ref zQ))) ∧ (PySem.W.excIn (L2.KOf KX) zT L2.L3.bmV "ValueError.__new__" = true) ∧ (PySem.W.findIn (L2.KOf KX) (.ref zT) "__getattribute__" = some (some (.builtin "BaseException.__getattribute__"))) ∧ (PySem.W.findIn (L2.KOf KX) (.ref zT) "__getattr__" = some none) ∧ (PySem.W.findIn (L2.KOf KX) (.ref zT) "__class__" = some (some (.builtin "object.__class__"))) ∧ (PySem.W.kitOne (L2.KOf KX) (.ref zT) (.type "BaseException") = some true) ∧ (PySem.W.kitOne (L2.KOf KX) (.ref zT) (.type "object") = some true) ∧ ((PySem.W.clsIn (L2.KOf KX) zT).isSome = true) ∧ (PySem.W.excIn (L2.KOf KX) zW L2.L3.bmV "ValueError.__new__" = true) ∧ (PySem.W.findIn (L2.KOf KX) (.ref zW) "__getattribute__" = some (some (.builtin "BaseException.__getattribute__"))) ∧ (PySem.W.findIn (L2.KOf KX) (.ref zW) "__getattr__" = some none) ∧ (PySem.W.findIn (L2.KOf KX) (.ref zW) "__class__" = some (some (.builtin "object.__class__"))) ∧ (PySem.W.kitOne (L2.KOf KX) (.ref zW) (.type "BaseException") = some true) ∧ (PySem.W.kitOne (L2.KOf KX) (.ref zW) (.type "object") = some true) ∧ ((PySem.W.clsIn (L2.KOf KX) zW).isSome = true) ∧ (PySem.W.excIn (L2.KOf KX) zS L2.L3.bmV "ValueError.__new__" = true) ∧ (PySem.W.findIn (L2.KOf KX) (.ref zS) "__getattribute__" = some (some (.builtin "BaseException.__getattribute__"))) ∧ (PySem.W.findIn (L2.KOf KX) (.ref zS) "__getattr__" = some none) ∧ (PySem.W.findIn (L2.KOf KX) (.ref zS) "__class__" = some (some (.builtin "object.__class__"))) ∧ (PySem.W.kitOne (L2.KOf KX) (.ref zS) (.type "BaseException") = some true) ∧ (PySem.W.kitOne (L2.KOf KX) (.ref zS) (.type "object") = some true) ∧ ((PySem.W.clsIn (L2.KOf KX) zS).isSome = true) ∧ (PySem.W.excIn (L2.KOf KX) zQ L2.L3.bmV "ValueError.__new__" = true) ∧ (PySem.W.findIn (L2.KOf KX) (.ref zQ) "__getattribute__" = some (some (.builtin "BaseException.__getattribute__"))) ∧ (PySem.W.findIn (L2.KOf KX) (.ref zQ) "__getattr__" = some none) ∧ (PySem.W.findIn (L2.KOf KX) (.ref zQ) "__class__" = some (some (.builtin "object.__class__"))) ∧ (PySem.W.kitOne (L2.KOf KX) (.ref zQ) (.type "BaseException") = some true) ∧ (PySem.W.kitOne (L2.KOf KX) (.ref zQ) (.type "object") = some true) ∧ ((PySem.W.clsIn (L2.KOf KX) zQ).isSome = true) ∧ (PySem.W.excIn (L2.KOf KX) zU L2.L3.bmV "ValueError.__new__" = true) ∧ (PySem.W.findIn (L2.KOf KX) (.ref zU) "__getattribute__" = some (some (.builtin "BaseException.__getattribute__"))) ∧ (PySem.W.findIn (L2.KOf KX) (.ref zU) "__getattr__" = some none) ∧ (PySem.W.findIn (L2.KOf KX) (.ref zU) "__class__" = some (some (.builtin "object.__class__"))) ∧ (PySem.W.kitOne (L2.KOf KX) (.ref zU) (.type "BaseException") = some true) ∧ (PySem.W.kitOne (L2.KOf KX) (.ref zU) (.type "object") = some true) ∧ ((PySem.W.clsIn (L2.KOf KX) zU).isSome = true) ∧ (PySem.W.kitOne (L2.KOf KX) (.type "NoneType") (.ref vZ) = some false) ∧ (PySem.W.kitOne (L2.KOf KX) (.ref zT) (.ref vZ) = some false) ∧ (PySem.W.kitOne (L2.KOf KX) (.ref zW) (.ref vZ) = some false) ∧ (PySem.W.kitOne (L2.KOf KX) (.ref zS) (.ref vZ) = some false) ∧ (PySem.W.kitOne (L2.KOf KX) (.ref zQ) (.ref vZ) = some false) ∧ (PySem.W.kitOne (L2.KOf KX) (.ref zU) (.ref vZ) = some false) ∧ (PySem.W.kitOne (L2.KOf KX) (.type "NoneType") (.ref wE) = some false) ∧ (PySem.W.kitOne (L2.KOf KX) (.ref zT) (.ref wE) = some false) ∧ (PySem.W.kitOne (L2.KOf KX) (.ref zW) (.ref wE) = some false) ∧ (PySem.W.kitOne (L2.KOf KX) (.ref zS) (.ref wE) = some false) ∧ (PySem.W.kitOne (L2.KOf KX) (.ref zQ) (.ref wE) = some false) ∧ (PySem.W.kitOne (L2.KOf KX) (.ref zU) (.ref wE) = some false) ∧ (PySem.W.kitOne (L2.KOf KX) (.type "NoneType") (.ref zW) = some false) ∧ (PySem.W.kitOne (L2.KOf KX) (.ref zT) (.ref zW) = some false) ∧ (PySem.W.kitOne (L2.KOf KX) (.ref zW) (.ref zW) = some true) ∧ (PySem.W.kitOne (L2.KOf KX) (.ref zS) (.ref zW) = some false) ∧ (PySem.W.kitOne (L2.KOf KX) (.ref zQ) (.ref zW) = some false) ∧ (PySem.W.kitOne (L2.KOf KX) (.ref zU) (.ref zW) = some false) ∧ (PySem.W.kitOne (L2.KOf KX) (.type "NoneType") (.ref zT) = some false) ∧ (PySem.W.kitOne (L2.KOf KX) (.ref zT) (.ref zT) = some true) ∧ (PySem.W.kitOne (L2.KOf KX) (.ref zW) (.ref zT) = some false) ∧ (PySem.W.kitOne (L2.KOf KX) (.ref zS) (.ref zT) = some false) ∧ (PySem.W.kitOne (L2.KOf KX) (.ref zQ) (.ref zT) = some false) ∧ (PySem.W.kitOne (L2.KOf KX) (.ref zU) (.ref zT) = some false) ∧ (PySem.W.kitOne (L2.KOf KX) (.type "NoneType") (.ref wC) = some false) ∧ (PySem.W.kitOne (L2.KOf KX) (.ref zT) (.ref wC) = some false) ∧ (PySem.W.kitOne (L2.KOf KX) (.ref zW) (.ref wC) = some false) ∧ (PySem.W.kitOne (L2.KOf KX) (.ref zS) (.ref wC) = some false) ∧ (PySem.W.kitOne (L2.KOf KX) (.ref zQ) (.ref wC) = some false) ∧ (PySem.W.kitOne (L2.KOf KX) (.ref zU) (.ref wC) = some false) ∧ (PySem.W.kitOne (L2.KOf KX) (.type "NoneType") (.ref wD) = some false) ∧ (PySem.W.kitOne (L2.KOf KX) (.ref zT) (.ref wD) = some false) ∧ (PySem.W.kitOne (L2.KOf KX) (.ref zW) (.ref wD) = some false) ∧ (PySem.W.kitOne (L2.KOf KX) (.ref zS) (.ref wD) = some false) ∧ (PySem.W.kitOne (L2.KOf KX) (.ref zQ) (.ref wD) = some false) ∧ (PySem.W.kitOne (L2.KOf KX) (.ref zU) (.ref wD) = some false) ∧ (PySem.W.kitOne (L2.KOf KX) (.type "NoneType") (.ref wA) = some false) ∧ (PySem.W.kitOne (L2.KOf KX) (.ref zT) (.ref wA) = some false) ∧ (PySem.W.kitOne (L2.KOf KX) (.ref zW) (.ref wA) = some false) ∧ (PySem.W.kitOne (L2.KOf KX) (.ref zS) (.ref wA) = some false) ∧ (PySem.W.kitOne (L2.KOf KX) (.ref zQ) (.ref wA) = some false) ∧ (PySem.W.kitOne (L2.KOf KX) (.ref zU) (.ref wA) = some false) ∧ (PySem.W.kitOne (L2.KOf KX) (.type "NoneType") (.ref zU) = some false) ∧ (PySem.W.kitOne (L2.KOf KX) (.ref zT) (.ref zU) = some false) ∧ (PySem.W.kitOne (L2.KOf KX) (.ref zW) (.ref zU) = some false) ∧ (PySem.W.kitOne (L2.KOf KX) (.ref zS) (.ref zU) = some false) ∧ (PySem.W.kitOne (L2.KOf KX) (.ref zQ) (.ref zU) = some false) ∧ (PySem.W.kitOne (L2.KOf KX) (.ref zU) (.ref zU) = some true) ∧ (PySem.W.kitOne (L2.KOf KX) (.type "NoneType") (.ref zS) = some false) ∧ (PySem.W.kitOne (L2.KOf KX) (.ref zT) (.ref zS) = some false) ∧ (PySem.W.kitOne (L2.KOf KX) (.ref zW) (.ref zS) = some false) ∧ (PySem.W.kitOne (L2.KOf KX) (.ref zS) (.ref zS) = some true) ∧ (PySem.W.kitOne (L2.KOf KX) (.ref zQ) (.ref zS) = some false) ∧ (PySem.W.kitOne (L2.KOf KX) (.ref zU) (.ref zS) = some false) ∧ (PySem.W.kitOne (L2.KOf KX) (.type "NoneType") (.ref zQ) = some false) ∧ (PySem.W.kitOne (L2.KOf KX) (.ref zT) (.ref zQ) = some false) ∧ (PySem.W.kitOne (L2.KOf KX) (.ref zW) (.ref zQ) = some false) ∧ (PySem.W.kitOne (L2.KOf KX) (.ref zS) (.ref zQ) = some false) ∧ (PySem.W.kitOne (L2.KOf KX) (.ref zQ) (.ref zQ) = some true) ∧ (PySem.W.kitOne (L2.KOf KX) (.ref zU) (.ref zQ) = some false) ∧ (PySem.W.kitOne (L2.KOf KX) (.type "NoneType") (.type "ValueError") = some false) ∧ (PySem.W.kitOne (L2.KOf KX) (.ref zT) (.type "ValueError") = some true) ∧ (PySem.W.kitOne (L2.KOf KX) (.ref zW) (.type "ValueError") = some true) ∧ (PySem.W.kitOne (L2.KOf KX) (.ref zS) (.type "ValueError") = some true) ∧ (PySem.W.kitOne (L2.KOf KX) (.ref zQ) (.type "ValueError") = some true) ∧ (PySem.W.kitOne (L2.KOf KX) (.ref zU) (.type "ValueError") = some true) ∧ (PySem.W.kitOne (L2.KOf KX) (.ref wQ) (.type "BaseException") = some true) ∧ (PySem.W.kitOne (L2.KOf KX) (.ref zT) (.ref wQ) = some true) ∧ ((PySem.Value.ref zT == PySem.Value.ref wQ) = false) ∧ (PySem.W.kitOne (L2.KOf KX) (.ref zW) (.ref wQ) = some true) ∧ ((PySem.Value.ref zW == PySem.Value.ref wQ) = false) ∧ (PySem.W.kitOne (L2.KOf KX) (.ref zS) (.ref wQ) = some true) ∧ ((PySem.Value.ref zS == PySem.Value.ref wQ) = false) ∧ (PySem.W.kitOne (L2.KOf KX) (.ref zQ) (.ref wQ) = some true) ∧ ((PySem.Value.ref zQ == PySem.Value.ref wQ) = false) ∧ (PySem.W.kitOne (L2.KOf KX) (.ref zU) (.ref wQ) = some true) ∧ ((PySem.Value.ref zU == PySem.Value.ref wQ) = false) := by
      dsimp only [L2.KOf]
      refine' K42.big_mk ?q_n_BadBox ?q_n_BadGroup ?q_n_BadOpenings ?q_n_BadOrder ?q_n_BadPlan ?q_n_BadText ?q_n_BoxError ?q_n_NoHelp ?q_n_NoNumber ?q_n_NoPerson ?q_n_TooMany ?q_o_BadOrder ?q_g1_BadOrder ?q_g2_BadOrder ?q_g3_BadOrder ?q_g4_BadOrder ?q_g5_BadOrder ?q_g6_BadOrder ?q_o_BadOpenings ?q_g1_BadOpenings ?q_g2_BadOpenings ?q_g3_BadOpenings ?q_g4_BadOpenings ?q_g5_BadOpenings ?q_g6_BadOpenings ?q_o_NoPerson ?q_g1_NoPerson ?q_g2_NoPerson ?q_g3_NoPerson ?q_g4_NoPerson ?q_g5_NoPerson ?q_g6_NoPerson ?q_o_TooMany ?q_g1_TooMany ?q_g2_TooMany ?q_g3_TooMany ?q_g4_TooMany ?q_g5_TooMany ?q_g6_TooMany ?q_o_NoNumber ?q_g1_NoNumber ?q_g2_NoNumber ?q_g3_NoNumber ?q_g4_NoNumber ?q_g5_NoNumber ?q_g6_NoNumber ?q_z_BadBox ?q_t_BadOrder_BadBox ?q_t_BadOpenings_BadBox ?q_t_NoPerson_BadBox ?q_t_TooMany_BadBox ?q_t_NoNumber_BadBox ?q_z_BadGroup ?q_t_BadOrder_BadGroup ?q_t_BadOpenings_BadGroup ?q_t_NoPerson_BadGroup ?q_t_TooMany_BadGroup ?q_t_NoNumber_BadGroup ?q_z_BadOpenings ?q_t_BadOrder_BadOpenings ?q_t_BadOpenings_BadOpenings ?q_t_NoPerson_BadOpenings ?q_t_TooMany_BadOpenings ?q_t_NoNumber_BadOpenings ?q_z_BadOrder ?q_t_BadOrder_BadOrder ?q_t_BadOpenings_BadOrder ?q_t_NoPerson_BadOrder ?q_t_TooMany_BadOrder ?q_t_NoNumber_BadOrder ?q_z_BadPlan ?q_t_BadOrder_BadPlan ?q_t_BadOpenings_BadPlan ?q_t_NoPerson_BadPlan ?q_t_TooMany_BadPlan ?q_t_NoNumber_BadPlan ?q_z_BadText ?q_t_BadOrder_BadText ?q_t_BadOpenings_BadText ?q_t_NoPerson_BadText ?q_t_TooMany_BadText ?q_t_NoNumber_BadText ?q_z_NoHelp ?q_t_BadOrder_NoHelp ?q_t_BadOpenings_NoHelp ?q_t_NoPerson_NoHelp ?q_t_TooMany_NoHelp ?q_t_NoNumber_NoHelp ?q_z_NoNumber ?q_t_BadOrder_NoNumber ?q_t_BadOpenings_NoNumber ?q_t_NoPerson_NoNumber ?q_t_TooMany_NoNumber ?q_t_NoNumber_NoNumber ?q_z_NoPerson ?q_t_BadOrder_NoPerson ?q_t_BadOpenings_NoPerson ?q_t_NoPerson_NoPerson ?q_t_TooMany_NoPerson ?q_t_NoNumber_NoPerson ?q_z_TooMany ?q_t_BadOrder_TooMany ?q_t_BadOpenings_TooMany ?q_t_NoPerson_TooMany ?q_t_TooMany_TooMany ?q_t_NoNumber_TooMany ?q_z_ValueError ?q_t_BadOrder_ValueError ?q_t_BadOpenings_ValueError ?q_t_NoPerson_ValueError ?q_t_TooMany_ValueError ?q_t_NoNumber_ValueError ?q_b_BoxError ?q_c_BadOrder_BoxError ?q_d_BadOrder_BoxError ?q_c_BadOpenings_BoxError ?q_d_BadOpenings_BoxError ?q_c_NoPerson_BoxError ?q_d_NoPerson_BoxError ?q_c_TooMany_BoxError ?q_d_TooMany_BoxError ?q_c_NoNumber_BoxError ?q_d_NoNumber_BoxError
      (case q_n_BadBox => k_is)
      (case q_n_BadGroup => k_is)
      (case q_n_BadOpenings => k_is)
      (case q_n_BadOrder => k_is)
      (case q_n_BadPlan => k_is)
      (case q_n_BadText => k_is)
      (case q_n_BoxError => k_is)
      (case q_n_NoHelp => k_is)
      (case q_n_NoNumber => k_is)
      (case q_n_NoPerson => k_is)
      (case q_n_TooMany => k_is)
      (case q_o_BadOrder => k_exc)
      (case q_g1_BadOrder => k_is)
      (case q_g2_BadOrder => k_is)
      (case q_g3_BadOrder => k_is)
      (case q_g4_BadOrder => kit_is)
      (case q_g5_BadOrder => kit_is)
      (case q_g6_BadOrder => first | k_is | rfl | decide +kernel)
      (case q_o_BadOpenings => k_exc)
      (case q_g1_BadOpenings => k_is)
      (case q_g2_BadOpenings => k_is)
      (case q_g3_BadOpenings => k_is)
      (case q_g4_BadOpenings => kit_is)
      (case q_g5_BadOpenings => kit_is)
      (case q_g6_BadOpenings => first | k_is | rfl | decide +kernel)
      (case q_o_NoPerson => k_exc)
      (case q_g1_NoPerson => k_is)
      (case q_g2_NoPerson => k_is)
      (case q_g3_NoPerson => k_is)
      (case q_g4_NoPerson => kit_is)
      (case q_g5_NoPerson => kit_is)
      (case q_g6_NoPerson => first | k_is | rfl | decide +kernel)
      (case q_o_TooMany => k_exc)
      (case q_g1_TooMany => k_is)
      (case q_g2_TooMany => k_is)
      (case q_g3_TooMany => k_is)
      (case q_g4_TooMany => kit_is)
      (case q_g5_TooMany => kit_is)
      (case q_g6_TooMany => first | k_is | rfl | decide +kernel)
      (case q_o_NoNumber => k_exc)
      (case q_g1_NoNumber => k_is)
      (case q_g2_NoNumber => k_is)
      (case q_g3_NoNumber => k_is)
      (case q_g4_NoNumber => kit_is)
      (case q_g5_NoNumber => kit_is)
      (case q_g6_NoNumber => first | k_is | rfl | decide +kernel)
      (case q_z_BadBox => kit_is)
      (case q_t_BadOrder_BadBox => kit_is)
      (case q_t_BadOpenings_BadBox => kit_is)
      (case q_t_NoPerson_BadBox => kit_is)
      (case q_t_TooMany_BadBox => kit_is)
      (case q_t_NoNumber_BadBox => kit_is)
      (case q_z_BadGroup => kit_is)
      (case q_t_BadOrder_BadGroup => kit_is)
      (case q_t_BadOpenings_BadGroup => kit_is)
      (case q_t_NoPerson_BadGroup => kit_is)
      (case q_t_TooMany_BadGroup => kit_is)
      (case q_t_NoNumber_BadGroup => kit_is)
      (case q_z_BadOpenings => kit_is)
      (case q_t_BadOrder_BadOpenings => kit_is)
      (case q_t_BadOpenings_BadOpenings => kit_is)
      (case q_t_NoPerson_BadOpenings => kit_is)
      (case q_t_TooMany_BadOpenings => kit_is)
      (case q_t_NoNumber_BadOpenings => kit_is)
      (case q_z_BadOrder => kit_is)
      (case q_t_BadOrder_BadOrder => kit_is)
      (case q_t_BadOpenings_BadOrder => kit_is)
      (case q_t_NoPerson_BadOrder => kit_is)
      (case q_t_TooMany_BadOrder => kit_is)
      (case q_t_NoNumber_BadOrder => kit_is)
      (case q_z_BadPlan => kit_is)
      (case q_t_BadOrder_BadPlan => kit_is)
      (case q_t_BadOpenings_BadPlan => kit_is)
      (case q_t_NoPerson_BadPlan => kit_is)
      (case q_t_TooMany_BadPlan => kit_is)
      (case q_t_NoNumber_BadPlan => kit_is)
      (case q_z_BadText => kit_is)
      (case q_t_BadOrder_BadText => kit_is)
      (case q_t_BadOpenings_BadText => kit_is)
      (case q_t_NoPerson_BadText => kit_is)
      (case q_t_TooMany_BadText => kit_is)
      (case q_t_NoNumber_BadText => kit_is)
      (case q_z_NoHelp => kit_is)
      (case q_t_BadOrder_NoHelp => kit_is)
      (case q_t_BadOpenings_NoHelp => kit_is)
      (case q_t_NoPerson_NoHelp => kit_is)
      (case q_t_TooMany_NoHelp => kit_is)
      (case q_t_NoNumber_NoHelp => kit_is)
      (case q_z_NoNumber => kit_is)
      (case q_t_BadOrder_NoNumber => kit_is)
      (case q_t_BadOpenings_NoNumber => kit_is)
      (case q_t_NoPerson_NoNumber => kit_is)
      (case q_t_TooMany_NoNumber => kit_is)
      (case q_t_NoNumber_NoNumber => kit_is)
      (case q_z_NoPerson => kit_is)
      (case q_t_BadOrder_NoPerson => kit_is)
      (case q_t_BadOpenings_NoPerson => kit_is)
      (case q_t_NoPerson_NoPerson => kit_is)
      (case q_t_TooMany_NoPerson => kit_is)
      (case q_t_NoNumber_NoPerson => kit_is)
      (case q_z_TooMany => kit_is)
      (case q_t_BadOrder_TooMany => kit_is)
      (case q_t_BadOpenings_TooMany => kit_is)
      (case q_t_NoPerson_TooMany => kit_is)
      (case q_t_TooMany_TooMany => kit_is)
      (case q_t_NoNumber_TooMany => kit_is)
      (case q_z_ValueError => kit_is)
      (case q_t_BadOrder_ValueError => kit_is)
      (case q_t_BadOpenings_ValueError => kit_is)
      (case q_t_NoPerson_ValueError => kit_is)
      (case q_t_TooMany_ValueError => kit_is)
      (case q_t_NoNumber_ValueError => kit_is)
      (case q_b_BoxError => kit_is)
      (case q_c_BadOrder_BoxError => kit_is)
      (case q_d_BadOrder_BoxError => decide)
      (case q_c_BadOpenings_BoxError => kit_is)
      (case q_d_BadOpenings_BoxError => decide)
      (case q_c_NoPerson_BoxError => kit_is)
      (case q_d_NoPerson_BoxError => decide)
      (case q_c_TooMany_BoxError => kit_is)
      (case q_d_TooMany_BoxError => decide)
      (case q_c_NoNumber_BoxError => kit_is)
      (case q_d_NoNumber_BoxError => decide)
    obtain ⟨vZ, wE, zW, zT, wC, wD, wQ, wA, zU, zS, zQ, Z⟩ := BIG
    have n_BadBox := Z.1; replace Z := Z.2
    have n_BadGroup := Z.1; replace Z := Z.2
    have n_BadOpenings := Z.1; replace Z := Z.2
    have n_BadOrder := Z.1; replace Z := Z.2
    have n_BadPlan := Z.1; replace Z := Z.2
    have n_BadText := Z.1; replace Z := Z.2
    have n_BoxError := Z.1; replace Z := Z.2
    have n_NoHelp := Z.1; replace Z := Z.2
    have n_NoNumber := Z.1; replace Z := Z.2
    have n_NoPerson := Z.1; replace Z := Z.2
    have n_TooMany := Z.1; replace Z := Z.2
    have o_BadOrder := Z.1; replace Z := Z.2
    have g1_BadOrder := Z.1; replace Z := Z.2
    have g2_BadOrder := Z.1; replace Z := Z.2
    have g3_BadOrder := Z.1; replace Z := Z.2
    have g4_BadOrder := Z.1; replace Z := Z.2
    have g5_BadOrder := Z.1; replace Z := Z.2
    have g6_BadOrder := Z.1; replace Z := Z.2
    have o_BadOpenings := Z.1; replace Z := Z.2
    have g1_BadOpenings := Z.1; replace Z := Z.2
    have g2_BadOpenings := Z.1; replace Z := Z.2
    have g3_BadOpenings := Z.1; replace Z := Z.2
    have g4_BadOpenings := Z.1; replace Z := Z.2
    have g5_BadOpenings := Z.1; replace Z := Z.2
    have g6_BadOpenings := Z.1; replace Z := Z.2
    have o_NoPerson := Z.1; replace Z := Z.2
    have g1_NoPerson := Z.1; replace Z := Z.2
    have g2_NoPerson := Z.1; replace Z := Z.2
    have g3_NoPerson := Z.1; replace Z := Z.2
    have g4_NoPerson := Z.1; replace Z := Z.2
    have g5_NoPerson := Z.1; replace Z := Z.2
    have g6_NoPerson := Z.1; replace Z := Z.2
    have o_TooMany := Z.1; replace Z := Z.2
    have g1_TooMany := Z.1; replace Z := Z.2
    have g2_TooMany := Z.1; replace Z := Z.2
    have g3_TooMany := Z.1; replace Z := Z.2
    have g4_TooMany := Z.1; replace Z := Z.2
    have g5_TooMany := Z.1; replace Z := Z.2
    have g6_TooMany := Z.1; replace Z := Z.2
    have o_NoNumber := Z.1; replace Z := Z.2
    have g1_NoNumber := Z.1; replace Z := Z.2
    have g2_NoNumber := Z.1; replace Z := Z.2
    have g3_NoNumber := Z.1; replace Z := Z.2
    have g4_NoNumber := Z.1; replace Z := Z.2
    have g5_NoNumber := Z.1; replace Z := Z.2
    have g6_NoNumber := Z.1; replace Z := Z.2
    have z_BadBox := Z.1; replace Z := Z.2
    have t_BadOrder_BadBox := Z.1; replace Z := Z.2
    have t_BadOpenings_BadBox := Z.1; replace Z := Z.2
    have t_NoPerson_BadBox := Z.1; replace Z := Z.2
    have t_TooMany_BadBox := Z.1; replace Z := Z.2
    have t_NoNumber_BadBox := Z.1; replace Z := Z.2
    have z_BadGroup := Z.1; replace Z := Z.2
    have t_BadOrder_BadGroup := Z.1; replace Z := Z.2
    have t_BadOpenings_BadGroup := Z.1; replace Z := Z.2
    have t_NoPerson_BadGroup := Z.1; replace Z := Z.2
    have t_TooMany_BadGroup := Z.1; replace Z := Z.2
    have t_NoNumber_BadGroup := Z.1; replace Z := Z.2
    have z_BadOpenings := Z.1; replace Z := Z.2
    have t_BadOrder_BadOpenings := Z.1; replace Z := Z.2
    have t_BadOpenings_BadOpenings := Z.1; replace Z := Z.2
    have t_NoPerson_BadOpenings := Z.1; replace Z := Z.2
    have t_TooMany_BadOpenings := Z.1; replace Z := Z.2
    have t_NoNumber_BadOpenings := Z.1; replace Z := Z.2
    have z_BadOrder := Z.1; replace Z := Z.2
    have t_BadOrder_BadOrder := Z.1; replace Z := Z.2
    have t_BadOpenings_BadOrder := Z.1; replace Z := Z.2
    have t_NoPerson_BadOrder := Z.1; replace Z := Z.2
    have t_TooMany_BadOrder := Z.1; replace Z := Z.2
    have t_NoNumber_BadOrder := Z.1; replace Z := Z.2
    have z_BadPlan := Z.1; replace Z := Z.2
    have t_BadOrder_BadPlan := Z.1; replace Z := Z.2
    have t_BadOpenings_BadPlan := Z.1; replace Z := Z.2
    have t_NoPerson_BadPlan := Z.1; replace Z := Z.2
    have t_TooMany_BadPlan := Z.1; replace Z := Z.2
    have t_NoNumber_BadPlan := Z.1; replace Z := Z.2
    have z_BadText := Z.1; replace Z := Z.2
    have t_BadOrder_BadText := Z.1; replace Z := Z.2
    have t_BadOpenings_BadText := Z.1; replace Z := Z.2
    have t_NoPerson_BadText := Z.1; replace Z := Z.2
    have t_TooMany_BadText := Z.1; replace Z := Z.2
    have t_NoNumber_BadText := Z.1; replace Z := Z.2
    have z_NoHelp := Z.1; replace Z := Z.2
    have t_BadOrder_NoHelp := Z.1; replace Z := Z.2
    have t_BadOpenings_NoHelp := Z.1; replace Z := Z.2
    have t_NoPerson_NoHelp := Z.1; replace Z := Z.2
    have t_TooMany_NoHelp := Z.1; replace Z := Z.2
    have t_NoNumber_NoHelp := Z.1; replace Z := Z.2
    have z_NoNumber := Z.1; replace Z := Z.2
    have t_BadOrder_NoNumber := Z.1; replace Z := Z.2
    have t_BadOpenings_NoNumber := Z.1; replace Z := Z.2
    have t_NoPerson_NoNumber := Z.1; replace Z := Z.2
    have t_TooMany_NoNumber := Z.1; replace Z := Z.2
    have t_NoNumber_NoNumber := Z.1; replace Z := Z.2
    have z_NoPerson := Z.1; replace Z := Z.2
    have t_BadOrder_NoPerson := Z.1; replace Z := Z.2
    have t_BadOpenings_NoPerson := Z.1; replace Z := Z.2
    have t_NoPerson_NoPerson := Z.1; replace Z := Z.2
    have t_TooMany_NoPerson := Z.1; replace Z := Z.2
    have t_NoNumber_NoPerson := Z.1; replace Z := Z.2
    have z_TooMany := Z.1; replace Z := Z.2
    have t_BadOrder_TooMany := Z.1; replace Z := Z.2
    have t_BadOpenings_TooMany := Z.1; replace Z := Z.2
    have t_NoPerson_TooMany := Z.1; replace Z := Z.2
    have t_TooMany_TooMany := Z.1; replace Z := Z.2
    have t_NoNumber_TooMany := Z.1; replace Z := Z.2
    have z_ValueError := Z.1; replace Z := Z.2
    have t_BadOrder_ValueError := Z.1; replace Z := Z.2
    have t_BadOpenings_ValueError := Z.1; replace Z := Z.2
    have t_NoPerson_ValueError := Z.1; replace Z := Z.2
    have t_TooMany_ValueError := Z.1; replace Z := Z.2
    have t_NoNumber_ValueError := Z.1; replace Z := Z.2
    have b_BoxError := Z.1; replace Z := Z.2
    have c_BadOrder_BoxError := Z.1; replace Z := Z.2
    have d_BadOrder_BoxError := Z.1; replace Z := Z.2
    have c_BadOpenings_BoxError := Z.1; replace Z := Z.2
    have d_BadOpenings_BoxError := Z.1; replace Z := Z.2
    have c_NoPerson_BoxError := Z.1; replace Z := Z.2
    have d_NoPerson_BoxError := Z.1; replace Z := Z.2
    have c_TooMany_BoxError := Z.1; replace Z := Z.2
    have d_TooMany_BoxError := Z.1; replace Z := Z.2
    have c_NoNumber_BoxError := Z.1; replace Z := Z.2
    have d_NoNumber_BoxError := Z
    have e_BadBox : L2.L3.CN.ad "BadBox" = vZ := L2.L3.cn_ad n_BadBox
    have e_BadGroup : L2.L3.CN.ad "BadGroup" = wE := L2.L3.cn_ad n_BadGroup
    have e_BadOpenings : L2.L3.CN.ad "BadOpenings" = zW := L2.L3.cn_ad n_BadOpenings
    have e_BadOrder : L2.L3.CN.ad "BadOrder" = zT := L2.L3.cn_ad n_BadOrder
    have e_BadPlan : L2.L3.CN.ad "BadPlan" = wC := L2.L3.cn_ad n_BadPlan
    have e_BadText : L2.L3.CN.ad "BadText" = wD := L2.L3.cn_ad n_BadText
    have e_BoxError : L2.L3.CN.ad "BoxError" = wQ := L2.L3.cn_ad n_BoxError
    have e_NoHelp : L2.L3.CN.ad "NoHelp" = wA := L2.L3.cn_ad n_NoHelp
    have e_NoNumber : L2.L3.CN.ad "NoNumber" = zU := L2.L3.cn_ad n_NoNumber
    have e_NoPerson : L2.L3.CN.ad "NoPerson" = zS := L2.L3.cn_ad n_NoPerson
    have e_TooMany : L2.L3.CN.ad "TooMany" = zQ := L2.L3.cn_ad n_TooMany
    have k_BadOrder : PySem.ExK (L2.KOf KX) (L2.L3.CN.ad "BadOrder") := by rw [e_BadOrder]; exact ⟨g1_BadOrder, g2_BadOrder, g3_BadOrder, L2.L3.subT_of g4_BadOrder, L2.L3.subT_of g5_BadOrder, g6_BadOrder⟩
    have k_BadOpenings : PySem.ExK (L2.KOf KX) (L2.L3.CN.ad "BadOpenings") := by rw [e_BadOpenings]; exact ⟨g1_BadOpenings, g2_BadOpenings, g3_BadOpenings, L2.L3.subT_of g4_BadOpenings, L2.L3.subT_of g5_BadOpenings, g6_BadOpenings⟩
    have k_NoPerson : PySem.ExK (L2.KOf KX) (L2.L3.CN.ad "NoPerson") := by rw [e_NoPerson]; exact ⟨g1_NoPerson, g2_NoPerson, g3_NoPerson, L2.L3.subT_of g4_NoPerson, L2.L3.subT_of g5_NoPerson, g6_NoPerson⟩
    have k_TooMany : PySem.ExK (L2.KOf KX) (L2.L3.CN.ad "TooMany") := by rw [e_TooMany]; exact ⟨g1_TooMany, g2_TooMany, g3_TooMany, L2.L3.subT_of g4_TooMany, L2.L3.subT_of g5_TooMany, g6_TooMany⟩
    have k_NoNumber : PySem.ExK (L2.KOf KX) (L2.L3.CN.ad "NoNumber") := by rw [e_NoNumber]; exact ⟨g1_NoNumber, g2_NoNumber, g3_NoNumber, L2.L3.subT_of g4_NoNumber, L2.L3.subT_of g5_NoNumber, g6_NoNumber⟩
    have T : K42.Txt (L2.KOf KX) mg := by
      dsimp only [L2.KOf]
      refine' ⟨PySem.W.mg_none_of KX G ?z0, PySem.W.mg_none_of KX G ?z1, PySem.W.mg_none_of KX G ?z2, PySem.W.mg_none_of KX G ?z3, PySem.W.mg_none_of KX G ?z4, PySem.W.mg_none_of KX G ?z5, PySem.W.mg_none_of KX G ?z6, PySem.W.mg_none_of KX G ?z7, PySem.W.mg_none_of KX G ?z8, PySem.W.mg_none_of KX G ?z9, PySem.W.mg_none_of KX G ?z10, ⟨_, PySem.W.mg_of KX G ?y0, ?x0⟩, D_is_order, D_ring_from, D_rings_of, D_order_by, D_turned_back, D_behind, D_made_openings, D_check_person, D_check_people, D_check_people_and_k, D_many_by_lengths, D_many_good, D_many_first_rings, D_many_with_first_ring, D_ring_at, D_ring_place, D_good_at, D_good_number, D_opened_as, D_finders_as, D_dealing_at, D_dealing_number, D_l_order, D_l_rings, D_l_called, D_l_asked, D_l_bad_openings, D_l_right, (let ⟨f, fd, h, _⟩ := D_law; ⟨f, fd, h⟩), ?xa0, ?xa1, ?xa2, ?xa3, ?xa4, ?xa5, ?xa6, ?xa7, ?xa8, ?xa9, ?xa10, ?xb0, ?xb1, ?xb2, ?xb3, ?xb4, ?xc0, ?xc1, ?xc2, ?xc3, ?xc4, ?xc5, ?xc6, ?xc7, ?xc8, ?xc9, ?xd0, ?xe0, ?xf0⟩
      (case z0 => k_is)
      (case z1 => k_is)
      (case z2 => k_is)
      (case z3 => k_is)
      (case z4 => k_is)
      (case z5 => k_is)
      (case z6 => k_is)
      (case z7 => k_is)
      (case z8 => k_is)
      (case z9 => k_is)
      (case z10 => k_is)
      (case y0 => k_is); (case x0 => exact ⟨_, rfl⟩)
      (case xa0 => rw [e_BadBox]; exact PySem.W.mg_of KX G n_BadBox)
      (case xa1 => rw [e_BadGroup]; exact PySem.W.mg_of KX G n_BadGroup)
      (case xa2 => rw [e_BadOpenings]; exact PySem.W.mg_of KX G n_BadOpenings)
      (case xa3 => rw [e_BadOrder]; exact PySem.W.mg_of KX G n_BadOrder)
      (case xa4 => rw [e_BadPlan]; exact PySem.W.mg_of KX G n_BadPlan)
      (case xa5 => rw [e_BadText]; exact PySem.W.mg_of KX G n_BadText)
      (case xa6 => rw [e_BoxError]; exact PySem.W.mg_of KX G n_BoxError)
      (case xa7 => rw [e_NoHelp]; exact PySem.W.mg_of KX G n_NoHelp)
      (case xa8 => rw [e_NoNumber]; exact PySem.W.mg_of KX G n_NoNumber)
      (case xa9 => rw [e_NoPerson]; exact PySem.W.mg_of KX G n_NoPerson)
      (case xa10 => rw [e_TooMany]; exact PySem.W.mg_of KX G n_TooMany)
      (case xb0 => unfold L2.L3.OwnX; rw [e_BadOpenings]; exact o_BadOpenings)
      (case xb1 => unfold L2.L3.OwnX; rw [e_BadOrder]; exact o_BadOrder)
      (case xb2 => unfold L2.L3.OwnX; rw [e_NoNumber]; exact o_NoNumber)
      (case xb3 => unfold L2.L3.OwnX; rw [e_NoPerson]; exact o_NoPerson)
      (case xb4 => unfold L2.L3.OwnX; rw [e_TooMany]; exact o_TooMany)
      (case xc0 => exact L2.L3.isK_of (by rw [e_BadBox]; exact z_BadBox) (List.forall_mem_cons.2 ⟨⟨k_BadOrder, by rw [e_BadOrder, e_BadBox]; exact t_BadOrder_BadBox.trans (congrArg some (by decide))⟩, (List.forall_mem_cons.2 ⟨⟨k_BadOpenings, by rw [e_BadOpenings, e_BadBox]; exact t_BadOpenings_BadBox.trans (congrArg some (by decide))⟩, (List.forall_mem_cons.2 ⟨⟨k_NoPerson, by rw [e_NoPerson, e_BadBox]; exact t_NoPerson_BadBox.trans (congrArg some (by decide))⟩, (List.forall_mem_cons.2 ⟨⟨k_TooMany, by rw [e_TooMany, e_BadBox]; exact t_TooMany_BadBox.trans (congrArg some (by decide))⟩, (List.forall_mem_cons.2 ⟨⟨k_NoNumber, by rw [e_NoNumber, e_BadBox]; exact t_NoNumber_BadBox.trans (congrArg some (by decide))⟩, (fun _ h => nomatch h)⟩)⟩)⟩)⟩)⟩))
      (case xc1 => exact L2.L3.isK_of (by rw [e_BadGroup]; exact z_BadGroup) (List.forall_mem_cons.2 ⟨⟨k_BadOrder, by rw [e_BadOrder, e_BadGroup]; exact t_BadOrder_BadGroup.trans (congrArg some (by decide))⟩, (List.forall_mem_cons.2 ⟨⟨k_BadOpenings, by rw [e_BadOpenings, e_BadGroup]; exact t_BadOpenings_BadGroup.trans (congrArg some (by decide))⟩, (List.forall_mem_cons.2 ⟨⟨k_NoPerson, by rw [e_NoPerson, e_BadGroup]; exact t_NoPerson_BadGroup.trans (congrArg some (by decide))⟩, (List.forall_mem_cons.2 ⟨⟨k_TooMany, by rw [e_TooMany, e_BadGroup]; exact t_TooMany_BadGroup.trans (congrArg some (by decide))⟩, (List.forall_mem_cons.2 ⟨⟨k_NoNumber, by rw [e_NoNumber, e_BadGroup]; exact t_NoNumber_BadGroup.trans (congrArg some (by decide))⟩, (fun _ h => nomatch h)⟩)⟩)⟩)⟩)⟩))
      (case xc2 => exact L2.L3.isK_of (by rw [e_BadOpenings]; exact z_BadOpenings) (List.forall_mem_cons.2 ⟨⟨k_BadOrder, by rw [e_BadOrder, e_BadOpenings]; exact t_BadOrder_BadOpenings.trans (congrArg some (by decide))⟩, (List.forall_mem_cons.2 ⟨⟨k_BadOpenings, by rw [e_BadOpenings]; exact t_BadOpenings_BadOpenings.trans (congrArg some (by decide))⟩, (List.forall_mem_cons.2 ⟨⟨k_NoPerson, by rw [e_NoPerson, e_BadOpenings]; exact t_NoPerson_BadOpenings.trans (congrArg some (by decide))⟩, (List.forall_mem_cons.2 ⟨⟨k_TooMany, by rw [e_TooMany, e_BadOpenings]; exact t_TooMany_BadOpenings.trans (congrArg some (by decide))⟩, (List.forall_mem_cons.2 ⟨⟨k_NoNumber, by rw [e_NoNumber, e_BadOpenings]; exact t_NoNumber_BadOpenings.trans (congrArg some (by decide))⟩, (fun _ h => nomatch h)⟩)⟩)⟩)⟩)⟩))
      (case xc3 => exact L2.L3.isK_of (by rw [e_BadOrder]; exact z_BadOrder) (List.forall_mem_cons.2 ⟨⟨k_BadOrder, by rw [e_BadOrder]; exact t_BadOrder_BadOrder.trans (congrArg some (by decide))⟩, (List.forall_mem_cons.2 ⟨⟨k_BadOpenings, by rw [e_BadOpenings, e_BadOrder]; exact t_BadOpenings_BadOrder.trans (congrArg some (by decide))⟩, (List.forall_mem_cons.2 ⟨⟨k_NoPerson, by rw [e_NoPerson, e_BadOrder]; exact t_NoPerson_BadOrder.trans (congrArg some (by decide))⟩, (List.forall_mem_cons.2 ⟨⟨k_TooMany, by rw [e_TooMany, e_BadOrder]; exact t_TooMany_BadOrder.trans (congrArg some (by decide))⟩, (List.forall_mem_cons.2 ⟨⟨k_NoNumber, by rw [e_NoNumber, e_BadOrder]; exact t_NoNumber_BadOrder.trans (congrArg some (by decide))⟩, (fun _ h => nomatch h)⟩)⟩)⟩)⟩)⟩))
      (case xc4 => exact L2.L3.isK_of (by rw [e_BadPlan]; exact z_BadPlan) (List.forall_mem_cons.2 ⟨⟨k_BadOrder, by rw [e_BadOrder, e_BadPlan]; exact t_BadOrder_BadPlan.trans (congrArg some (by decide))⟩, (List.forall_mem_cons.2 ⟨⟨k_BadOpenings, by rw [e_BadOpenings, e_BadPlan]; exact t_BadOpenings_BadPlan.trans (congrArg some (by decide))⟩, (List.forall_mem_cons.2 ⟨⟨k_NoPerson, by rw [e_NoPerson, e_BadPlan]; exact t_NoPerson_BadPlan.trans (congrArg some (by decide))⟩, (List.forall_mem_cons.2 ⟨⟨k_TooMany, by rw [e_TooMany, e_BadPlan]; exact t_TooMany_BadPlan.trans (congrArg some (by decide))⟩, (List.forall_mem_cons.2 ⟨⟨k_NoNumber, by rw [e_NoNumber, e_BadPlan]; exact t_NoNumber_BadPlan.trans (congrArg some (by decide))⟩, (fun _ h => nomatch h)⟩)⟩)⟩)⟩)⟩))
      (case xc5 => exact L2.L3.isK_of (by rw [e_BadText]; exact z_BadText) (List.forall_mem_cons.2 ⟨⟨k_BadOrder, by rw [e_BadOrder, e_BadText]; exact t_BadOrder_BadText.trans (congrArg some (by decide))⟩, (List.forall_mem_cons.2 ⟨⟨k_BadOpenings, by rw [e_BadOpenings, e_BadText]; exact t_BadOpenings_BadText.trans (congrArg some (by decide))⟩, (List.forall_mem_cons.2 ⟨⟨k_NoPerson, by rw [e_NoPerson, e_BadText]; exact t_NoPerson_BadText.trans (congrArg some (by decide))⟩, (List.forall_mem_cons.2 ⟨⟨k_TooMany, by rw [e_TooMany, e_BadText]; exact t_TooMany_BadText.trans (congrArg some (by decide))⟩, (List.forall_mem_cons.2 ⟨⟨k_NoNumber, by rw [e_NoNumber, e_BadText]; exact t_NoNumber_BadText.trans (congrArg some (by decide))⟩, (fun _ h => nomatch h)⟩)⟩)⟩)⟩)⟩))
      (case xc6 => exact L2.L3.isK_of (by rw [e_NoHelp]; exact z_NoHelp) (List.forall_mem_cons.2 ⟨⟨k_BadOrder, by rw [e_BadOrder, e_NoHelp]; exact t_BadOrder_NoHelp.trans (congrArg some (by decide))⟩, (List.forall_mem_cons.2 ⟨⟨k_BadOpenings, by rw [e_BadOpenings, e_NoHelp]; exact t_BadOpenings_NoHelp.trans (congrArg some (by decide))⟩, (List.forall_mem_cons.2 ⟨⟨k_NoPerson, by rw [e_NoPerson, e_NoHelp]; exact t_NoPerson_NoHelp.trans (congrArg some (by decide))⟩, (List.forall_mem_cons.2 ⟨⟨k_TooMany, by rw [e_TooMany, e_NoHelp]; exact t_TooMany_NoHelp.trans (congrArg some (by decide))⟩, (List.forall_mem_cons.2 ⟨⟨k_NoNumber, by rw [e_NoNumber, e_NoHelp]; exact t_NoNumber_NoHelp.trans (congrArg some (by decide))⟩, (fun _ h => nomatch h)⟩)⟩)⟩)⟩)⟩))
      (case xc7 => exact L2.L3.isK_of (by rw [e_NoNumber]; exact z_NoNumber) (List.forall_mem_cons.2 ⟨⟨k_BadOrder, by rw [e_BadOrder, e_NoNumber]; exact t_BadOrder_NoNumber.trans (congrArg some (by decide))⟩, (List.forall_mem_cons.2 ⟨⟨k_BadOpenings, by rw [e_BadOpenings, e_NoNumber]; exact t_BadOpenings_NoNumber.trans (congrArg some (by decide))⟩, (List.forall_mem_cons.2 ⟨⟨k_NoPerson, by rw [e_NoPerson, e_NoNumber]; exact t_NoPerson_NoNumber.trans (congrArg some (by decide))⟩, (List.forall_mem_cons.2 ⟨⟨k_TooMany, by rw [e_TooMany, e_NoNumber]; exact t_TooMany_NoNumber.trans (congrArg some (by decide))⟩, (List.forall_mem_cons.2 ⟨⟨k_NoNumber, by rw [e_NoNumber]; exact t_NoNumber_NoNumber.trans (congrArg some (by decide))⟩, (fun _ h => nomatch h)⟩)⟩)⟩)⟩)⟩))
      (case xc8 => exact L2.L3.isK_of (by rw [e_NoPerson]; exact z_NoPerson) (List.forall_mem_cons.2 ⟨⟨k_BadOrder, by rw [e_BadOrder, e_NoPerson]; exact t_BadOrder_NoPerson.trans (congrArg some (by decide))⟩, (List.forall_mem_cons.2 ⟨⟨k_BadOpenings, by rw [e_BadOpenings, e_NoPerson]; exact t_BadOpenings_NoPerson.trans (congrArg some (by decide))⟩, (List.forall_mem_cons.2 ⟨⟨k_NoPerson, by rw [e_NoPerson]; exact t_NoPerson_NoPerson.trans (congrArg some (by decide))⟩, (List.forall_mem_cons.2 ⟨⟨k_TooMany, by rw [e_TooMany, e_NoPerson]; exact t_TooMany_NoPerson.trans (congrArg some (by decide))⟩, (List.forall_mem_cons.2 ⟨⟨k_NoNumber, by rw [e_NoNumber, e_NoPerson]; exact t_NoNumber_NoPerson.trans (congrArg some (by decide))⟩, (fun _ h => nomatch h)⟩)⟩)⟩)⟩)⟩))
      (case xc9 => exact L2.L3.isK_of (by rw [e_TooMany]; exact z_TooMany) (List.forall_mem_cons.2 ⟨⟨k_BadOrder, by rw [e_BadOrder, e_TooMany]; exact t_BadOrder_TooMany.trans (congrArg some (by decide))⟩, (List.forall_mem_cons.2 ⟨⟨k_BadOpenings, by rw [e_BadOpenings, e_TooMany]; exact t_BadOpenings_TooMany.trans (congrArg some (by decide))⟩, (List.forall_mem_cons.2 ⟨⟨k_NoPerson, by rw [e_NoPerson, e_TooMany]; exact t_NoPerson_TooMany.trans (congrArg some (by decide))⟩, (List.forall_mem_cons.2 ⟨⟨k_TooMany, by rw [e_TooMany]; exact t_TooMany_TooMany.trans (congrArg some (by decide))⟩, (List.forall_mem_cons.2 ⟨⟨k_NoNumber, by rw [e_NoNumber, e_TooMany]; exact t_NoNumber_TooMany.trans (congrArg some (by decide))⟩, (fun _ h => nomatch h)⟩)⟩)⟩)⟩)⟩))
      (case xd0 => exact L2.L3.isK_of z_ValueError (List.forall_mem_cons.2 ⟨⟨k_BadOrder, by rw [e_BadOrder]; exact t_BadOrder_ValueError.trans (congrArg some (by decide))⟩, (List.forall_mem_cons.2 ⟨⟨k_BadOpenings, by rw [e_BadOpenings]; exact t_BadOpenings_ValueError.trans (congrArg some (by decide))⟩, (List.forall_mem_cons.2 ⟨⟨k_NoPerson, by rw [e_NoPerson]; exact t_NoPerson_ValueError.trans (congrArg some (by decide))⟩, (List.forall_mem_cons.2 ⟨⟨k_TooMany, by rw [e_TooMany]; exact t_TooMany_ValueError.trans (congrArg some (by decide))⟩, (List.forall_mem_cons.2 ⟨⟨k_NoNumber, by rw [e_NoNumber]; exact t_NoNumber_ValueError.trans (congrArg some (by decide))⟩, (fun _ h => nomatch h)⟩)⟩)⟩)⟩)⟩))
      (case xe0 => exact L2.L3.kx_of (List.forall_mem_cons.2 ⟨by rw [e_BadOrder, e_BoxError]; exact L2.L3.kitCls_of c_BadOrder_BoxError d_BadOrder_BoxError, (List.forall_mem_cons.2 ⟨by rw [e_BadOpenings, e_BoxError]; exact L2.L3.kitCls_of c_BadOpenings_BoxError d_BadOpenings_BoxError, (List.forall_mem_cons.2 ⟨by rw [e_NoPerson, e_BoxError]; exact L2.L3.kitCls_of c_NoPerson_BoxError d_NoPerson_BoxError, (List.forall_mem_cons.2 ⟨by rw [e_TooMany, e_BoxError]; exact L2.L3.kitCls_of c_TooMany_BoxError d_TooMany_BoxError, (List.forall_mem_cons.2 ⟨by rw [e_NoNumber, e_BoxError]; exact L2.L3.kitCls_of c_NoNumber_BoxError d_NoNumber_BoxError, (fun _ h => nomatch h)⟩)⟩)⟩)⟩)⟩))
      (case xf0 => rw [e_BoxError]; exact L2.L3.subT_of b_BoxError)
    obtain ⟨fl, fdl, HL, HB⟩ := D_law
    have e0 := hmg.symm.trans HL.m
    cases e0
    exact ⟨fdl, HB, fun base kb nb => K42.ok_law T HL⟩
#print axioms PySem.Challenge.cw_ownboxes_k42_dealings_refused_holds