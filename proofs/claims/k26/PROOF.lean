import PyProof.Rows.All
import Wide.All
import OpenK.AllK
import Wide.FinOn
import Lean
import PyProof.EqAt
import PyProof.EqKinds
import PyProof.TupleCall
import PySem.Challenge.RW_ownboxes_k26_full_plans_and_shares
set_option compiler.extract_closed false
theorem autoK1 (_h : True := by first | exact .inl rfl | exact .inr rfl | assumption) : True := trivial
theorem vY (_h : True := by decide) : True := trivial
theorem autoK4 (_h : True := by intro _; rfl) : True := trivial
theorem zX (_h : True := by rfl) : True := trivial
theorem autoK7 (_h : True := by with_unfolding_all rfl) : True := trivial
theorem autoK8 (_h : True := by first | exact Or.inl rfl | exact Or.inr (Or.inl rfl) | exact Or.inr (Or.inr rfl)) : True := trivial
theorem autoK9 (_h : True := by exact fun _ _ => rfl) : True := trivial
theorem autoK10 (_h : True := by first | exact nomark _ | rfl) : True := trivial
theorem autoK11 (_h : True := by first | exact Or.inl rfl | exact Or.inr rfl) : True := trivial
theorem autoK12 (_h : True := by first | exact .inl rfl | exact .inr rfl) : True := trivial
theorem autoK13 (_h : True := by exact PassesOwn.never) : True := trivial
local macro_rules | `(tactic| bv_omega) => `(tactic| first | lia | omega)
set_option Elab.async false
set_option linter.all false
set_option maxRecDepth 100000
noncomputable section
namespace L2
open PySem PySem.Spec PyProof.Rows
abbrev Key := Sum Int Str
def keyIs : Key → Value → Bool
  | .inl k, v => Value.isInt k v
  | .inr x, v => Value.isStrOf x v
def keyH (w : World) : Key → Int
  | .inl k => hashInt k
  | .inr x => hashStr w x
theorem keyIs_shape : ∀ {k : Key} {v : Value}, keyIs k v = true → (∃ i t, k = Sum.inl i ∧ v = Value.int i t) ∨ (∃ x t, k = Sum.inr x ∧ v = Value.str x t)
  | .inl i, v, h => by
    obtain ⟨t, e⟩ := Value.isInt_shape (k := i) (v := v) h
    exact .inl ⟨i, t, rfl, e⟩
  | .inr x, v, h => by
    obtain ⟨t, e⟩ := Value.isStrOf_shape (x := x) (v := v) h
    exact .inr ⟨x, t, rfl, e⟩
theorem key_ll (a b : Int) : decide ((Sum.inl a : Key) = Sum.inl b) = (a == b) := by
  by_cases e : a = b
  · subst e; simp
  · have h : ¬ (Sum.inl a : Key) = Sum.inl b := fun q => e (Sum.inl.inj q)
    rw [decide_eq_false h]
    exact (beq_eq_false_iff_ne.mpr e).symm
theorem key_rr (a b : Str) : decide ((Sum.inr a : Key) = Sum.inr b) = decide (a = b) := by
  by_cases e : a = b
  · subst e; simp
  · have h : ¬ (Sum.inr a : Key) = Sum.inr b := fun q => e (Sum.inr.inj q)
    rw [decide_eq_false h, decide_eq_false e]
theorem key_lr (a : Int) (b : Str) : decide ((Sum.inl a : Key) = Sum.inr b) = false := decide_eq_false (fun q => nomatch q)
theorem key_rl (a : Str) (b : Int) : decide ((Sum.inr a : Key) = Sum.inl b) = false := decide_eq_false (fun q => nomatch q)
def mixKind (prog : Program) (w : World) : PySem.KeyKind prog w Key where
  is := keyIs
  hash := keyH w
  inj := fun v a b ha hb => by
    rcases keyIs_shape ha with ⟨i, t, rfl, rfl⟩ | ⟨x, t, rfl, rfl⟩
    · rcases keyIs_shape hb with ⟨j, u, rfl, e⟩ | ⟨y, u, rfl, e⟩
      · injection e with e1 _; rw [e1]
      · exact nomatch e
    · rcases keyIs_shape hb with ⟨j, u, rfl, e⟩ | ⟨y, u, rfl, e⟩
      · exact nomatch e
      · injection e with e1 _; rw [e1]
  byValue := fun k v h => by
    rcases keyIs_shape h with ⟨i, t, rfl, rfl⟩ | ⟨x, t, rfl, rfl⟩ <;> rfl
  pyHash := fun hv h => by
    rcases keyIs_shape hv with ⟨i, t, rfl, rfl⟩ | ⟨x, t, rfl, rfl⟩
    · exact wpAny_pyHash_int h
    · exact wpAny_pyHash_str h
  eqBool := fun hu hv h => by
    rcases keyIs_shape hu with ⟨i, t, rfl, rfl⟩ | ⟨x, t, rfl, rfl⟩
    · rcases keyIs_shape hv with ⟨j, u, rfl, rfl⟩ | ⟨y, u, rfl, rfl⟩
      · rw [key_ll] at h; exact wpAny_eqBool_int h
      · rw [key_lr] at h; exact SeqAt.EqAt.int_str i t y u _ _ _ _ h
    · rcases keyIs_shape hv with ⟨j, u, rfl, rfl⟩ | ⟨y, u, rfl, rfl⟩
      · rw [key_rl] at h; exact SeqAt.EqAt.str_int x t j u _ _ _ _ h
      · rw [key_rr] at h; exact wpAny_eqBool_str h
  «strs» := fun k x t v h => by
    rcases keyIs_shape h with ⟨i, u, rfl, e⟩ | ⟨y, u, rfl, e⟩
    · exact nomatch e
    · injection e with e1 _
      subst e1
      cases v <;> rfl
end L2
namespace L2
open PySem PySem.Spec PyProof.Rows
inductive V where
  | non | bl (b : Bool) | int (i : Int) | str (x : Str) | byt (b : Array UInt8) | flt (b : UInt64) | ref (a : Addr) | ty (n : String)
  deriving DecidableEq
def RelV : V → Value → Prop
  | .non, u => u = Value.none
  | .bl b, u => u = Value.bool b
  | .int i, u => ∃ t, u = Value.int i t
  | .str x, u => ∃ t, u = Value.str x t
  | .byt b, u => ∃ t, u = Value.bytes b t
  | .flt b, u => ∃ t, u = Value.float b t
  | .ref a, u => u = Value.ref a
  | .ty n, u => u = Value.type n
abbrev Vals : List V → List Value → Prop := Paired RelV
theorem Vals.length {xs : List V} {us : List Value} (r : Vals xs us) : xs.length = us.length := Paired.length r
theorem Vals.get : ∀ {xs : List V} {us : List Value} {i : Nat} {x : V}, Vals xs us → xs[i]? = some x → ∃ u, us[i]? = some u ∧ RelV x u
  | _, _, _, _, .nil, e => by simp at e
  | _, _, 0, _, .cons r _, e => by simp at e; subst e; exact ⟨_, rfl, r⟩
  | _, _, i + 1, x, .cons _ t, e => by
    obtain ⟨u, h1, h2⟩ := Vals.get (i := i) (x := x) t (by simpa using e)
    exact ⟨u, by simpa using h1, h2⟩
theorem Vals.set {x : V} {u : Value} (r : RelV x u) : ∀ {xs : List V} {us : List Value} (i : Nat), Vals xs us → Vals (xs.set i x) (us.set i u)
  | _, _, _, .nil => .nil
  | _, _, 0, .cons _ t => .cons r t
  | _, _, i + 1, .cons q t => .cons q (Vals.set r i t)
theorem Vals.append : ∀ {xs ys : List V} {us ws : List Value}, Vals xs us → Vals ys ws → Vals (xs ++ ys) (us ++ ws)
  | _, _, _, _, .nil, s => s
  | _, _, _, _, .cons r t, s => .cons r (Vals.append t s)
theorem Vals.take : ∀ {xs : List V} {us : List Value} (n : Nat), Vals xs us → Vals (xs.take n) (us.take n)
  | _, _, 0, _ => .nil
  | _, _, _ + 1, .nil => .nil
  | _, _, n + 1, .cons r t => .cons r (Vals.take n t)
theorem Vals.drop : ∀ {xs : List V} {us : List Value} (n : Nat), Vals xs us → Vals (xs.drop n) (us.drop n)
  | _, _, 0, r => r
  | _, _, _ + 1, .nil => .nil
  | _, _, n + 1, .cons _ t => Vals.drop n t
theorem Vals.none_of : ∀ {xs : List V} {us : List Value} {i : Nat}, Vals xs us → xs[i]? = none → us[i]? = none := fun {xs us i} r e => by
  have h1 := r.length
  have h2 : xs.length ≤ i := List.getElem?_eq_none_iff.mp e
  exact List.getElem?_eq_none_iff.mpr (by bv_omega)
def RelO : Option V → Option Value → Prop
  | some v, some u => RelV v u
  | none, none => True
  | _, _ => False
def KV {κ : Type} : List (κ × V) → List (κ × Value) → Prop := Paired fun (p : κ × V) (q : κ × Value) => p.1 = q.1 ∧ RelV p.2 q.2
def kV : Key → V
  | .inl i => .int i
  | .inr x => .str x
inductive HO where
  | lst (xs : List V)
  | tup (xs : List V)
  | dK (kvs : List (Key × V)) | dT (kvs : List (List Key × V))
  | set (S : Int → Bool) (n : Nat)
  | ins (C dx : Addr) (fs : List (Str × V))
  | own (x : Addr)
  | xd (fs : List (Str × V))
  | met (f x : Addr)
  | rng (lo hi : Int)
  | frz (o : Obj) (u : HO)
  | tbl (ps : Array Value)
  | ext (φ : Heap → Prop)
abbrev Hp := Addr → Option HO
def upd (H : Hp) (a : Addr) (o : HO) : Hp := fun b => if b = a then some o else H b
theorem wL {H : Hp} {a : Addr} {o : HO} : upd H a o a = some o := by unfold upd; rw [if_pos rfl]
theorem yA {H : Hp} {a b : Addr} {o : HO} (h : b ≠ a) : upd H a o b = H b := by unfold upd; rw [if_neg h]
theorem upd_upd {H : Hp} {a : Addr} {o u : HO} : upd (upd H a o) a u = upd H a u := by
  funext b; unfold upd; split <;> rfl
theorem ne_of_none {H : Hp} {a b : Addr} {o : HO} (h : H a = some o) (h' : H b = none) : a ≠ b := by
  intro e; subst e; rw [h] at h'; cases h'
def TupAt (h : Heap) (a : Addr) (its : Array Value) : Prop := ∃ o, h.get? a = some o ∧ o.cls = .type "tuple" ∧ (∃ n, o.data = .seq its n) ∧ o.dict = none
theorem TupAt.tup {h : Heap} {a : Addr} {its : Array Value} (x : TupAt h a its) : IsTup h a its := by
  obtain ⟨o, e, c, d, _⟩ := x
  exact ⟨o, e, c, d⟩
theorem TupAt.new (h : Heap) (its : Array Value) : TupAt (h.push { cls := .type "tuple", data := .seq its }) h.objs.size its := ⟨_, Heap.get?_push_size _ rfl, rfl, ⟨_, rfl⟩, rfl⟩
section
variable (P : Program) (w : World)
def ObjOk (H : Hp) (h : Heap) (a : Addr) : HO → Prop
  | .lst xs => xs.length ≤ sizeLine ∧ ∃ (its : List Value) (n : Nat), Vals xs its ∧ h.get? a = some { cls := .type "list", data := .seq its.toArray n }
  | .tup xs => xs.length ≤ sizeLine ∧ ∃ its : List Value, Vals xs its ∧ TupAt h a its.toArray
  | .dK kvs => kvs.length ≤ sizeLine ∧ (a == sysModules) = false ∧ ∃ vs, KV kvs vs ∧ h.DictOf (mixKind P w) a vs
  | .dT kvs => kvs.length ≤ sizeLine ∧ (a == sysModules) = false ∧ ∃ xs : List (List Key × Addr × Value),
      Paired (fun (p : List Key × V) (q : List Key × Addr × Value) => p.1 = q.1 ∧ H q.2.1 = some (.tup (p.1.map kV)) ∧ RelV p.2 q.2.2) kvs xs ∧
      ∃ o es ep, h.get? a = some o ∧ o.ExactDict ∧ o.data = .dict es ep ∧ es.toList = xs.map (entryOfKey (tupleKind (mixKind P w))) ∧ (xs.map (·.1)).Nodup
  | .set S n => h.SetOf (intKind P w) a S n
  | .ins C dx fs => H dx = some (.own a) ∧ fs.length ≤ 1000 ∧ dx ≠ a ∧ h.get? a = some (PySem.W.instObj C dx) ∧
      ∃ mA, h.Ns1 dx mA ∧ (∀ f, RelO (fs.lookup f) (mA f)) ∧ PySem.Within mA (fs.map (·.1))
  | .own _ => ∃ o, h.get? a = some o
  | .xd fs => ∃ mA, h.Ns1 a mA ∧ ∀ f, RelO (fs.lookup f) (mA f)
  | .rng lo hi => ∃ t u v, h.get? a = some { cls := .type "range", data := .fields #[.int lo t, .int hi u, .int 1 v] }
  | .frz o u => h.get? a = some o ∧ ObjOk H h a u
  | .tbl ps => h.get? a = some { cls := .none, data := .fields ps }
  | .met f x => h.get? a = some (PySem.W.methodObj (.ref f) (.ref x))
  | .ext φ => φ h ∧ (∃ o, h.get? a = some o) ∧ ∀ h1 h2 : Heap, φ h1 → (∀ o, h1.get? a = some o → h2.get? a = some o) → φ h2
def HOk (H : Hp) (h : Heap) : Prop := ∀ a o, H a = some o → ObjOk P w H h a o
end
section
variable {P : Program} {w : World} {H H' : Hp} {h h' : Heap} {a : Addr} {o : HO}
theorem ObjOk.lt (x : ObjOk P w H h a o) : a < h.objs.size := by
  cases o with
  | lst xs => obtain ⟨_, _, _, _, e⟩ := x; exact Heap.lt_size e
  | tup xs => obtain ⟨_, _, _, p⟩ := x; exact p.tup.lt
  | dK kvs => obtain ⟨_, _, _, _, o, _, _, e, _⟩ := x; exact Heap.lt_size e
  | dT kvs => obtain ⟨_, _, _, _, o, _, _, e, _⟩ := x; exact Heap.lt_size e
  | set S n => obtain ⟨o, _, _, _, e, _⟩ := x; exact Heap.lt_size e
  | ins C dx fs => obtain ⟨_, _, _, e, _⟩ := x; exact Heap.lt_size e
  | own y => obtain ⟨_, e⟩ := x; exact Heap.lt_size e
  | xd fs => obtain ⟨_, ⟨_, _, _, e, _⟩, _⟩ := x; exact Heap.lt_size e
  | rng lo hi => obtain ⟨_, _, _, e⟩ := x; exact Heap.lt_size e
  | frz ob u => obtain ⟨e, _⟩ := x; exact Heap.lt_size e
  | tbl ps => exact Heap.lt_size (show h.get? a = some _ from x)
  | met f y => exact Heap.lt_size (show h.get? a = some _ from x)
  | ext φ => obtain ⟨_, ⟨_, e⟩, _⟩ := x; exact Heap.lt_size e
theorem Paired.mapP {α β : Type} {F G : α → β → Prop} : ∀ {l₁ : List α} {l₂ : List β}, Paired F l₁ l₂ → (∀ a b, F a b → G a b) → Paired G l₁ l₂
  | _, _, .nil, _ => .nil
  | _, _, .cons r t, f => .cons (f _ _ r) (Paired.mapP t f)
theorem ObjOk.stay (x : ObjOk P w H h a o) (k : ∀ b u, (b = a ∨ H b = some (.own a)) → h.get? b = some u → h'.get? b = some u)
    (ho : ∀ b, H b = some (.own a) → H' b = some (.own a)) (ht : ∀ b xs, H b = some (.tup xs) → H' b = some (.tup xs)) : ObjOk P w H' h' a o := by
  induction o with
  | lst xs => obtain ⟨z, its, n, r, e⟩ := x; exact ⟨z, its, n, r, k _ _ (.inl rfl) e⟩
  | tup xs => obtain ⟨z, its, r, ob, e, c⟩ := x; exact ⟨z, its, r, ob, k _ _ (.inl rfl) e, c⟩
  | dK kvs => obtain ⟨z, y, vs, r, ob, es, ep, e, c⟩ := x; exact ⟨z, y, vs, r, ob, es, ep, k _ _ (.inl rfl) e, c⟩
  | dT kvs =>
    obtain ⟨z, y, xs, r, ob, es, ep, e, c⟩ := x
    exact ⟨z, y, xs, Paired.mapP r fun p q z => ⟨z.1, ht _ _ z.2.1, z.2.2⟩, ob, es, ep, k _ _ (.inl rfl) e, c⟩
  | set S n => obtain ⟨ob, es, ep, t, e, c⟩ := x; exact ⟨ob, es, ep, t, k _ _ (.inl rfl) e, c⟩
  | ins C dx fs =>
    obtain ⟨d, z, ne, e, mA, ⟨od, es, ep, e2, c⟩, r⟩ := x
    exact ⟨ho _ d, z, ne, k _ _ (.inl rfl) e, mA, ⟨od, es, ep, k _ _ (.inr d) e2, c⟩, r⟩
  | own y => obtain ⟨ob, e⟩ := x; exact ⟨ob, k _ _ (.inl rfl) e⟩
  | xd fs => obtain ⟨mA, ⟨od, es, ep, e, c⟩, r⟩ := x; exact ⟨mA, ⟨od, es, ep, k _ _ (.inl rfl) e, c⟩, r⟩
  | rng lo hi => obtain ⟨t, u, v, e⟩ := x; exact ⟨t, u, v, k _ _ (.inl rfl) e⟩
  | frz ob u ih => obtain ⟨e, q⟩ := x; exact ⟨k _ _ (.inl rfl) e, ih q⟩
  | tbl ps =>
    have e : h.get? a = some { cls := .none, data := .fields ps } := x
    show h'.get? a = some { cls := .none, data := .fields ps }
    exact k a _ (.inl rfl) e
  | met f y =>
    have e : h.get? a = some (PySem.W.methodObj (.ref f) (.ref y)) := x
    show h'.get? a = some (PySem.W.methodObj (.ref f) (.ref y))
    exact k a _ (.inl rfl) e
  | ext φ => obtain ⟨p, ⟨o, e⟩, st⟩ := x; exact ⟨st _ _ p fun o q => k _ _ (.inl rfl) q, ⟨o, k _ _ (.inl rfl) e⟩, st⟩
theorem HOk.lt (x : HOk P w H h) (e : H a = some o) : a < h.objs.size := (x a o e).lt
theorem HOk.fresh (x : HOk P w H h) (e : h.objs.size ≤ a) : H a = none := by
  cases q : H a with
  | none => rfl
  | some u => exact absurd (Nat.lt_of_lt_of_le (x.lt q) e) (Nat.lt_irrefl _)
theorem HOk.kept (x : HOk P w H h) (k : ∀ b u, h.get? b = some u → h'.get? b = some u) : HOk P w H h' := fun a o e =>
  (x a o e).stay (fun b u _ q => k b u q) (fun _ q => q) fun _ _ q => q
theorem HOk.laid (x : HOk P w H h) (k : ∀ b u, h.get? b = some u → h'.get? b = some u) (hp : h.objs.size ≤ a) (new : ObjOk P w (upd H a o) h' a o) : HOk P w (upd H a o) h' := fun b u e => by
  have hn := x.fresh hp
  by_cases hb : b = a
  · subst hb; rw [wL] at e; cases e; exact new
  · rw [yA hb] at e
    exact (x b u e).stay (fun c v _ q => k c v q) (fun c q => by rw [yA (ne_of_none q hn)]; exact q) fun c xs q => by rw [yA (ne_of_none q hn)]; exact q
end
def Rd (H : Hp) (a : Addr) (u : HO) : Prop := H a = some u ∨ ∃ o, H a = some (.frz o u)
theorem Rd.ok {P : Program} {w : World} {H : Hp} {h : Heap} {a : Addr} {u : HO} (r : Rd H a u) (x : HOk P w H h) : ObjOk P w H h a u := by
  rcases r with r | ⟨o, r⟩
  · exact x a u r
  · obtain ⟨_, q⟩ := x a _ r
    exact q
def Mut : Option HO → Prop
  | some (.lst _) => True
  | some (.dK _) => True
  | some (.dT _) => True
  | some (.set _ _) => True
  | some (.ins _ _ _) => True
  | some (.ext _) => True
  | _ => False
section
variable {P : Program} {w : World} {H : Hp} {h h' : Heap} {x e : Addr} {o' : HO}
theorem HOk.write (ok : HOk P w H h) (mu : Mut (H x)) (he : e = x ∨ H e = some (.own x)) (k : ∀ b u, b ≠ e → h.get? b = some u → h'.get? b = some u) (heo : ∃ u, h'.get? e = some u)
    (new : ObjOk P w (upd H x o') h' x o') : HOk P w (upd H x o') h' := fun b u q => by
  have nown : ∀ c y, H c = some (.own y) → c ≠ x := fun c y r z => by subst z; rw [r] at mu; exact mu
  have ntup : ∀ c xs, H c = some (.tup xs) → c ≠ x := fun c xs r z => by subst z; rw [r] at mu; exact mu
  by_cases hb : b = x
  · subst hb; rw [wL] at q; cases q; exact new
  · rw [yA hb] at q
    by_cases hbe : b = e
    · have q' : H b = some (.own x) := by
        rcases he with z | z
        · exact absurd (hbe.trans z) hb
        · rw [hbe]; exact z
      rw [q] at q'; cases q'
      obtain ⟨v, hv⟩ := heo
      exact ⟨v, by rw [hbe]; exact hv⟩
    · refine (ok b u q).stay (fun c v hc r => k c v ?_ r) (fun c r => by rw [yA (nown c b r)]; exact r) fun c xs r => by rw [yA (ntup c xs r)]; exact r
      rcases hc with rfl | hc
      · exact hbe
      · rintro rfl
        rcases he with z | z
        · exact nown c b hc z
        · rw [hc] at z; cases z; exact hb rfl
end
structure Un (fs ex : List Addr) (H H' : Hp) (h h' : Heap) : Prop where
  keep : ∀ b o, h.get? b = some o → H b = none → b ∉ fs → b ∉ ex → h'.get? b = some o
  slot : ∀ b o, h.get? b = some o → H b = none → b ∈ fs → b ∉ ex → ∃ sl, h'.get? b = some { o with slots := sl }
  free : ∀ b o, h.get? b = some o → H b = none → b ∉ ex → H' b = none
  there : ∀ b o, h.get? b = some o → b ∉ ex → ∃ o', h'.get? b = some o'
  tups : ∀ b xs, H b = some (.tup xs) → H' b = some (.tup xs)
  frzs : ∀ b o u, H b = some (.frz o u) → H' b = some (.frz o u)
  tbls : ∀ b ps, H b = some (.tbl ps) → ∃ more, H' b = some (.tbl (ps ++ more))
section
variable {fs fs' ex ex' : List Addr} {H H1 H2 : Hp} {h h1 h2 h' : Heap} {a x e : Addr} {o : HO}
theorem Un.any (u : Un fs ex H H1 h h1) {b : Addr} {ob : Obj} (q : h.get? b = some ob) (n : H b = none) (hx : b ∉ ex) : ∃ sl, h1.get? b = some { ob with slots := sl } := by
  by_cases hb : b ∈ fs
  · exact u.slot b ob q n hb hx
  · exact ⟨ob.slots, u.keep b ob q n hb hx⟩
theorem Un.kept (k : ∀ b u, h.get? b = some u → h'.get? b = some u) : Un fs ex H H h h' :=
  ⟨fun b ob q _ _ _ => k b ob q, fun b ob q _ _ _ => ⟨ob.slots, k b ob q⟩, fun _ _ _ n _ => n, fun b ob q _ => ⟨ob, k b ob q⟩, fun _ _ q => q, fun _ _ _ q => q, fun _ ps q => ⟨#[], by rw [q]; simp⟩⟩
theorem Un.refl : Un fs ex H H h h := Un.kept fun _ _ q => q
theorem Un.laid (k : ∀ b u, h.get? b = some u → h'.get? b = some u) (hp : h.objs.size ≤ a) (hn : H a = none) : Un fs ex H (upd H a o) h h' where
  keep := fun b u q _ _ _ => k b u q
  slot := fun b u q _ _ _ => ⟨u.slots, k b u q⟩
  free := fun b u q n _ => by rw [yA (Nat.ne_of_lt (Nat.lt_of_lt_of_le (Heap.lt_size q) hp))]; exact n
  there := fun b u q _ => ⟨u, k b u q⟩
  tups := fun b xs q => by rw [yA (ne_of_none q hn)]; exact q
  frzs := fun b u xs q => by rw [yA (ne_of_none q hn)]; exact q
  tbls := fun b ps q => ⟨#[], by rw [yA (ne_of_none q hn), q]; simp⟩
theorem Un.write (mu : Mut (H x)) (he : e = x ∨ H e = some (.own x)) (k : ∀ b u, b ≠ e → h.get? b = some u → h'.get? b = some u) (heo : ∃ u, h'.get? e = some u) : Un fs ex H (upd H x o) h h' := by
  have hx : ∀ b, H b = none → b ≠ x := fun b n z => by subst z; rw [n] at mu; exact mu
  have hb : ∀ b, H b = none → b ≠ e := fun b n z => by
    subst z
    rcases he with r | r
    · exact hx b n r
    · rw [n] at r; cases r
  have hm : ∀ b u, H b = some u → ¬ Mut (some u) → b ≠ x := fun b u q nm z => by subst z; rw [q] at mu; exact nm mu
  refine ⟨fun b u q n _ _ => k b u (hb b n) q, fun b u q n _ _ => ⟨u.slots, k b u (hb b n) q⟩, fun b u q n _ => by rw [yA (hx b n)]; exact n, fun b u q _ => ?_,
    fun b xs q => by rw [yA (hm b _ q fun z => z)]; exact q, fun b u xs q => by rw [yA (hm b _ q fun z => z)]; exact q, fun b ps q => ⟨#[], by rw [yA (hm b _ q fun z => z), q]; simp⟩⟩
  by_cases hbe : b = e
  · subst hbe; exact heo
  · exact ⟨u, k b u hbe q⟩
end
def trk (h : Heap) (H : Hp) : List Addr := (List.range h.objs.size).filter fun a => (H a).isSome
def hidT (h : Heap) (H : Hp) : Heap := PySem.W.hideAll h (trk h H)
theorem hidT_size (h : Heap) (H : Hp) : (hidT h H).objs.size = h.objs.size := PySem.W.hideAll_size _ _
theorem hidT_get {h : Heap} {H : Hp} {b : Addr} {o : Obj} (e : h.get? b = some o) (n : H b = none) : (hidT h H).get? b = some o :=
  PySem.W.hideAll_get _ e fun hm => by
    have q : (H b).isSome = true := (List.mem_filter.mp hm).2
    rw [n] at q; simp at q
theorem of_hidT {h : Heap} {H : Hp} {b : Addr} {o : Obj} (e : (hidT h H).get? b = some o) : h.get? b = some o ∧ H b = none := by
  have e' : h.get? b = some o := PySem.W.of_hideAll (trk h H) e
  refine ⟨e', ?_⟩
  cases q : H b with
  | none => rfl
  | some x =>
    have hm : b ∈ trk h H := List.mem_filter.mpr ⟨List.mem_range.mpr (Heap.lt_size e'), by simp [q]⟩
    have z : (hidT h H).get? b = none := PySem.W.hideAll_none (trk h H) hm
    rw [z] at e; cases e
def allNews (g h : Heap) (L : Addr) : List (Addr × Obj) := (List.range h.objs.size).filterMap fun a => if a = L ∨ (g.get? a).isSome = true then none else (h.get? a).map fun o => (a, o)
def rest (g h : Heap) (L d : Addr) : List (Addr × Obj) := (allNews g h L).filter fun p => decide (p.1 ≠ d)
end L2
namespace L2
open PySem PySem.Spec PyProof.Rows
structure Mod (K : PySem.W.Frag) (mg : Str → Option Value) (base : Heap) : Prop where
  kin : K.In base
  glob : base.Ns mainGlobals mg
  blt : ∃ mb, base.Ns builtinsNs mb ∧ ∀ x : Str, x ≠ "__name__" → mb x = bootBuiltins x
  nolimit : base.NoLimit
structure Cx where
  prog : Program
  w : World
  K : PySem.W.Frag
  mg : Str → Option Value
  base : Heap
  A : Around
  N : List Str
  s₀ : Shared
  H₀ : Hp
  env : Env
  outer : List Env
  stack : List Env
  ex : List Addr
  fn : Str → Bool
  calm : Bool
  pn : List (Addr × Obj)
  xe : Value → Shared → Prop
def frs (l : List Env) : List Addr := l.filterMap (·.frame)
abbrev Cx.fs (X : Cx) : List Addr := frs X.outer
def Vis (sc : Scope) (x : Str) : Prop := sc.names.lookup x = some .local ∨ sc.names.lookup x = some .cell ∨ sc.names.lookup x = some .free
def Loc (sc : Scope) (x : Str) : Prop := sc.names.lookup x = some .local ∨ sc.names.lookup x = some .cell
def Look (env : Env) (h : Heap) (m : Str → Option Value) (x : Str) (u : Value) : Prop :=
  (env.kindOf x = some .local ∧ m x = some u) ∨ ((env.kindOf x = some .cell ∨ env.kindOf x = some .free) ∧ ∃ c, env.cells.lookup x = some c ∧ h.IsCell c (some u))
structure Cx.Ok (X : Cx) : Prop where
  mod : Mod X.K X.mg X.base
  kind : X.env.scope.kind = .function
  glob : X.env.globals = mainGlobals
  blt : X.env.builtins = builtinsNs
  above : X.s₀.heap.objs.size ≤ X.env.locals
  inj : ∀ x y c, X.env.cells.lookup x = some c → X.env.cells.lookup y = some c → x = y
  has : ∀ x, (X.env.kindOf x = some .cell ∨ X.env.kindOf x = some .free) → ∃ c, X.env.cells.lookup x = some c
  cab : ∀ x c, X.fn x = true → X.env.cells.lookup x = some c → X.s₀.heap.objs.size ≤ c
  hd : X.calm = true → X.A.handled = none
  frames : X.A.frames = some X.stack
  stk : X.stack = X.outer ∨ (X.stack = X.env :: X.outer ∧ X.env.frame = some X.env.locals)
  exf : ∀ b ∈ X.ex, b ≠ X.env.locals ∧ ∀ x c, X.env.cells.lookup x = some c → c ≠ b
  bs : ∀ b o, X.base.get? b = some o → X.s₀.heap.get? b = some o ∧ X.H₀ b = none
  bsz : X.base.objs.size ≤ X.s₀.heap.objs.size
  noex : ∀ b o, X.base.get? b = some o → b ∉ X.ex
  exfs : ∀ b ∈ X.ex, b ∉ X.fs
  funs : X.s₀.heap.FunFrames X.base X.outer
  frf : ∀ b ∈ X.fs, X.H₀ b = none
structure Inv (X : Cx) (pins : List (Addr × Obj)) (σ : List (Option V)) (H : Hp) (s : Shared) : Prop where
  ok : X.Ok
  os : s.os = X.s₀.os
  bare : AllBare s.gens
  base : Un X.fs X.ex X.H₀ H X.s₀.heap s.heap
  loc : ∃ m, s.heap.Ns X.env.locals m ∧ ∀ (i : Nat) (x : Str) (v : V), X.N[i]? = some x → σ[i]? = some (some v) → Vis X.env.scope x → ∃ u, RelV v u ∧ Look X.env s.heap m x u
  cell : ∀ x c, X.env.cells.lookup x = some c → ∃ v, s.heap.IsCell c v
  free : H X.env.locals = none
  freeC : ∀ x c, X.env.cells.lookup x = some c → H c = none
  pin : ∀ p ∈ X.pn ++ pins, s.heap.get? p.1 = some p.2 ∧ H p.1 = none ∧ p.1 ≠ X.env.locals ∧ p.1 ∉ X.fs ∧ ∀ v, p.2.data ≠ .cell v
  hok : HOk X.prog X.w H s.heap
  len : σ.length = X.N.length
section
variable {X : Cx} {pins : List (Addr × Obj)} {σ : List (Option V)} {H H' : Hp} {s : Shared} {h' : Heap}
theorem Cx.Ok.nofr (ok : X.Ok) {b : Addr} {o : Obj} (e : X.base.get? b = some o) : b ∉ X.fs := fun hb => by
  have := (ok.funs.mem hb).1
  rw [e] at this; cases this
theorem Inv.bs (I : Inv X pins σ H s) : ∀ b o, X.base.get? b = some o → s.heap.get? b = some o ∧ H b = none := fun b o e =>
  ⟨I.base.keep b o (I.ok.bs b o e).1 (I.ok.bs b o e).2 (I.ok.nofr e) (I.ok.noex b o e), I.base.free b o (I.ok.bs b o e).1 (I.ok.bs b o e).2 (I.ok.noex b o e)⟩
theorem Inv.bk (I : Inv X pins σ H s) : ∀ b o, X.base.get? b = some o → s.heap.get? b = some o := fun b o e => (I.bs b o e).1
theorem Inv.mod (I : Inv X pins σ H s) : Mod X.K X.mg X.base := I.ok.mod
theorem Inv.kIn (I : Inv X pins σ H s) : X.K.In s.heap := I.ok.mod.kin.keeps I.bk
theorem Inv.lt (I : Inv X pins σ H s) : X.env.locals < s.heap.objs.size := let ⟨_, hn, _⟩ := I.loc; hn.lt
theorem Inv.sz (I : Inv X pins σ H s) : X.s₀.heap.objs.size ≤ s.heap.objs.size := Nat.le_trans I.ok.above (Nat.le_of_lt I.lt)
theorem Inv.nofs (I : Inv X pins σ H s) {a : Addr} (h : s.heap.objs.size ≤ a) : a ∉ X.fs := fun hb => by
  obtain ⟨_, o, ho, _⟩ := I.ok.funs.mem hb
  exact absurd (Nat.lt_of_lt_of_le (Heap.lt_size ho) (Nat.le_trans I.sz h)) (Nat.lt_irrefl _)
theorem Inv.cne (I : Inv X pins σ H s) : ∀ x c, X.env.cells.lookup x = some c → c ≠ X.env.locals := fun x c e z => by
  obtain ⟨v, o, ho, hd⟩ := I.cell x c e
  obtain ⟨m, ⟨o', es, ep, ho', hd', _⟩, _⟩ := I.loc
  rw [z, ho'] at ho; cases ho; rw [hd'] at hd; cases hd
theorem Inv.funs (I : Inv X pins σ H s) : s.heap.FunFrames X.base X.outer := by
  have all : ∀ (l : List Env), (∀ b ∈ frs l, b ∈ X.fs) → X.s₀.heap.FunFrames X.base l → s.heap.FunFrames X.base l := by
    intro l
    induction l with
    | nil => intro _ _; trivial
    | cons env r ih =>
      intro hs hl
      obtain ⟨hk, ⟨L, o, hf, hn, ho, hd⟩, hr⟩ := hl
      have hL : L ∈ X.fs := hs L (by unfold frs; rw [List.filterMap_cons, hf]; exact List.mem_cons_self)
      obtain ⟨sl, e⟩ := I.base.slot L o ho (I.ok.frf L hL) hL fun z => I.ok.exfs L z hL
      exact ⟨hk, ⟨L, _, hf, hn, e, hd⟩, ih (fun b hb => hs b (by unfold frs; rw [List.filterMap_cons, hf]; exact List.mem_cons_of_mem _ hb)) hr⟩
  exact all X.outer (fun _ hb => hb) I.ok.funs
theorem Inv.stack (I : Inv X pins σ H s) : s.heap.FunFrames X.base X.stack := by
  rcases I.ok.stk with e | ⟨e, hf⟩
  · rw [e]; exact I.funs
  · rw [e]
    obtain ⟨m, hn, _⟩ := I.loc
    refine .cons (by rw [I.ok.kind]; decide) hf hn ?_ I.funs
    exact Heap.get?_none_of_le (Nat.le_trans I.ok.bsz I.ok.above)
theorem Inv.stkSub (I : Inv X pins σ H s) : ∀ b ∈ frs X.stack, b ∈ X.env.locals :: X.fs := fun b hb => by
  rcases I.ok.stk with e | ⟨e, hf⟩
  · rw [e] at hb; exact List.mem_cons_of_mem _ hb
  · rw [e] at hb
    unfold frs at hb
    rw [List.filterMap_cons, hf] at hb
    exact hb
theorem Inv.stkFree (I : Inv X pins σ H s) : ∀ b ∈ frs X.stack, H b = none := fun b hb => by
  rcases List.mem_cons.mp (I.stkSub b hb) with e | hb
  · rw [e]; exact I.free
  · obtain ⟨_, o, ho, _⟩ := I.ok.funs.mem hb
    exact I.base.free b o ho (I.ok.frf b hb) fun z => I.ok.exfs b z hb
theorem Inv.step {g' : Array GenState} {t' : Nat} {d' : Drawn} {ch : List Addr} (I : Inv X pins σ H s)
    (hch : ∀ b ∈ ch, (b ∈ X.ex ∨ X.s₀.heap.objs.size ≤ b) ∧ b ≠ X.env.locals ∧ (∀ x c, X.env.cells.lookup x = some c → c ≠ b) ∧ ∀ p ∈ X.pn ++ pins, p.1 ≠ b)
    (keep : ∀ b o, b ≠ X.env.locals → b ∉ X.fs → b ∉ ch → s.heap.get? b = some o → H b = none → h'.get? b = some o)
    (slot : ∀ b o, b ≠ X.env.locals → b ∈ X.fs → b ∉ ch → s.heap.get? b = some o → H b = none → ∃ sl, h'.get? b = some { o with slots := sl }) (free : ∀ b o, b ∉ ch → s.heap.get? b = some o → H b = none → H' b = none)
    (there : ∀ b o, b ∉ ch → s.heap.get? b = some o → ∃ o', h'.get? b = some o')
    (tups : ∀ b xs, H b = some (.tup xs) → H' b = some (.tup xs)) (frzs : ∀ b o u, H b = some (.frz o u) → H' b = some (.frz o u)) (tbls : ∀ b ps, H b = some (.tbl ps) → ∃ more, H' b = some (.tbl (ps ++ more)))
    (ns : ∀ m, s.heap.Ns X.env.locals m → h'.Ns X.env.locals m) (hok : HOk X.prog X.w H' h') (hg : AllBare g') :
    Inv X pins σ H' { s with heap := h', gens := g', drawn := d', toks := t' } := by
  have neL : ∀ b o, X.s₀.heap.get? b = some o → b ≠ X.env.locals := fun b o e => Nat.ne_of_lt (Nat.lt_of_lt_of_le (Heap.lt_size e) I.ok.above)
  have neC : ∀ b o, X.s₀.heap.get? b = some o → b ∉ X.ex → b ∉ ch := fun b o e hx hb => by
    rcases (hch b hb).1 with z | z
    · exact hx z
    · exact absurd (Nat.lt_of_lt_of_le (Heap.lt_size e) z) (Nat.lt_irrefl _)
  have cellK : ∀ x c, X.env.cells.lookup x = some c → ∀ v, s.heap.IsCell c v → h'.IsCell c v := fun x c e v ⟨o, ho, hd⟩ => by
    have nch : c ∉ ch := fun z => (hch c z).2.2.1 x c e rfl
    by_cases hc : c ∈ X.fs
    · obtain ⟨sl, q⟩ := slot c o (I.cne x c e) hc nch ho (I.freeC x c e)
      exact ⟨_, q, hd⟩
    · exact ⟨o, keep c o (I.cne x c e) hc nch ho (I.freeC x c e), hd⟩
  refine ⟨I.ok, I.os, hg, ⟨fun b o e n hb hx => ?_, fun b o e n hb hx => ?_, fun b o e n hx => ?_, fun b o e hx => ?_, fun b xs e => tups b xs (I.base.tups b xs e), fun b o xs e => frzs b o xs (I.base.frzs b o xs e), fun b ps e => ?_⟩, ?_, fun x c e => ?_, ?_, fun x c e => ?_, fun p hp => ?_, hok, I.len⟩
  · exact keep b o (neL b o e) hb (neC b o e hx) (I.base.keep b o e n hb hx) (I.base.free b o e n hx)
  · obtain ⟨sl, e1⟩ := I.base.slot b o e n hb hx
    obtain ⟨sl', e2⟩ := slot b _ (neL b o e) hb (neC b o e hx) e1 (I.base.free b o e n hx)
    exact ⟨sl', e2⟩
  · obtain ⟨o', e1⟩ := I.base.there b o e hx
    exact free b o' (neC b o e hx) e1 (I.base.free b o e n hx)
  · obtain ⟨o', e1⟩ := I.base.there b o e hx
    exact there b o' (neC b o e hx) e1
  · obtain ⟨m1, e1⟩ := I.base.tbls b ps e
    obtain ⟨m2, e2⟩ := tbls b _ e1
    exact ⟨m1 ++ m2, by rw [e2, Array.append_assoc]⟩
  · obtain ⟨m, hn, hl⟩ := I.loc
    refine ⟨m, ns m hn, fun i x v e1 e2 e3 => ?_⟩
    obtain ⟨u, r, l⟩ := hl i x v e1 e2 e3
    refine ⟨u, r, ?_⟩
    rcases l with l | ⟨k, c, e, z⟩
    · exact .inl l
    · exact .inr ⟨k, c, e, cellK x c e _ z⟩
  · obtain ⟨v, z⟩ := I.cell x c e
    exact ⟨v, cellK x c e v z⟩
  · obtain ⟨m, ⟨o, _, _, ho, _⟩, _⟩ := I.loc
    exact free _ o (fun z => (hch _ z).2.1 rfl) ho I.free
  · obtain ⟨v, o, ho, hd⟩ := I.cell x c e
    exact free c o (fun z => (hch c z).2.2.1 x c e rfl) ho (I.freeC x c e)
  · obtain ⟨e, n, ne, nf, d⟩ := I.pin p hp
    have nch : p.1 ∉ ch := fun z => (hch p.1 z).2.2.2 p hp rfl
    exact ⟨keep p.1 p.2 ne nf nch e n, free p.1 p.2 nch e n, ne, nf, d⟩
theorem Inv.un {t' : Nat} (I : Inv X pins σ H s) (u : Un X.fs [] H H' s.heap h') (hok : HOk X.prog X.w H' h') : Inv X pins σ H' { s with heap := h', toks := t' } := by
  obtain ⟨m, ⟨o, es, ep, ho, r⟩, _⟩ := id I.loc
  obtain ⟨sl, hL⟩ := u.any ho I.free (by simp)
  exact I.step (g' := s.gens) (d' := s.drawn) (ch := []) (fun _ z => nomatch z) (fun b o _ hb _ e n => u.keep b o e n hb (by simp)) (fun b o _ hb _ e n => u.slot b o e n hb (by simp)) (fun b o _ e n => u.free b o e n (by simp)) (fun b o _ e => u.there b o e (by simp)) u.tups u.frzs u.tbls (fun m' hm => by
    obtain ⟨o', es', ep', ho', r'⟩ := hm
    rw [ho] at ho'; cases ho'
    exact ⟨_, es', ep', hL, r'⟩) hok I.bare
theorem Inv.call {g' : Array GenState} {t' : Nat} {d' : Drawn} {ch : List Addr} (I : Inv X pins σ H s) (u : Un (frs X.stack) ch H H' s.heap h') (hok : HOk X.prog X.w H' h') (hg : AllBare g')
    (hch : ∀ b ∈ ch, (b ∈ X.ex ∨ X.s₀.heap.objs.size ≤ b) ∧ b ≠ X.env.locals ∧ (∀ x c, X.env.cells.lookup x = some c → c ≠ b) ∧ ∀ p ∈ X.pn ++ pins, p.1 ≠ b) :
    Inv X pins σ H' { s with heap := h', gens := g', drawn := d', toks := t' } := by
  obtain ⟨m, ⟨o, es, ep, ho, r⟩, _⟩ := id I.loc
  obtain ⟨sl, hL⟩ := u.any ho I.free fun z => (hch _ z).2.1 rfl
  exact I.step (ch := ch) hch (fun b o hL hb hc e n => u.keep b o e n (fun z => (List.mem_cons.mp (I.stkSub b z)).elim hL hb) hc) (fun b o _ _ hc e n => u.any e n hc) (fun b o hc e n => u.free b o e n hc) (fun b o hc e => u.there b o e hc) u.tups u.frzs u.tbls (fun m' hm => by
    obtain ⟨o', es', ep', ho', r'⟩ := hm
    rw [ho] at ho'; cases ho'
    exact ⟨_, es', ep', hL, r'⟩) hok hg
theorem Inv.turned {t' : Nat} {it : Addr} (I : Inv X pins σ H s) (k : ∀ b o, b ≠ it → s.heap.get? b = some o → h'.get? b = some o) (hn : H it = none) (hL : it ≠ X.env.locals)
    (h1 : it ∈ X.ex ∨ X.s₀.heap.objs.size ≤ it) (h2 : ∀ x c, X.env.cells.lookup x = some c → c ≠ it) (h3 : ∀ p ∈ X.pn ++ pins, p.1 ≠ it) : Inv X pins σ H { s with heap := h', toks := t' } := by
  have nit : ∀ b u, H b = some u → b ≠ it := fun b u e z => by rw [z, hn] at e; cases e
  refine I.step (g' := s.gens) (d' := s.drawn) (ch := [it]) (fun b hb => ?_) (fun b o _ _ hc e _ => k b o (fun z => hc (by simp [z])) e) (fun b o _ _ hc e _ => ⟨o.slots, k b o (fun z => hc (by simp [z])) e⟩) (fun _ _ _ _ n => n)
    (fun b o hc e => ⟨o, k b o (fun z => hc (by simp [z])) e⟩) (fun _ _ e => e) (fun _ _ _ e => e) (fun b ps e => ⟨#[], by rw [e]; simp⟩) (fun m hm => ?_) (fun b u e => ?_) I.bare
  · have e : b = it := by simpa using hb
    subst e
    exact ⟨h1, hL, h2, h3⟩
  · obtain ⟨o, es, ep, ho, r⟩ := hm
    exact ⟨o, es, ep, k _ o (Ne.symm hL) ho, r⟩
  · refine (I.hok b u e).stay (fun c v hc q => k c v ?_ q) (fun _ q => q) fun _ _ q => q
    rcases hc with z | z
    · rw [z]; exact nit b u e
    · exact nit c _ z
theorem Inv.tok (I : Inv X pins σ H s) (t : Nat) : Inv X pins σ H { s with toks := t } := I.un (h' := s.heap) (t' := t) Un.refl I.hok
theorem Inv.kept {t' : Nat} (I : Inv X pins σ H s) (k : ∀ b u, s.heap.get? b = some u → h'.get? b = some u) : Inv X pins σ H { s with heap := h', toks := t' } := I.un (Un.kept k) (I.hok.kept k)
theorem Inv.laid {a : Addr} {o : HO} {t' : Nat} (I : Inv X pins σ H s) (k : ∀ b u, s.heap.get? b = some u → h'.get? b = some u) (hp : s.heap.objs.size ≤ a) (new : ObjOk X.prog X.w (upd H a o) h' a o) :
    Inv X pins σ (upd H a o) { s with heap := h', toks := t' } := I.un (Un.laid k hp (I.hok.fresh hp)) (I.hok.laid k hp new)
theorem Inv.write {x e : Addr} {o : HO} {t' : Nat} (I : Inv X pins σ H s) (mu : Mut (H x)) (he : e = x ∨ H e = some (.own x)) (k : ∀ b u, b ≠ e → s.heap.get? b = some u → h'.get? b = some u) (heo : ∃ u, h'.get? e = some u)
    (new : ObjOk X.prog X.w (upd H x o) h' x o) : Inv X pins σ (upd H x o) { s with heap := h', toks := t' } := I.un (Un.write mu he k heo) (I.hok.write mu he k heo new)
theorem Inv.pins_of {pins' : List (Addr × Obj)} (I : Inv X pins σ H s) (h : ∀ p ∈ pins', s.heap.get? p.1 = some p.2 ∧ H p.1 = none ∧ p.1 ≠ X.env.locals ∧ p.1 ∉ X.fs ∧ ∀ v, p.2.data ≠ .cell v) : Inv X pins' σ H s :=
  ⟨I.ok, I.os, I.bare, I.base, I.loc, I.cell, I.free, I.freeC, fun p hp => (List.mem_append.mp hp).elim (fun z => I.pin p (List.mem_append_left _ z)) (h p), I.hok, I.len⟩
theorem nodup_ix {N : List Str} (hN : N.Nodup) {i j : Nat} {x : Str} (a : N[i]? = some x) (b : N[j]? = some x) : i = j := by
  obtain ⟨h1, e1⟩ := List.getElem?_eq_some_iff.mp a
  obtain ⟨h2, e2⟩ := List.getElem?_eq_some_iff.mp b
  exact (List.getElem_inj hN).mp (e1.trans e2.symm)
theorem store_ok2 {M : Model} {A : Around} {E : Value → Shared → Prop} {i : Nat} {x : Str} {v : V} {u : Value} {Q : Unit → Shared → Prop} (I : Inv X pins σ H s) (hN : X.N.Nodup) (hi : X.N[i]? = some x) (hx : Loc X.env.scope x) (r : RelV v u)
    (h : ∀ s', Inv X pins (σ.set i (some v)) H s' → (∃ a, Heap.SameBut a s.heap s'.heap ∧ (a = X.env.locals ∨ X.env.cells.lookup x = some a)) → Q () s') (hf : autoParam (X.fn x = true ∨ X.env.scope.names.lookup x = some .local) autoK1._auto_1) : wpAny M A (storeName X.env x u) Q E s := by
  obtain ⟨m, hn, hl⟩ := id I.loc
  have hcls : (X.env.scope.kind == .class || (X.env.scope.kind == .module && X.env.locals != X.env.globals)) = false := by rw [I.ok.kind]; rfl
  have hiσ : i < σ.length := by rw [I.len]; exact (List.getElem?_eq_some_iff.mp hi).1
  have cne := I.cne
  have tracked : ∀ {a : Addr} {h' : Heap}, (∃ o, s.heap.get? a = some o ∧ H a = none) → Heap.SameBut a s.heap h' → HOk X.prog X.w H h' := fun {a h'} ha hs b ob e => by
    obtain ⟨_, _, hfree⟩ := ha
    refine (I.hok b ob e).stay (fun c w' hc q => (hs.2 c ?_).trans q) (fun _ q => q) fun _ _ q => q
    rintro rfl
    rcases hc with rfl | hc
    · rw [hfree] at e; cases e
    · rw [hfree] at hc; cases hc
  rcases hx with hk | hk
  · refine wpAny_storeName_local hk hn (fun h' hn' hs => ?_) hcls
    obtain ⟨oL, _, _, hoL, _⟩ := id hn
    refine h _ ⟨I.ok, I.os, I.bare, ⟨fun b o e n hb hx => ?_, fun b o e n hb hx => ?_, I.base.free, fun b o e hx => ?_, I.base.tups, I.base.frzs, I.base.tbls⟩, ⟨_, hn', fun j y v' e1 e2 e3 => ?_⟩, fun y c e => ?_, I.free, I.freeC, fun p hp => ?_, tracked ⟨oL, hoL, I.free⟩ hs, by simpa using I.len⟩ ⟨_, hs, .inl rfl⟩
    · exact (hs.2 b (Nat.ne_of_lt (Nat.lt_of_lt_of_le (Heap.lt_size e) I.ok.above))).trans (I.base.keep b o e n hb hx)
    · obtain ⟨sl, e1⟩ := I.base.slot b o e n hb hx
      exact ⟨sl, (hs.2 b (Nat.ne_of_lt (Nat.lt_of_lt_of_le (Heap.lt_size e) I.ok.above))).trans e1⟩
    · obtain ⟨o', e1⟩ := I.base.there b o e hx
      exact ⟨o', (hs.2 b (Nat.ne_of_lt (Nat.lt_of_lt_of_le (Heap.lt_size e) I.ok.above))).trans e1⟩
    · by_cases hj : j = i
      · subst hj
        rw [hi] at e1; cases e1
        rw [List.getElem?_set_self hiσ] at e2
        cases e2
        exact ⟨u, r, .inl ⟨hk, by simp⟩⟩
      · rw [List.getElem?_set_ne (Ne.symm hj)] at e2
        obtain ⟨u', r', q⟩ := hl j y v' e1 e2 e3
        refine ⟨u', r', ?_⟩
        rcases q with ⟨k, e⟩ | ⟨k, c, e, z⟩
        · refine .inl ⟨k, ?_⟩
          have : y ≠ x := fun e => hj (nodup_ix hN e1 (e ▸ hi))
          simp [this, e]
        · exact .inr ⟨k, c, e, z.sameBut hs (cne y c e)⟩
    · obtain ⟨w', z⟩ := I.cell y c e
      exact ⟨w', z.sameBut hs (cne y c e)⟩
    · obtain ⟨e, n, ne, nf, d⟩ := I.pin p hp
      exact ⟨(hs.2 p.1 ne).trans e, n, ne, nf, d⟩
  · have hfn : X.fn x = true := by
      rcases hf with z | z
      · exact z
      · rw [z] at hk; cases hk
    obtain ⟨c, hc⟩ := I.ok.has x (.inl hk)
    obtain ⟨w', z⟩ := I.cell x c hc
    refine wpAny_storeName_cell I.ok.kind hk hc z (fun h' hc' hs => ?_)
    obtain ⟨oc, hoc, hocd⟩ := id z
    refine h { s with heap := h' } ⟨I.ok, I.os, I.bare, ⟨fun b o e n hb hx => ?_, fun b o e n hb hx => ?_, I.base.free, fun b o e hx => ?_, I.base.tups, I.base.frzs, I.base.tbls⟩, ⟨m, hn.sameBut hs (Ne.symm (cne x c hc)), fun j y v' e1 e2 e3 => ?_⟩, fun y c' e => ?_, I.free, I.freeC, fun p hp => ?_, tracked ⟨oc, hoc, I.freeC x c hc⟩ hs, by simpa using I.len⟩ ⟨c, hs, .inr hc⟩
    · exact (hs.2 b (Nat.ne_of_lt (Nat.lt_of_lt_of_le (Heap.lt_size e) (I.ok.cab x c hfn hc)))).trans (I.base.keep b o e n hb hx)
    · obtain ⟨sl, e1⟩ := I.base.slot b o e n hb hx
      exact ⟨sl, (hs.2 b (Nat.ne_of_lt (Nat.lt_of_lt_of_le (Heap.lt_size e) (I.ok.cab x c hfn hc)))).trans e1⟩
    · obtain ⟨o', e1⟩ := I.base.there b o e hx
      exact ⟨o', (hs.2 b (Nat.ne_of_lt (Nat.lt_of_lt_of_le (Heap.lt_size e) (I.ok.cab x c hfn hc)))).trans e1⟩
    · by_cases hj : j = i
      · subst hj
        rw [hi] at e1; cases e1
        rw [List.getElem?_set_self hiσ] at e2
        cases e2
        exact ⟨u, r, .inr ⟨.inl hk, c, hc, hc'⟩⟩
      · rw [List.getElem?_set_ne (Ne.symm hj)] at e2
        obtain ⟨u', r', q⟩ := hl j y v' e1 e2 e3
        refine ⟨u', r', ?_⟩
        rcases q with q | ⟨k, c', e, z'⟩
        · exact .inl q
        · refine .inr ⟨k, c', e, z'.sameBut hs ?_⟩
          rintro rfl
          exact hj (nodup_ix hN e1 (I.ok.inj _ _ _ e hc ▸ hi))
    · by_cases hcc : c' = c
      · subst hcc; exact ⟨_, hc'⟩
      · obtain ⟨w2, z2⟩ := I.cell y c' e
        exact ⟨w2, z2.sameBut hs hcc⟩
    · obtain ⟨e, n, ne, nf, d⟩ := I.pin p hp
      refine ⟨(hs.2 p.1 ?_).trans e, n, ne, nf, d⟩
      intro q
      rw [q, hoc] at e
      have q' : oc = p.2 := Option.some.inj e
      exact d w' (by rw [← q']; exact hocd)
theorem store_ok {M : Model} {A : Around} {E : Value → Shared → Prop} {i : Nat} {x : Str} {v : V} {u : Value} {Q : Unit → Shared → Prop} (I : Inv X pins σ H s) (hN : X.N.Nodup) (hi : X.N[i]? = some x) (hx : Loc X.env.scope x) (r : RelV v u)
    (h : ∀ s', Inv X pins (σ.set i (some v)) H s' → Q () s') (hf : autoParam (X.fn x = true ∨ X.env.scope.names.lookup x = some .local) autoK1._auto_1) : wpAny M A (storeName X.env x u) Q E s :=
  store_ok2 I hN hi hx r (fun s' I' _ => h s' I') hf
theorem Inv.call' {s' : Shared} {ch : List Addr} (I : Inv X pins σ H s) (ho : s'.os = s.os) (u : Un (frs X.stack) ch H H' s.heap s'.heap) (hok : HOk X.prog X.w H' s'.heap) (hg : AllBare s'.gens)
    (hch : ∀ b ∈ ch, (b ∈ X.ex ∨ X.s₀.heap.objs.size ≤ b) ∧ b ≠ X.env.locals ∧ (∀ x c, X.env.cells.lookup x = some c → c ≠ b) ∧ ∀ p ∈ X.pn ++ pins, p.1 ≠ b) : Inv X pins σ H' s' := by
  obtain ⟨h', g', d', t', o'⟩ := s'
  have e : o' = s.os := ho
  subst e
  exact I.call (g' := g') (t' := t') (d' := d') u hok hg hch
end
abbrev XK := Value → Option Addr → Hp → Prop
abbrev St := List (Option V)
abbrev VK := V → Hp → Prop
abbrev TE := St → Hp → VK → Prop
abbrev TT := St → Hp → (Bool → Hp → Prop) → Prop
abbrev TA := St → Hp → (List V → Hp → Prop) → Prop
structure Ends where
  nx : St → Hp → Prop
  rt : VK
  bk : St → Hp → Prop := fun _ _ => False
  ct : St → Hp → Prop := fun _ _ => False
abbrev TS := Ends → St → Hp → Prop
def EP (X : Cx) (pins : List (Addr × Obj)) (σ : St) (Q : VK) (u : Value) (s' : Shared) : Prop := ∃ v H', Inv X pins σ H' s' ∧ RelV v u ∧ Q v H'
def TP (X : Cx) (pins : List (Addr × Obj)) (σ : St) (Q : Bool → Hp → Prop) (b : Bool) (s' : Shared) : Prop := ∃ H', Inv X pins σ H' s' ∧ Q b H'
def AP (X : Cx) (pins : List (Addr × Obj)) (σ : St) (Q : List V → Hp → Prop) (us : List Value) (s' : Shared) : Prop := ∃ vs H', Inv X pins σ H' s' ∧ Vals vs us ∧ Q vs H'
def SP (X : Cx) (pins : List (Addr × Obj)) (D : Ends) (f : Flow) (s' : Shared) : Prop :=
  match f with
  | .next => ∃ σ' H', Inv X pins σ' H' s' ∧ D.nx σ' H'
  | .brk => ∃ σ' H', Inv X pins σ' H' s' ∧ D.bk σ' H'
  | .cont => ∃ σ' H', Inv X pins σ' H' s' ∧ D.ct σ' H'
  | .ret u => ∃ v σ' H', Inv X pins σ' H' s' ∧ RelV v u ∧ D.rt v H'
def PE (X : Cx) (e : Expr) (t : TE) : Prop :=
  ∀ (pins : List (Addr × Obj)) (s : Shared) (σ : St) (H : Hp) (Q : VK), Inv X pins σ H s → t σ H Q → wpAny (model X.prog X.w) X.A (eval e X.env) (EP X pins σ Q) X.xe s
def PT (X : Cx) (e : Expr) (t : TT) : Prop :=
  ∀ (pins : List (Addr × Obj)) (s : Shared) (σ : St) (H : Hp) (Q : Bool → Hp → Prop), Inv X pins σ H s → t σ H Q → wpAny (model X.prog X.w) X.A (isTrue e X.env (eval e X.env)) (TP X pins σ Q) X.xe s
def PW (X : Cx) (e : Expr) (t : TT) : Prop :=
  ∀ (whole : Sem Value) (pins : List (Addr × Obj)) (s : Shared) (σ : St) (H : Hp) (Q : Bool → Hp → Prop), Inv X pins σ H s → t σ H Q → wpAny (model X.prog X.w) X.A (isTrue e X.env whole) (TP X pins σ Q) X.xe s
theorem PW.pt {X : Cx} {e : Expr} {t : TT} (h : PW X e t) : PT X e t := h _
def PA (X : Cx) (es : List Expr) (t : TA) : Prop :=
  ∀ (pos : Pos) (pins : List (Addr × Obj)) (s : Shared) (σ : St) (H : Hp) (Q : List V → Hp → Prop), Inv X pins σ H s → t σ H Q → wpAny (model X.prog X.w) X.A (spliced (backTo pos (starEach es X.env))) (AP X pins σ Q) X.xe s
def PS (X : Cx) (st : Stmt) (t : TS) : Prop :=
  ∀ (pins : List (Addr × Obj)) (s : Shared) (σ : St) (H : Hp) (D : Ends), Inv X pins σ H s → t D σ H → wpAny (model X.prog X.w) X.A (exec st X.env) (SP X pins D) X.xe s
def PSs (X : Cx) (st : List Stmt) (t : TS) : Prop :=
  ∀ (pins : List (Addr × Obj)) (s : Shared) (σ : St) (H : Hp) (D : Ends), Inv X pins σ H s → t D σ H → wpAny (model X.prog X.w) X.A (execs st X.env) (SP X pins D) X.xe s
theorem thn {α : Type} {t : Sem α} {Q Q' : α → Shared → Prop} {M : Model} {A : Around} {E : Value → Shared → Prop} {s : Shared} (h : wpAny M A t Q E s) (hQ : ∀ a s, Q a s → Q' a s) : wpAny M A t Q' E s := wpAny_mono h hQ fun _ _ x => x
end L2
namespace L2
open PySem PySem.Spec PyProof.Rows
section
variable {X : Cx}
theorem bin {a b : Expr} {ta tb : TE} (ha : PE X a ta) (hb : PE X b tb) {pins : List (Addr × Obj)} {s : Shared} {σ : St} {H : Hp} {R : V → V → Hp → Prop} (I : Inv X pins σ H s) (h : ta σ H fun x H1 => tb σ H1 fun y H2 => R x y H2)
    {α : Type} {Q : α → Shared → Prop} {f : Value → Value → Sem α}
    (hf : ∀ v u s2 x y H2, Inv X pins σ H2 s2 → RelV x v → RelV y u → R x y H2 → wpAny (model X.prog X.w) X.A (f v u) Q X.xe s2) :
    wpAny (model X.prog X.w) X.A (eval a X.env) (fun v s₁ => wpAny (model X.prog X.w) X.A (eval b X.env) (fun u s₂ => wpAny (model X.prog X.w) X.A (f v u) Q X.xe s₂) X.xe s₁) X.xe s := by
  refine thn (ha pins s σ H _ I h) fun v s1 ⟨x, H1, I1, r1, q1⟩ => ?_
  refine thn (hb pins s1 σ H1 _ I1 q1) fun u s2 ⟨y, H2, I2, r2, q2⟩ => ?_
  exact hf v u s2 x y H2 I2 r1 r2 q2
def tVar (i : Nat) : TE := fun σ H Q => ∃ v, σ[i]? = some (some v) ∧ Q v H
def tC (v : V) : TE := fun _ H Q => Q v H
theorem pe_var {i : Nat} {x : Str} {pos : Pos} (hN : X.N[i]? = some x) (hv : Vis X.env.scope x) (hd : autoParam ((x == ("__debug__" : Str)) = false) vY._auto_1) (hcd : autoParam ((x == ("__classdict__" : Str)) = false) vY._auto_1) : PE X (.Name x pos) (tVar i) := by
  intro pins s σ H Q I h
  obtain ⟨v, e, h⟩ := h
  obtain ⟨m, hn, hl⟩ := I.loc
  obtain ⟨u, r, l⟩ := hl i x v hN e hv
  have fin : EP X pins σ Q u s := ⟨v, H, I, r, h⟩
  rcases l with ⟨hk, hm⟩ | ⟨hk, c, hc, hcell⟩
  · exact wpAny_Name (wpAny_loadName_local I.ok.kind hk hn hm fin) hd
  · rcases hk with hk | hk
    · exact wpAny_Name (wpAny_loadName_cell I.ok.kind hk hc hcell fin) hd
    · exact wpAny_Name (wpAny_loadName_free I.ok.kind hk hc hcell fin hcd) hd
theorem pe_int {i j pos} : PE X (.Constant (.int i) j pos) (tC (.int i)) := fun _ _ _ H _ I h => wpAny_Constant_int ⟨.int i, H, I.tok _, ⟨_, rfl⟩, h⟩
theorem pe_bl {b j pos} : PE X (.Constant (.bool b) j pos) (tC (.bl b)) := fun _ _ _ H _ I h => Constant_bool ⟨.bl b, H, I, rfl, h⟩
theorem pe_non {j pos} : PE X (.Constant .none j pos) (tC .non) := fun _ _ _ H _ I h => Constant_none ⟨.non, H, I, rfl, h⟩
theorem pe_str {x j pos} : PE X (.Constant (.str x) j pos) (tC (.str x)) := fun _ _ _ H _ I h => Calls.Constant_str ⟨.str x, H, I.tok _, ⟨_, rfl⟩, h⟩
def Gl (X : Cx) (x : Str) : Prop := X.env.kindOf x = some .globalImplicit
theorem ld_glob {E : Value → Shared → Prop} {pins : List (Addr × Obj)} {s : Shared} {σ : St} {H : Hp} {x : Str} {u : Value} {pos : Pos} {Q : Value → Shared → Prop} (I : Inv X pins σ H s) (hg : Gl X x) (hm : X.mg x = some u) (h : Q u s)
    (hd : autoParam ((x == ("__debug__" : Str)) = false) vY._auto_1) : wpAny (model X.prog X.w) X.A (eval (.Name x pos) X.env) Q E s :=
  Calls.Name_function_global I.ok.kind hg (Calls.loadGlobal_global (by rw [I.ok.glob]; exact I.mod.glob.keeps I.bk) hm h) hd
theorem ld_blt {E : Value → Shared → Prop} {pins : List (Addr × Obj)} {s : Shared} {σ : St} {H : Hp} {x : Str} {u : Value} {pos : Pos} {Q : Value → Shared → Prop} (I : Inv X pins σ H s) (hg : Gl X x) (hm : X.mg x = none) (hv : bootBuiltins x = some u) (h : Q u s)
    (hn : autoParam (x ≠ "__name__") vY._auto_1) (hd : autoParam ((x == ("__debug__" : Str)) = false) vY._auto_1) : wpAny (model X.prog X.w) X.A (eval (.Name x pos) X.env) Q E s := by
  obtain ⟨mb, h1, h2⟩ := I.mod.blt
  exact Calls.Name_function_global I.ok.kind hg (Calls.loadGlobal_builtin (by rw [I.ok.glob]; exact I.mod.glob.keeps I.bk) hm (by rw [I.ok.blt]; exact h1.keeps I.bk) ((h2 x hn).trans hv) h) hd
theorem pe_glob {x : Str} {v : V} {u : Value} {pos : Pos} (hg : Gl X x) (hm : X.mg x = some u) (r : RelV v u) (hd : autoParam ((x == ("__debug__" : Str)) = false) vY._auto_1) : PE X (.Name x pos) (tC v) :=
  fun _ _ _ H _ I h => ld_glob I hg hm ⟨v, H, I, r, h⟩ hd
theorem pe_bltn {x : Str} {v : V} {u : Value} {pos : Pos} (hg : Gl X x) (hm : X.mg x = none) (hv : bootBuiltins x = some u) (r : RelV v u) (hn : autoParam (x ≠ "__name__") vY._auto_1) (hd : autoParam ((x == ("__debug__" : Str)) = false) vY._auto_1) : PE X (.Name x pos) (tC v) :=
  fun _ _ _ H _ I h => ld_blt I hg hm hv ⟨v, H, I, r, h⟩ hn hd
variable {a b : Expr} {ta tb : TE} {pos : Pos}
def tB (t : TE) : TT := fun σ H Q => t σ H fun x H1 => ∃ c, x = .bl c ∧ Q c H1
theorem pt_val {e : Expr} {t : TE} (h : PE X e t) (he : autoParam (∀ whole, isTrue e X.env whole = (do let v ← whole; standAt e.pos; holding [v] (truthy v))) autoK4._auto_1) : PT X e (tB t) := by
  intro pins s σ H Q I hw
  refine isTrue_plain (thn (h pins s σ H _ I hw) fun v s1 ⟨x, H1, I1, r1, q1⟩ => ?_) (he _)
  obtain ⟨d, rfl, q⟩ := q1
  cases r1
  exact wpAny_truthy_bool ⟨H1, I1, q⟩
variable {tA tB' : TT} {rest : List Expr}
def tAnd (t u : TT) : TT := fun σ H Q => t σ H fun c H1 => if c = true then u σ H1 Q else Q false H1
def tOr (t u : TT) : TT := fun σ H Q => t σ H fun c H1 => if c = true then Q true H1 else u σ H1 Q
def tNot (t : TT) : TT := fun σ H Q => t σ H fun c H1 => Q (!c) H1
theorem pw_and1 (ha : PT X a tA) : PW X (.BoolOp .And [a] pos) tA := by
  intro wh pins s σ H Q I h
  refine isTrue_and (thn (ha pins s σ H Q I h) fun c s1 e => ?_)
  cases c with
  | true => exact isTrue_and_nil e
  | false => exact e
theorem pw_or1 (ha : PT X a tA) : PW X (.BoolOp .Or [a] pos) tA := by
  intro wh pins s σ H Q I h
  refine isTrue_or (thn (ha pins s σ H Q I h) fun c s1 e => ?_)
  cases c with
  | false => exact isTrue_or_nil e
  | true => exact e
theorem pw_and (ha : PT X a tA) (hb : PW X (.BoolOp .And (b :: rest) pos) tB') : PW X (.BoolOp .And (a :: b :: rest) pos) (tAnd tA tB') := by
  intro wh pins s σ H Q I h
  refine isTrue_and (thn (ha pins s σ H _ I h) fun c s1 ⟨H1, I1, q1⟩ => ?_)
  cases c with
  | true => exact hb wh pins s1 σ H1 Q I1 q1
  | false => exact ⟨H1, I1, q1⟩
theorem pw_or (ha : PT X a tA) (hb : PW X (.BoolOp .Or (b :: rest) pos) tB') : PW X (.BoolOp .Or (a :: b :: rest) pos) (tOr tA tB') := by
  intro wh pins s σ H Q I h
  refine isTrue_or (thn (ha pins s σ H _ I h) fun c s1 ⟨H1, I1, q1⟩ => ?_)
  cases c with
  | true => exact ⟨H1, I1, q1⟩
  | false => exact hb wh pins s1 σ H1 Q I1 q1
theorem pt_not (ha : PT X a tA) : PT X (.UnaryOp .Not a pos) (tNot tA) := by
  intro pins s σ H Q I h
  exact isTrue_not (ha pins s σ H (fun c H1 => Q (!c) H1) I h)
def tAndV (ta tb : TE) : TE := fun σ H Q => ta σ H fun x H1 => ∃ c, x = .bl c ∧ if c = true then tb σ H1 Q else Q (.bl false) H1
def tNotV (ta : TE) : TE := fun σ H Q => ta σ H fun x H1 => ∃ c, x = .bl c ∧ Q (.bl (!c)) H1
theorem pe_one {op} {t : TE} (h : PE X a t) : PE X (.BoolOp op [a] pos) t := fun pins s σ H Q I hw => BoolOp_one (h pins s σ H Q I hw)
theorem pe_and (ha : PE X a ta) (hb : PE X (.BoolOp .And (b :: rest) pos) tb) : PE X (.BoolOp .And (a :: b :: rest) pos) (tAndV ta tb) := by
  intro pins s σ H Q I h
  refine BoolOp_and (thn (ha pins s σ H _ I h) fun v s1 ⟨x, H1, I1, r1, q1⟩ => ?_)
  obtain ⟨c, rfl, q1⟩ := q1
  cases r1
  refine wpAny_truthy_bool ?_
  cases c with
  | true => exact hb pins s1 σ H1 Q I1 q1
  | false => exact ⟨.bl false, H1, I1, rfl, q1⟩
theorem pe_not (ha : PE X a ta) : PE X (.UnaryOp .Not a pos) (tNotV ta) := by
  intro pins s σ H Q I h
  refine UnaryOp_ (thn (ha pins s σ H _ I h) fun v s1 ⟨x, H1, I1, r1, q1⟩ => ?_)
  obtain ⟨c, rfl, q1⟩ := q1
  cases r1
  exact not_of (wpAny_truthy_bool ⟨.bl (!c), H1, I1, rfl, q1⟩)
end
end L2
namespace L2
open PySem PySem.Spec PyProof.Rows
def SqL (K : PySem.W.Frag) (H : Hp) (a : Addr) (xs : List V) : Prop :=
  Rd H a (.lst xs) ∨
    ∃ (o : Obj) (its : Array Value) (n : Nat), K.lookup a = some o ∧ o.cls = .type "list" ∧ o.dict = none ∧ o.data = .seq its n ∧ its.size ≤ sizeLine ∧ Vals xs its.toList
def SqT (K : PySem.W.Frag) (H : Hp) (a : Addr) (xs : List V) : Prop :=
  Rd H a (.tup xs) ∨
    ∃ (o : Obj) (its : Array Value) (n : Nat), K.lookup a = some o ∧ o.cls = .type "tuple" ∧ o.data = .seq its n ∧ its.size ≤ sizeLine ∧ Vals xs its.toList
def absV : Value → Option V
  | .none => some .non
  | .bool b => some (.bl b)
  | .int i _ => some (.int i)
  | .str x _ => some (.str x)
  | .bytes b _ => some (.byt b)
  | .float b _ => some (.flt b)
  | .ref a => some (.ref a)
  | .type n => some (.ty n)
  | _ => none
theorem RelV.abs {x : V} {u : Value} (r : RelV x u) : absV u = some x := by
  cases x with
  | non => cases r; rfl
  | bl _ => cases r; rfl
  | int _ => obtain ⟨t, rfl⟩ := r; rfl
  | str _ => obtain ⟨t, rfl⟩ := r; rfl
  | byt _ => obtain ⟨t, rfl⟩ := r; rfl
  | flt _ => obtain ⟨t, rfl⟩ := r; rfl
  | ref _ => cases r; rfl
  | ty _ => cases r; rfl
theorem RelV.inj {x y : V} {u : Value} (r : RelV x u) (q : RelV y u) : x = y := Option.some.inj (r.abs.symm.trans q.abs)
theorem Vals.inj : ∀ {xs ys : List V} {us : List Value}, Vals xs us → Vals ys us → xs = ys
  | _, _, _, .nil, .nil => rfl
  | _, _, _, .cons r t, .cons r' t' => by rw [r.inj r', Vals.inj t t']
section
variable {X : Cx} {pins : List (Addr × Obj)} {σ : St} {H : Hp} {s : Shared} {a : Addr} {xs ys : List V}
theorem SqL.of {K : PySem.W.Frag} (h : H a = some (.lst xs)) : SqL K H a xs := .inl (.inl h)
theorem Inv.list (I : Inv X pins σ H s) (h : SqL X.K H a xs) : ∃ its : List Value, Vals xs its ∧ PlainL s.heap a its.toArray ∧ xs.length ≤ sizeLine := by
  rcases h with h | ⟨o, its, n, hk, hc, hd, hs, hz, r⟩
  · obtain ⟨z, its, n, r, e⟩ := h.ok I.hok
    exact ⟨its, r, ⟨_, n, e, rfl, rfl, rfl⟩, z⟩
  · refine ⟨its.toList, r, ⟨o, n, I.kIn a o hk, hc, hd, by simpa using hs⟩, ?_⟩
    have e := r.length
    simp only [Array.length_toList] at e
    bv_omega
theorem Inv.tuple (I : Inv X pins σ H s) (h : SqT X.K H a xs) : ∃ its : List Value, Vals xs its ∧ IsTup s.heap a its.toArray ∧ xs.length ≤ sizeLine := by
  rcases h with h | ⟨o, its, n, hk, hc, hs, hz, r⟩
  · obtain ⟨z, its, r, p⟩ := h.ok I.hok
    exact ⟨its, r, p.tup, z⟩
  · refine ⟨its.toList, r, ⟨o, I.kIn a o hk, hc, n, by simpa using hs⟩, ?_⟩
    have e := r.length
    simp only [Array.length_toList] at e
    bv_omega
theorem Inv.list_inj (I : Inv X pins σ H s) (h : SqL X.K H a xs) (h' : SqL X.K H a ys) : xs = ys := by
  obtain ⟨its, r, ⟨o, n, e, _, _, d⟩, _⟩ := I.list h
  obtain ⟨its', r', ⟨o', n', e', _, _, d'⟩, _⟩ := I.list h'
  rw [e] at e'; cases e'
  rw [d] at d'
  injection d' with d1 _
  have : its = its' := by simpa using congrArg Array.toList d1
  subst this
  exact r.inj r'
theorem Inv.tuple_inj (I : Inv X pins σ H s) (h : SqT X.K H a xs) (h' : SqT X.K H a ys) : xs = ys := by
  obtain ⟨its, r, ⟨o, e, _, n, d⟩, _⟩ := I.tuple h
  obtain ⟨its', r', ⟨o', e', _, n', d'⟩, _⟩ := I.tuple h'
  rw [e] at e'; cases e'
  rw [d] at d'
  injection d' with d1 _
  have : its = its' := by simpa using congrArg Array.toList d1
  subst this
  exact r.inj r'
end
abbrev Cx.wish (X : Cx) (E : Value → Shared → Prop) : Cx := { X with xe := E }
abbrev Cx.nox (X : Cx) : Cx := X.wish fun _ _ => False
theorem Cx.Ok.wish {X : Cx} (ok : X.Ok) (E : Value → Shared → Prop) : (X.wish E).Ok :=
  ⟨ok.mod, ok.kind, ok.glob, ok.blt, ok.above, ok.inj, ok.has, ok.cab, ok.hd, ok.frames, ok.stk, ok.exf, ok.bs, ok.bsz, ok.noex, ok.exfs, ok.funs, ok.frf⟩
theorem Cx.Ok.unwish {X : Cx} {E : Value → Shared → Prop} (ok : (X.wish E).Ok) : X.Ok :=
  ⟨ok.mod, ok.kind, ok.glob, ok.blt, ok.above, ok.inj, ok.has, ok.cab, ok.hd, ok.frames, ok.stk, ok.exf, ok.bs, ok.bsz, ok.noex, ok.exfs, ok.funs, ok.frf⟩
section
variable {X : Cx} {pins : List (Addr × Obj)} {σ : St} {H : Hp} {s : Shared} {E : Value → Shared → Prop}
theorem Inv.wish (I : Inv X pins σ H s) (E : Value → Shared → Prop) : Inv (X.wish E) pins σ H s := ⟨I.ok.wish E, I.os, I.bare, I.base, I.loc, I.cell, I.free, I.freeC, I.pin, I.hok, I.len⟩
theorem Inv.unwish (I : Inv (X.wish E) pins σ H s) : Inv X pins σ H s := ⟨I.ok.unwish, I.os, I.bare, I.base, I.loc, I.cell, I.free, I.freeC, I.pin, I.hok, I.len⟩
theorem SP.unwish {D : Ends} {f : Flow} {s' : Shared} (h : SP (X.wish E) pins D f s') : SP X pins D f s' := by
  cases f with
  | next => obtain ⟨σ', H', I, q⟩ := h; exact ⟨σ', H', I.unwish, q⟩
  | brk => obtain ⟨σ', H', I, q⟩ := h; exact ⟨σ', H', I.unwish, q⟩
  | cont => obtain ⟨σ', H', I, q⟩ := h; exact ⟨σ', H', I.unwish, q⟩
  | ret u => obtain ⟨v, σ', H', I, r, q⟩ := h; exact ⟨v, σ', H', I.unwish, r, q⟩
theorem PSs.nox {st : List Stmt} {t : TS} (h : PSs X.nox st t) : PSs X st t := fun pins s σ H D I hw =>
  wpAny_mono (h pins s σ H D (I.wish _) hw) (fun _ _ q => q.unwish) fun _ _ z => False.elim z
end
section
variable {X : Cx} {st : Stmt} {rest : List Stmt} {t u : TS} {e : Expr} {te : TE} {pos : Pos}
def tNext : TS := fun D σ H => D.nx σ H
def tSeq (t u : TS) : TS := fun D σ H => t { D with nx := u D } σ H
theorem pss_nil : PSs X [] tNext := fun _ _ σ H _ I h => wpAny_execs_nil ⟨σ, H, I, h⟩
theorem pss_cons (h1 : PS X st t) (h2 : PSs X rest u) : PSs X (st :: rest) (tSeq t u) := by
  intro pins s σ H D I h
  refine wpAny_execs_cons (thn (h1 pins s σ H { D with nx := u D } I h) fun f s1 q => ?_)
  cases f with
  | next =>
    obtain ⟨σ', H', I', q⟩ := q
    exact h2 pins s1 σ' H' D I' q
  | ret v => exact q
  | brk => exact q
  | cont => exact q
theorem pss_one (h1 : PS X st t) : PSs X [st] t := by
  intro pins s σ H D I h
  refine wpAny_execs_cons (thn (h1 pins s σ H D I h) fun f s1 q => ?_)
  cases f with
  | next => exact wpAny_execs_nil q
  | ret v => exact q
  | brk => exact q
  | cont => exact q
theorem Inv.quiet {pins : List (Addr × Obj)} {σ : St} {H : Hp} {s : Shared} (I : Inv X pins σ H s) : interactive X.env = false := by simp [interactive, I.ok.kind]
def tDrop (te : TE) : TS := fun D σ H => te σ H fun _ H1 => D.nx σ H1
theorem ps_expr (he : PE X e te) (hs : autoParam (swapsWith e none pos.line X.env = pure false) zX._auto_1) : PS X (.Expr e pos) (tDrop te) := by
  intro pins s σ H D I h
  exact wpAny_Expr_any (thn (he pins s σ H _ I h) fun v s1 ⟨x, H1, I1, r1, q1⟩ => ⟨σ, H1, I1, q1⟩) I.quiet hs
def tRet (te : TE) : TS := fun D σ H => te σ H D.rt
theorem ps_ret (he : PE X e te) : PS X (.Return (some e) pos) (tRet te) := by
  intro pins s σ H D I h
  exact wpAny_Return_some (thn (he pins s σ H _ I h) fun v s1 ⟨x, H1, I1, r1, q1⟩ => ⟨x, σ, H1, I1, r1, q1⟩)
def tIfS (c : TT) (t u : TS) : TS := fun D σ H => c σ H fun b H1 => if b = true then t D σ H1 else u D σ H1
theorem ps_if {c : Expr} {a b : List Stmt} {tc : TT} (hc : PT X c tc) (ha : PSs X a t) (hb : PSs X b u) : PS X (.If c a b pos) (tIfS tc t u) := by
  intro pins s σ H D I h
  refine wpAny_If (thn (hc pins s σ H _ I h) fun d s1 ⟨H1, I1, q1⟩ => ?_)
  cases d with
  | true => exact ha pins s1 σ H1 D I1 q1
  | false => exact hb pins s1 σ H1 D I1 q1
end
abbrev TG := V → St → Hp → (St → Hp → Prop) → Prop
abbrev TGs := List V → St → Hp → (St → Hp → Prop) → Prop
def PG (X : Cx) (target : Expr) (t : TG) : Prop :=
  ∀ (pins : List (Addr × Obj)) (s : Shared) (σ : St) (H : Hp) (v : V) (u : Value) (Q : St → Hp → Prop), Inv X pins σ H s → RelV v u → t v σ H Q →
    wpAny (model X.prog X.w) X.A (assign target X.env u) (fun _ s' => ∃ σ' H', Inv X pins σ' H' s' ∧ Q σ' H') X.xe s
def PGs (X : Cx) (ts : List Expr) (t : TGs) : Prop :=
  ∀ (pins : List (Addr × Obj)) (s : Shared) (σ : St) (H : Hp) (vs : List V) (us : List Value) (Q : St → Hp → Prop), Inv X pins σ H s → Vals vs us → t vs σ H Q →
    wpAny (model X.prog X.w) X.A (assignInOrder ((assignEach ts X.env).map (·.2)) us) (fun _ s' => ∃ σ' H', Inv X pins σ' H' s' ∧ Q σ' H') X.xe s
abbrev TSet := V → V → V → Hp → (Hp → Prop) → Prop
def PSet (X : Cx) (t : TSet) : Prop :=
  ∀ (pins : List (Addr × Obj)) (s : Shared) (σ : St) (H : Hp) (o i v : V) (ov iv u : Value) (Q : Hp → Prop), Inv X pins σ H s → RelV o ov → RelV i iv → RelV v u → t o i v H Q →
    wpAny (model X.prog X.w) X.A (setItem ov iv u) (fun _ s' => ∃ H', Inv X pins σ H' s' ∧ Q H') X.xe s
abbrev TIp := V → V → Hp → VK → Prop
def PIp (X : Cx) (op : Operator) (t : TIp) : Prop :=
  ∀ (pins : List (Addr × Obj)) (s : Shared) (σ : St) (H : Hp) (x y : V) (v u : Value) (Q : VK), Inv X pins σ H s → RelV x v → RelV y u → t x y H Q →
    wpAny (model X.prog X.w) X.A (inplaceOp op v u) (EP X pins σ Q) X.xe s
section
variable {X : Cx} {pos : Pos}
def gName (i : Nat) : TG := fun v σ H Q => Q (σ.set i (some v)) H
theorem pg_name {i : Nat} {x : Str} (hN : X.N.Nodup) (hi : X.N[i]? = some x) (hx : Loc X.env.scope x) (hf : autoParam (X.fn x = true ∨ X.env.scope.names.lookup x = some .local) autoK1._auto_1) : PG X (.Name x pos) (gName i) := by
  intro pins s σ H v u Q I r h
  exact wpAny_assign_Name (store_ok I hN hi hx r (fun s' I' => ⟨_, H, I', h⟩) hf)
def gNil : TGs := fun vs σ H Q => vs = [] ∧ Q σ H
def gCons (t : TG) (u : TGs) : TGs := fun vs σ H Q => ∃ v r, vs = v :: r ∧ t v σ H fun σ' H' => u r σ' H' Q
theorem pgs_nil : PGs X [] gNil := by
  intro pins s σ H vs us Q I r h
  obtain ⟨e, h⟩ := h
  subst e
  cases r
  exact assignInOrder_nil ⟨σ, H, I, h⟩
theorem pgs_cons {e : Expr} {es : List Expr} {t : TG} {u : TGs} (h1 : PG X e t) (h2 : PGs X es u)
    (hs : autoParam ((assignEach (e :: es) X.env).map (·.2) = assign e X.env :: (assignEach es X.env).map (·.2)) zX._auto_1) : PGs X (e :: es) (gCons t u) := by
  intro pins s σ H vs us Q I r h
  obtain ⟨v, vr, e1, h⟩ := h
  subst e1
  cases r with
  | cons r rr =>
    rw [hs]
    refine assignInOrder_cons (thn (h1 pins s σ H _ _ _ I r h) fun _ s1 ⟨σ1, H1, I1, q1⟩ => ?_)
    exact h2 pins s1 σ1 H1 _ _ Q I1 rr q1
def gTup (K : PySem.W.Frag) (n : Nat) (t : TGs) : TG := fun v σ H Q => ∃ a xs, v = .ref a ∧ SqT K H a xs ∧ xs.length = n ∧ t xs σ H Q
theorem pg_tup {es : List Expr} {k : Nat} {t : TGs} {n : Nat} (hc : X.calm = true) (h : PGs X es t)
    (hn : autoParam ((assignEach es X.env).length = n) zX._auto_1) (hst : autoParam ((assignEach es X.env).findIdx? (·.1) = none) zX._auto_1) : PG X (.Tuple es k pos) (gTup X.K n t) := by
  intro pins s σ H v u Q I r hw
  obtain ⟨a, xs, e1, hq, hl, hw⟩ := hw
  subst e1
  cases r
  obtain ⟨its, rv, ht, hz⟩ := I.tuple hq
  refine assign_Tuple_tuple (I.ok.hd hc) ht (by simp [hn, ← hl, rv.length]) hst fun h' hx => ?_
  have I1 : Inv X pins σ H { s with heap := h' } := I.kept (t' := s.toks) fun b o e => hx b o (Nat.ne_of_lt (Heap.lt_size e)) e
  exact h pins _ σ H xs _ Q I1 (by simpa using rv) hw
def gSub (to ti : TE) (t : TSet) : TG := fun v σ H Q => to σ H fun o H1 => ti σ H1 fun i H2 => t o i v H2 fun H3 => Q σ H3
theorem pg_sub {o i : Expr} {to ti : TE} {t : TSet} (ho : PE X o to) (hi : PE X i ti) (hs : PSet X t)
    (ha : ∀ v, assign (.Subscript o i pos) X.env v = (do
      let ov ← holding [v] (eval o X.env)
      let iv ← holding [v, ov] (eval i X.env)
      standAt pos
      holding [v, ov, iv] (setItem ov iv v)
      release [v, ov, iv] []) := by intro _; rfl) : PG X (.Subscript o i pos) (gSub to ti t) := by
  intro pins s σ H v u Q I r h
  rw [ha]
  refine wpAny_bind (wpAny_holding (thn (ho pins s σ H _ I h) fun ov s1 ⟨x, H1, I1, r1, q1⟩ => ?_))
  refine wpAny_bind (wpAny_holding (thn (hi pins s1 σ H1 _ I1 q1) fun iv s2 ⟨y, H2, I2, r2, q2⟩ => ?_))
  refine wpAny_bind (wpAny_standAt (wpAny_bind (wpAny_holding (thn (hs pins s2 σ H2 x y v ov iv u _ I2 r1 r2 r q2) fun _ s3 ⟨H3, I3, q3⟩ => ?_))))
  exact wpAny_release ⟨σ, H3, I3, q3⟩
def tAsg (te : TE) (g : TG) : TS := fun D σ H => te σ H fun x H1 => g x σ H1 D.nx
theorem ps_asg {tg e : Expr} {te : TE} {g : TG} (he : PE X e te) (hg : PG X tg g) (hs : autoParam (swapsWithSole [tg] e pos.line X.env = pure false) zX._auto_1) (hw : autoParam (swappedStores [tg] e X.env = pure none) zX._auto_1)
    (h1 : autoParam ((assignEach [tg] X.env).map (·.2) = [assign tg X.env]) zX._auto_1) : PS X (.Assign [tg] e pos) (tAsg te g) := by
  intro pins s σ H D I h
  refine wpAny_Assign_stores (thn (he pins s σ H _ I h) fun v s1 ⟨x, H1, I1, r1, q1⟩ => ?_) hs hw
  rw [h1]
  exact thn (hg pins s1 σ H1 x v _ I1 r1 q1) fun _ s2 q => q
theorem ps_set {i : Nat} {x : Str} {e : Expr} {te : TE} {pos' : Pos} (hN : X.N.Nodup) (hi : X.N[i]? = some x) (hx : Loc X.env.scope x) (he : PE X e te) (hs : autoParam (swapsWith e (some (.Name x pos')) pos.line X.env = pure false) zX._auto_1) (hf : autoParam (X.fn x = true ∨ X.env.scope.names.lookup x = some .local) autoK1._auto_1) :
    PS X (.Assign [.Name x pos'] e pos) (tAsg te (gName i)) := by
  intro pins s σ H D I h
  refine wpAny_Assign_Name (thn (he pins s σ H _ I h) fun v s1 ⟨y, H1, I1, r1, q1⟩ => ?_) hs
  exact store_ok I1 hN hi hx r1 (fun s2 I2 => ⟨_, H1, I2, q1⟩) hf
def tAug (i : Nat) (te : TE) (ti : TIp) : TS := fun D σ H => ∃ x, σ[i]? = some (some x) ∧ te σ H fun y H1 => ti x y H1 fun z H2 => D.nx (σ.set i (some z)) H2
theorem ps_aug {i : Nat} {x : Str} {e : Expr} {te : TE} {op : Operator} {ti : TIp} {pos' : Pos} (hN : X.N.Nodup) (hi : X.N[i]? = some x) (hx : Loc X.env.scope x) (he : PE X e te) (ho : PIp X op ti) (hf : autoParam (X.fn x = true ∨ X.env.scope.names.lookup x = some .local) autoK1._auto_1) :
    PS X (.AugAssign (.Name x pos') op e pos) (tAug i te ti) := by
  intro pins s σ H D I h
  obtain ⟨v, e1, h⟩ := h
  obtain ⟨m, hn, hl⟩ := I.loc
  have vis : Vis X.env.scope x := by rcases hx with k | k; exact .inl k; exact .inr (.inl k)
  obtain ⟨u, r, l⟩ := hl i x v hi e1 vis
  refine wpAny_AugAssign_Name ?_
  have go : wpAny (model X.prog X.w) X.A (eval e X.env) (fun w s₂ => wpAny (model X.prog X.w) X.A (inplaceOp op u w) (fun r s₃ => wpAny (model X.prog X.w) X.A (storeName X.env x r) (fun _ => SP X pins D .next) X.xe s₃) X.xe s₂) X.xe s := by
    refine thn (he pins s σ H _ I h) fun w s1 ⟨y, H1, I1, r1, q1⟩ => ?_
    refine thn (ho pins s1 σ H1 v y u w _ I1 r r1 q1) fun z s2 ⟨zv, H2, I2, r2, q2⟩ => ?_
    exact store_ok I2 hN hi hx r2 (fun s3 I3 => ⟨_, H2, I3, q2⟩) hf
  rcases l with ⟨hk, hm⟩ | ⟨hk, c, hc, hcell⟩
  · exact wpAny_loadName_local I.ok.kind hk hn hm go
  · rcases hk with hk | hk
    · exact wpAny_loadName_cell I.ok.kind hk hc hcell go
    · rcases hx with k | k
      · have : X.env.scope.names.lookup x = some .free := hk
        rw [k] at this; cases this
      · have : X.env.scope.names.lookup x = some .free := hk
        rw [k] at this; cases this
end
section
variable {X : Cx} {pos : Pos}
def tWhile (c : TT) (tb : TS) : TS := fun D σ H => ∃ W : Nat → St → Hp → Prop, (∃ m, W m σ H) ∧ ∀ m σ H, W m σ H →
  c σ H fun b H1 => if b = true then ∃ N : St → Hp → Prop, (∀ σ' H', N σ' H' → ∃ m', m' < m ∧ W m' σ' H') ∧ tb { D with nx := N, ct := N, bk := D.nx } σ H1 else D.nx σ H1
theorem ps_while {c : Expr} {body : List Stmt} {tc : TT} {tb : TS} (hp : PassesOwn (model X.prog X.w) X.A X.env X.xe) (hc : PT X c tc) (hb : PSs X body tb) : PS X (.While c body [] pos) (tWhile tc tb) := by
  intro pins s σ H D I h
  obtain ⟨W, ⟨m0, w0⟩, turn⟩ := h
  refine wpAny_While (codeAny_whileLoop (fun n s' => ∃ σ' H', Inv X pins σ' H' s' ∧ W n σ' H') ?_ m0 ⟨σ, H, I, w0⟩)
  rintro n s1 ⟨σ1, H1, I1, w1⟩
  refine wpAny_passesOwn hp (thn (hc pins s1 σ1 H1 _ I1 (turn n σ1 H1 w1)) fun b s2 ⟨H2, I2, q2⟩ => ?_)
  cases b with
  | true =>
    obtain ⟨N, hN, q2⟩ := q2
    rw [if_pos rfl]
    refine wpAny_passesOwn hp (thn (hb pins s2 σ1 H2 _ I2 q2) fun f s3 q3 => ?_)
    cases f with
    | next =>
      obtain ⟨σ3, H3, I3, n3⟩ := q3
      obtain ⟨m', hm, w3⟩ := hN σ3 H3 n3
      exact ⟨m', hm, σ3, H3, I3, w3⟩
    | cont =>
      obtain ⟨σ3, H3, I3, n3⟩ := q3
      obtain ⟨m', hm, w3⟩ := hN σ3 H3 n3
      exact ⟨m', hm, σ3, H3, I3, w3⟩
    | brk => exact q3
    | ret v => exact q3
  | false =>
    rw [if_neg Bool.false_ne_true]
    exact wpAny_execs_nil ⟨σ1, H2, I2, q2⟩
end
structure It where
  go : Nat → Hp → Prop
  yld : Nat → Hp → V → Hp → Prop
  stop : Nat → Hp → Prop
def FpOk (X : Cx) (pins : List (Addr × Obj)) (H : Hp) (b : Addr) : Prop :=
  H b = none ∧ b ≠ X.env.locals ∧ b ∉ X.fs ∧ (b ∈ X.ex ∨ X.s₀.heap.objs.size ≤ b) ∧ (∀ x c, X.env.cells.lookup x = some c → c ≠ b) ∧ ∀ p ∈ X.pn ++ pins, p.1 ≠ b
theorem Inv.fpOk {X : Cx} {pins : List (Addr × Obj)} {σ : St} {H H' : Hp} {s : Shared} {b : Addr} (I : Inv X pins σ H s) (hb : s.heap.objs.size ≤ b) (hn : H' b = none) : FpOk X pins H' b := by
  refine ⟨hn, Nat.ne_of_gt (Nat.lt_of_lt_of_le I.lt hb), I.nofs hb, .inr (Nat.le_trans I.sz hb), fun x c e z => ?_, fun p hp z => ?_⟩
  · obtain ⟨v, q⟩ := I.cell x c e
    exact absurd (Nat.lt_of_lt_of_le q.lt (by rw [z]; exact hb)) (Nat.lt_irrefl _)
  · exact absurd (Nat.lt_of_lt_of_le (Heap.lt_size (I.pin p hp).1) (by rw [z]; exact hb)) (Nat.lt_irrefl _)
structure Turn (P : Program) (w : World) (K : PySem.W.Frag) (tg : Expr) (J : It) (fp : List Addr) (it : Addr) (tn : Nat → Heap → Prop) : Prop where
  mem : it ∈ fp
  obj : ∀ i h, tn i h → ∀ b ∈ fp, ∃ o, h.get? b = some o ∧ ∀ v, o.data ≠ .cell v
  keep : ∀ i h h', tn i h → (∀ b ∈ fp, ∀ o, h.get? b = some o → h'.get? b = some o) → tn i h'
  item : ∀ (X : Cx), X.prog = P → X.w = w → X.K = K → X.calm = true → ∀ (i : Nat) (pins : List (Addr × Obj)) (s : Shared) (σ : St) (H : Hp) (E : Value → Shared → Prop), Inv X pins σ H s → (∀ b ∈ fp, FpOk X pins H b) → tn i s.heap → J.go i H →
    wpAny (model P w) X.A (pyNext (.ref it)) (fun r s1 => ∃ u, r = some u ∧
      wpAny (model P w) X.A (letOwnedTupleGo tg (.ref it) u) (fun _ s2 => ∃ x H', Inv X pins σ H' s2 ∧ RelV x u ∧ J.yld i H x H' ∧ tn (i + 1) s2.heap ∧ ∀ b ∈ fp, H' b = none) E s1) E s
  done : ∀ (X : Cx), X.prog = P → X.w = w → X.K = K → X.calm = true → ∀ (i : Nat) (pins : List (Addr × Obj)) (s : Shared) (σ : St) (H : Hp) (E : Value → Shared → Prop), Inv X pins σ H s → (∀ b ∈ fp, FpOk X pins H b) → tn i s.heap → J.stop i H →
    wpAny (model P w) X.A (pyNext (.ref it)) (fun r s1 => r = none ∧ Inv X pins σ H s1) E s
  self : ∀ (A : Around) (i : Nat) (s : Shared) (Q : Value → Shared → Prop) (E : Value → Shared → Prop), tn i s.heap → Q (.ref it) s → wpAny (model P w) A (pyIter (.ref it)) Q E s
abbrev TI := St → Hp → (It → Hp → Prop) → Prop
def PIE (X : Cx) (pins : List (Addr × Obj)) (σ : St) (tg : Expr) (R : It → Hp → Prop) (itv : Value) (s2 : Shared) : Prop :=
  ∃ (it : Addr) (fp : List Addr) (tn : Nat → Heap → Prop) (J : It) (H' : Hp), itv = .ref it ∧ Inv X pins σ H' s2 ∧ Turn X.prog X.w X.K tg J fp it tn ∧ tn 0 s2.heap ∧ (∀ b ∈ fp, FpOk X pins H' b) ∧ R J H'
def PI (X : Cx) (tg iter : Expr) (wi : TI) : Prop :=
  ∀ (pins : List (Addr × Obj)) (s : Shared) (σ : St) (H : Hp) (R : It → Hp → Prop), Inv X pins σ H s → wi σ H R →
    wpAny (model X.prog X.w) X.A (eval iter X.env) (fun v s1 => wpAny (model X.prog X.w) X.A (pyIter v) (PIE X pins σ tg R) X.xe s1) X.xe s
theorem go_of {M : Model} {A : Around} {E : Value → Shared → Prop} {s : Shared} {tg : Expr} {it : Addr} {u : Value} {o : Obj} {n : String} {vs : Array Value} {Q : Unit → Shared → Prop} (ho : s.heap.get? it = some o) (hc : o.cls = .type n) (hd : o.data = .fields vs)
    (hn : ["enumerate", "zip", "dict_itemiterator", "dict_reverseitemiterator", "odict_iterator", "itertools.zip_longest", "itertools.pairwise"].contains n = false) (hQ : Q () s) : wpAny M A (letOwnedTupleGo tg (.ref it) u) Q E s := by
  unfold letOwnedTupleGo
  cases tg <;> first
    | exact wpAny_pure hQ
    | (cases u <;> first
        | exact wpAny_pure hQ
        | (refine wpAny_bind (wpAny_load ho ?_)
           rw [hc, hd]
           show wpAny M A (if (["enumerate", "zip", "dict_itemiterator", "dict_reverseitemiterator", "odict_iterator", "itertools.zip_longest", "itertools.pairwise"].contains n && vs[0]? == some (rawInt _)) = true then _ else _) Q E s
           rw [if_neg (by intro h; rw [hn, Bool.false_and] at h; cases h)]
           exact wpAny_pure hQ))
def Itl (K : PySem.W.Frag) (a : Addr) : It :=
  ⟨fun i H => ∃ xs x, SqL K H a xs ∧ xs[i]? = some x, fun i H x H' => H' = H ∧ ∀ xs, SqL K H a xs → xs[i]? = some x, fun i H => ∃ xs, SqL K H a xs ∧ xs.length ≤ i⟩
def Itt (K : PySem.W.Frag) (a : Addr) : It :=
  ⟨fun i H => ∃ xs x, SqT K H a xs ∧ xs[i]? = some x, fun i H x H' => H' = H ∧ ∀ xs, SqT K H a xs → xs[i]? = some x, fun i H => ∃ xs, SqT K H a xs ∧ xs.length ≤ i⟩
def Itr (lo : Int) (n : Nat) : It := ⟨fun i _ => i < n, fun i H x H' => H' = H ∧ x = .int (lo + i), fun i _ => n ≤ i⟩
theorem turn_list {P : Program} {w : World} {K : PySem.W.Frag} {tg : Expr} (a it : Addr) : Turn P w K tg (Itl K a) [it] it (fun i h => h.IsListIter it a i) where
  mem := by simp
  obj := fun i h st b hb => by
    have e : b = it := by simpa using hb
    subst e
    obtain ⟨o, e, c, d⟩ := st
    exact ⟨o, e, fun v z => by rw [d] at z; cases z⟩
  keep := fun i h h' st k => st.at fun o e => k it (by simp) o e
  item := by
    intro X hP hw hK hc i pins s σ H E I hf st hg
    subst hP hw hK
    obtain ⟨xs, x, hq, hx⟩ := hg
    obtain ⟨its, rv, p, hz⟩ := I.list hq
    obtain ⟨u, hu, ru⟩ := rv.get hx
    obtain ⟨f0, f1, f2, f3, f4, f5⟩ := hf it (by simp)
    refine wpAny_pyNext_list_item st p.isList (x := u) (by simpa using hu) fun h' st' sb => ?_
    have I1 : Inv X pins σ H { s with heap := h' } := I.turned (t' := s.toks) (fun b o hb e => (sb.2 b hb).trans e) f0 f1 f3 f4 f5
    obtain ⟨o, e, c, d⟩ := id st'
    exact ⟨u, rfl, go_of (s := { s with heap := h' }) e c d (by decide) ⟨x, H, I1, ru, ⟨rfl, fun ys hy => by rw [I.list_inj hy hq]; exact hx⟩, st', fun b hb => (hf b hb).1⟩⟩
  done := by
    intro X hP hw hK hc i pins s σ H E I hf st hg
    subst hP hw hK
    obtain ⟨xs, hq, hx⟩ := hg
    obtain ⟨its, rv, p, hz⟩ := I.list hq
    obtain ⟨f0, f1, f2, f3, f4, f5⟩ := hf it (by simp)
    have hl := rv.length
    exact wpAny_pyNext_list_end (I.ok.hd hc) st p.isList (by simp; bv_omega) fun h' eb => ⟨rfl, I.turned (t' := s.toks) (fun b o hb e => eb b o hb e) f0 f1 f3 f4 f5⟩
  self := fun _ _ _ _ _ st h => wpAny_pyIter_listiter st h
theorem turn_tuple {P : Program} {w : World} {K : PySem.W.Frag} {tg : Expr} (a it : Addr) : Turn P w K tg (Itt K a) [it] it (fun i h => h.IsTupleIter it a i) where
  mem := by simp
  obj := fun i h st b hb => by
    have e : b = it := by simpa using hb
    subst e
    obtain ⟨o, e, c, d⟩ := st
    exact ⟨o, e, fun v z => by rw [d] at z; cases z⟩
  keep := fun i h h' st k => st.at fun o e => k it (by simp) o e
  item := by
    intro X hP hw hK hc i pins s σ H E I hf st hg
    subst hP hw hK
    obtain ⟨xs, x, hq, hx⟩ := hg
    obtain ⟨its, rv, p, hz⟩ := I.tuple hq
    obtain ⟨u, hu, ru⟩ := rv.get hx
    obtain ⟨f0, f1, f2, f3, f4, f5⟩ := hf it (by simp)
    refine wpAny_pyNext_tuple_item st (show s.heap.IsTuple a its.toArray from p) (x := u) (by simpa using hu) fun h' st' sb => ?_
    have I1 : Inv X pins σ H { s with heap := h' } := I.turned (t' := s.toks) (fun b o hb e => (sb.2 b hb).trans e) f0 f1 f3 f4 f5
    obtain ⟨o, e, c, d⟩ := id st'
    exact ⟨u, rfl, go_of (s := { s with heap := h' }) e c d (by decide) ⟨x, H, I1, ru, ⟨rfl, fun ys hy => by rw [I.tuple_inj hy hq]; exact hx⟩, st', fun b hb => (hf b hb).1⟩⟩
  done := by
    intro X hP hw hK hc i pins s σ H E I hf st hg
    subst hP hw hK
    obtain ⟨xs, hq, hx⟩ := hg
    obtain ⟨its, rv, p, hz⟩ := I.tuple hq
    obtain ⟨f0, f1, f2, f3, f4, f5⟩ := hf it (by simp)
    have hl := rv.length
    exact wpAny_pyNext_tuple_end (I.ok.hd hc) st (show s.heap.IsTuple a its.toArray from p) (by simp; bv_omega) fun h' eb => ⟨rfl, I.turned (t' := s.toks) (fun b o hb e => eb b o hb e) f0 f1 f3 f4 f5⟩
  self := fun _ _ _ _ _ st h => wpAny_pyIter_tupleiter st h
theorem turn_range {P : Program} {w : World} {K : PySem.W.Frag} {tg : Expr} (it : Addr) (lo : Int) (n : Nat) : Turn P w K tg (Itr lo n) [it] it (fun i h => IsRangeIter h it (lo + (i : Nat) * 1) ((n : Int) - (i : Nat)) 1) where
  mem := by simp
  obj := fun i h st b hb => by
    have e : b = it := by simpa using hb
    subst e
    exact ⟨_, st, fun v z => by
      have z' : Data.fields _ = Data.cell v := z
      cases z'⟩
  keep := fun i h h' st k => k it (by simp) _ st
  item := by
    intro X hP hw hK hc i pins s σ H E I hf st hg
    subst hP hw hK
    obtain ⟨f0, f1, f2, f3, f4, f5⟩ := hf it (by simp)
    have W := Walks.range (prog := X.prog) (w := X.w) (I.ok.hd hc) it lo 1 n
    refine W.item i s _ _ hg st fun v h' tk hv st' kk => ?_
    obtain ⟨t, rfl⟩ := hv
    have I1 : Inv X pins σ H { s with heap := h', toks := tk } := I.turned (fun b o hb e => kk b o (by simpa using hb) e) f0 f1 f3 f4 f5
    refine ⟨_, rfl, go_of (s := { s with heap := h', toks := tk }) (n := "range_iterator") st' rfl rfl (by decide) ⟨.int (lo + i), H, I1, ⟨t, ?_⟩, ⟨rfl, rfl⟩, st', fun b hb => (hf b hb).1⟩⟩
    rw [Int.mul_one]
  done := by
    intro X hP hw hK hc i pins s σ H E I hf st hg
    subst hP hw hK
    obtain ⟨f0, f1, f2, f3, f4, f5⟩ := hf it (by simp)
    exact wpAny_pyNext_range_end (I.ok.hd hc) st (by have : n ≤ i := hg; bv_omega) fun h' eb => ⟨rfl, I.turned (t' := s.toks) (fun b o hb e => eb b o hb e) f0 f1 f3 f4 f5⟩
  self := fun _ _ _ _ _ st h => wpAny_pyIter_rangeiter st h
end L2
namespace L2
open PySem PySem.Spec PyProof.Rows
section
variable {X : Cx} {tg : Expr}
theorem range_it {pins : List (Addr × Obj)} {σ : St} {H : Hp} {s : Shared} {R : It → Hp → Prop} {E : Value → Shared → Prop} {lo hi : Int} {t u v : Tok} {tk : Nat} (I : Inv X pins σ H s) (h1 : -(2 ^ 62) ≤ lo) (h2 : lo < 2 ^ 62) (h3 : -(2 ^ 62) ≤ hi) (h4 : hi < 2 ^ 62)
    (q : R (Itr lo (hi - lo).toNat) H) : wpAny (model X.prog X.w) X.A (pyIter (.ref s.heap.objs.size)) (PIE X pins σ tg R) E { s with heap := s.heap.push { cls := .type "range", data := .fields #[.int lo t, .int hi u, .int 1 v] }, toks := tk } := by
  refine wpAny_pyIter_range (IsRange.new ..) (small_one h1 h2 h3 h4) ?_
  have I1 : Inv X pins σ H { s with heap := s.heap.push { cls := .type "range", data := .fields #[.int lo t, .int hi u, .int 1 v] }, toks := tk } := I.kept fun b o e => Heap.get?_push_of_some _ e
  refine ⟨(s.heap.push { cls := .type "range", data := .fields #[.int lo t, .int hi u, .int 1 v] }).objs.size, [(s.heap.push { cls := .type "range", data := .fields #[.int lo t, .int hi u, .int 1 v] }).objs.size], _, _, H, rfl,
    I1.kept (t' := tk) fun b o e => Heap.get?_push_of_some _ e, turn_range _ lo (hi - lo).toNat, ?_, fun b hb => ?_, q⟩
  · have e1 : lo + ((0 : Nat) : Int) * 1 = lo := by simp
    have e2 : (((hi - lo).toNat : Nat) : Int) - ((0 : Nat) : Int) = Builtin.Range.rangeSize lo hi 1 := by rw [rangeSize_one]; split <;> bv_omega
    show IsRangeIter _ _ (lo + ((0 : Nat) : Int) * 1) ((((hi - lo).toNat : Nat) : Int) - ((0 : Nat) : Int)) 1
    rw [e1, e2]
    exact Heap.get?_push_size _ rfl
  · have e : b = (s.heap.push { cls := .type "range", data := .fields #[.int lo t, .int hi u, .int 1 v] }).objs.size := by simpa using hb
    subst e
    exact I1.fpOk (Nat.le_refl _) (I1.hok.fresh (Nat.le_refl _))
def iRng1 (ta : TA) : TI := fun σ H R => ta σ H fun vs H1 => ∃ j : Int, vs = [.int j] ∧ -(2 ^ 62) ≤ j ∧ j < 2 ^ 62 ∧ R (Itr 0 j.toNat) H1
def iRng2 (ta : TA) : TI := fun σ H R => ta σ H fun vs H1 => ∃ i j : Int, vs = [.int i, .int j] ∧ (-(2 ^ 62) ≤ i ∧ i < 2 ^ 62 ∧ -(2 ^ 62) ≤ j ∧ j < 2 ^ 62) ∧ R (Itr i (j - i).toNat) H1
theorem pi_range1 {a : Expr} {ta : TA} {p pos : Pos} (hg : Gl X "range") (hm : X.mg "range" = none) (ha : PA X [a] ta) (hs : autoParam (starEach [a] X.env = [(false, eval a X.env)]) zX._auto_1) : PI X tg (.Call (.Name "range" p) [a] [] pos) (iRng1 ta) := by
  intro pins s σ H R I h
  refine Call_ (ld_blt I hg hm boot_range (PyProof.Rows.callWith_type1 (thn (ha pos pins s σ H _ I h) fun us s1 ⟨vs, H1, I1, r1, q1⟩ => ?_) hs rfl))
  obtain ⟨j, e, q1, q2, q⟩ := q1
  subst e
  cases r1 with
  | cons r rr =>
    cases rr
    obtain ⟨t, rfl⟩ := r
    exact call_range_1 (range_it I1 (by bv_omega) (by bv_omega) q1 q2 (by simpa using q))
theorem pi_range2 {a b : Expr} {ta : TA} {p pos : Pos} (hg : Gl X "range") (hm : X.mg "range" = none) (ha : PA X [a, b] ta) (hs : autoParam (starEach [a, b] X.env = [(false, eval a X.env), (false, eval b X.env)]) zX._auto_1) (hs2 : autoParam (starEach [b] X.env = [(false, eval b X.env)]) zX._auto_1) :
    PI X tg (.Call (.Name "range" p) [a, b] [] pos) (iRng2 ta) := by
  intro pins s σ H R I h
  refine Call_ (ld_blt I hg hm boot_range (PyProof.Rows.callWith_type1 (thn (ha pos pins s σ H _ I h) fun us s1 ⟨vs, H1, I1, r1, q1⟩ => ?_) (by rw [hs, hs2]) (by rw [hs2]; rfl)))
  obtain ⟨i, j, e, ⟨q1, q2, q3, q4⟩, q⟩ := q1
  subst e
  cases r1 with
  | cons r rr =>
    cases rr with
    | cons r' rr =>
      cases rr
      obtain ⟨t, rfl⟩ := r
      obtain ⟨t', rfl⟩ := r'
      exact call_range_2 (range_it I1 q1 q2 q3 q4 q)
def tFor (wi : TI) (g : TG) (tb : TS) : TS := fun D σ H => wi σ H fun J H1 => ∃ W : Nat → Nat → St → Hp → Prop, (∃ m, W 0 m σ H1) ∧ ∀ i m σ H, W i m σ H →
  (J.stop i H ∧ D.nx σ H) ∨ (J.go i H ∧ ∃ N : St → Hp → Prop, (∀ σ' H', N σ' H' → ∃ m', m' < m ∧ W (i + 1) m' σ' H') ∧ ∀ x H', J.yld i H x H' → g x σ H' fun σ2 H2 => tb { D with nx := N, ct := N, bk := D.nx } σ2 H2)
def pinsAt (fp : List Addr) (h : Heap) : List (Addr × Obj) := fp.filterMap fun b => (h.get? b).map fun o => (b, o)
theorem mem_pinsAt {fp : List Addr} {h : Heap} {b : Addr} {o : Obj} (hb : b ∈ fp) (e : h.get? b = some o) : (b, o) ∈ pinsAt fp h := List.mem_filterMap.mpr ⟨b, hb, by rw [e]; rfl⟩
theorem of_pinsAt {fp : List Addr} {h : Heap} {p : Addr × Obj} (hp : p ∈ pinsAt fp h) : p.1 ∈ fp ∧ h.get? p.1 = some p.2 := by
  obtain ⟨b, hb, e⟩ := List.mem_filterMap.mp hp
  cases q : h.get? b with
  | none => rw [q] at e; cases e
  | some o =>
    rw [q] at e
    have e' : (b, o) = p := Option.some.inj e
    subst e'
    exact ⟨hb, q⟩
theorem Inv.pinned {pins : List (Addr × Obj)} {σ : St} {H : Hp} {s : Shared} {fp : List Addr} (I : Inv X pins σ H s) (hf : ∀ b ∈ fp, FpOk X pins H b) (ho : ∀ b ∈ fp, ∃ o, s.heap.get? b = some o ∧ ∀ v, o.data ≠ .cell v) : Inv X (pins ++ pinsAt fp s.heap) σ H s :=
  I.pins_of fun p hp => (List.mem_append.mp hp).elim (fun z => I.pin p (List.mem_append_right _ z)) fun z => by
    obtain ⟨hb, e⟩ := of_pinsAt z
    obtain ⟨f0, f1, f2, _⟩ := hf p.1 hb
    obtain ⟨o, e', d⟩ := ho p.1 hb
    rw [e] at e'; cases e'
    exact ⟨e, f0, f1, f2, d⟩
theorem Inv.unpinned {pins pl : List (Addr × Obj)} {σ : St} {H : Hp} {s : Shared} (I : Inv X (pins ++ pl) σ H s) : Inv X pins σ H s := I.pins_of fun p hp => I.pin p (List.mem_append_right _ (List.mem_append_left _ hp))
theorem ps_for {iter : Expr} {body : List Stmt} {wi : TI} {g : TG} {tb : TS} {pos : Pos} (hp : PassesOwn (model X.prog X.w) X.A X.env X.xe) (hc : X.calm = true) (hi : PI X tg iter wi) (hg : PG X tg g) (hb : PSs X body tb)
    (hs : autoParam (∀ x, foldedSetIterable iter X.env x = pure x) autoK4._auto_1) : PS X (.For tg iter body [] pos) (tFor wi g tb) := by
  intro pins s σ H D I h
  refine wpAny_For (thn (hi pins s σ H _ I h) fun v s1 h1 => thn h1 fun itv s2 h2 => ?_) hs
  obtain ⟨it, fp, tn, J, H2, e, I2, T, st2, f2, W, ⟨m0, w0⟩, turn⟩ := h2
  subst e
  have stat : ∀ {H' : Hp}, (∀ b ∈ fp, H' b = none) → ∀ b ∈ fp, FpOk X pins H' b := fun hn b hb => ⟨hn b hb, (f2 b hb).2⟩
  refine codeAny_forLoop_any (fun n s' => ∃ i σ' H', Inv X pins σ' H' s' ∧ tn i s'.heap ∧ (∀ b ∈ fp, H' b = none) ∧ W i n σ' H') ?_ m0 ⟨0, σ, H2, I2, st2, fun b hb => (f2 b hb).1, w0⟩
  rintro n s3 ⟨i, σ3, H3, I3, st3, fr3, w3⟩
  rcases turn i n σ3 H3 w3 with ⟨stop, qn⟩ | ⟨go, N, hN, step⟩
  · refine wpAny_passesOwn hp (thn (T.done X rfl rfl rfl hc i pins s3 σ3 H3 X.xe I3 (stat fr3) st3 stop) fun r s4 ⟨hr, I4⟩ => ?_)
    subst hr
    exact wpAny_execs_nil ⟨σ3, H3, I4, qn⟩
  · refine wpAny_passesOwn hp (thn (T.item X rfl rfl rfl hc i pins s3 σ3 H3 X.xe I3 (stat fr3) st3 go) fun r s4 ⟨u, hr, h4⟩ => ?_)
    subst hr
    refine wpAny_passesOwn hp (thn h4 fun _ s5 ⟨x, H5, I5, r5, y5, st5, fr5⟩ => ?_)
    have I5' := I5.pinned (stat fr5) (T.obj _ _ st5)
    refine wpAny_passesOwn hp (thn (hg _ s5 σ3 H5 x u _ I5' r5 (step x H5 y5)) fun _ s6 ⟨σ6, H6, I6, q6⟩ => ?_)
    refine wpAny_passesOwn hp (thn (hb _ s6 σ6 H6 _ I6 q6) fun f s7 q7 => ?_)
    have again : ∀ {σ7 : St} {H7 : Hp}, Inv X (pins ++ pinsAt fp s5.heap) σ7 H7 s7 → N σ7 H7 → ∃ m, m < n ∧ ∃ i σ' H', Inv X pins σ' H' s7 ∧ tn i s7.heap ∧ (∀ b ∈ fp, H' b = none) ∧ W i m σ' H' := fun {σ7 H7} I7 n7 => by
      obtain ⟨m', hm, w7⟩ := hN σ7 H7 n7
      refine ⟨m', hm, i + 1, σ7, H7, I7.unpinned, T.keep _ _ _ st5 fun b hb o e => (I7.pin (b, o) (List.mem_append_right _ (List.mem_append_right _ (mem_pinsAt hb e)))).1, fun b hb => ?_, w7⟩
      obtain ⟨o, e, d⟩ := T.obj _ _ st5 b hb
      exact (I7.pin (b, o) (List.mem_append_right _ (List.mem_append_right _ (mem_pinsAt hb e)))).2.1
    cases f with
    | next => obtain ⟨σ7, H7, I7, n7⟩ := q7; exact again I7 n7
    | cont => obtain ⟨σ7, H7, I7, n7⟩ := q7; exact again I7 n7
    | brk => obtain ⟨σ7, H7, I7, q7⟩ := q7; exact ⟨σ7, H7, I7.unpinned, q7⟩
    | ret v => obtain ⟨x7, σ7, H7, I7, r7, q7⟩ := q7; exact ⟨x7, σ7, H7, I7.unpinned, r7, q7⟩
end
theorem for_range {lo : Int} {n : Nat} {g : TG} {tb : TS} {D : Ends} {σ : St} {H : Hp} (Pv : Nat → St → Hp → Prop) (h0 : Pv 0 σ H)
    (hs : ∀ i σ H, i < n → Pv i σ H → g (.int (lo + i)) σ H fun σ2 H2 => tb { D with nx := Pv (i + 1), ct := Pv (i + 1), bk := D.nx } σ2 H2) (hd : ∀ σ H, Pv n σ H → D.nx σ H) :
    ∃ W : Nat → Nat → St → Hp → Prop, (∃ m, W 0 m σ H) ∧ ∀ i m σ H, W i m σ H →
      ((Itr lo n).stop i H ∧ D.nx σ H) ∨ ((Itr lo n).go i H ∧ ∃ N : St → Hp → Prop, (∀ σ' H', N σ' H' → ∃ m', m' < m ∧ W (i + 1) m' σ' H') ∧ ∀ x H', (Itr lo n).yld i H x H' → g x σ H' fun σ2 H2 => tb { D with nx := N, ct := N, bk := D.nx } σ2 H2) := by
  refine ⟨fun i m σ H => m = n - i ∧ i ≤ n ∧ Pv i σ H, ⟨n, by simp, Nat.zero_le _, h0⟩, ?_⟩
  rintro i m σ H ⟨rfl, hi, p⟩
  by_cases hlt : i < n
  · refine .inr ⟨hlt, Pv (i + 1), fun σ' H' p' => ⟨n - (i + 1), by bv_omega, rfl, hlt, p'⟩, fun x H' y => ?_⟩
    obtain ⟨e, y⟩ := y
    subst e y
    exact hs i σ _ hlt p
  · have e : i = n := by bv_omega
    subst e
    exact .inl ⟨Nat.le_refl _, hd σ H p⟩
end L2
namespace L2
open PySem PySem.Spec PyProof.Rows
abbrev R2 := V → V → Hp → VK → Prop
def OpR (X : Cx) (f : Value → Value → Sem Value) (r : R2) : Prop :=
  ∀ (pins : List (Addr × Obj)) (s : Shared) (σ : St) (H : Hp) (x y : V) (v u : Value) (Q : VK), Inv X pins σ H s → RelV x v → RelV y u → r x y H Q →
    wpAny (model X.prog X.w) X.A (f v u) (EP X pins σ Q) X.xe s
def UnR (X : Cx) (f : Value → Sem Value) (r : V → Hp → VK → Prop) : Prop :=
  ∀ (pins : List (Addr × Obj)) (s : Shared) (σ : St) (H : Hp) (x : V) (v : Value) (Q : VK), Inv X pins σ H s → RelV x v → r x H Q →
    wpAny (model X.prog X.w) X.A (f v) (EP X pins σ Q) X.xe s
def CallR (X : Cx) (f : Value) (r : List V → Hp → VK → Prop) : Prop :=
  ∀ (pins : List (Addr × Obj)) (s : Shared) (σ : St) (H : Hp) (xs : List V) (us : List Value) (Q : VK), Inv X pins σ H s → Vals xs us → r xs H Q →
    wpAny (model X.prog X.w) X.A (call f us) (EP X pins σ Q) X.xe s
def tOp (r : R2) (ta tb : TE) : TE := fun σ H Q => ta σ H fun x H1 => tb σ H1 fun y H2 => r x y H2 Q
def tUn (r : V → Hp → VK → Prop) (ta : TE) : TE := fun σ H Q => ta σ H fun x H1 => r x H1 Q
def rI (C : Int → Int → Prop) (g : Int → Int → V) : R2 := fun x y H Q => ∃ i j, x = .int i ∧ y = .int j ∧ C i j ∧ Q (g i j) H
def rI0 (g : Int → Int → V) : R2 := fun x y H Q => ∃ i j, x = .int i ∧ y = .int j ∧ Q (g i j) H
def rU (g : Int → V) : V → Hp → VK → Prop := fun x H Q => ∃ i, x = .int i ∧ Q (g i) H
section
variable {X : Cx} {a b c : Expr} {ta tb tc : TE} {pos : Pos}
theorem binT (ha : PE X a ta) (hb : PE X b tb) {pins : List (Addr × Obj)} {s : Shared} {σ : St} {H : Hp} {R : V → V → Hp → Prop} (I : Inv X pins σ H s)
    (h : ta σ H fun x H1 => tb σ H1 fun y H2 => R x y H2) {Q : Value → Shared → Prop} {f : Value → Value → Sem Value}
    (hf : ∀ v u s2 x y H2, Inv X pins σ H2 s2 → RelV x v → RelV y u → R x y H2 → wpAny (model X.prog X.w) X.A (f v u) Q X.xe s2) :
    wpAny (model X.prog X.w) X.A (eval a X.env) (fun v s₁ => wpAny (model X.prog X.w) X.A (eval b X.env) (fun u s₂ => wpAny (model X.prog X.w) X.A (f v u) Q X.xe s₂) X.xe s₁) X.xe s := by
  refine thn (ha pins s σ H _ I h) fun v s1 ⟨x, H1, I1, r1, q1⟩ => ?_
  refine thn (hb pins s1 σ H1 _ I1 q1) fun u s2 ⟨y, H2, I2, r2, q2⟩ => ?_
  exact hf v u s2 x y H2 I2 r1 r2 q2
theorem pe_op {op : Operator} {r : R2} (ho : OpR X (binaryOp op) r) (ha : PE X a ta) (hb : PE X b tb) : PE X (.BinOp a op b pos) (tOp r ta tb) := by
  intro pins s σ H Q I h
  exact wpAny_BinOp (binT ha hb I h fun v u s2 x y H2 I2 rx ry q => ho pins s2 σ H2 x y v u Q I2 rx ry q)
theorem pe_un {op : UnaryOp} {r : V → Hp → VK → Prop} (ho : UnR X (unaryOp op) r) (ha : PE X a ta) : PE X (.UnaryOp op a pos) (tUn r ta) := by
  intro pins s σ H Q I h
  exact UnaryOp_ (thn (ha pins s σ H _ I h) fun v s1 ⟨x, H1, I1, r1, q1⟩ => ho pins s1 σ H1 x v Q I1 r1 q1)
theorem opI {f : Value → Value → Sem Value} {C : Int → Int → Prop} {g : Int → Int → Int}
    (rule : ∀ (i j : Int) (t u : Tok) (s : Shared) (Q : Value → Shared → Prop) (E : Value → Shared → Prop), C i j → Q (.int (g i j) s.toks) { s with toks := s.toks + 1 } → wpAny (model X.prog X.w) X.A (f (.int i t) (.int j u)) Q E s) :
    OpR X f (rI C fun i j => .int (g i j)) := by
  intro pins s σ H x y v u Q I rx ry h
  obtain ⟨i, j, rfl, rfl, hc, q⟩ := h
  obtain ⟨t, rfl⟩ := rx
  obtain ⟨t', rfl⟩ := ry
  exact rule i j t t' s _ _ hc ⟨.int (g i j), H, I.tok _, ⟨_, rfl⟩, q⟩
theorem opI0 {f : Value → Value → Sem Value} {g : Int → Int → Int}
    (rule : ∀ (i j : Int) (t u : Tok) (s : Shared) (Q : Value → Shared → Prop) (E : Value → Shared → Prop), Q (.int (g i j) s.toks) { s with toks := s.toks + 1 } → wpAny (model X.prog X.w) X.A (f (.int i t) (.int j u)) Q E s) :
    OpR X f (rI0 fun i j => .int (g i j)) := by
  intro pins s σ H x y v u Q I rx ry h
  obtain ⟨i, j, rfl, rfl, q⟩ := h
  obtain ⟨t, rfl⟩ := rx
  obtain ⟨t', rfl⟩ := ry
  exact rule i j t t' s _ _ ⟨.int (g i j), H, I.tok _, ⟨_, rfl⟩, q⟩
theorem opB0 {f : Value → Value → Sem Value} {g : Int → Int → Bool}
    (rule : ∀ (i j : Int) (t u : Tok) (s : Shared) (Q : Value → Shared → Prop) (E : Value → Shared → Prop), Q (.bool (g i j)) s → wpAny (model X.prog X.w) X.A (f (.int i t) (.int j u)) Q E s) :
    OpR X f (rI0 fun i j => .bl (g i j)) := by
  intro pins s σ H x y v u Q I rx ry h
  obtain ⟨i, j, rfl, rfl, q⟩ := h
  obtain ⟨t, rfl⟩ := rx
  obtain ⟨t', rfl⟩ := ry
  exact rule i j t t' s _ _ ⟨.bl (g i j), H, I, rfl, q⟩
def CPow (i j : Int) : Prop := 0 ≤ j ∧ j ≤ 1000000 ∧ i.natAbs < 2 ^ 64
def CMul (i j : Int) : Prop := (-(2 ^ 64) < i ∧ i < 2 ^ 64) ∨ (-(2 ^ 64) < j ∧ j < 2 ^ 64)
theorem CMul.ok {i j : Int} (h : CMul i j) : IntMulOk i j := by
  rcases h with ⟨h1, h2⟩ | ⟨h1, h2⟩
  · exact .of_left (intBits_le_64 h1 h2)
  · exact .of_right (intBits_le_64 h1 h2)
theorem vE : OpR X (binaryOp .Add) (rI0 fun i j => .int (i + j)) := opI0 fun _ _ _ _ _ _ _ q => add_int q
theorem op_sub : OpR X (binaryOp .Sub) (rI0 fun i j => .int (i - j)) := opI0 fun _ _ _ _ _ _ _ q => sub_int q
theorem op_mod : OpR X (binaryOp .Mod) (rI (fun _ j => 0 < j) fun i j => .int (i % j)) := opI fun i j _ _ _ _ _ hc q => by
  have h1 : (0 : Int) < j := hc
  exact mod_int' (by bv_omega) (by rw [Int.fmod_eq_emod_of_nonneg i (by bv_omega)]; exact q)
theorem op_pow : OpR X (binaryOp .Pow) (rI CPow fun i j => .int (i ^ j.toNat)) := opI fun _ _ _ _ _ _ _ hc q => pow_int_small hc.1 hc.2.1 hc.2.2 q
theorem unI {f : Value → Sem Value} {g : Int → Int}
    (rule : ∀ (i : Int) (t : Tok) (s : Shared) (Q : Value → Shared → Prop) (E : Value → Shared → Prop), Q (.int (g i) s.toks) { s with toks := s.toks + 1 } → wpAny (model X.prog X.w) X.A (f (.int i t)) Q E s) :
    UnR X f (rU fun i => .int (g i)) := by
  intro pins s σ H x v Q I rx h
  obtain ⟨i, rfl, q⟩ := h
  obtain ⟨t, rfl⟩ := rx
  exact rule i t s _ _ ⟨.int (g i), H, I.tok _, ⟨_, rfl⟩, q⟩
theorem un_neg : UnR X (unaryOp .USub) (rU fun i => .int (-i)) := unI fun _ _ _ _ _ q => neg_int q
end
section
variable {X : Cx} {a b c : Expr} {ta tb tc : TE} {pos : Pos}
theorem fin_bl {pins : List (Addr × Obj)} {σ : St} {H : Hp} {s : Shared} {Q : VK} {k k' : Bool} (I : Inv X pins σ H s) (q : Q (.bl k) H) (e : k = k') : EP X pins σ Q (.bool k') s := by
  subst e
  exact ⟨.bl k, H, I, rfl, q⟩
theorem op_lt : OpR X (compareOp .Lt) (rI0 fun i j => .bl (decide (i < j))) := opB0 fun _ _ _ _ _ _ _ q => lt_int q
theorem op_le : OpR X (compareOp .LtE) (rI0 fun i j => .bl (decide (i ≤ j))) := opB0 fun _ _ _ _ _ _ _ q => le_int q
theorem op_gt : OpR X (compareOp .Gt) (rI0 fun i j => .bl (decide (j < i))) := opB0 fun _ _ _ _ _ _ _ q => gt_int q
theorem op_isN : OpR X (compareOp .Is) (fun x y H Q => y = .non ∧ Q (.bl (decide (x = .non))) H) := by
  intro pins s σ H x y v u Q I rx ry h
  obtain ⟨rfl, q⟩ := h
  cases ry
  refine is_none_gen (fin_bl I q ?_)
  cases x <;> first
    | (cases rx; rfl)
    | (obtain ⟨t, rfl⟩ := rx; rfl)
theorem op_notN : OpR X (compareOp .IsNot) (fun x y H Q => y = .non ∧ Q (.bl (!decide (x = .non))) H) := by
  intro pins s σ H x y v u Q I rx ry h
  obtain ⟨rfl, q⟩ := h
  cases ry
  refine isnot_none_gen (fin_bl I q ?_)
  cases x <;> first
    | (cases rx; rfl)
    | (obtain ⟨t, rfl⟩ := rx; rfl)
def isObj : HO → Bool
  | .lst _ => true
  | .ins _ _ _ => true
  | _ => false
theorem obj_there {pins : List (Addr × Obj)} {s : Shared} {σ : St} {H : Hp} {a : Addr} {o : HO} (I : Inv X pins σ H s) (h : H a = some o) (p : isObj o = true) : ∃ ob, s.heap.get? a = some ob ∧ ob.cls ≠ .type "tuple" := by
  cases o with
  | lst xs =>
    obtain ⟨_, its, n, _, e⟩ : xs.length ≤ sizeLine ∧ ∃ (its : List Value) (n : Nat), Vals xs its ∧ s.heap.get? a = some { cls := .type "list", data := .seq its.toArray n } := I.hok a _ h
    exact ⟨_, e, (by show Value.type "list" ≠ .type "tuple"; decide +kernel)⟩
  | ins C dx fs =>
    have x := I.hok a _ h
    obtain ⟨_, _, _, e, _⟩ := x
    exact ⟨_, e, (by show Value.ref C ≠ .type "tuple"; exact fun z => by cases z)⟩
  | _ => exact absurd (show false = true from p) Bool.false_ne_true
theorem nomark (b : Expr) {op : CmpOp} (h : autoParam (op ≠ .In) vY._auto_1) (h2 : autoParam (op ≠ .NotIn) vY._auto_1) : behindInMarks op b = false := by
  have e1 : (op == CmpOp.In) = false := by cases op <;> first | rfl | exact absurd rfl h
  have e2 : (op == CmpOp.NotIn) = false := by cases op <;> first | rfl | exact absurd rfl h2
  cases b <;> simp [behindInMarks, e1, e2]
theorem pe_cmpR {op : CmpOp} {r : R2} (ho : OpR X (compareOp op) r) (ha : PE X a ta) (hb : PE X b tb) (hm : behindInMarks op b = false) : PE X (.Compare a [op] [b] pos) (tOp r ta tb) := by
  intro pins s σ H Q I h
  exact wpAny_Compare1 (binT ha hb I h fun v u s2 x y H2 I2 rx ry q => ho pins s2 σ H2 x y v u Q I2 rx ry q) hm
def tTest (t : TE) : TT := fun σ H Q => t σ H fun x H' => ∃ k, x = .bl k ∧ Q k H'
theorem pt_cmpR {op : CmpOp} {r : R2} (ho : OpR X (compareOp op) r) (ha : PE X a ta) (hb : PE X b tb) (hm : behindInMarks op b = false) : PT X (.Compare a [op] [b] pos) (tTest (tOp r ta tb)) := by
  intro pins s σ H Q I h
  refine wpAny_isTrue_Compare1 (thn (ha pins s σ H _ I h) fun v s1 ⟨x, H1, I1, r1, q1⟩ => thn (hb pins s1 σ H1 _ I1 q1) fun u s2 ⟨y, H2, I2, r2, q2⟩ =>
    thn (ho pins s2 σ H2 x y v u _ I2 r1 r2 q2) fun c s3 ⟨z, H3, I3, r3, k, e, q3⟩ => ?_) hm
  subst e
  cases r3
  exact wpAny_truthy_bool ⟨H3, I3, q3⟩
def tChain (r r' : R2) (ta tb tc : TE) : TE := fun σ H Q => ta σ H fun x H1 => tb σ H1 fun y H2 => r x y H2 fun z H3 => ∃ k, z = .bl k ∧
  (if k = true then tc σ H3 fun w' H4 => r' y w' H4 Q else Q (.bl false) H3)
theorem pt_chain {op op' : CmpOp} {r r' : R2} (ho : OpR X (compareOp op) r) (ho' : OpR X (compareOp op') r') (ha : PE X a ta) (hb : PE X b tb) (hc : PE X c tc)
    (hm : autoParam (lastMarks [op, op'] [b, c] = false) autoK7._auto_1) : PT X (.Compare a [op, op'] [b, c] pos) (tTest (tChain r r' ta tb tc)) := by
  intro pins s σ H Q I h
  refine isTrue_chain (thn (ha pins s σ H _ I h) fun v s1 ⟨x, H1, I1, r1, q1⟩ => test_link (thn (hb pins s1 σ H1 _ I1 q1) fun u s2 ⟨y, H2, I2, r2, q2⟩ =>
    thn (ho pins s2 σ H2 x y v u _ I2 r1 r2 q2) fun d s3 ⟨z, H3, I3, r3, k, e, q3⟩ => ?_)) hm
  subst e
  cases r3
  refine wpAny_truthy_bool ?_
  cases k with
  | false =>
    obtain ⟨k', e', q'⟩ := q3
    cases e'
    exact ite_ff ⟨H3, I3, q'⟩
  | true =>
    refine ite_tt (test_last (thn (hc pins s3 σ H3 _ I3 q3) fun w' s4 ⟨z', H4, I4, r4, q4⟩ => thn (ho' pins s4 σ H4 y z' u w' _ I4 r2 r4 q4) fun d' s5 ⟨z2, H5, I5, r5, k2, e2, q5⟩ => ?_))
    subst e2
    cases r5
    exact wpAny_truthy_bool ⟨H5, I5, q5⟩
theorem line63 : (sizeLine : Nat) < 2 ^ 63 := by rw [sizeLine_eq]; decide
theorem vals1 {x : V} {us : List Value} (r : Vals [x] us) : ∃ u, us = [u] ∧ RelV x u := by
  cases r with
  | cons r1 r2 => cases r2; exact ⟨_, rfl, r1⟩
theorem vals2 {x y : V} {us : List Value} (r : Vals [x, y] us) : ∃ u w', us = [u, w'] ∧ RelV x u ∧ RelV y w' := by
  cases r with
  | cons r1 r2 =>
    cases r2 with
    | cons r3 r4 => cases r4; exact ⟨_, _, rfl, r1, r3⟩
end
end L2
namespace L2
open PySem PySem.Spec PyProof.Rows
structure ObjM (h : Heap) (x dx C : Addr) (mA : Str → Option Value) : Prop where
  obj : h.get? x = some (PySem.W.instObj C dx)
  ns : h.Ns1 dx mA
  ne : dx ≠ x
theorem lookIn_ns {h : Heap} {dx : Addr} {mA : Str → Option Value} (n : h.Ns1 dx mA) : ∃ od, h.get? dx = some od ∧ ∀ name, PySem.W.lookIn name od = some (mA name) := by
  obtain ⟨o, es, ep, ho, hd, hk, _, hm⟩ := n
  refine ⟨o, ho, fun name => ?_⟩
  have e := hm name
  unfold nsFind findBy at e
  rw [← Array.find?_toList] at e
  unfold PySem.W.lookIn
  rw [hd]
  dsimp only
  split
  · rename_i y q
    rw [q] at e
    exact congrArg some e
  · rename_i q
    rw [q] at e
    have a : es.toList.any (·.refKey) = false := by
      rw [List.any_eq_false]
      intro y hy
      obtain ⟨z, t, hkey⟩ := hk y (Array.mem_toList_iff.mp hy)
      simp [DictEntry.refKey, hkey]
    have a' : ¬ es.toList.any (·.refKey) = true := by rw [a]; exact Bool.false_ne_true
    rw [if_neg a']
    exact congrArg some e
theorem ObjM.look {h : Heap} {x dx C : Addr} {mA : Str → Option Value} (I : ObjM h x dx C mA) : ∃ od, PySem.W.InstAt h x (PySem.W.instObj C dx) C (some od) ∧ ∀ name, PySem.W.lookIn name od = some (mA name) :=
  let ⟨od, ho, hl⟩ := lookIn_ns I.ns
  ⟨od, ⟨I.obj, rfl, rfl, ho⟩, hl⟩
section
variable {prog : Program} {w : World} {A : Around} {E : Value → Shared → Prop} {s : Shared} {K : PySem.W.Frag} {x dx C f : Addr} {mA : Str → Option Value} {name : Str} {v : Value}
end
section
variable {P : Program} {w : World} {H H' : Hp} {h h' : Heap} {a C dx : Addr} {fs fs' : List (Str × V)}
theorem ins_get (hok : HOk P w H h) (e : H a = some (.ins C dx fs)) : ∃ mA, ObjM h a dx C mA ∧ (∀ f, RelO (fs.lookup f) (mA f)) ∧ PySem.Within mA (fs.map (·.1)) ∧ fs.length ≤ 1000 ∧ H dx = some (.own a) := by
  obtain ⟨d, z, ne, ob, mA, n, r, q⟩ := (show ObjOk P w H h a (.ins C dx fs) from hok a _ e)
  exact ⟨mA, ⟨ob, n, ne⟩, r, q, z, d⟩
end
structure Cls (K : PySem.W.Frag) (C : Addr) : Prop where
  pg : PySem.W.plainGet K C Str.empty = true
  hd : PySem.W.hasDictIn K C = true
  po : PySem.W.plainOver K C = true
  sa : PySem.W.findIn K (.ref C) "__setattr__" = some (some (.builtin "object.__setattr__"))
theorem Cls.get {K : PySem.W.Frag} {C : Addr} (c : Cls K C) (f : Str) : PySem.W.plainGet K C f = true := c.pg
structure Con (K : PySem.W.Frag) (C : Addr) (f : Str) (v : V) (u : Value) : Prop where
  at_ : PySem.W.findIn K (.ref C) f = some (some u)
  rel : RelV v u
  get : PySem.W.specialIn K u "__get__" = some none
  cp : PySem.W.copiedNames.contains f = false
structure Meth (K : PySem.W.Frag) (C : Addr) (m : Str) (f : Addr) : Prop where
  at_ : PySem.W.findIn K (.ref C) m = some (some (.ref f))
  fn : PySem.W.isFn K (.ref f) = true
  kp : PySem.W.keepIn K (.ref f) = true
section
variable {X : Cx} {pins : List (Addr × Obj)} {σ : St} {H : Hp} {s : Shared} {a C dx : Addr} {fs : List (Str × V)} {f : Str} {v : V} {A : Around} {E : Value → Shared → Prop}
end
section
variable {X : Cx} {o e value : Expr} {f : Str} {pos pos' tpos : Pos} {ta tv : TE}
def rAdd : V → V → Hp → VK → Prop := fun x y H Q => ∃ i j, x = .int i ∧ y = .int j ∧ Q (.int (i + j)) H
def rSub : V → V → Hp → VK → Prop := fun x y H Q => ∃ i j, x = .int i ∧ y = .int j ∧ Q (.int (i - j)) H
end
section
variable {X : Cx} {pins : List (Addr × Obj)} {σ : St} {H : Hp} {s : Shared} {A : Around} {E : Value → Shared → Prop} {Q : Value → Shared → Prop} {c : Value} {b : Bool}
inductive TyOf (K : PySem.W.Frag) (H : Hp) : V → Value → Prop where
  | non : TyOf K H .non (.type "NoneType")
  | bl (x : Bool) : TyOf K H (.bl x) (.type "bool")
  | int (i : Int) : TyOf K H (.int i) (.type "int")
  | str (x : Str) : TyOf K H (.str x) (.type "str")
  | flt (x : UInt64) : TyOf K H (.flt x) (.type "float")
  | lst {a : Addr} {xs : List V} (e : H a = some (.lst xs)) : TyOf K H (.ref a) (.type "list")
  | frz {a : Addr} {o : Obj} {xs : List V} (e : H a = some (.frz o (.lst xs))) : TyOf K H (.ref a) (.type "list")
  | tup {a : Addr} {xs : List V} (e : H a = some (.tup xs)) : TyOf K H (.ref a) (.type "tuple")
  | dK {a : Addr} {kvs : List (Key × V)} (e : H a = some (.dK kvs)) : TyOf K H (.ref a) (.type "dict")
  | dT {a : Addr} {kvs : List (List Key × V)} (e : H a = some (.dT kvs)) : TyOf K H (.ref a) (.type "dict")
  | ins {a C dx : Addr} {fs : List (Str × V)} (e : H a = some (.ins C dx fs)) (cl : Cls K C) (ha : PySem.W.findIn K (.ref C) "__class__" = some (some (.builtin "object.__class__")))
      (hn : PySem.W.specialIn K (.builtin "object.__class__") "__get__" = some (some (.builtin "getset_descriptor.__get__"))) (htk : PySem.W.takesIn K (.builtin "object.__class__") = some true)
      (hm : PySem.W.mroIn K C (.type "object") = some true) : TyOf K H (.ref a) (.ref C)
theorem isinst_ok {x : V} {u t : Value} (I : Inv X pins σ H s) (rx : RelV x u) (ty : TyOf X.K H x t) (e : PySem.W.kitOne X.K t c = some b) (h : ∀ tk, Q (.bool b) { s with toks := tk }) :
    wpAny (model X.prog X.w) A (call (.builtin "isinstance") [u, c]) Q E s := by
  cases ty with
  | non => cases (show u = Value.none from rx); exact PySem.W.kia_one PySem.W.kitx_none I.kIn True.intro e (fun z => nomatch z) h
  | bl y => cases (show u = Value.bool y from rx); exact PySem.W.kia_one PySem.W.kitx_bool I.kIn True.intro e (fun z => nomatch z) h
  | int i => obtain ⟨t, q⟩ := (show ∃ t, u = Value.int i t from rx); cases q; exact PySem.W.kia_one PySem.W.kitx_int I.kIn True.intro e (fun z => nomatch z) h
  | str y => obtain ⟨t, q⟩ := (show ∃ t, u = Value.str y t from rx); cases q; exact PySem.W.kia_one PySem.W.kitx_str I.kIn True.intro e (fun z => nomatch z) h
  | flt y => obtain ⟨t, q⟩ := (show ∃ t, u = Value.float y t from rx); cases q; exact PySem.W.kia_one PySem.W.kitx_float I.kIn True.intro e (fun z => nomatch z) h
  | @lst a xs ea =>
    cases (show u = Value.ref a from rx)
    obtain ⟨_, _, n, _, h1⟩ := (show ObjOk X.prog X.w H s.heap a (.lst xs) from I.hok a _ ea)
    exact PySem.W.kia_one PySem.W.kitx_list I.kIn ⟨_, h1, rfl⟩ e (fun z => nomatch z) h
  | @frz a ob xs ea =>
    cases (show u = Value.ref a from rx)
    obtain ⟨_, _, _, n, _, h1⟩ := (show ObjOk X.prog X.w H s.heap a (.frz ob (.lst xs)) from I.hok a _ ea)
    exact PySem.W.kia_one PySem.W.kitx_list I.kIn ⟨_, h1, rfl⟩ e (fun z => nomatch z) h
  | @tup a xs ea =>
    cases (show u = Value.ref a from rx)
    obtain ⟨_, _, _, p⟩ := (show ObjOk X.prog X.w H s.heap a (.tup xs) from I.hok a _ ea)
    obtain ⟨o, h1, h2, _⟩ := p
    exact PySem.W.kia_one PySem.W.kitx_tuple I.kIn ⟨o, h1, h2⟩ e (fun z => nomatch z) h
  | @dK a kvs ea =>
    cases (show u = Value.ref a from rx)
    obtain ⟨_, _, vs, _, p⟩ := (show ObjOk X.prog X.w H s.heap a (.dK kvs) from I.hok a _ ea)
    obtain ⟨o, es, ep, h1, h2, _⟩ := p
    exact PySem.W.kia_one PySem.W.kitx_dict I.kIn ⟨o, h1, h2.1⟩ e (fun z => nomatch z) h
  | @dT a kvs ea =>
    cases (show u = Value.ref a from rx)
    obtain ⟨_, _, xs, _, o, es, ep, h1, h2, _⟩ := (show ObjOk X.prog X.w H s.heap a (.dT kvs) from I.hok a _ ea)
    exact PySem.W.kia_one PySem.W.kitx_dict I.kIn ⟨o, h1, h2.1⟩ e (fun z => nomatch z) h
  | @ins a C dx fs ea cl ha hn htk hm =>
    cases (show u = Value.ref a from rx)
    obtain ⟨mA, O, _⟩ := ins_get I.hok ea
    obtain ⟨od, J, _⟩ := O.look
    exact PySem.W.kia_one (PySem.W.kitx_own (cl.get _) cl.hd ha hn htk hm) I.kIn J e (fun z => nomatch z) h
end
end L2
namespace L2
open PySem PySem.Spec PyProof.Rows
structure Room (k : Nat) (A : Around) : Prop where
  hd : A.handled = none
  dp : A.depth + 3 * k + 5 < recursionLimit
  un : A.units + 16 * k + 200 < cLine
theorem Room.mono {j k : Nat} {A : Around} (r : Room k A) (h : j ≤ k) : Room j A := ⟨r.hd, by have := r.dp; bv_omega, by have := r.un; bv_omega⟩
theorem Room.deeper {k : Nat} {A : Around} (r : Room (k + 1) A) (env : Env) : Room k (A.deeper env) :=
  ⟨r.hd, by have := r.dp; show A.depth + 1 + 3 * k + 5 < _; bv_omega, by have := r.un; show A.units + 3 + 16 * k + 200 < _; bv_omega⟩
theorem Room.depth {k : Nat} {A : Around} (r : Room k A) : A.depth < recursionLimit := by have := r.dp; bv_omega
theorem Room.units {k : Nat} {A : Around} (r : Room k A) : A.units + 64 < cLine := by have := r.un; bv_omega
def tNil : TA := fun _ H Q => Q [] H
def vZ (ta : TE) (tr : TA) : TA := fun σ H Q => ta σ H fun x H1 => tr σ H1 fun xs H2 => Q (x :: xs) H2
section
variable {X : Cx} {e : Expr} {es : List Expr} {te : TE} {t : TA} {pos : Pos}
theorem pa_nil : PA X [] tNil := fun _ _ _ _ H Q I h => Calls.spliced_nil ⟨[], H, I, .nil, h⟩
theorem yB (ha : PE X e te) (hr : PA X es t) (hs : autoParam (starEach (e :: es) X.env = (false, eval e X.env) :: starEach es X.env) zX._auto_1) : PA X (e :: es) (vZ te t) := by
  intro pos pins s σ H Q I h
  rw [hs]
  show wpAny _ _ (spliced ((false, eval e X.env) :: backTo pos (starEach es X.env))) _ _ s
  refine Calls.spliced_cons (thn (ha pins s σ H _ I h) fun u s1 ⟨x, H1, I1, r1, q1⟩ => ?_)
  exact thn (hr pos pins s1 σ H1 _ I1 q1) fun us s2 ⟨xs, H2, I2, r2, q2⟩ => ⟨x :: xs, H2, I2, .cons r1 r2, q2⟩
def tTup (t : TA) : TE := fun σ H Q => t σ H fun xs H1 => xs.length ≤ sizeLine ∧ ∀ p, H1 p = none → Q (.ref p) (upd H1 p (.tup xs))
def tLst (t : TA) : TE := fun σ H Q => t σ H fun xs H1 => xs.length ≤ sizeLine ∧ ∀ p, H1 p = none → Q (.ref p) (upd H1 p (.lst xs))
theorem pe_tup {x1} (h : PA X es t) : PE X (.Tuple es x1 pos) (tTup t) := by
  intro pins s σ H Q I hq
  refine wpAny_Tuple_spliced (thn (h pos pins s σ H _ I hq) fun us s1 ⟨xs, H1, I1, r, z, q⟩ => ⟨by rw [← r.length]; exact z, ?_⟩)
  have hf : H1 s1.heap.objs.size = none := I1.hok.fresh (Nat.le_refl _)
  refine ⟨.ref s1.heap.objs.size, upd H1 s1.heap.objs.size (.tup xs), I1.laid (t' := s1.toks) (fun b u e => Heap.get?_push_of_some _ e) (Nat.le_refl _) ?_, rfl, q _ hf⟩
  exact ⟨z, us, r, TupAt.new _ _⟩
theorem pe_lst (h : PA X es t) : PE X (.List es pos) (tLst t) := by
  intro pins s σ H Q I hq
  refine wpAny_List_spliced (thn (h pos pins s σ H _ I hq) fun us s1 ⟨xs, H1, I1, r, z, q⟩ => ⟨by rw [← r.length]; exact z, ?_⟩)
  have hf : H1 s1.heap.objs.size = none := I1.hok.fresh (Nat.le_refl _)
  refine ⟨.ref s1.heap.objs.size, upd H1 s1.heap.objs.size (.lst xs), I1.laid (t' := s1.toks) (fun b u e => Heap.get?_push_of_some _ e) (Nat.le_refl _) ?_, rfl, q _ hf⟩
  exact ⟨z, us, 0, r, Heap.get?_push_size _ rfl⟩
end
abbrev Sp := List V → Hp → VK → XK → Prop
abbrev CXT := List Env → Hp → Shared → XK → Value → Shared → Prop
structure Env0 (P : Program) (w : World) (K : PySem.W.Frag) (mg : Str → Option Value) (base : Heap) (A : Around) (outer : List Env) (s : Shared) (H : Hp) : Prop where
  frames : A.frames = some outer
  mod : Mod K mg base
  bs : ∀ b o, base.get? b = some o → s.heap.get? b = some o ∧ H b = none
  bsz : base.objs.size ≤ s.heap.objs.size
  funs : s.heap.FunFrames base outer
  frf : ∀ b ∈ frs outer, H b = none
  hok : HOk P w H s.heap
  bare : AllBare s.gens
def CE (outer : List Env) (P : Program) (w : World) (H : Hp) (s : Shared) (Q : VK) (u : Value) (s' : Shared) : Prop :=
  ∃ v H', s'.os = s.os ∧ AllBare s'.gens ∧ Un (frs outer) [] H H' s.heap s'.heap ∧ HOk P w H' s'.heap ∧ RelV v u ∧ Q v H'
def CR (CX : CXT) (outer : List Env) (P : Program) (w : World) (H : Hp) (s : Shared) (Q : VK) (E : XK) (r : Result) (s' : Shared) : Prop :=
  match r with
  | .ok (.ret u) => CE outer P w H s Q u s'
  | .ok _ => False
  | .error e => CX outer H s E e s'
structure FnOk (P : Program) (w : World) (K : PySem.W.Frag) (mg : Str → Option Value) (base : Heap) (CX : CXT) (k : Nat) (f : Addr) (fd : FuncData) (ps : List Str) (sp : Sp) : Prop where
  len : ∀ vs H Q E, sp vs H Q E → vs.length = ps.length
  run : ∀ (A : Around) (outer : List Env) (s : Shared) (H : Hp) (args : Args) (us : List Value) (vs : List V) (Q : VK) (E : XK), Room k A → Env0 P w K mg base A outer s H → BindsTo s fd args (ps.zip us) → Vals vs us → sp vs H Q E →
    codeAny (model P w) A (.call (.ref f) args) (CR CX outer P w H s Q E) s
theorem FnOk.imp {P : Program} {w : World} {K : PySem.W.Frag} {mg : Str → Option Value} {base : Heap} {CX : CXT} {k : Nat} {f : Addr} {fd : FuncData} {ps : List Str} {sp sp' : Sp} (F : FnOk P w K mg base CX k f fd ps sp)
    (h : ∀ vs H Q E, sp' vs H Q E → sp vs H Q E) : FnOk P w K mg base CX k f fd ps sp' :=
  ⟨fun vs H Q E q => F.len vs H Q E (h _ _ _ _ q), fun A outer s H args us vs Q E hr he hb hv hs => F.run A outer s H args us vs Q E hr he hb hv (h _ _ _ _ hs)⟩
section
variable {X : Cx} {pins : List (Addr × Obj)} {σ : St} {H : Hp} {s s' : Shared}
theorem Inv.env0 (I : Inv X pins σ H s) : Env0 X.prog X.w X.K X.mg X.base X.A X.stack s H :=
  ⟨I.ok.frames, I.ok.mod, I.bs, Nat.le_trans I.ok.bsz I.sz, I.stack, I.stkFree, I.hok, I.bare⟩
theorem Inv.after {Q : VK} {u : Value} (I : Inv X pins σ H s) (h : CE X.stack X.prog X.w H s Q u s') : EP X pins σ Q u s' := by
  obtain ⟨v, H', os, bare, un, hok, r, q⟩ := h
  obtain ⟨hh, g, d, t, os'⟩ := s'
  obtain rfl : os' = s.os := os
  exact ⟨v, H', I.call (h' := hh) (g' := g) (d' := d) (t' := t) (ch := []) un hok bare (fun b z => absurd z (by simp)), r, q⟩
end
def tCall (sp : Sp) (dvs : List V) (E : XK) (t : TA) : TE := fun σ H Q => t σ H fun vs H1 => sp (vs ++ dvs) H1 Q E
def Binds (K : PySem.W.Frag) (fd : FuncData) (ps : List Str) (ds : List Value) : Prop :=
  ∀ (s : Shared) (us : List Value), K.In s.heap → (us ++ ds).length = ps.length → BindsTo s fd ⟨us, []⟩ (ps.zip (us ++ ds))
theorem Binds.all {K : PySem.W.Frag} {fd : FuncData} {ps : List Str} (h : ∀ us : List Value, us.length = ps.length → bindArgs fd ⟨us, []⟩ = pure (ps.zip us)) : Binds K fd ps [] := fun s us _ hl => by
  rw [List.append_nil] at hl ⊢
  exact .of_eq (h us hl)
def Passes (CX : CXT) (X : Cx) (E : XK) : Prop := ∀ (pins : List (Addr × Obj)) (σ : St) (H : Hp) (s : Shared) (e : Value) (s' : Shared), Inv X pins σ H s → CX X.stack H s E e s' → X.xe e s'
section
variable {X : Cx} {CX : CXT} {k : Nat} {f C : Addr} {fd : FuncData} {ps : List Str} {sp : Sp} {dvs : List V} {ds : List Value} {E : XK} {x m : Str} {p pos apos : Pos} {e o : Expr} {es : List Expr} {ta : TE} {t : TA}
theorem run_fn {pins : List (Addr × Obj)} {σ : St} {H : Hp} {s : Shared} {Q : VK} {us : List Value} {vs : List V} (F : FnOk X.prog X.w X.K X.mg X.base CX k f fd ps sp) (hr : Room k X.A) (hb : Binds X.K fd ps ds) (hd : Vals dvs ds) (hx : Passes CX X E)
    (I : Inv X pins σ H s) (r : Vals vs us) (h : sp (vs ++ dvs) H Q E) : wpAny (model X.prog X.w) X.A (call (.ref f) us) (EP X pins σ Q) X.xe s := by
  have r2 : Vals (vs ++ dvs) (us ++ ds) := r.append hd
  have hl : (us ++ ds).length = ps.length := by rw [← r2.length]; exact F.len _ _ _ _ h
  refine wpAny_call (codeAny_mono (F.run X.A X.stack s H ⟨us, []⟩ (us ++ ds) (vs ++ dvs) Q E hr I.env0 (hb s us I.kIn hl) r2 h) fun r s' hq => ?_)
  cases r with
  | error e => exact hx pins σ H s e s' I hq
  | ok fl =>
    cases fl with
    | ret u => exact I.after hq
    | next => exact False.elim hq
    | brk => exact False.elim hq
    | cont => exact False.elim hq
theorem pe_call (F : FnOk X.prog X.w X.K X.mg X.base CX k f fd ps sp) (hr : Room k X.A) (hg : Gl X x) (hm : X.mg x = some (.ref f)) (hk : PySem.W.keepIn X.K (.ref f) = true) (hb : Binds X.K fd ps ds) (hd : Vals dvs ds) (hx : Passes CX X E)
    (ha : PA X (e :: es) t) (hdb : autoParam ((x == ("__debug__" : Str)) = false) vY._auto_1) (he : autoParam (starEach (e :: es) X.env = (false, eval e X.env) :: starEach es X.env) zX._auto_1) (hpl : autoParam ((backTo pos (starEach es X.env)).any (·.1) = false) zX._auto_1) :
    PE X (.Call (.Name x p) (e :: es) [] pos) (tCall sp dvs E t) := by
  intro pins s σ H Q I h
  refine wpAny_Call_Name_kw (ld_glob I hg hm ?_ hdb)
  refine PySem.W.callWith_K (h₀ := X.base) I.ok.mod.kin hk (thn (ha pos pins s σ H _ I h) fun us s1 ⟨vs, H1, I1, r, q⟩ => ⟨I1.kIn, ?_⟩) he hpl
  exact run_fn F hr hb hd hx I1 r q
structure Mk (K : PySem.W.Frag) (C f : Addr) : Prop where
  makes : PySem.W.makesIn K C = true
  init : PySem.W.findIn K (.ref C) "__init__" = some (some (.ref f))
  fn : PySem.W.isFn K (.ref f) = true
  kp : PySem.W.keepIn K (.ref C) = true
end
section
variable {X : Cx} {CX : CXT} {k : Nat} {f C : Addr} {fd : FuncData} {ps ks : List Str} {sp : Sp} {E : XK} {x m : Str} {p pos apos kpos : Pos} {e o : Expr} {es : List Expr} {kws : List Keyword} {te ta : TE} {t tk : TA} {nm : Option Str}
structure KBinds (K : PySem.W.Frag) (fd : FuncData) (ps ks : List Str) (g : List Value → List Value → List Value) (gV : List V → List V → List V) : Prop where
  to : ∀ (s : Shared) (us ws : List Value), K.In s.heap → (g us ws).length = ps.length → BindsTo s fd ⟨us, ks.zip ws⟩ (ps.zip (g us ws))
  rel : ∀ {vs : List V} {us : List Value} {zs : List V} {ws : List Value}, Vals vs us → Vals zs ws → Vals (gV vs zs) (g us ws)
variable {g : List Value → List Value → List Value} {gV : List V → List V → List V}
end
structure vW (N P : List Str) (sc : Scope) : Prop where
  kind : sc.kind = .function
  co : sc.isCoroutine = false
  gen : sc.isGenerator = false
  nd : N.Nodup
  pre : N.take P.length = P
  par : ∀ x ∈ P, sc.names.lookup x = some .local ∨ sc.names.lookup x = some .cell
  nofree : ∀ y ∈ sc.names, y.2 ≠ .free
theorem bindL_out {kindOf : Str → Option NameKind} {x : Str} : ∀ {binds : List (Str × Value)} {m : Str → Option Value}, (∀ v, (x, v) ∉ binds) → bindL kindOf binds m x = m x
  | [], _, _ => rfl
  | (n, v) :: r, m, h => by
    unfold bindL
    rw [bindL_out fun w hw => h w (List.mem_cons_of_mem _ hw)]
    split
    · have : x ≠ n := by rintro rfl; exact h v List.mem_cons_self
      simp [this]
    · rfl
theorem bindC_out {kindOf : Str → Option NameKind} {x : Str} : ∀ {binds : List (Str × Value)} {m : Str → Option Value}, (∀ v, (x, v) ∉ binds) → bindC kindOf binds m x = m x
  | [], _, _ => rfl
  | (n, v) :: r, m, h => by
    unfold bindC
    rw [bindC_out fun w hw => h w (List.mem_cons_of_mem _ hw)]
    split
    · rfl
    · have : x ≠ n := by rintro rfl; exact h v List.mem_cons_self
      simp [this]
theorem bindL_get {kindOf : Str → Option NameKind} {x : Str} {v : Value} : ∀ {P : List Str} {vs : List Value} {i : Nat} {m : Str → Option Value}, P.Nodup → P[i]? = some x → vs[i]? = some v → kindOf x = some .local →
    bindL kindOf (P.zip vs) m x = some v
  | [], _, _, _, _, h, _, _ => by simp at h
  | _ :: _, [], _, _, _, _, h, _ => by simp at h
  | p :: P, w :: vs, 0, m, nd, h1, h2, hk => by
    simp at h1 h2; subst h1; subst h2
    show bindL kindOf ((p, w) :: P.zip vs) m p = _
    unfold bindL
    rw [bindL_out fun v hv => (List.nodup_cons.mp nd).1 (List.of_mem_zip hv).1, if_pos hk]
    simp
  | p :: P, w :: vs, i + 1, m, nd, h1, h2, hk => by
    show bindL kindOf ((p, w) :: P.zip vs) m x = _
    unfold bindL
    exact bindL_get (i := i) (List.nodup_cons.mp nd).2 (by simpa using h1) (by simpa using h2) hk
theorem bindC_get {kindOf : Str → Option NameKind} {x : Str} {v : Value} : ∀ {P : List Str} {vs : List Value} {i : Nat} {m : Str → Option Value}, P.Nodup → P[i]? = some x → vs[i]? = some v → kindOf x ≠ some .local →
    bindC kindOf (P.zip vs) m x = some v
  | [], _, _, _, _, h, _, _ => by simp at h
  | _ :: _, [], _, _, _, _, h, _ => by simp at h
  | p :: P, w :: vs, 0, m, nd, h1, h2, hk => by
    simp at h1 h2; subst h1; subst h2
    show bindC kindOf ((p, w) :: P.zip vs) m p = _
    unfold bindC
    rw [bindC_out fun v hv => (List.nodup_cons.mp nd).1 (List.of_mem_zip hv).1, if_neg hk]
    simp
  | p :: P, w :: vs, i + 1, m, nd, h1, h2, hk => by
    show bindC kindOf ((p, w) :: P.zip vs) m x = _
    unfold bindC
    exact bindC_get (i := i) (List.nodup_cons.mp nd).2 (by simpa using h1) (by simpa using h2) hk
def start (N : List Str) (vs : List V) : St := vs.map some ++ List.replicate (N.length - vs.length) none
def cxOf (CX : CXT) (P : Program) (w : World) (K : PySem.W.Frag) (mg : Str → Option Value) (base : Heap) (N : List Str) (qual : Str) (scope : Scope) (f : Addr) (cd : Value) (A : Around) (outer : List Env) (s : Shared) (H : Hp) (E : XK) : Cx where
  prog := P
  w := w
  K := K
  mg := mg
  base := base
  A := A.deeper (envOfC qual scope s.heap.objs.size f cd)
  N := N
  s₀ := s
  H₀ := H
  env := envOfC qual scope s.heap.objs.size f cd
  outer := outer
  stack := envOfC qual scope s.heap.objs.size f cd :: outer
  ex := []
  calm := true
  fn := fun _ => true
  pn := []
  xe := fun e s' => wpAny (model P w) (A.deeper (envOfC qual scope s.heap.objs.size f cd)) (leaving (envOfC qual scope s.heap.objs.size f cd) e) (fun _ s'' => CX outer H s E e s'') (fun e' s'' => CX outer H s E e' s'') s'
theorem cell_has {sc : Scope} {n : Nat} {x : Str} (h : sc.names.lookup x = some .cell) : ∃ c, (cellsFrom n sc.names []).lookup x = some c := by
  have q := PySem.W.cellsFrom_some sc.names n [] (.inl h)
  exact Option.isSome_iff_exists.mp q
theorem inv_start {CX : CXT} {P : Program} {w : World} {K : PySem.W.Frag} {mg : Str → Option Value} {base : Heap} {N ps : List Str} {qual : Str} {scope : Scope} {f : Addr} {cd : Value} {A : Around} {outer : List Env} {s s1 : Shared} {H : Hp} {E : XK} {us : List Value} {vs : List V}
    (S : vW N ps scope) (hd : A.handled = none) (e0 : Env0 P w K mg base A outer s H) (hl : vs.length = ps.length) (r : Vals vs us)
    (x : InCallC s s.heap.objs.size (bindL (envOfC qual scope s.heap.objs.size f cd).kindOf (ps.zip us) fun _ => none) (cellsFrom (s.heap.objs.size + 1) scope.names []) (bindC (envOfC qual scope s.heap.objs.size f cd).kindOf (ps.zip us) fun _ => none) s1) :
    Inv (cxOf CX P w K mg base N qual scope f cd A outer s H E) [] (start N vs) H s1 := by
  have hpl : ps.length ≤ N.length := by have := congrArg List.length S.pre; rw [List.length_take] at this; bv_omega
  obtain ⟨h1, tk, rfl, hk⟩ := x.done
  have noA : ∀ b : Addr, b ∉ (cxOf CX P w K mg base N qual scope f cd A outer s H E).ex := fun b z => absurd (show b ∈ ([] : List Addr) from z) (by simp)
  refine ⟨⟨e0.mod, S.kind, rfl, rfl, Nat.le_refl _, fun y z c h1 h2 => ?_, fun y hy => ?_, fun y c _ h => ?_, fun _ => hd, Around.frames_deeper e0.frames, .inr ⟨rfl, rfl⟩, fun b z => absurd z (noA b), e0.bs, e0.bsz, fun b _ _ => noA b, fun b z => absurd z (noA b), e0.funs, e0.frf⟩,
    rfl, e0.bare, Un.kept hk, ⟨_, x.toInCall.ns, fun i y v h1 h2 h3 => ?_⟩, fun y c h => ⟨_, x.cell y c h⟩, e0.hok.fresh (Nat.le_refl _), fun y c h => ?_, fun p hp => absurd (show p ∈ ([] : List (Addr × Obj)) from hp) (by simp), e0.hok.kept hk, ?_⟩
  · exact name_of_addr x.apart (PySem.mem_of_lookup h1) (PySem.mem_of_lookup h2)
  · have hy : scope.names.lookup y = some .cell ∨ scope.names.lookup y = some .free := hy
    rcases hy with hy | hy
    · exact cell_has hy
    · exact absurd rfl (S.nofree _ (PySem.mem_of_lookup hy))
  · exact Nat.le_of_lt (x.above y c (PySem.mem_of_lookup h))
  · have hi : i < vs.length := by
      unfold start at h2
      by_cases hi : i < vs.length
      · exact hi
      · rw [List.getElem?_append_right (by simpa using hi)] at h2
        rw [List.getElem?_replicate] at h2
        split at h2 <;> cases h2
    have ha : vs[i]? = some v := by
      unfold start at h2
      rw [List.getElem?_append_left (by simpa using hi), List.getElem?_map] at h2
      cases e : vs[i]? with
      | none => rw [e] at h2; cases h2
      | some a => rw [e] at h2; cases h2; rfl
    obtain ⟨u, hu, rv⟩ := r.get ha
    have hp : ps[i]? = some y := by
      rw [← S.pre, List.getElem?_take_of_lt (by bv_omega)]; exact h1
    have ndP : ps.Nodup := by rw [← S.pre]; exact S.nd.sublist (List.take_sublist _ _)
    refine ⟨u, rv, ?_⟩
    rcases S.par y (List.mem_of_getElem? hp) with k | k
    · exact .inl ⟨k, bindL_get ndP hp hu k⟩
    · obtain ⟨c, e⟩ := cell_has (n := s.heap.objs.size + 1) k
      refine .inr ⟨.inl k, c, e, ?_⟩
      have q := x.cell y c e
      rw [bindC_get ndP hp hu (by show scope.names.lookup y ≠ _; rw [k]; decide)] at q
      exact q
  · exact e0.hok.fresh (Nat.le_of_lt (x.above y c (PySem.mem_of_lookup h)))
  · unfold start
    show _ = N.length
    rw [List.length_append, List.length_map, List.length_replicate]
    bv_omega
theorem fn_of {CX : CXT} {P : Program} {w : World} {K : PySem.W.Frag} {mg : Str → Option Value} {base : Heap} {k : Nat} {f : Addr} {name qual : Str} {params : Arguments} {body : List Stmt} {scope : Scope} {dV kV doc pm cdv ct oc : Value} {an od : Option Addr}
    {osl : Array (Option Value)} {N ps : List Str} {sp : Sp} (lk : K.lookup f = some ⟨oc, od, .func (PySem.W.fnOf name qual params body scope dV kV doc pm an cdv ct), osl⟩) (hcd : PySem.W.codeIn K cdv qual = true) (S : vW N ps scope)
    (len : ∀ vs H Q E, sp vs H Q E → vs.length = ps.length)
    (hbody : ∀ (A : Around) (outer : List Env) (s : Shared) (H : Hp) (vs : List V) (Q : VK) (E : XK), Room k (A.deeper (envOfC qual scope s.heap.objs.size f cdv)) → sp vs H Q E →
      ∃ t, PSs (cxOf CX P w K mg base N qual scope f cdv A outer s H E) body t ∧ t { nx := fun _ H' => Q .non H', rt := Q } (start N vs) H) :
    FnOk P w K mg base CX (k + 1) f (PySem.W.fnOf name qual params body scope dV kV doc pm an cdv ct) ps sp := by
  refine ⟨len, fun A outer s H args us vs Q E hr e0 hb r hsp => ?_⟩
  have hl := len _ _ _ _ hsp
  have KX : K.In s.heap := e0.mod.kin.keeps fun b o e => (e0.bs b o e).1
  have lim : s.heap.NoLimit := e0.mod.nolimit.keeps fun b o e => (e0.bs b o e).1
  have hkind : ∀ y ∈ ps.zip us, scope.names.lookup y.1 = some .local ∨ (scope.names.lookup y.1 = some .cell ∧ ((cellsFrom (s.heap.objs.size + 1) scope.names []).lookup y.1).isSome = true) := fun ⟨n, v⟩ hy => by
    rcases S.par n (List.of_mem_zip hy).1 with q | q
    · exact .inl q
    · exact .inr ⟨q, PySem.W.cellsFrom_some _ _ _ (.inl q)⟩
  refine codeAny_call_function hr.depth (KX _ _ lk) rfl S.co S.gen rfl (PySem.W.codeRec_of KX hcd) (hb _ _ _ _ ?_)
  refine wpAny_newFunctionEnv_cells S.kind hkind fun env he s1 x => ?_
  subst he
  refine ⟨lim.keeps x.toInCall.keep, codeAny_func ?_⟩
  obtain ⟨t, ht, hq⟩ := hbody A outer s H vs Q E (hr.deeper _) hsp
  have I : Inv (cxOf CX P w K mg base N qual scope f cdv A outer s H E) [] (start N vs) H s1 := inv_start S hr.hd e0 hl r x
  refine wpAny_mono (ht [] s1 (start N vs) H _ I hq) (fun fl s' hs => ?_) fun e s' hs => hs
  have fin : ∀ {σ' : St} {H' : Hp} {v : V} {u : Value}, Inv (cxOf CX P w K mg base N qual scope f cdv A outer s H E) [] σ' H' s' → RelV v u → Q v H' → CE outer P w H s Q u s' :=
    fun {σ' H' v u} J rv q => ⟨v, H', J.os, J.bare, J.base, J.hok, rv, q⟩
  cases fl with
  | ret u =>
    obtain ⟨v, σ', H', J, rv, q⟩ := hs
    exact fin J rv q
  | next =>
    obtain ⟨σ', H', J, q⟩ := hs
    exact fin (v := V.non) (u := Value.none) J rfl q
  | brk =>
    obtain ⟨_, _, _, q⟩ := hs
    exact False.elim q
  | cont =>
    obtain ⟨_, _, _, q⟩ := hs
    exact False.elim q
end L2
namespace L2
open PySem PySem.Spec PyProof.Rows
section
variable {X : Cx} {x : Str} {p pos : Pos} {e : Expr} {es : List Expr} {t : TA} {id T : String} {r : List V → Hp → VK → Prop}
def tCB (r : List V → Hp → VK → Prop) (t : TA) : TE := fun σ H Q => t σ H fun vs H1 => r vs H1 Q
theorem pe_callB (hc : CallR X (.builtin id) r) (hg : Gl X x) (hm : X.mg x = none) (hv : bootBuiltins x = some (.builtin id)) (ha : PA X (e :: es) t) (hn : autoParam (x ≠ "__name__") vY._auto_1) (hdb : autoParam ((x == ("__debug__" : Str)) = false) vY._auto_1)
    (he : autoParam (starEach (e :: es) X.env = (false, eval e X.env) :: starEach es X.env) zX._auto_1) (hpl : autoParam ((backTo pos (starEach es X.env)).any (·.1) = false) zX._auto_1) : PE X (.Call (.Name x p) (e :: es) [] pos) (tCB r t) := by
  intro pins s σ H Q I h
  refine wpAny_Call_Name_kw (ld_blt I hg hm hv ?_ hn hdb)
  exact PyProof.Rows.callWith_builtin1 (thn (ha pos pins s σ H _ I h) fun us s1 ⟨vs, H1, I1, r1, q1⟩ => hc pins s1 σ H1 vs us Q I1 r1 q1) he hpl
theorem pe_callTy (hc : CallR X (.type T) r) (hg : Gl X x) (hm : X.mg x = none) (hv : bootBuiltins x = some (.type T)) (ha : PA X (e :: es) t) (hn : autoParam (x ≠ "__name__") vY._auto_1) (hdb : autoParam ((x == ("__debug__" : Str)) = false) vY._auto_1)
    (he : autoParam (starEach (e :: es) X.env = (false, eval e X.env) :: starEach es X.env) zX._auto_1) (hpl : autoParam ((backTo pos (starEach es X.env)).any (·.1) = false) zX._auto_1) : PE X (.Call (.Name x p) (e :: es) [] pos) (tCB r t) := by
  intro pins s σ H Q I h
  refine wpAny_Call_Name_kw (ld_blt I hg hm hv ?_ hn hdb)
  exact PyProof.Rows.callWith_type1 (thn (ha pos pins s σ H _ I h) fun us s1 ⟨vs, H1, I1, r1, q1⟩ => hc pins s1 σ H1 vs us Q I1 r1 q1) he hpl
end
end L2
namespace HT
open PySem PyProof.Rows
section
open PySem.SeqAt
open PySem.AutoSeq1 (wpAny_loadPart')
open PySem.MeetsSeq PySem.MeetsSeq2 PySem.MeetsSeq3
end
section
variable {prog : Program} {w : World} {A : Around} {E : Value → Shared → Prop} {s : Shared}
theorem cat_tup {t b : Addr} {vs ws : List Value} {Q : Value → Shared → Prop} (ht : IsTup s.heap t vs.toArray) (hb : IsTup s.heap b ws.toArray) (hv : vs ≠ [])
    (h1 : ws = [] → Q (.ref t) s) (h2 : ws ≠ [] → Q (.ref s.heap.objs.size) { s with heap := s.heap.push { cls := .type "tuple", data := .seq (vs ++ ws).toArray } })
    (hsz : vs.length + ws.length ≤ sizeLine) : wpAny (model prog w) A (binaryOp .Add (.ref t) (.ref b)) Q E s := by
  obtain ⟨⟨cls, dd, data, sl⟩, ho, hc, n, hd⟩ := id ht
  obtain ⟨⟨cls2, dd2, data2, sl2⟩, ho2, hc2, n2, hd2⟩ := id hb
  simp only at hc hd hc2 hd2
  subst hc hd hc2 hd2
  have e : vs.toArray ++ ws.toArray = (vs ++ ws).toArray := by simp
  by_cases hw : ws = []
  · exact concat_meets ⟨_, ho, rfl⟩ ⟨_, ho2, rfl⟩ noFill_tuple_add seq_tuple_add PySem.F.slot_tuple_add PySem.F.entry_tuple_add (PySem.F.args_tuple_add_2 _ _)
      (tuple_addW1 t b vs.toArray ws.toArray n n2 dd dd2 sl sl2 (by simpa using hv) (by simp [hw])) ⟨ho, ho2, h1 hw⟩
  · refine concat_meets ⟨_, ho, rfl⟩ ⟨_, ho2, rfl⟩ noFill_tuple_add seq_tuple_add PySem.F.slot_tuple_add PySem.F.entry_tuple_add (PySem.F.args_tuple_add_2 _ _)
      (tuple_addW2 t b vs.toArray ws.toArray n n2 dd dd2 sl sl2 (by simpa using hv) (by simpa using hw) (by rw [List.size_toArray, List.size_toArray]; exact hsz)) ⟨ho, ho2, ?_⟩
    rw [e]
    exact h2 hw
def sIx (n d : Nat) : Option Int → Nat
  | none => d
  | some v => if v < 0 then (v + (n : Int)).toNat else min v.toNat n
theorem sIx_none (n d : Nat) : sIx n d none = d := rfl
theorem sIx_nat (n d k : Nat) : sIx n d (some (k : Int)) = min k n := by
  show (if (k : Int) < 0 then ((k : Int) + (n : Int)).toNat else min (k : Int).toNat n) = min k n
  rw [if_neg (by bv_omega), Int.toNat_natCast]
theorem sIx_le (n d : Nat) (hd : d ≤ n) (o : Option Int) : sIx n d o ≤ n := by
  cases o with
  | none => exact hd
  | some v =>
    show (if v < 0 then (v + (n : Int)).toNat else min v.toNat n) ≤ n
    by_cases hv : v < 0
    · rw [if_pos hv]; bv_omega
    · rw [if_neg hv]; exact Nat.min_le_right _ _
theorem clip_eq (v : Int) (n d : Nat) : (if v < 0 then max (v + (n : Int)) 0 else min v (n : Int)) = ((sIx n d (some v) : Nat) : Int) := by
  show (if v < 0 then max (v + (n : Int)) 0 else min v (n : Int)) = (((if v < 0 then (v + (n : Int)).toNat else min v.toNat n) : Nat) : Int)
  by_cases hv : v < 0
  · simp only [if_pos hv]; bv_omega
  · simp only [if_neg hv]; bv_omega
theorem adjust_gen (lo hi : Option Int) (n : Nat) : Builtin.Slice.sliceAdjust lo hi 1 (n : Int) = (((sIx n 0 lo : Nat) : Int), ((sIx n n hi : Nat) : Int)) := by
  have h1 : ¬ ((1 : Int) < 0) := by bv_omega
  unfold Builtin.Slice.sliceAdjust
  simp only [h1, if_false]
  refine Prod.ext ?_ ?_
  · cases lo with
    | none => rfl
    | some v => exact clip_eq v n 0
  · cases hi with
    | none => rfl
    | some v => exact clip_eq v n n
theorem places_gen (i j : Nat) : Builtin.Slice.slicePlaces (i : Int) (j : Int) 1 = j - i := by
  unfold Builtin.Slice.slicePlaces
  have h1 : (1 : Int) > 0 := by bv_omega
  simp only [h1, if_true, Int.ediv_one]
  split <;> bv_omega
theorem slicePart_ {v : Value} {o : Option Int} {Q : Option Int → Shared → Prop} (p : IsPart v o) (h : Q o s) : wpAny (model prog w) A (Builtin.Slice.slicePartIndex v) Q E s := by
  cases p with
  | none => exact slicePart_none h
  | int i t => exact slicePart_int h
theorem sliceApplied_gen {sl : Addr} {vl vu : Value} {lo hi : Option Int} {n : Nat} {Q : Int × Int × Nat → Shared → Prop} (hs : s.heap.IsSliceOf sl vl vu .none) (pl : IsPart vl lo) (pu : IsPart vu hi)
    (h : Q (((sIx n 0 lo : Nat) : Int), 1, sIx n n hi - sIx n 0 lo) s) : wpAny (model prog w) A (Builtin.Slice.sliceApplied (.ref sl) (pure (n : Int))) Q E s := by
  obtain ⟨os, hos, hcs, hds⟩ := id hs
  unfold Builtin.Slice.sliceApplied Builtin.Slice.sliceFields
  refine wpAny_bind (wpAny_bind (wpAny_field hos hds (x := vl) rfl (wpAny_bind (wpAny_field hos hds (x := vu) rfl (wpAny_bind (wpAny_field hos hds (x := .none) rfl (wpAny_pure ?_)))))))
  refine wpAny_bind (slicePart_none ?_)
  show wpAny _ _ (if ((1 : Int) == 0) = true then _ else _) _ _ s
  rw [if_neg (by decide)]
  refine wpAny_bind (slicePart_ pl (wpAny_bind (slicePart_ pu (wpAny_bind (wpAny_pure ?_)))))
  show wpAny _ _ (match Builtin.Slice.sliceAdjust lo hi 1 (n : Int) with | (lo, hi) => pure (lo, (1 : Int), Builtin.Slice.slicePlaces lo hi 1)) _ _ s
  rw [adjust_gen lo hi n]
  show wpAny _ _ (pure (((sIx n 0 lo : Nat) : Int), (1 : Int), Builtin.Slice.slicePlaces ((sIx n 0 lo : Nat) : Int) ((sIx n n hi : Nat) : Int) 1)) _ _ s
  rw [places_gen]
  exact wpAny_pure h
theorem pick_gen (xs : Array Value) (i k : Nat) : ((List.range k).filterMap fun (m : Nat) => xs[((i : Int) + (m : Int) * 1).toNat]?).toArray = ((xs.toList.drop i).take k).toArray := by
  have e : (fun (m : Nat) => xs[((i : Int) + (m : Int) * 1).toNat]?) = fun m => xs[i + m]? := by
    funext m
    have : ((i : Int) + (m : Int) * 1).toNat = i + m := by bv_omega
    rw [this]
  rw [e]
  have := pick_run xs i k
  rw [List.filterMap_map] at this
  have e2 : ((fun x => xs[x]?) ∘ fun x => i + x) = fun m => xs[i + m]? := rfl
  rw [e2] at this
  rw [this]
theorem getItem_tuple_cut {t sl : Addr} {items : Array Value} {vl vu : Value} {lo hi : Option Int} {Q : Value → Shared → Prop} (ht : IsTup s.heap t items) (hs : s.heap.IsSliceOf sl vl vu .none) (pl : IsPart vl lo) (pu : IsPart vu hi)
    (hw : ¬ (sIx items.size 0 lo = 0 ∧ sIx items.size items.size hi = items.size))
    (h : Q (.ref s.heap.objs.size) { s with heap := s.heap.push { cls := .type "tuple", data := .seq ((items.toList.drop (sIx items.size 0 lo)).take (sIx items.size items.size hi - sIx items.size 0 lo)).toArray } })
    (hsz : items.size ≤ sizeLine) : wpAny (model prog w) A (getItem (.ref t) (.ref sl)) Q E s := by
  have htake : sizeOk (.seq ((items.toList.drop (sIx items.size 0 lo)).take (sIx items.size items.size hi - sIx items.size 0 lo)).toArray) := by
    show ((items.toList.drop (sIx items.size 0 lo)).take (sIx items.size items.size hi - sIx items.size 0 lo)).toArray.size ≤ sizeLine
    rw [List.size_toArray, List.length_take, List.length_drop, Array.length_toList]
    bv_omega
  have hj : sIx items.size items.size hi ≤ items.size := sIx_le _ _ (Nat.le_refl _) hi
  obtain ⟨os, hos, hcs, hds⟩ := id hs
  have hTs : s.TypeIs (.ref sl) "slice" := ⟨os, hos, hcs⟩
  unfold getItem
  try with_reducible refine wpAny_holding ?_
  first | refine wpAny_bind (wpAny_pure ?_) | skip
  refine wpAny_bind (wpAny_sequenceKey ht.typeIs (by decide) ?_)
  refine wpAny_bind (wpAny_callSpecial?_slot (name := Str.ofString "__getitem__") ht.typeIs PyProof.Rows.slot_tuple_getitem
    (wpAny_call_entry PyProof.Rows.slot_tuple_getitem ht.typeIs entry_tuple_getitem ?_ (args_tuple_getitem _ _)))
  show wpAny _ _ (Builtin.Tuple.tupleItemsOf (.ref t) >>= _) _ _ s
  refine wpAny_bind (tupleItemsOf_ ht ?_)
  refine wpAny_bind (wpAny_typeOf hTs ?_)
  rw [if_pos (by decide)]
  refine wpAny_bind (sliceApplied_gen hs pl pu ?_)
  have hno : ¬ ((((sIx items.size 0 lo : Nat) : Int) == 0 && (1 : Int) == 1 && (sIx items.size items.size hi - sIx items.size 0 lo) == items.size) = true) := by
    intro q
    rw [Bool.and_eq_true, Bool.and_eq_true] at q
    have q1 : ((sIx items.size 0 lo : Nat) : Int) = 0 := eq_of_beq q.1.1
    have q2 : sIx items.size items.size hi - sIx items.size 0 lo = items.size := eq_of_beq q.2
    exact hw ⟨by bv_omega, by bv_omega⟩
  show wpAny _ _ (if (((sIx items.size 0 lo : Nat) : Int) == 0 && (1 : Int) == 1 && (sIx items.size items.size hi - sIx items.size 0 lo) == items.size) = true then _ else _) _ _ s
  rw [if_neg hno, pick_gen]
  first
    | exact wpAny_bind (m := Builtin.Tuple.tupleExact _) (wpAny_newObj_type (wpAny_pure ⟨_, rfl, wpAny_pure h⟩) htake)
    | exact wpAny_bind (m := Builtin.Tuple.tupleExact _) (wpAny_newObj_type (wpAny_bind (wpAny_pure (wpAny_pure ⟨_, rfl, wpAny_pure h⟩))) htake)
    | exact wpAny_bind (wpAny_bind (m := Builtin.Tuple.tupleExact _) (wpAny_newObj_type (wpAny_pure (wpAny_pure ⟨_, rfl, wpAny_pure h⟩)) htake))
    | exact wpAny_bind (wpAny_bind (m := Builtin.Tuple.tupleExact _) (wpAny_newObj_type (wpAny_pure ⟨_, rfl, wpAny_pure h⟩) htake))
end
end HT
namespace L2
open PySem PySem.Spec PyProof.Rows
abbrev TO := St → Hp → (Option Int → Hp → Prop) → Prop
def PO (X : Cx) (e : Option Expr) (t : TO) : Prop :=
  ∀ (pins : List (Addr × Obj)) (s : Shared) (σ : St) (H : Hp) (Q : Option Int → Hp → Prop), Inv X pins σ H s → t σ H Q →
    wpAny (model X.prog X.w) X.A (evalPart e X.env) (fun u s' => ∃ o H', Inv X pins σ H' s' ∧ IsPart u o ∧ Q o H') X.xe s
def tNoPart : TO := fun _ H Q => Q none H
def tPart (t : TE) : TO := fun σ H Q => t σ H fun x H1 => ∃ i, x = .int i ∧ Q (some i) H1
theorem intsAre_of {ns : List Int} : ∀ {us : List Value}, Vals (ns.map V.int) us → IntsAre us ns := by
  induction ns with
  | nil => intro us r; rw [List.map_nil] at r; cases r; exact .nil
  | cons n ns ih =>
    intro us r
    rw [List.map_cons] at r
    cases r with
    | cons r1 r2 =>
      obtain ⟨t, e⟩ := r1
      subst e
      exact .cons n t (ih r2)
section
variable {X : Cx} {e : Expr} {te : TE} {lo hi : Option Expr} {tl th : TO} {pos p2 : Pos}
theorem po_none : PO X none tNoPart := by
  intro pins s σ H Q I h
  rw [evalPart_none]
  exact wpAny_pure ⟨none, H, I, .none, h⟩
theorem po_some (h : PE X e te) : PO X (some e) (tPart te) := by
  intro pins s σ H Q I hw
  rw [evalPart_some]
  refine thn (h pins s σ H _ I hw) fun u s1 ⟨x, H1, I1, r1, q1⟩ => ?_
  obtain ⟨i, rfl, q⟩ := q1
  obtain ⟨t, rfl⟩ := r1
  exact ⟨some i, H1, I1, .int i t, q⟩
def SlR (X : Cx) (r : V → Option Int → Option Int → Hp → VK → Prop) : Prop :=
  ∀ (pins : List (Addr × Obj)) (s : Shared) (σ : St) (H : Hp) (x : V) (v vl vu : Value) (lo hi : Option Int) (sl : Addr) (Q : VK), Inv X pins σ H s → RelV x v → s.heap.IsSliceOf sl vl vu .none → IsPart vl lo → IsPart vu hi → r x lo hi H Q →
    ∃ T id, typeLookup (.type T) "__getitem__" = pure (some (.builtin id)) ∧ s.TypeIs v T ∧ wpAny (model X.prog X.w) X.A (getItem v (.ref sl)) (EP X pins σ Q) X.xe s
theorem SlR.or {r r' : V → Option Int → Option Int → Hp → VK → Prop} (h : SlR X r) (h' : SlR X r') : SlR X (fun x lo hi H Q => r x lo hi H Q ∨ r' x lo hi H Q) := by
  intro pins s σ H x v vl vu lo hi sl Q I rx hs pl pu q
  rcases q with q | q
  · exact h pins s σ H x v vl vu lo hi sl Q I rx hs pl pu q
  · exact h' pins s σ H x v vl vu lo hi sl Q I rx hs pl pu q
def tSl (r : V → Option Int → Option Int → Hp → VK → Prop) (te : TE) (tl th : TO) : TE := fun σ H Q => te σ H fun x H1 => tl σ H1 fun l H2 => th σ H2 fun u H3 => r x l u H3 Q
theorem pe_slice {r : V → Option Int → Option Int → Hp → VK → Prop} (hr : SlR X r) (he : PE X e te) (hl : PO X lo tl) (hu : PO X hi th) : PE X (.Subscript e (.Slice lo hi none p2) pos) (tSl r te tl th) := by
  intro pins s σ H Q I h
  refine Subscript_ (thn (he pins s σ H _ I h) fun v s1 ⟨x, H1, I1, r1, q1⟩ => ?_)
  refine wpAny_Slice (thn (hl pins s1 σ H1 _ I1 q1) fun vl s2 ⟨l, H2, I2, pl, q2⟩ => thn (hu pins s2 σ H2 _ I2 q2) fun vu s3 ⟨u, H3, I3, pu, q3⟩ => ?_)
  rw [evalPart_none]
  refine wpAny_pure ?_
  have I4 : Inv X pins σ H3 { s3 with heap := s3.heap.push { cls := .type "slice", data := .fields #[vl, vu, .none] } } := I3.kept (t' := s3.toks) fun b ob q => Heap.get?_push_of_some _ q
  obtain ⟨T, id, hT, ht, hg⟩ := hr pins { s3 with heap := s3.heap.push { cls := .type "slice", data := .fields #[vl, vu, .none] } } σ H3 x v vl vu l u s3.heap.objs.size Q I4 r1 (Heap.IsSliceOf.new ..) pl pu q3
  show wpAny (model X.prog X.w) X.A (subscriptTail e (.Slice lo hi none p2) v (.ref s3.heap.objs.size)) (EP X pins σ Q) X.xe { s3 with heap := s3.heap.push { cls := .type "slice", data := .fields #[vl, vu, .none] } }
  exact tail_any (ops := [.ref s3.heap.objs.size, v]) ht hT hg (by with_unfolding_all rfl)
def cutV (xs : List V) (lo hi : Option Int) : List V := (xs.drop (HT.sIx xs.length 0 lo)).take (HT.sIx xs.length xs.length hi - HT.sIx xs.length 0 lo)
theorem cutV_length (xs : List V) (lo hi : Option Int) : (cutV xs lo hi).length ≤ xs.length := by
  unfold cutV
  rw [List.length_take, List.length_drop]
  bv_omega
def rSlT (K : PySem.W.Frag) : V → Option Int → Option Int → Hp → VK → Prop := fun x lo hi H Q => ∃ a xs, x = .ref a ∧ SqT K H a xs ∧
  ¬ (HT.sIx xs.length 0 lo = 0 ∧ HT.sIx xs.length xs.length hi = xs.length) ∧ ∀ p, H p = none → Q (.ref p) (upd H p (.tup (cutV xs lo hi)))
theorem sl_tup : SlR X (rSlT X.K) := by
  intro pins s σ H x v vl vu lo hi sl Q I rx hs pl pu h
  obtain ⟨a, xs, rfl, hx, hw, q⟩ := h
  cases rx
  obtain ⟨its, r, ht, hz⟩ := I.tuple hx
  have hlen : its.toArray.size = xs.length := by rw [List.size_toArray]; exact r.length.symm
  refine ⟨"tuple", _, PyProof.Rows.slot_tuple_getitem.lookup, ht.typeIs, ?_⟩
  refine HT.getItem_tuple_cut ht hs pl pu (by rw [hlen]; exact hw) ?_ (by rw [hlen]; exact hz)
  rw [hlen]
  refine ⟨.ref s.heap.objs.size, _, I.laid (t' := s.toks) (o := .tup (cutV xs lo hi)) (fun b ob q => Heap.get?_push_of_some _ q) (Nat.le_refl _) ?_, rfl, q _ (I.hok.fresh (Nat.le_refl _))⟩
  exact ⟨Nat.le_trans (cutV_length xs lo hi) hz, _, (r.drop (HT.sIx xs.length 0 lo)).take (HT.sIx xs.length xs.length hi - HT.sIx xs.length 0 lo), TupAt.new _ _⟩
def rCatT (K : PySem.W.Frag) : R2 := fun x y H Q => ∃ a b xs ys, x = .ref a ∧ y = .ref b ∧ SqT K H a xs ∧ SqT K H b ys ∧ xs ≠ [] ∧ xs.length + ys.length ≤ sizeLine ∧
  (ys = [] → Q (.ref a) H) ∧ (ys ≠ [] → ∀ p, H p = none → Q (.ref p) (upd H p (.tup (xs ++ ys))))
theorem Vals.nil_iff {xs : List V} {us : List Value} (r : Vals xs us) : us = [] ↔ xs = [] := by
  cases r with
  | nil => simp
  | cons _ _ => simp
theorem op_catT : OpR X (binaryOp .Add) (rCatT X.K) := by
  intro pins s σ H x y v u Q I rx ry h
  obtain ⟨a, b, xs, ys, rfl, rfl, ha, hb, hx, hz, q1, q2⟩ := h
  cases rx
  cases ry
  obtain ⟨its, r1, p1, _⟩ := I.tuple ha
  obtain ⟨its2, r2, p2, _⟩ := I.tuple hb
  refine HT.cat_tup p1 p2 (fun z => hx (r1.nil_iff.mp z)) (fun z => ⟨.ref a, H, I, rfl, q1 (r2.nil_iff.mp z)⟩) (fun z => ?_) (by rw [← r1.length, ← r2.length]; exact hz)
  refine ⟨.ref s.heap.objs.size, _, I.laid (t' := s.toks) (o := .tup (xs ++ ys)) (fun b ob q => Heap.get?_push_of_some _ q) (Nat.le_refl _) ?_, rfl, q2 (fun w => z (r2.nil_iff.mpr w)) _ (I.hok.fresh (Nat.le_refl _))⟩
  exact ⟨by rw [List.length_append]; exact hz, _, r1.append r2, TupAt.new _ _⟩
end
end L2
namespace L2
open PySem PySem.Spec PyProof.Rows
def ixN (n : Nat) (i : Int) : Option Nat := if 0 ≤ i then (if i < n then some i.toNat else none) else if -(n : Int) ≤ i then some (i + n).toNat else none
def atI {α : Type} (xs : List α) (i : Int) : Option α := (ixN xs.length i).bind fun j => xs[j]?
theorem ixN_seq {n : Nat} {i : Int} {j : Nat} (h : ixN n i = some j) : seqIndex? i n = some j ∧ j < n ∧ -(n : Int) ≤ i ∧ i < n := by
  unfold ixN at h
  by_cases h0 : 0 ≤ i
  · rw [if_pos h0] at h
    by_cases h1 : i < n
    · rw [if_pos h1] at h
      have e : i.toNat = j := Option.some.inj h
      exact ⟨by rw [seqIndex_of h0 h1, e], by bv_omega, by bv_omega, h1⟩
    · rw [if_neg h1] at h; cases h
  · rw [if_neg h0] at h
    by_cases h1 : -(n : Int) ≤ i
    · rw [if_pos h1] at h
      have e : (i + n).toNat = j := Option.some.inj h
      exact ⟨by rw [seqIndex_neg (by bv_omega) h1, e], by bv_omega, h1, by bv_omega⟩
    · rw [if_neg h1] at h; cases h
theorem atI_get {α : Type} {xs : List α} {i : Int} {v : α} (h : atI xs i = some v) : ∃ j, seqIndex? i xs.length = some j ∧ xs[j]? = some v ∧ j < xs.length ∧ -(xs.length : Int) ≤ i ∧ i < xs.length := by
  unfold atI at h
  cases e : ixN xs.length i with
  | none => rw [e] at h; cases h
  | some j =>
    rw [e] at h
    obtain ⟨h1, h2, h3, h4⟩ := ixN_seq e
    exact ⟨j, h1, h, h2, h3, h4⟩
theorem atI_nat {α : Type} {xs : List α} {j : Nat} {v : α} (h : xs[j]? = some v) : atI xs (j : Int) = some v := by
  have hj : j < xs.length := (List.getElem?_eq_some_iff.mp h).1
  have e : ixN xs.length (j : Int) = some j := by
    unfold ixN
    rw [if_pos (by bv_omega), if_pos (by bv_omega)]; simp
  unfold atI; rw [e]; exact h
def PlainIx (b : Expr) : Prop := ∀ o i, subscripted b false o i = operate [o, i] (getItem o i)
def IxR (X : Cx) (r : R2) : Prop :=
  ∀ (value slice : Expr) (pins : List (Addr × Obj)) (s : Shared) (σ : St) (H : Hp) (x y : V) (v u : Value) (Q : VK), Inv X pins σ H s → RelV x v → RelV y u → r x y H Q →
    subscripted slice false v u = operate [v, u] (getItem v u) → wpAny (model X.prog X.w) X.A (subscriptTail value slice v u) (EP X pins σ Q) X.xe s
def MtR (X : Cx) (id : String) (r : V → List V → Hp → VK → Prop) : Prop :=
  ∀ (pins : List (Addr × Obj)) (s : Shared) (σ : St) (H : Hp) (x : V) (xs : List V) (v : Value) (us : List Value) (Q : VK), Inv X pins σ H s → RelV x v → Vals xs us → r x xs H Q →
    wpAny (model X.prog X.w) X.A (call (.builtin id) (v :: us)) (EP X pins σ Q) X.xe s
section
variable {X : Cx} {a b : Expr} {ta tb : TE} {pos : Pos}
theorem IxR.or {r r' : R2} (h : IxR X r) (h' : IxR X r') : IxR X (fun x y H Q => r x y H Q ∨ r' x y H Q) := by
  intro value slice pins s σ H x y v u Q I rx ry q hs
  rcases q with q | q
  · exact h value slice pins s σ H x y v u Q I rx ry q hs
  · exact h' value slice pins s σ H x y v u Q I rx ry q hs
theorem pe_ix {r : R2} (hr : IxR X r) (ha : PE X a ta) (hb : PE X b tb) (hs : PlainIx b) : PE X (.Subscript a b pos) (tOp r ta tb) := by
  intro pins s σ H Q I h
  exact Subscript_ (binT ha hb I h fun v u s2 x y H2 I2 rx ry q => hr a b pins s2 σ H2 x y v u Q I2 rx ry q (hs _ _))
def rIxL (K : PySem.W.Frag) : R2 := fun x y H Q => ∃ p xs i v, x = .ref p ∧ y = .int i ∧ SqL K H p xs ∧ atI xs i = some v ∧ Q v H
def rIxT (K : PySem.W.Frag) : R2 := fun x y H Q => ∃ p xs i v, x = .ref p ∧ y = .int i ∧ SqT K H p xs ∧ atI xs i = some v ∧ Q v H
def rIxS : R2 := fun x y H Q => ∃ z i c, x = .str z ∧ y = .int i ∧ z.length ≤ sizeLine ∧ atI z.cps.toList i = some c ∧ Q (.str ⟨#[c]⟩) H
theorem ix_list : IxR X (rIxL X.K) := by
  intro value slice pins s σ H x y v u Q I rx ry h hs
  obtain ⟨p, xs, i, z, rfl, rfl, hq, he, q⟩ := h
  cases rx
  obtain ⟨t, rfl⟩ := ry
  obtain ⟨its, r, pl, hz⟩ := I.list hq
  obtain ⟨j, h1, h2, h3, h4, h5⟩ := atI_get he
  obtain ⟨w, ew, rw'⟩ := r.get h2
  have hl := r.length
  have hn := line63
  have fin : EP X pins σ Q w s := ⟨z, H, I, rw', q⟩
  by_cases h0 : 0 ≤ i
  · have hj : i.toNat = j := by
      rw [seqIndex_of h0 h5] at h1
      exact Option.some.inj h1
    exact item_listR pl.isList h0 (by bv_omega) (by rw [hj]; simpa using ew) fin hs
  · have hj : (i + (its.toArray.size : Int)).toNat = j := by
      rw [seqIndex_neg (by bv_omega) h4] at h1
      rw [List.size_toArray, ← hl]
      exact Option.some.inj h1
    exact subscriptTail_builtinR (x := w) pl.isList.typeIs slot_list_getitem.lookup
      (wpAny_getItem_list_neg (Q := fun r s' => r = w ∧ EP X pins σ Q r s') pl.isList (by bv_omega) (by rw [List.size_toArray] <;> bv_omega) (by bv_omega) (by rw [hj]; simpa using ew) ⟨rfl, fin⟩) hs
theorem ix_tup : IxR X (rIxT X.K) := by
  intro value slice pins s σ H x y v u Q I rx ry h hs
  obtain ⟨p, xs, i, z, rfl, rfl, hq, he, q⟩ := h
  cases rx
  obtain ⟨t, rfl⟩ := ry
  obtain ⟨its, r, pl, hz⟩ := I.tuple hq
  obtain ⟨j, h1, h2, h3, h4, h5⟩ := atI_get he
  obtain ⟨w, ew, rw'⟩ := r.get h2
  have hl := r.length
  have hn := line63
  have fin : EP X pins σ Q w s := ⟨z, H, I, rw', q⟩
  exact subscriptTail_builtinR (x := w) pl.typeIs slot_tuple_getitem.lookup
    (getItem_tuple (j := j) (Q := fun r s' => r = w ∧ EP X pins σ Q r s') pl (by bv_omega) (by bv_omega) (by rw [List.size_toArray, ← hl]; exact h1) (by simpa using ew) ⟨rfl, fin⟩) hs
theorem ix_str : IxR X rIxS := by
  intro value slice pins s σ H x y v u Q I rx ry h hs
  obtain ⟨z, i, c, rfl, rfl, hz, he, q⟩ := h
  obtain ⟨t, rfl⟩ := rx
  obtain ⟨t', rfl⟩ := ry
  obtain ⟨j, h1, h2, h3, h4, h5⟩ := atI_get he
  have hl : z.cps.toList.length = z.length := by simp [Str.length]
  rw [hl] at h1 h4 h5
  have hn := line63
  exact tail_any (typeIs_str s z t) slot_str_getitem.lookup (getItem_str (c := c) (by
    have e1 : decide (i < -(2 ^ 63 : Int)) = false := decide_eq_false (by bv_omega)
    have e2 : decide (i ≥ 2 ^ 63) = false := decide_eq_false (by bv_omega)
    rw [e1, e2, Bool.or_false]) (by rw [h1]; simpa using h2) ⟨.str ⟨#[c]⟩, H, I.tok _, ⟨_, rfl⟩, q⟩) hs
def rIx (K : PySem.W.Frag) : R2 := fun x y H Q => rIxL K x y H Q ∨ rIxT K x y H Q ∨ rIxS x y H Q
theorem ix_seq : IxR X (rIx X.K) := ix_list.or (ix_tup.or ix_str)
theorem mapSeq_set (its : List Value) (n j : Nat) (u : Value) : Obj.mapSeq (·.setIfInBounds j u) { cls := .type "list", data := .seq its.toArray n } = { cls := .type "list", data := .seq (its.set j u).toArray n } := by
  simp [Obj.mapSeq]
theorem Inv.lst {pins : List (Addr × Obj)} {σ : St} {H : Hp} {s : Shared} {p : Addr} {xs : List V} (I : Inv X pins σ H s) (h : H p = some (.lst xs)) :
    ∃ (its : List Value) (n : Nat), Vals xs its ∧ s.heap.get? p = some { cls := .type "list", data := .seq its.toArray n } ∧ xs.length ≤ sizeLine := by
  obtain ⟨z, its, n, r, e⟩ := I.hok p _ h
  exact ⟨its, n, r, e, z⟩
theorem Inv.lstUpd {pins : List (Addr × Obj)} {σ : St} {H : Hp} {s : Shared} {p : Addr} {xs ys : List V} {its its' : List Value} {n n' : Nat} {f : Obj → Obj} (I : Inv X pins σ H s) (h : H p = some (.lst xs))
    (ho : s.heap.get? p = some { cls := .type "list", data := .seq its.toArray n }) (hf : f { cls := .type "list", data := .seq its.toArray n } = { cls := .type "list", data := .seq its'.toArray n' }) (r : Vals ys its') (hz : ys.length ≤ sizeLine) (t : Nat) :
    Inv X pins σ (upd H p (.lst ys)) { s with heap := s.heap.update p f, toks := t } := by
  have e : (s.heap.update p f).get? p = some { cls := .type "list", data := .seq its'.toArray n' } := by
    rw [Heap.get?_update_self f ho (by rw [hf] <;> rfl), hf]
  refine I.write (x := p) (e := p) (by rw [h]; trivial) (.inl rfl) (fun b u hb q => (Heap.get?_update_other _ _ (Ne.symm hb)).trans q) ⟨_, e⟩ ?_
  exact ⟨hz, its', n', r, e⟩
def rSetL : V → V → V → Hp → (Hp → Prop) → Prop := fun o i v H Q => ∃ p xs k j, o = .ref p ∧ i = .int k ∧ H p = some (.lst xs) ∧ ixN xs.length k = some j ∧ Q (upd H p (.lst (xs.set j v)))
theorem set_list : PSet X rSetL := by
  intro pins s σ H o i v ov iv u Q I ro ri rv h
  obtain ⟨p, xs, k, j, rfl, rfl, hp, hj, q⟩ := h
  cases ro
  obtain ⟨t, rfl⟩ := ri
  obtain ⟨its, n, r, ho, hz⟩ := I.lst hp
  obtain ⟨h1, h2, h3, h4⟩ := ixN_seq hj
  have hl := r.length
  have hn := line63
  have I' : Inv X pins σ (upd H p (.lst (xs.set j v))) { s with heap := s.heap.update p (Obj.mapSeq (·.setIfInBounds j u)) } :=
    I.lstUpd hp ho (mapSeq_set its n j u) (r.set rv j) (by rw [List.length_set]; exact hz) s.toks
  by_cases h0 : 0 ≤ k
  · have hk : k.toNat = j := by
      rw [seqIndex_of h0 h4] at h1
      exact Option.some.inj h1
    exact PySem.W.ki_setAt ho h0 (by bv_omega) (by rw [List.size_toArray, ← hl]; exact h4) (by rw [hk]; exact ⟨_, I', q⟩)
  · have hk : (k + (its.toArray.size : Int)).toNat = j := by
      rw [seqIndex_neg (by bv_omega) h3] at h1
      rw [List.size_toArray, ← hl]
      exact Option.some.inj h1
    exact PySem.W.ki_setBack ho (by bv_omega) (by rw [List.size_toArray, ← hl]; exact h3) (by bv_omega) (by rw [hk]; exact ⟨_, I', q⟩)
theorem slice_bounds (lo hi : Option Int) (n : Nat) : (sliceBounds lo hi none n).1 = ((HT.sIx n 0 lo : Nat) : Int) ∧ (sliceBounds lo hi none n).2.1 = ((HT.sIx n n hi : Nat) : Int) ∧ (sliceBounds lo hi none n).2.2 = 1 := by
  refine ⟨?_, ?_, rfl⟩
  · cases lo with
    | none => simp [sliceBounds, HT.sIx]
    | some i =>
      simp only [sliceBounds, HT.sIx, Option.getD_none, show (1 : Int) > 0 by decide, if_true]
      by_cases h : i < 0
      · simp only [h, if_true] <;> bv_omega
      · simp only [h, if_false] <;> bv_omega
  · cases hi with
    | none => simp [sliceBounds, HT.sIx]
    | some i =>
      simp only [sliceBounds, HT.sIx, Option.getD_none, show (1 : Int) > 0 by decide, if_true]
      by_cases h : i < 0
      · simp only [h, if_true] <;> bv_omega
      · simp only [h, if_false] <;> bv_omega
theorem slicePick_cut (its : List Value) (lo hi : Option Int) : slicePick its.toArray lo hi none = ((its.drop (HT.sIx its.length 0 lo)).take (HT.sIx its.length its.length hi - HT.sIx its.length 0 lo)).toArray := by
  obtain ⟨h1, h2, h3⟩ := slice_bounds lo hi its.toArray.size
  unfold slicePick
  rw [h1, h2, h3]
  simp only [sliceRange_one, pick_run, List.size_toArray] <;> rfl
def rSlL (K : PySem.W.Frag) : V → Option Int → Option Int → Hp → VK → Prop := fun x lo hi H Q => ∃ a xs, x = .ref a ∧ SqL K H a xs ∧ ∀ p, H p = none → Q (.ref p) (upd H p (.lst (cutV xs lo hi)))
theorem sl_list : SlR X (rSlL X.K) := by
  intro pins s σ H x v vl vu lo hi sl Q I rx hs pl pu h
  obtain ⟨a, xs, rfl, hx, q⟩ := h
  cases rx
  obtain ⟨its, r, ht, hz⟩ := I.list hx
  have hlen := r.length
  refine ⟨"list", _, slot_list_getitem.lookup, ht.isList.typeIs, ?_⟩
  refine wpAny_getItem_list_slice ht.isList hs pl pu .none (by simp) ?_ (by rw [List.size_toArray] <;> bv_omega)
  rw [slicePick_cut, ← hlen]
  refine ⟨.ref s.heap.objs.size, _, I.laid (t' := s.toks) (o := .lst (cutV xs lo hi)) (fun b ob q => Heap.get?_push_of_some _ q) (Nat.le_refl _) ?_, rfl, q _ (I.hok.fresh (Nat.le_refl _))⟩
  exact ⟨Nat.le_trans (cutV_length xs lo hi) hz, _, 0, (r.drop (HT.sIx xs.length 0 lo)).take (HT.sIx xs.length xs.length hi - HT.sIx xs.length 0 lo), Heap.get?_push_size _ rfl⟩
def flatV : V → Bool
  | .non => true
  | .bl _ => true
  | .int _ => true
  | .str _ => true
  | _ => false
def eqV : V → V → Bool
  | .non, .non => true
  | .bl a, .bl b => a == b
  | .bl a, .int b => (if a then 1 else 0) == b
  | .int a, .bl b => a == (if b then 1 else 0)
  | .int a, .int b => a == b
  | .str a, .str b => a == b
  | _, _ => false
theorem eqAt_V {A : Around} {s : Shared} {y x : V} {u v : Value} (ry : RelV y u) (rx : RelV x v) (fy : flatV y = true) (fx : flatV x = true) : SeqAt.EqAt A s u v (eqV y x) := by
  cases y with
  | non =>
    cases ry
    cases x with
    | non => cases rx; exact SeqAt.EqAt.same _
    | bl b => cases rx; exact SeqAt.EqAt.none_bool b
    | int b => obtain ⟨t, rfl⟩ := rx; exact SeqAt.EqAt.none_int b t
    | str b => obtain ⟨t, rfl⟩ := rx; exact SeqAt.EqAt.none_str b t
    | _ => exact absurd (show false = true from fx) Bool.false_ne_true
  | bl a =>
    cases ry
    cases x with
    | non => cases rx; exact SeqAt.EqAt.bool_none a
    | bl b => cases rx; exact SeqAt.EqAt.bool_bool a b
    | int b => obtain ⟨t, rfl⟩ := rx; exact SeqAt.EqAt.bool_int a b t
    | str b => obtain ⟨t, rfl⟩ := rx; exact SeqAt.EqAt.bool_str a b t
    | _ => exact absurd (show false = true from fx) Bool.false_ne_true
  | int a =>
    obtain ⟨t', rfl⟩ := ry
    cases x with
    | non => cases rx; exact SeqAt.EqAt.int_none a t'
    | bl b => cases rx; exact SeqAt.EqAt.int_bool a t' b
    | int b => obtain ⟨t, rfl⟩ := rx; exact SeqAt.EqAt.int_int a t' b t
    | str b => obtain ⟨t, rfl⟩ := rx; exact SeqAt.EqAt.int_str a t' b t
    | _ => exact absurd (show false = true from fx) Bool.false_ne_true
  | str a =>
    obtain ⟨t', rfl⟩ := ry
    cases x with
    | non => cases rx; exact SeqAt.EqAt.str_none a t'
    | bl b => cases rx; exact SeqAt.EqAt.str_bool a t' b
    | int b => obtain ⟨t, rfl⟩ := rx; exact SeqAt.EqAt.str_int a t' b t
    | str b => obtain ⟨t, rfl⟩ := rx; exact SeqAt.EqAt.str_str a t' b t
    | _ => exact absurd (show false = true from fx) Bool.false_ne_true
  | _ => exact absurd (show false = true from fy) Bool.false_ne_true
def eqU (x : V) (u : Value) : Bool := match u with
  | .none => eqV .non x
  | .bool b => eqV (.bl b) x
  | .int i _ => eqV (.int i) x
  | .str z _ => eqV (.str z) x
  | _ => false
theorem eqU_of {x y : V} {u : Value} (r : RelV y u) (f : flatV y = true) : eqU x u = eqV y x := by
  cases y with
  | non => cases r; rfl
  | bl b => cases r; rfl
  | int i => obtain ⟨t, rfl⟩ := r; rfl
  | str z => obtain ⟨t, rfl⟩ := r; rfl
  | _ => exact absurd (show false = true from f) Bool.false_ne_true
theorem any_eqU {x : V} : ∀ {xs : List V} {us : List Value}, Vals xs us → xs.all flatV = true → us.any (eqU x) = xs.any fun y => eqV y x
  | _, _, .nil, _ => rfl
  | y :: xs, u :: us, .cons r t, f => by
    rw [List.all_cons, Bool.and_eq_true] at f
    rw [List.any_cons, List.any_cons, eqU_of r f.1, any_eqU t f.2]
theorem mem_eqAt {A : Around} {s : Shared} {x : V} {v : Value} (rx : RelV x v) (fx : flatV x = true) : ∀ {xs : List V} {us : List Value}, Vals xs us → xs.all flatV = true → ∀ u ∈ us, SeqAt.EqAt A s u v (eqU x u)
  | _, _, .nil, _ => fun u hu => by cases hu
  | y :: xs, u :: us, .cons r t, f => fun u' hu => by
    rw [List.all_cons, Bool.and_eq_true] at f
    rcases List.mem_cons.mp hu with rfl | hu
    · rw [eqU_of r f.1]; exact eqAt_V r rx f.1 fx
    · exact mem_eqAt rx fx t f.2 u' hu
def inV (x : V) (xs : List V) : Bool := xs.any fun y => eqV y x
def rIn (K : PySem.W.Frag) (neg : Bool) : R2 := fun x y H Q => ∃ p xs, y = .ref p ∧ (SqL K H p xs ∨ SqT K H p xs) ∧ flatV x = true ∧ xs.all flatV = true ∧ Q (.bl (if neg then !inV x xs else inV x xs)) H
theorem op_in_seq : OpR X (compareOp .In) (rIn X.K false) := by
  intro pins s σ H x y v u Q I rx ry h
  obtain ⟨p, xs, rfl, hq, fx, fs, q⟩ := h
  cases ry
  rcases hq with hq | hq
  · obtain ⟨its, r, pl, hz⟩ := I.list hq
    refine SeqAt.in_listAt (eqU x) pl.isList (fun w hw => mem_eqAt rx fx r fs w (by simpa using hw)) ⟨.bl _, H, I, rfl, ?_⟩
    rw [show its.toArray.any (eqU x) = its.any (eqU x) by simp, any_eqU r fs]
    exact q
  · obtain ⟨its, r, pl, hz⟩ := I.tuple hq
    refine SeqAt.in_tupleAt (eqU x) pl (fun w hw => mem_eqAt rx fx r fs w (by simpa using hw)) ⟨.bl _, H, I, rfl, ?_⟩
    rw [show its.toArray.any (eqU x) = its.any (eqU x) by simp, any_eqU r fs]
    exact q
theorem op_notIn_seq : OpR X (compareOp .NotIn) (rIn X.K true) := by
  intro pins s σ H x y v u Q I rx ry h
  obtain ⟨p, xs, rfl, hq, fx, fs, q⟩ := h
  cases ry
  rcases hq with hq | hq
  · obtain ⟨its, r, pl, hz⟩ := I.list hq
    refine SeqAt.notIn_listAt (eqU x) pl.isList (fun w hw => mem_eqAt rx fx r fs w (by simpa using hw)) ⟨.bl _, H, I, rfl, ?_⟩
    rw [show its.toArray.any (eqU x) = its.any (eqU x) by simp, any_eqU r fs]
    exact q
  · obtain ⟨its, r, pl, hz⟩ := I.tuple hq
    refine SeqAt.notIn_tupleAt (eqU x) pl (fun w hw => mem_eqAt rx fx r fs w (by simpa using hw)) ⟨.bl _, H, I, rfl, ?_⟩
    rw [show its.toArray.any (eqU x) = its.any (eqU x) by simp, any_eqU r fs]
    exact q
theorem call_len_seq : CallR X (.builtin "len") (fun xs H Q => ∃ p ys, xs = [.ref p] ∧ (SqL X.K H p ys ∨ SqT X.K H p ys) ∧ Q (.int ys.length) H) := by
  intro pins s σ H xs us Q I r h
  obtain ⟨p, ys, rfl, hq, q⟩ := h
  obtain ⟨u, rfl, rx⟩ := vals1 r
  cases rx
  have hn := line63
  rcases hq with hq | hq
  · obtain ⟨its, r', pl, hz⟩ := I.list hq
    have hlen := r'.length
    exact Calls.call_len_list pl.isList (by simp only [List.size_toArray] <;> bv_omega) ⟨.int ys.length, H, I.tok _, ⟨s.toks + 1, by rw [List.size_toArray, hlen]⟩, q⟩
  · obtain ⟨its, r', pl, hz⟩ := I.tuple hq
    have hlen := r'.length
    exact len_tuple pl (by simp only [List.size_toArray] <;> bv_omega) ⟨.int ys.length, H, I.tok _, ⟨s.toks + 1, by rw [List.size_toArray, hlen]⟩, q⟩
theorem call_tuple_of : CallR X (.type "tuple") (fun xs H Q => ∃ p ys, xs = [.ref p] ∧ ((SqL X.K H p ys ∧ ∀ l, H l = none → Q (.ref l) (upd H l (.tup ys))) ∨ (SqT X.K H p ys ∧ Q (.ref p) H))) := by
  intro pins s σ H xs us Q I r h
  obtain ⟨p, ys, rfl, h⟩ := h
  obtain ⟨u, rfl, rx⟩ := vals1 r
  cases rx
  rcases h with ⟨hq, q⟩ | ⟨hq, q⟩
  · obtain ⟨its, r', pl, hz⟩ := I.list hq
    have hlen := r'.length
    refine call_tuple_list pl.isList (fun h' kp => ?_) (by simp only [List.size_toArray] <;> bv_omega)
    have I1 : Inv X pins σ H { s with heap := h' } := I.kept (t' := s.toks) kp
    have I2 : Inv X pins σ (upd H h'.objs.size (.tup ys)) { s with heap := h'.push { cls := .type "tuple", data := .seq its.toArray } } :=
      I1.laid (t' := s.toks) (fun b o e => Heap.get?_push_of_some _ e) (Nat.le_refl _) (show ObjOk X.prog X.w _ _ _ (.tup ys) from ⟨hz, its, r', TupAt.new _ _⟩)
    exact ⟨.ref h'.objs.size, _, I2, rfl, q _ (I1.hok.fresh (Nat.le_refl _))⟩
  · obtain ⟨its, r', pl, hz⟩ := I.tuple hq
    exact call_tuple_same pl ⟨.ref p, H, I, rfl, q⟩
def tyV (K : PySem.W.Frag) (T : String) (x : V) (H : Hp) : Prop := match x with
  | .str _ => T = "str"
  | .int _ => T = "int"
  | .ref p => (T = "list" ∧ ∃ xs, SqL K H p xs) ∨ (T = "tuple" ∧ ((∃ o, K.lookup p = some o ∧ o.cls = .type "tuple" ∧ o.dict = none) ∨ ∃ xs, Rd H p (.tup xs))) ∨
      (T = "dict" ∧ ((∃ kvs, H p = some (.dK kvs)) ∨ ∃ kvs, H p = some (.dT kvs))) ∨ (T = "set" ∧ ∃ S n, H p = some (.set S n))
  | _ => False
theorem tyV_is {pins : List (Addr × Obj)} {σ : St} {H : Hp} {s : Shared} {T : String} {x : V} {v : Value} (I : Inv X pins σ H s) (r : RelV x v) (ty : tyV X.K T x H) :
    s.TypeIs v T ∧ ∀ a, v = .ref a → ∃ ob, s.heap.get? a = some ob ∧ ob.dict = none := by
  cases x with
  | str z =>
    obtain ⟨t, rfl⟩ := r
    cases (show T = "str" from ty)
    exact ⟨typeIs_str s z t, fun _ e => nomatch e⟩
  | int i =>
    obtain ⟨t, rfl⟩ := r
    cases (show T = "int" from ty)
    exact ⟨typeIs_int s i t, fun _ e => nomatch e⟩
  | ref p =>
    cases r
    rcases ty with ⟨rfl, xs, hq⟩ | ⟨rfl, ⟨o, hk, hc, hd⟩ | ⟨xs, hq⟩⟩ | ⟨rfl, hk⟩ | ⟨rfl, S, n, hk⟩
    · obtain ⟨its, _, pl, _⟩ := I.list hq
      refine ⟨pl.isList.typeIs, fun a e => ?_⟩
      cases e
      obtain ⟨o, n, e, c, hd, _⟩ := pl
      exact ⟨o, e, hd⟩
    · refine ⟨⟨o, I.kIn p o hk, hc⟩, fun a e => ?_⟩
      cases e
      exact ⟨o, I.kIn _ o hk, hd⟩
    · obtain ⟨_, its, _, o, e, c, _, hd⟩ := hq.ok I.hok
      refine ⟨⟨o, e, c⟩, fun a e2 => ?_⟩
      cases e2
      exact ⟨o, e, hd⟩
    · have z : ∃ o, s.heap.get? p = some o ∧ o.ExactDict := by
        rcases hk with ⟨kvs, hk⟩ | ⟨kvs, hk⟩
        · obtain ⟨_, _, _, _, o, _, _, e, ex, _⟩ := I.hok p _ hk
          exact ⟨o, e, ex⟩
        · obtain ⟨_, _, _, _, o, _, _, e, ex, _⟩ := I.hok p _ hk
          exact ⟨o, e, ex⟩
      obtain ⟨o, e, ex⟩ := z
      refine ⟨⟨o, e, ex.1⟩, fun a e2 => ?_⟩
      cases e2
      exact ⟨o, e, ex.2.1⟩
    · obtain ⟨o, _, _, _, e, ex, _⟩ := I.hok p _ hk
      refine ⟨⟨o, e, ex.1⟩, fun a e2 => ?_⟩
      cases e2
      exact ⟨o, e, ex.2.1⟩
  | _ => exact False.elim ty
def tBM (K : PySem.W.Frag) (T : String) (r : V → List V → Hp → VK → Prop) (to : TE) (t : TA) : TE := fun σ H Q => to σ H fun x H1 => tyV K T x H1 ∧ t σ H1 fun xs H2 => r x xs H2 Q
variable {o e : Expr} {es : List Expr} {to : TE} {t : TA} {name : Str} {apos cpos : Pos} {T id : String} {r : V → List V → Hp → VK → Prop}
theorem pe_bm (pa : PlainAttrs T) (slot : Slot T name id) (hty : typeOf (.builtin id) = pure (.type "method_descriptor")) (hm : MtR X id r) (ho : PE X o to) (ha : PA X (e :: es) t)
    (hbase : autoParam (attributeBase o name X.env (eval o X.env) = eval o X.env) zX._auto_1)
    (hfew : ((backTo cpos (starEach (e :: es) X.env)).all (fun x => !x.1) && (backToKw cpos (keywordEach [] X.env)).all (fun x => x.1.isSome)
      && decide ((e :: es).length + ([] : List Keyword).length + (if ([] : List Keyword).isEmpty then 0 else 1) < 30)) = true := by rfl)
    (hline : autoParam ((apos.endLine == cpos.line) = true) zX._auto_1) (hs : autoParam (starEach (e :: es) X.env = (false, eval e X.env) :: starEach es X.env) zX._auto_1) (hplain : autoParam ((backTo cpos (starEach es X.env)).any (·.1) = false) zX._auto_1) :
    PE X (.Call (.Attribute o name apos) (e :: es) [] cpos) (tBM X.K T r to t) := by
  intro pins s σ H Q I h
  refine wpAny_Call_method_late hbase hfew hline rfl (thn (ho pins s σ H _ I h) fun v s1 ⟨x, H1, I1, r1, ty, q1⟩ => ?_)
  obtain ⟨h1, h2⟩ := tyV_is I1 r1 ty
  refine ⟨T, id, pa, slot, hty, h1, h2, ?_⟩
  have hA := ha cpos pins s1 σ H1 _ I1 q1
  rw [hs] at hA ⊢
  refine Calls.callWith_builtin (by show (false || (backTo cpos (starEach es X.env)).any (·.1)) = false; rw [hplain] <;> rfl) (Calls.evalArgs_plain ?_)
  exact thn hA fun us s2 ⟨vs, H2, I2, r2, q2⟩ => hm pins s2 σ H2 x vs v us Q I2 r1 r2 q2
end
end L2
namespace L2
open PySem PySem.Spec PyProof.Rows
def MtM (X : Cx) (id : String) (r : V → List V → Hp → VK → Prop) : Prop :=
  ∀ (pins : List (Addr × Obj)) (s : Shared) (σ : St) (H : Hp) (x : V) (xs : List V) (v : Value) (us : List Value) (Q : VK), Inv X pins σ H s → RelV x v → Vals xs us → r x xs H Q →
    wpAny (model X.prog X.w) X.A (call (.builtin id) (v :: us)) (EP X pins σ Q) X.xe s
theorem Vals.one : ∀ {x : V} {us : List Value}, Vals [x] us → ∃ u, us = [u] ∧ RelV x u
  | _, _, .cons r .nil => ⟨_, rfl, r⟩
theorem Vals.rep {xs : List V} {us : List Value} (h : Vals xs us) : ∀ k : Nat, Vals (List.replicate k xs).flatten (List.replicate k us).flatten
  | 0 => .nil
  | k + 1 => by
    rw [List.replicate_succ, List.replicate_succ, List.flatten_cons, List.flatten_cons]
    exact Vals.append h (Vals.rep h k)
theorem foldl_rep (its : List Value) : ∀ (k : Nat) (acc : List Value),
    List.foldl (fun x1 x2 => x1 ++ x2) acc.toArray (List.replicate k its.toArray) = (acc ++ (List.replicate k its).flatten).toArray
  | 0, acc => by simp
  | k + 1, acc => by
    have e : acc.toArray ++ its.toArray = (acc ++ its).toArray := by simp
    have e2 : (acc ++ its) ++ (List.replicate k its).flatten = acc ++ (List.replicate (k + 1) its).flatten := by
      rw [List.replicate_succ, List.flatten_cons, List.append_assoc]
    rw [← e2, ← foldl_rep its k (acc ++ its), ← e, List.replicate_succ, List.foldl_cons]
section
variable {X : Cx} {pins : List (Addr × Obj)} {σ : St} {H : Hp} {s : Shared} {l b : Addr} {xs ys zs : List V}
theorem Inv.lset {its its' : List Value} {n : Nat} {f : Array Value → Array Value} {t' : Nat} (I : Inv X pins σ H s) (hH : H l = some (.lst xs))
    (e : s.heap.get? l = some { cls := .type "list", data := .seq its.toArray n }) (hf : f its.toArray = its'.toArray) (hv : Vals ys its') (hz : ys.length ≤ sizeLine) :
    Inv X pins σ (upd H l (.lst ys)) { s with heap := s.heap.update l (Obj.mapSeq f), toks := t' } := by
  have q := PySem.IsL.update e f
  rw [hf] at q
  refine I.write (x := l) (e := l) (by rw [hH]; exact trivial) (.inl rfl) (fun b' u hb hu => (Heap.get?_update_other s.heap (Obj.mapSeq f) (Ne.symm hb)).trans hu) ⟨_, q⟩ ?_
  exact ⟨hz, its', _, hv, q⟩
theorem Inv.lnew {its : List Value} {t' : Nat} (I : Inv X pins σ H s) (hv : Vals ys its) (hz : ys.length ≤ sizeLine) :
    Inv X pins σ (upd H s.heap.objs.size (.lst ys)) { s with heap := s.heap.push { cls := .type "list", data := .seq its.toArray }, toks := t' } :=
  I.laid (fun _ _ q => Heap.get?_push_of_some _ q) (Nat.le_refl _) ⟨hz, its, 0, hv, Heap.get?_push_size _ rfl⟩
theorem Inv.fresh (I : Inv X pins σ H s) : H s.heap.objs.size = none := I.hok.fresh (Nat.le_refl _)
theorem Inv.lstM (I : Inv X pins σ H s) (hH : H l = some (.lst xs)) : xs.length ≤ sizeLine ∧ ∃ (its : List Value) (n : Nat), Vals xs its ∧ xs.length = its.length ∧ s.heap.get? l = some { cls := .type "list", data := .seq its.toArray n } := by
  obtain ⟨z, its, n, r, e⟩ := I.hok l _ hH
  exact ⟨z, its, n, r, r.length, e⟩
theorem notLongL {n : Nat} (h : n ≤ sizeLine) : Builtin.List.listTooLong n = false := by
  unfold Builtin.List.listTooLong
  exact decide_eq_false (by bv_omega)
end
section
variable {X : Cx}
def rAppend : V → List V → Hp → VK → Prop := fun x vs H Q => ∃ l xs y, x = .ref l ∧ vs = [y] ∧ H l = some (.lst xs) ∧ xs.length < sizeLine ∧ Q .non (upd H l (.lst (xs ++ [y])))
theorem mt_append : MtM X "list.append" rAppend := by
  intro pins s σ H x vs v us Q I rx rv h
  obtain ⟨l, xs, y, rfl, rfl, hH, hz, q⟩ := h
  cases rx
  obtain ⟨u, rfl, ru⟩ := rv.one
  obtain ⟨z, its, n, r, hl, e⟩ := I.lstM hH
  refine call_meets F.slot_list_append ⟨_, e, rfl⟩ F.entry_list_append (F.args_list_append_2 _ _) (PySem.list_append l its.toArray n u (by rw [List.size_toArray]; bv_omega)) ⟨e, ?_⟩
  refine ⟨.non, _, I.lset (its' := its ++ [u]) hH e (by simp) (r.append (.cons ru .nil)) ?_, rfl, q⟩
  rw [List.length_append, List.length_singleton]
  bv_omega
theorem len_rep {α : Type} (xs : List α) (k : Nat) : (List.replicate k xs).flatten.length = k * xs.length := by
  induction k with
  | zero => simp
  | succ k ih => rw [List.replicate_succ, List.flatten_cons, List.length_append, ih, Nat.succ_mul, Nat.add_comm]
end
section
variable {prog : Program} {w : World} {A : Around} {E : Value → Shared → Prop} {s : Shared}
end
section
variable {X : Cx}
end
end L2
namespace Att
open PySem PySem.W PySem.Calls PyProof.Rows
theorem ints_of_wellAll {P : Params} {h : Heap} : ∀ (ns : List Int) (vs : List Value), WellAll P h vs (ns.map WData.int) → IntsAre vs ns := by
  intro ns
  induction ns with
  | nil =>
    intro vs w
    rw [List.map_nil] at w
    cases w
    exact .nil
  | cons n ns ih =>
    intro vs w
    rw [List.map_cons] at w
    cases w with
    | cons a b =>
      cases a
      exact .cons _ _ (ih _ b)
theorem script_of {l : OpenLaw} {n : Nat} (hn : l.most = some n) {P : Params} {h : Heap} {args : List WData} {vals : List Value}
    (hpre : l.row.toRowW.claim.pre args = true) (hwl : WellAll P h vals args) :
    ∃ a vs ns, vals = [Value.ref a] ∧ args = [WData.list (ns.map WData.int)] ∧ h.get? a = some { cls := .type "list", data := .seq vs.toArray } ∧ IntsAre vs ns ∧ ns.length ≤ n := by
  have hsh : WShape.hasAll [] args [.list .int] = true := (pre_splitW hpre).1
  have hc : l.pre.holds [] { args := args } = true := (pre_splitW hpre).2
  obtain ⟨d, r, rfl, h1, h2⟩ := hasAllW_cons hsh
  obtain rfl := hasAllW_nil h2
  obtain ⟨xs, rfl, h3⟩ := hasW_list h1
  obtain ⟨ns, rfl⟩ := items_int h3
  have hlen : ns.length ≤ n := by
    unfold OpenLaw.pre at hc
    have h4 : (WTm.not (.lt (.lit (.int (n : Int))) (.len (.arg 0)))).holds [] { args := [.list (ns.map .int)] } = true := by
      have h4 := (holds_andW hc).1
      rw [hn] at h4
      exact h4
    have h5 := condW_of h4 (w_not (w_lt w_lit (w_len_list (w_arg rfl))))
    rw [List.length_map] at h5
    refine Nat.le_of_not_lt fun q => ?_
    have q' : (n : Int) < ((ns.length : Nat) : Int) := by bv_omega
    first
      | (rw [decide_eq_true q'] at h5; exact absurd h5 (by decide))
      | (simp at h5; bv_omega)
  cases hwl with
  | cons w1 w2 =>
    cases w2
    cases w1 with
    | list ho hall => exact ⟨_, _, ns, rfl, rfl, ho, ints_of_wellAll ns _ hall, hlen⟩
theorem post_true (l : OpenLaw) (args : List WData) : l.row.toRowW.claim.post args (.bool true) args = true :=
  postW_of (r := l.row.toRowW) (X := (true == true))
    (show WShape.has [] (.bool true) .bool = true by first | rfl | decide | simp [WShape.has, WShape.arms, WShape.armsAll])
    (show (WTm.eq .res (.lit (.bool true))).value [] { args := args, res := some (.bool true), after := args } = some (.bool (true == true)) from w_eq_bool (w_res rfl) w_lit) rfl
theorem attach_call {l : OpenLaw} {n : Nat} {q : Program} {loose : List Str} {XP : (Str → Option Value) → Heap → Prop} {YP : World → Heap → Prop} {d : DefRec}
    (hn : l.most = some n) (hdf : d.params.defaults = [])
    (call : ∀ (w : World) (s₀ s₁ : Shared) (mg mb : Str → Option Value) (fa : Addr) (o : Obj) (pm cd doc : Value) (a : Addr) (vs : List Value) (ns : List Int),
      Ground q loose [] XP w s₀ mg mb s₁.heap → YP w s₁.heap →
      s₁.heap.get? fa = some o → o.data = .func (docDef d.name d.params d.body d.scope pm cd doc) → s₁.heap.CodeRec cd d.name → mg d.name = some (.ref fa) →
      s₁.heap.get? a = some { cls := .type "list", data := .seq vs.toArray } → IntsAre vs ns → ns.length ≤ n → s₁.gens = #[] →
      codeAny (model l.prog w) callerA (.call (.ref fa) ⟨[.ref a], []⟩) (fun r s' => r = .ok (.ret (.bool true)) ∧ OldK s₁.heap s'.heap ∧ s'.os = s₁.os ∧ AllBare s'.gens) s₁) :
    WalkO q loose XP YP l.row.toRowW d [] (fun f vs => PySem.call f vs) := by
  intro w s₀ s₁ mg mb G Y fa o pm cd doc dV kV ho hd hcd hD hmg hg args vals as hpre hlay hrd hwl hlo
  obtain rfl : dV = .none := Dflts.none hD hdf
  obtain rfl : kV = .none := Dflts.noKw hD
  obtain ⟨a, vs, ns, rfl, rfl, hobj, hints, hlen⟩ := script_of hn hpre hwl
  refine enter_call (codeAny_mono (call w s₀ s₁ mg mb fa o pm cd doc a vs ns G Y ho (fd_plain hd) hcd hmg hobj hints hlen hg) fun r s' hq => ?_)
  obtain ⟨rfl, h2, h3, h4⟩ := hq
  exact ⟨.inl ⟨.bool true, .bool true, [], rfl, fun _ => rfl, .bool true, post_true l _, fun _ => ⟨List.Pairwise.nil, fun _ hm => (nomatch hm)⟩⟩, h2, h3, h4⟩
section
variable {prog : Program} {w : World} {A : Around} {E : Value → Shared → Prop} {s : Shared} {K : Frag}
end
end Att
namespace L2
open PySem PySem.Spec PyProof.Rows
theorem vals_ints : ∀ {vs : List Value} {ns : List Int}, IntsAre vs ns → Vals (ns.map V.int) vs
  | _, _, .nil => .nil
  | _, _, .cons n t h => .cons ⟨t, rfl⟩ (vals_ints h)
def Only (H : Hp) : Prop := ∀ b, H b = none ∨ ∃ o xs, H b = some (.frz o (.lst xs))
theorem law_call {P : Program} {w : World} {K : PySem.W.Frag} {mg mb : Str → Option Value} {CX : CXT} {k : Nat} {fa a : Addr} {fd : FuncData} {x : Str} {sp : Sp} {s₁ : Shared} {vs : List Value} {ns : List Int}
    (KX : K.In s₁.heap) (hns : s₁.heap.Ns mainGlobals mg) (hb : s₁.heap.Ns builtinsNs mb) (hbb : ∀ x : Str, x ≠ "__name__" → mb x = bootBuiltins x) (hlim : s₁.heap.NoLimit) (hg : s₁.gens = #[])
    (ha : s₁.heap.get? a = some { cls := .type "list", data := .seq vs.toArray }) (hi : IntsAre vs ns) (hl : ns.length ≤ sizeLine) (hr : Room k callerA)
    (F : ∀ base : Heap, K.In base → base.Ns mainGlobals mg → FnOk P w K mg base CX k fa fd [x] sp) (hbind : ∀ (s : Shared) (u : Value), BindsTo s fd ⟨[u], []⟩ [(x, u)])
    (hsp : ∀ H : Hp, Only H → SqL K H a (ns.map V.int) → sp [.ref a] H (fun v _ => v = .bl true) fun _ _ _ => False)
    (hCX : ∀ H e s', CX [] H s₁ (fun _ _ _ => False) e s' → False) :
    codeAny (model P w) callerA (.call (.ref fa) ⟨[.ref a], []⟩) (fun r s' => r = .ok (.ret (.bool true)) ∧ OldK s₁.heap s'.heap ∧ s'.os = s₁.os ∧ AllBare s'.gens) s₁ := by
  have rv := vals_ints hi
  have lenV := hi.length
  have core : ∀ H : Hp, Only H → SqL K H a (ns.map V.int) → HOk P w H s₁.heap → (∀ b, H b ≠ none → b = a) → (H a ≠ none → K.lookup a = none) →
      codeAny (model P w) callerA (.call (.ref fa) ⟨[.ref a], []⟩) (fun r s' => r = .ok (.ret (.bool true)) ∧ OldK s₁.heap s'.heap ∧ s'.os = s₁.os ∧ AllBare s'.gens) s₁ := by
    intro H hO hS hok hA hK
    have base_of : ∀ {b : Addr} {o : Obj}, s₁.heap.get? b = some o → H b = none → (hidT s₁.heap H).get? b = some o := fun e n => hidT_get e n
    have noA : ∀ {b : Addr} {o : Obj} {es : Array DictEntry} {ep : Nat}, s₁.heap.get? b = some o → o.data = .dict es ep → H b = none := fun {b o es ep} e d => by
      cases q : H b with
      | none => rfl
      | some u =>
        have e' : b = a := hA b (by rw [q]; simp)
        subst e'
        rw [ha] at e; cases e
        have d' : Data.seq vs.toArray _ = Data.dict es ep := d
        cases d'
    have nsK : ∀ {b : Addr} {m : Str → Option Value}, s₁.heap.Ns b m → (hidT s₁.heap H).Ns b m := fun {b m} ⟨o, es, ep, e, d, r⟩ => ⟨o, es, ep, base_of e (noA e d), d, r⟩
    have hKb : K.In (hidT s₁.heap H) := fun b o e => base_of (KX b o e) (by
      cases q : H b with
      | none => rfl
      | some u =>
        have e' : b = a := hA b (by rw [q]; simp)
        subst e'
        rw [hK (by rw [q]; simp)] at e; cases e)
    have hM : Mod K mg (hidT s₁.heap H) := ⟨hKb, nsK hns, ⟨mb, nsK hb, hbb⟩, let ⟨mc, h1, h2⟩ := hlim; ⟨mc, nsK h1, h2⟩⟩
    have e0 : Env0 P w K mg (hidT s₁.heap H) callerA [] s₁ H := ⟨rfl, hM, fun b o e => of_hidT e, Nat.le_of_eq (hidT_size _ _), trivial, fun b hb => absurd (show b ∈ ([] : List Addr) from hb) (by simp), hok, .of_eq hg⟩
    refine codeAny_mono ((F _ hKb (nsK hns)).run callerA [] s₁ H ⟨[.ref a], []⟩ [.ref a] [.ref a] _ _ hr e0 (hbind s₁ (.ref a)) (.cons rfl .nil) (hsp H hO hS)) fun r s' h => ?_
    cases r with
    | error e => exact (hCX H e s' h).elim
    | ok fl =>
      cases fl with
      | next => exact False.elim h
      | brk => exact False.elim h
      | cont => exact False.elim h
      | ret u =>
        obtain ⟨v, H', os, bare, un, hok', r', q⟩ := h
        have q' : v = .bl true := q
        subst q'
        obtain rfl : u = Value.bool true := r'
        refine ⟨rfl, OldK.of_keep fun b o e => ?_, os, bare⟩
        cases q : H b with
        | none => exact un.keep b o e q (by intro z; exact absurd (show b ∈ ([] : List Addr) from z) (by simp)) (by simp)
        | some u =>
          rcases hO b with z | ⟨ob, xs, z⟩
          · rw [q] at z; cases z
          · have z2 := un.frzs b ob _ z
            obtain ⟨e1, _⟩ := hok b _ z
            obtain ⟨e2, _⟩ := hok' b _ z2
            rw [e] at e1; cases e1
            exact e2
  cases hk : K.lookup a with
  | some o =>
    have e := KX a o hk
    rw [ha] at e
    cases e
    refine core (fun _ => none) (fun _ => .inl rfl) (.inr ⟨_, vs.toArray, _, hk, rfl, rfl, rfl, by rw [List.size_toArray, lenV]; exact hl, by simpa using rv⟩) (fun b u z => by have z' : (none : Option HO) = some u := z; cases z') (fun b z => absurd rfl z) fun z => absurd rfl z
  | none =>
    refine core (fun b => if b = a then some (.frz { cls := .type "list", data := .seq vs.toArray } (.lst (ns.map V.int))) else none) (fun b => ?_) (.inl (.inr ⟨{ cls := .type "list", data := .seq vs.toArray }, if_pos rfl⟩)) (fun b u z => ?_) (fun b z => ?_) fun _ => hk
    · by_cases hb : b = a
      · exact .inr ⟨_, _, if_pos hb⟩
      · exact .inl (if_neg hb)
    · by_cases hb : b = a
      · have z' := (if_pos hb).symm.trans z
        cases z'
        subst hb
        exact ⟨ha, by rw [List.length_map]; exact hl, vs, _, rv, ha⟩
      · have z' := (if_neg hb).symm.trans z
        cases z'
    · by_cases hb : b = a
      · exact hb
      · exact absurd (if_neg hb) z
end L2
namespace L2
open PySem PySem.Spec PyProof.Rows
abbrev KOf {K : PySem.W.Frag} {h : Heap} (_ : K.In h) : PySem.W.Frag := K
theorem walk_of {l : PySem.W.OpenLaw} {n k : Nat} {q : Program} {loose : List Str} {XP : (Str → Option Value) → Heap → Prop} {YP : World → Heap → Prop} {d : DefRec} {K : Params → PySem.W.Frag} {CX : World → CXT} {sp : World → Sp} {x : Str}
    (hn : l.most = some n) (hn2 : n ≤ sizeLine) (hdf : d.params.defaults = []) (hr : Room k callerA)
    (hY : ∀ (w : World) (h : Heap), YP w h → (K w.params).In h)
    (F : ∀ (w : World) (mg : Str → Option Value) (fa : Addr) (h : Heap), (K w.params).In h → h.Ns mainGlobals mg → mg d.name = some (.ref fa) →
      ∃ fd : FuncData, (∀ (s : Shared) (u : Value), BindsTo s fd ⟨[u], []⟩ [(x, u)]) ∧
        ∀ base : Heap, (K w.params).In base → base.Ns mainGlobals mg → FnOk l.prog w (K w.params) mg base (CX w) k fa fd [x] (sp w))
    (hsp : ∀ (w : World) (H : Hp) (a : Addr) (ns : List Int), ns.length ≤ n → Only H → SqL (K w.params) H a (ns.map V.int) → sp w [.ref a] H (fun v _ => v = .bl true) fun _ _ _ => False)
    (hCX : ∀ (w : World) (H : Hp) (s : Shared) (e : Value) (s' : Shared), CX w [] H s (fun _ _ _ => False) e s' → False) :
    PySem.W.WalkO q loose XP YP l.row.toRowW d [] (fun f vs => PySem.call f vs) := by
  refine Att.attach_call hn hdf fun w s₀ s₁ mg mb fa o pm cd doc a vs ns G Y ho hd hcd hmg hobj hints hlen hg => ?_
  have KX := hY w _ Y
  obtain ⟨fd, hb, hF⟩ := F w mg fa _ KX G.T.g hmg
  exact law_call KX G.T.g G.T.b G.T.builtins G.T.nolimit hg hobj hints (Nat.le_trans hlen hn2) hr hF hb (fun H hO hS => hsp w H a ns hlen hO hS) fun H e s' => hCX w H s₁ e s'
end L2
namespace L2
open PySem PySem.Spec PyProof.Rows
def defArgs (s : Stmt) : Arguments := match s with
  | .FunctionDef _ a _ _ _ _ _ _ _ _ => a
  | _ => { posonlyargs := [], args := [], vararg := none, kwonlyargs := [], kw_defaults := [], kwarg := none, defaults := [] }
def defBody (s : Stmt) : List Stmt := match s with
  | .FunctionDef _ _ b _ _ _ _ _ _ _ => b
  | _ => []
def zS (s : Stmt) : Scope := match s with
  | .FunctionDef _ _ _ _ _ _ sc _ _ _ => sc
  | _ => { kind := .function, names := [], isGenerator := false, isCoroutine := false }
abbrev CX0 : CXT := fun _ _ _ _ _ _ => False
abbrev E0 : XK := fun _ _ _ => False
theorem pass0 {X : Cx} : Passes CX0 X E0 := fun _ _ _ _ _ _ _ h => h.elim
structure Fun (K : PySem.W.Frag) (x qual : Str) (st : Stmt) (f : Addr) (fd : FuncData) : Prop where
  ex : ∃ (oc : Value) (od : Option Addr) (kV doc pm : Value) (an : Option Addr) (cdv ct : Value) (osl : Array (Option Value)),
    fd = PySem.W.fnOf x qual (defArgs st) (defBody st) (zS st) .none kV doc pm an cdv ct ∧ K.lookup f = some ⟨oc, od, .func fd, osl⟩ ∧ PySem.W.codeIn K cdv qual = true
  kp : PySem.W.keepIn K (.ref f) = true
section
variable {P : Program} {w : World} {K : PySem.W.Frag} {mg : Str → Option Value} {base : Heap}
theorem Fun.ok {x qual : Str} {st : Stmt} {f : Addr} {fd : FuncData} {N ps : List Str} {k : Nat} {sp : Sp} (F : Fun K x qual st f fd) (S : vW N ps (zS st)) (len : ∀ vs H Q E, sp vs H Q E → vs.length = ps.length)
    (hbody : ∀ (cdv : Value) (A : Around) (outer : List Env) (s : Shared) (H : Hp) (vs : List V) (Q : VK) (E : XK), Room k (A.deeper (envOfC qual (zS st) s.heap.objs.size f cdv)) → sp vs H Q E →
      ∃ t, PSs (cxOf CX0 P w K mg base N qual (zS st) f cdv A outer s H E).nox (defBody st) t ∧ t { nx := fun _ H' => Q .non H', rt := Q } (start N vs) H) : FnOk P w K mg base CX0 (k + 1) f fd ps sp := by
  obtain ⟨oc, od, kV, doc, pm, an, cdv, ct, osl, rfl, lk, hcd⟩ := F.ex
  refine fn_of lk hcd S len fun A outer s H vs Q E hr hsp => ?_
  obtain ⟨t, h, q⟩ := hbody cdv A outer s H vs Q E hr hsp
  exact ⟨t, h.nox, q⟩
theorem Fun.binds {x qual : Str} {st : Stmt} {f : Addr} {fd : FuncData} {ps : List Str} (F : Fun K x qual st f fd)
    (h : ∀ (kV doc pm : Value) (an : Option Addr) (cdv ct : Value) (us : List Value), us.length = ps.length → bindArgs (PySem.W.fnOf x qual (defArgs st) (defBody st) (zS st) .none kV doc pm an cdv ct) ⟨us, []⟩ = pure (ps.zip us)) : Binds K fd ps [] := by
  obtain ⟨oc, od, kV, doc, pm, an, cdv, ct, osl, rfl, lk, hcd⟩ := F.ex
  exact .all (h kV doc pm an cdv ct)
theorem fun_mk {x qual : Str} {st : Stmt} {f : Addr} {oc : Value} {od an : Option Addr} {osl : Array (Option Value)} {kV doc pm cdv ct : Value} (l : K.lookup f = some ⟨oc, od, .func (PySem.W.fnOf x qual (defArgs st) (defBody st) (zS st) .none kV doc pm an cdv ct), osl⟩)
    (c : PySem.W.codeIn K cdv qual = true) (k : PySem.W.keepIn K (.ref f) = true) : Fun K x qual st f (PySem.W.fnOf x qual (defArgs st) (defBody st) (zS st) .none kV doc pm an cdv ct) := ⟨⟨oc, od, kV, doc, pm, an, cdv, ct, osl, rfl, l, c⟩, k⟩
end
theorem small1000 {n : Nat} (h : n ≤ 1000) : n < sizeLine := Nat.lt_of_le_of_lt h (by decide)
section
variable {X : Cx}
theorem pv (i : Nat) {x : Str} {pos : Pos} (hN : autoParam (X.N[i]? = some x) zX._auto_1) (hv : autoParam (Vis X.env.scope x) autoK8._auto_1) (hd : autoParam ((x == ("__debug__" : Str)) = false) vY._auto_1)
    (hcd : autoParam ((x == ("__classdict__" : Str)) = false) vY._auto_1) : PE X (.Name x pos) (tVar i) := pe_var hN hv hd hcd
end
theorem iteF {A B : Prop} (h : B) : if false = true then A else B := by
  rw [if_neg Bool.false_ne_true]
  exact h
theorem iteT {A B : Prop} (h : A) : if true = true then A else B := by
  rw [if_pos rfl]
  exact h
def Same (H H' : Hp) : Prop := ∀ b o, H b = some o → H' b = some o
theorem Same.refl (H : Hp) : Same H H := fun _ _ h => h
theorem Same.trans {H H1 H2 : Hp} (a : Same H H1) (b : Same H1 H2) : Same H H2 := fun c o h => b c o (a c o h)
theorem Same.free {H H' : Hp} (e : Same H H') {l : Addr} (h : H' l = Option.none) : H l = Option.none := by
  cases q : H l with
  | none => rfl
  | some o =>
    rw [e l o q] at h
    cases h
end L2
set_option maxHeartbeats 2000000
namespace PySem
section
variable {prog : Program} {w : World} {A : Around} {E : Value → Shared → Prop} {s : Shared}
theorem walk_list {l : Addr} {its : Array Value} {P : Value → Shared → Prop} (hh : A.handled = none) (hl : s.heap.IsList l its)
    (k : ∀ (I : Addr) (hp : Heap) (St : Nat → Heap → Prop), Walks prog w A I [I, l] [I] its.size (fun i v => its[i]? = some v) St → St 0 hp → I < hp.objs.size → l < hp.objs.size → (∀ b o, s.heap.get? b = some o → b ≠ I ∧ hp.get? b = some o) → P (.ref I) { s with heap := hp }) :
    wpAny (model prog w) A (pyIter (.ref l)) P E s := by
  have on : ∀ {b : Addr} {o : Obj}, s.heap.get? b = some o → b < s.heap.objs.size := fun g => Heap.lt_size g
  have ll : l < s.heap.objs.size := let ⟨_, g, _⟩ := hl; on g
  refine wpAny_pyIter_list hl (k _ _ _ (Walks.list hh _ l (Nat.ne_of_lt ll) its) ⟨⟨_, Heap.get?_push_size _ rfl, rfl, rfl⟩, hl.at fun _ g => Heap.get?_push_of_some _ g⟩ ?_ ?_ fun b o g => ⟨Nat.ne_of_lt (on g), Heap.get?_push_of_some _ g⟩)
  · exact Nat.lt_of_lt_of_eq (Nat.lt_succ_self _) (Heap.size_push ..).symm
  · exact Nat.lt_of_lt_of_eq (Nat.lt_succ_of_lt ll) (Heap.size_push ..).symm
theorem walk_tup {l : Addr} {its : Array Value} {P : Value → Shared → Prop} (hh : A.handled = none) (hl : s.heap.IsTuple l its)
    (k : ∀ (I : Addr) (hp : Heap) (St : Nat → Heap → Prop), Walks prog w A I [I, l] [I] its.size (fun i v => its[i]? = some v) St → St 0 hp → I < hp.objs.size → l < hp.objs.size → (∀ b o, s.heap.get? b = some o → b ≠ I ∧ hp.get? b = some o) → P (.ref I) { s with heap := hp }) :
    wpAny (model prog w) A (pyIter (.ref l)) P E s := by
  have on : ∀ {b : Addr} {o : Obj}, s.heap.get? b = some o → b < s.heap.objs.size := fun g => Heap.lt_size g
  have ll : l < s.heap.objs.size := let ⟨_, g, _⟩ := hl; on g
  refine wpAny_pyIter_tuple hl (k _ _ _ (Walks.tuple hh _ l (Nat.ne_of_lt ll) its) ⟨⟨_, Heap.get?_push_size _ rfl, rfl, rfl⟩, hl.at fun _ g => Heap.get?_push_of_some _ g⟩ ?_ ?_ fun b o g => ⟨Nat.ne_of_lt (on g), Heap.get?_push_of_some _ g⟩)
  · exact Nat.lt_of_lt_of_eq (Nat.lt_succ_self _) (Heap.size_push ..).symm
  · exact Nat.lt_of_lt_of_eq (Nat.lt_succ_of_lt ll) (Heap.size_push ..).symm
theorem ext_tup {l b : Addr} {xs ys : Array Value} {n m : Nat} {o : Obj} (hc : o.cls = .type "tuple") (hd : o.data = .seq ys m) (fit : xs.size + ys.size ≤ sizeLine) :
    Meets (Builtin.«list.extend» ⟨[.ref l, .ref b], []⟩) (fun _ R x => x.heap.get? l = some { cls := .type "list", data := .seq xs n } ∧ x.heap.get? b = some o ∧ R (.ok (.ret .none)) { x with heap := x.heap.update l (Obj.mapSeq (· ++ ys)) }) :=
  .of_wp fun prog w A R x ⟨hl, hb, k⟩ => by
    have t : x.TypeIs (.ref b) "tuple" := ⟨o, hb, hc⟩
    have e1 : Builtin.List.listTooLong (xs.size + ys.size) = false := by
      unfold Builtin.List.listTooLong
      simpa using fit
    have e2 : (xs ++ ys).size ≤ sizeLine + 1 := by rw [Array.size_append]; bv_omega
    have e3 : xs.size ≤ sizeLine := by bv_omega
    wp_walk using wpAny_typeOf t, wpAny_seqItems hl rfl, wpAny_seqItems hb hd, wpAny_updateSeq hl rfl
    exact ⟨_, rfl, k⟩
theorem tup_next {it : Addr} {P : Value → Shared → Prop} (ty : s.TypeIs (.ref it) "tuple_iterator")
    (k : wpAny (model prog w) A.in1 (Builtin.«tuple_iterator.__next__» ⟨[.ref it], []⟩) (fun f x => ∃ v, f = .done (.ret v) ∧ P v x) E s) : wpAny (model prog w) A (Builtin.SmallTypes.nextOf (.ref it)) P E s := by
  have sl := F.slot_tuple_iterator_next
  have en := F.entry_tuple_iterator_next
  have ok := F.args_tuple_iterator_next_1 (.ref it)
  have c : wpAny (model prog w) A (call (.builtin "tuple_iterator.__next__") [.ref it]) P E s := wpAny_call_entry sl ty en k ok
  unfold Builtin.SmallTypes.nextOf
  exact wpAny_bind (wpAny_callSpecial?_slot ty sl (wpAny_mono c (fun v x z => wpAny_pure z) fun _ _ z => z))
section
variable {it t : Addr} {i : Nat} {its : Array Value}
theorem tup_item {v : Value} {P : Value → Shared → Prop} (hI : s.heap.IsTupleIter it t i) (hT : s.heap.IsTuple t its) (at_ : its[i]? = some v)
    (k : ∀ h', h'.IsTupleIter it t (i + 1) → Heap.SameBut it s.heap h' → P v { s with heap := h' }) : wpAny (model prog w) A (Builtin.SmallTypes.nextOf (.ref it)) P E s := by
  refine tup_next hI.typeIs ?_
  obtain ⟨o, a1, a2, a3⟩ := hI
  obtain ⟨ot, b1, b2, n, b3⟩ := hT
  have f0 : ∀ (P : Value → Shared → Prop) (E' : Value → Shared → Prop), P (.ref t) s → wpAny (model prog w) A.in1 (field (.ref it) 0) P E' s := fun P E' p => wpAny_field a1 a3 rfl p
  have f1 : ∀ (P : Value → Shared → Prop) (E' : Value → Shared → Prop), P (.int i 0) s → wpAny (model prog w) A.in1 (field (.ref it) 1) P E' s := fun P E' p => wpAny_field a1 a3 rfl p
  have at' : its[(i : Int).toNat]? = some v := at_
  wp_walk using f0, f1, wpAny_seqItems b1 b3, wpAny_setField a1 a3
  rw [at']
  refine wpAny_bind (wpAny_setField a1 a3 (by simp) (wpAny_pure ⟨v, rfl, k _ ⟨_, Heap.get?_update_self _ a1 ?_, ?_, ?_⟩ (Heap.SameBut.update ..)⟩))
  · exact Obj.isFreed_of_fields (Obj.data_mapFields a3 _)
  · rw [Obj.cls_mapFields, a2]
  · rw [Obj.data_mapFields a3]; rfl
theorem tup_end {P : Value → Shared → Prop} (hA : A.handled = none) (hI : s.heap.IsTupleIter it t i) (hT : s.heap.IsTuple t its) (at_ : its[i]? = none)
    (k : ∀ h' e, Heap.ExtBut it s.heap h' → (∃ o, h'.get? e = some o ∧ o.cls = .type "StopIteration") → E (.ref e) { s with heap := h' }) : wpAny (model prog w) A (Builtin.SmallTypes.nextOf (.ref it)) P E s := by
  refine tup_next hI.typeIs ?_
  obtain ⟨o, a1, a2, a3⟩ := hI
  obtain ⟨ot, b1, b2, n, b3⟩ := hT
  have f0 : ∀ (P : Value → Shared → Prop) (E' : Value → Shared → Prop), P (.ref t) s → wpAny (model prog w) A.in1 (field (.ref it) 0) P E' s := fun P E' p => wpAny_field a1 a3 rfl p
  have f1 : ∀ (P : Value → Shared → Prop) (E' : Value → Shared → Prop), P (.int i 0) s → wpAny (model prog w) A.in1 (field (.ref it) 1) P E' s := fun P E' p => wpAny_field a1 a3 rfl p
  have at' : its[(i : Int).toNat]? = none := at_
  have hA' : A.in1.handled = none := hA
  wp_walk using f0, f1, wpAny_seqItems b1 b3, wpAny_setField a1 a3, wpAny_raiseNew_none hA'
  rw [at']
  refine wpAny_bind (wpAny_rule (wpAny_bind (wpAny_setField a1 a3 (by simp) ?_)))
  unfold Builtin.SmallTypes.stopIteration
  wp_walk using wpAny_raiseNew_none hA'
  exact k _ _ (((Heap.SameBut.update ..).extBut.push _).push _) ⟨_, Heap.get?_push_size _ rfl, rfl⟩
end
theorem block_new {M : Model} {scope : Scope} {g bi : Addr} {cl : List (Str × Addr)} {qual : Str} {cd : Value} {outer : Env} {P : Value → Env → Shared → Prop} (nocell : ∀ y ∈ scope.names, y.2 ≠ .cell) (kind : scope.kind = .function)
    (k : ∀ (D C : Addr) (hp : Heap) (m : Str → Option Value), s.heap.objs.size ≤ D → s.heap.objs.size ≤ C → D ≠ C → (∀ b o, s.heap.get? b = some o → hp.get? b = some o) → hp.get? D = some { cls := .type "list", data := .seq #[] } → hp.Ns C m → P (.ref D) (newEnv scope C g cl qual none cd (some outer) bi) { s with heap := hp }) :
    wpAny M A (newList []) (fun acc x => wpAny M A (newFunctionEnv scope g cl [] qual none cd (some outer) bi) (fun e y => P acc e y) E x) E s := by
  unfold newList
  refine wpAny_newObj_type (wpAny_newFunctionEnv nocell (fun _ z => nomatch z) (fun hp ns sb => ?_) kind)
  have z : (s.heap.push { cls := .type "list", data := .seq #[] }).objs.size = s.heap.objs.size + 1 := Heap.size_push ..
  have up : ∀ b o, (s.heap.push { cls := .type "list", data := .seq #[] }).get? b = some o → hp.get? b = some o := fun b o q => sb.extBut b o (Nat.ne_of_lt (Heap.lt_size q)) (Heap.get?_push_of_some _ q)
  exact k _ _ hp _ (Nat.le_refl _) (by show _ ≤ (s.heap.push _).objs.size; rw [Heap.size_push]; bv_omega) (by show _ ≠ (s.heap.push _).objs.size; rw [Heap.size_push]; bv_omega) (fun b o q => up b o (Heap.get?_push_of_some _ q)) (up _ _ (Heap.get?_push_size _ rfl)) ns
theorem enum_by {x : Value} {oI : Obj} {Q : Value → Shared → Prop} (alive : oI.isFreed = false) (it : ∀ (B : Around) (P E' : Value → Shared → Prop), P (.ref s.heap.objs.size) { s with heap := s.heap.push oI } → wpAny (model prog w) B (pyIter x) P E' s)
    (k : ∀ h', IsEnum h' (s.heap.objs.size + 1) s.heap.objs.size 0 .none → h'.get? s.heap.objs.size = some oI → (∀ b o, s.heap.get? b = some o → h'.get? b = some o) → Q (.ref (s.heap.objs.size + 1)) { s with heap := h' }) : wpAny (model prog w) A (call (.type "enumerate") [x]) Q E s := by
  refine callType_newIn F.called_enumerate (by decide) (F.typeCall_enumerate_1 _) (F.newCall_enumerate_1 _) (fun o => F.args_object_init_2 o _) F.entry_enumerate_new
    (S := fun B R t => t = s ∧ B = A.in1 ∧ R = wants (fun v y => y.TypeIs v "enumerate" ∧ Q v y) E) (.of_wp fun B R t h => ?_) ⟨rfl, rfl, rfl⟩
  obtain ⟨rfl, rfl, rfl⟩ := h
  have u := sub_enumerate
  have sz : (t.heap.push oI).objs.size = t.heap.objs.size + 1 := Heap.size_push ..
  have fin : ∀ v : Value, v = .ref (t.heap.push oI).objs.size → Q v { t with heap := (t.heap.push oI).push { cls := .type "enumerate", data := .fields #[.none, .bool false, .ref t.heap.objs.size, rawInt 0, .none, .none] } } := fun v e => by
    subst e
    rw [sz]
    exact k _ (by rw [← sz]; exact Heap.get?_push_size _ rfl) (Heap.get?_push_of_some _ (Heap.get?_push_size _ alive)) fun b o g => Heap.get?_push_of_some _ (Heap.get?_push_of_some _ g)
  wp_walk
  refine wpAny_stack_any (fun st => wpAny_pure ?_)
  split
  · generalize (_ == Value.type "enumerate") = b
    cases b
    all_goals
      wp_walk using it A.in1.in1
      exact ⟨_, rfl, ⟨_, Heap.get?_push_size _ rfl, rfl⟩, fin _ rfl⟩
  · wp_walk using it A.in1.in1
    exact ⟨_, rfl, ⟨_, Heap.get?_push_size _ rfl, rfl⟩, fin _ rfl⟩
end
end PySem
set_option maxHeartbeats 2000000
namespace PySem
section
variable {prog : Program} {w : World} {A : Around} {E : Value → Shared → Prop} {s : Shared}
end
end PySem
set_option maxHeartbeats 4000000
namespace L2
open PySem PySem.Spec PyProof.Rows
theorem HOk.track {P : Program} {w : World} {H : Hp} {h : Heap} {a : Addr} {o : HO} (x : HOk P w H h) (hn : H a = none) (new : ObjOk P w (upd H a o) h a o) : HOk P w (upd H a o) h := fun b u e => by
  by_cases hb : b = a
  · subst hb; rw [wL] at e; cases e; exact new
  · rw [yA hb] at e
    exact (x b u e).stay (fun c v _ q => q) (fun c q => by rw [yA (ne_of_none q hn)]; exact q) fun c xs q => by rw [yA (ne_of_none q hn)]; exact q
def clos (cells : List (Str × Addr)) : List (Str × NameKind) → List (Str × Addr) → List (Str × Addr)
  | [], acc => acc
  | (n, k) :: r, acc => if k == .free then clos cells r ((n, (cells.lookup n).getD 0) :: acc) else clos cells r acc
theorem closureLoop_eq {env : Env} : ∀ (names : List (Str × NameKind)) (acc : List (Str × Addr)), (∀ n, (n, NameKind.free) ∈ names → ∃ c, env.cells.lookup n = some c) →
    (forIn names acc fun (x : Str × NameKind) (r : List (Str × Addr)) => (do
      let (name, kind) := x
      if kind == .free then do
        let c ← cellOf env name
        pure (ForInStep.yield ((name, c) :: r))
      else pure (ForInStep.yield r) : Sem (ForInStep (List (Str × Addr))))) = pure (clos env.cells names acc)
  | [], acc, _ => rfl
  | (n, k) :: r, acc, h => by
    rw [List.forIn_cons]
    by_cases hk : (k == NameKind.free) = true
    · have ek : k = NameKind.free := by simpa using hk
      obtain ⟨c, hc⟩ := h n (by rw [ek]; exact List.mem_cons_self)
      have e1 : cellOf env n = pure c := by unfold cellOf; rw [hc]
      simp only [hk, if_true, e1, pure_bind]
      rw [closureLoop_eq r _ fun m hm => h m (List.mem_cons_of_mem _ hm)]
      show _ = pure (if (k == NameKind.free) = true then clos env.cells r ((n, (env.cells.lookup n).getD 0) :: acc) else clos env.cells r acc)
      rw [if_pos hk, hc]
      rfl
    · simp only [hk, if_false, pure_bind, Bool.false_eq_true]
      rw [closureLoop_eq r _ fun m hm => h m (List.mem_cons_of_mem _ hm)]
      show _ = pure (if (k == NameKind.free) = true then clos env.cells r ((n, (env.cells.lookup n).getD 0) :: acc) else clos env.cells r acc)
      rw [if_neg hk]
theorem closureFor_eq {scope : Scope} {env : Env} (h : ∀ n, (n, NameKind.free) ∈ scope.names → ∃ c, env.cells.lookup n = some c) : closureFor scope env = pure (clos env.cells scope.names []) := by
  unfold closureFor
  have := closureLoop_eq (env := env) scope.names [] h
  simp only [] at this ⊢
  rw [show (forIn scope.names ([] : List (Str × Addr)) fun (x : Str × NameKind) (r : List (Str × Addr)) => (do
      if x.2 == .free then do
        let c ← cellOf env x.1
        pure (ForInStep.yield ((x.1, c) :: r))
      else pure (ForInStep.yield r) : Sem (ForInStep (List (Str × Addr))))) = pure (clos env.cells scope.names []) from this]
  rfl
theorem clos_sub {cells : List (Str × Addr)} : ∀ (names : List (Str × NameKind)) (acc : List (Str × Addr)), (∀ n, (n, NameKind.free) ∈ names → ∃ c, cells.lookup n = some c) → (∀ x c, acc.lookup x = some c → cells.lookup x = some c) →
    ∀ x c, (clos cells names acc).lookup x = some c → cells.lookup x = some c
  | [], acc, _, ha, x, c, e => ha x c e
  | (n, k) :: r, acc, h, ha, x, c, e => by
    unfold clos at e
    by_cases hk : (k == NameKind.free) = true
    · rw [if_pos hk] at e
      have ek : k = NameKind.free := by simpa using hk
      obtain ⟨d, hd⟩ := h n (by rw [ek]; exact List.mem_cons_self)
      refine clos_sub r _ (fun m hm => h m (List.mem_cons_of_mem _ hm)) (fun y z q => ?_) x c e
      rw [hd, Option.getD_some, List.lookup_cons] at q
      by_cases hy : (y == n) = true
      · simp only [hy] at q
        have ey : y = n := by simpa using hy
        cases q
        rw [ey]; exact hd
      · simp only [hy] at q
        exact ha y z q
    · rw [if_neg hk] at e
      exact clos_sub r _ (fun m hm => h m (List.mem_cons_of_mem _ hm)) ha x c e
theorem clos_acc {cells : List (Str × Addr)} : ∀ (names : List (Str × NameKind)) (acc : List (Str × Addr)) (x : Str), (∃ c, acc.lookup x = some c) → ∃ c, (clos cells names acc).lookup x = some c
  | [], acc, x, h => h
  | (n, k) :: r, acc, x, h => by
    unfold clos
    by_cases hk : (k == NameKind.free) = true
    · rw [if_pos hk]
      refine clos_acc r _ x ?_
      rw [List.lookup_cons]
      by_cases hy : (x == n) = true
      · simp only [hy]; exact ⟨_, rfl⟩
      · simp only [hy]; exact h
    · rw [if_neg hk]; exact clos_acc r _ x h
theorem clos_has {cells : List (Str × Addr)} : ∀ (names : List (Str × NameKind)) (acc : List (Str × Addr)) (x : Str), (x, NameKind.free) ∈ names → ∃ c, (clos cells names acc).lookup x = some c
  | (n, k) :: r, acc, x, h => by
    unfold clos
    rcases List.mem_cons.mp h with e | e
    · cases e
      rw [if_pos (by rfl)]
      refine clos_acc r _ _ ?_
      rw [List.lookup_cons]
      simp only [beq_self_eq_true]
      exact ⟨_, rfl⟩
    · by_cases hk : (k == NameKind.free) = true
      · rw [if_pos hk]; exact clos_has r _ x e
      · rw [if_neg hk]; exact clos_has r _ x e
theorem relabel_by (env : Env) : ∃ f : Str × NameKind → Str × NameKind, (∀ sc : Scope, (relabel sc env).names = sc.names.map f) ∧ ∀ q, f q = q ∨ (q.2 = .free ∧ f q = (q.1, .cell)) := by
  refine ⟨_, fun _ => rfl, fun q => ?_⟩
  dsimp only
  split
  · rename_i z
    exact .inr ⟨eq_of_beq (Bool.and_eq_true_iff.mp (Bool.and_eq_true_iff.mp z).1).1, rfl⟩
  · exact .inl rfl
theorem lookup_by {f : Str × NameKind → Str × NameKind} (hf : ∀ q, f q = q ∨ (q.2 = .free ∧ f q = (q.1, .cell))) (x : Str) : ∀ l : List (Str × NameKind), (l.map f).lookup x = l.lookup x ∨ (l.lookup x = some .free ∧ (l.map f).lookup x = some .cell)
  | [] => .inl rfl
  | (n, k) :: r => by
    have ih := lookup_by hf x r
    rw [List.map_cons]
    rcases hf (n, k) with e | ⟨e1, e⟩
    · rw [e]
      cases q : x == n with
      | true => exact .inl (by rw [List.lookup_cons, List.lookup_cons, q])
      | false => simpa only [List.lookup_cons, q] using ih
    · cases e1
      rw [e]
      cases q : x == n with
      | true => exact .inr ⟨by rw [List.lookup_cons, q], by rw [List.lookup_cons, q]⟩
      | false => simpa only [List.lookup_cons, q] using ih
theorem relabel_look (sc : Scope) (env : Env) (x : Str) : (relabel sc env).names.lookup x = sc.names.lookup x ∨ (sc.names.lookup x = some .free ∧ (relabel sc env).names.lookup x = some .cell) := by
  obtain ⟨f, e, hf⟩ := relabel_by env
  rw [e sc]
  exact lookup_by hf x sc.names
theorem relabel_back {sc : Scope} {env : Env} {x : Str} {k : NameKind} (h : (relabel sc env).names.lookup x = some k) : sc.names.lookup x = some k ∨ (k = .cell ∧ sc.names.lookup x = some .free) := by
  rcases relabel_look sc env x with e | ⟨e1, e2⟩
  · exact .inl (e.symm.trans h)
  · exact .inr ⟨Option.some.inj (h.symm.trans e2), e1⟩
theorem relabel_free {sc : Scope} {env : Env} {x : Str} (h : sc.names.lookup x = some .free) : (relabel sc env).names.lookup x = some .cell ∨ (relabel sc env).names.lookup x = some .free := by
  rcases relabel_look sc env x with e | ⟨_, e⟩
  · exact .inr (e.trans h)
  · exact .inl e
def cxComp (X : Cx) (N : List Str) (scope : Scope) (C : Addr) (fp : List Addr) (s₂ : Shared) (H : Hp) : Cx where
  prog := X.prog
  w := X.w
  K := X.K
  mg := X.mg
  base := X.base
  A := X.A
  N := N
  s₀ := s₂
  H₀ := H
  env := compEnvC scope (clos X.env.cells scope.names []) C X.env
  outer := X.stack
  stack := X.stack
  ex := fp
  fn := fun _ => false
  calm := X.calm
  pn := []
  xe := fun _ _ => False
structure CompScope (sc0 scope : Scope) (N0 : List Str) (xt : Str) (fs : List Str) (js : List Nat) : Prop where
  kind : scope.kind = .function
  nocell : ∀ y ∈ scope.names, y.2 ≠ .cell
  names : ∀ y ∈ scope.names, y.2 = .local → scope.names.lookup y.1 = some .local
  tgt : scope.names.lookup xt = some .local
  frees : ∀ y ∈ scope.names, y.2 = .free → sc0.names.lookup y.1 = some .cell ∨ sc0.names.lookup y.1 = some .free
  len : js.length = fs.length
  slots : ∀ p ∈ fs.zip js, N0[p.2]? = some p.1 ∧ scope.names.lookup p.1 = some .free
  nd : (xt :: fs).Nodup
theorem zip_mem {α β : Type} : ∀ {fs : List α} {js : List β} {i : Nat} {y : α} {j : β}, fs[i]? = some y → js[i]? = some j → (y, j) ∈ fs.zip js
  | [], _, _, _, _, h, _ => by simp at h
  | _ :: _, [], _, _, _, _, h => by simp at h
  | a :: fs, b :: js, 0, y, j, h, h' => by
    simp at h h'
    subst h h'
    exact List.mem_cons_self
  | a :: fs, b :: js, i + 1, y, j, h, h' => by
    rw [List.zip_cons_cons]
    exact List.mem_cons_of_mem _ (zip_mem (i := i) (by simpa using h) (by simpa using h'))
def compSt (σ : St) (js : List Nat) (v : Option V) : St := v :: js.map fun j => (σ[j]?).join
section
variable {X : Cx} {pins : List (Addr × Obj)} {σ : St} {H : Hp} {s₂ s₄ : Shared} {sc0 scope : Scope} {N0 : List Str} {xt : Str} {fs : List Str} {js : List Nat} {fp : List Addr}
theorem CompScope.cells (S : CompScope sc0 scope N0 xt fs js) (h0 : X.env.scope = sc0) (ok : X.Ok) : ∀ n, (n, NameKind.free) ∈ scope.names → ∃ c, X.env.cells.lookup n = some c := fun n hn => ok.has n (by subst h0; exact S.frees _ hn rfl)
theorem CompScope.sub (S : CompScope sc0 scope N0 xt fs js) (h0 : X.env.scope = sc0) (ok : X.Ok) : ∀ x c, (clos X.env.cells scope.names []).lookup x = some c → X.env.cells.lookup x = some c :=
  clos_sub scope.names [] (S.cells h0 ok) fun x c e => by simp at e
theorem Inv.block (S : CompScope sc0 scope N0 xt fs js) (h0 : X.env.scope = sc0) (hN0 : X.N = N0) (I : Inv X pins σ H s₂) (hf : ∀ b ∈ fp, FpOk X pins H b) (hfo : ∀ b ∈ fp, ∃ o, s₂.heap.get? b = some o)
    (hos : s₄.os = s₂.os) (hg : AllBare s₄.gens) (hk : ∀ b o, s₂.heap.get? b = some o → s₄.heap.get? b = some o) {C : Addr} (hC : s₂.heap.objs.size ≤ C) {m : Str → Option Value} (hn : s₄.heap.Ns C m) :
    Inv (cxComp X (xt :: fs) scope C fp s₂ H) [] (compSt σ js none) H s₄ := by
  have sub := S.sub h0 I.ok
  have blt : ∀ b ∈ fp, b < s₂.heap.objs.size := fun b hb => let ⟨o, e⟩ := hfo b hb; Heap.lt_size e
  have ok : (cxComp X (xt :: fs) scope C fp s₂ H).Ok := by
    refine ⟨I.ok.mod, S.kind, I.ok.glob, I.ok.blt, hC, fun x y c h1 h2 => I.ok.inj x y c (sub x c h1) (sub y c h2), fun x hx => ?_, fun x c h => (nomatch h), I.ok.hd, I.ok.frames, .inl rfl, fun b hb => ⟨?_, fun x c h => (hf b hb).2.2.2.2.1 x c (sub x c h)⟩, I.bs, Nat.le_trans I.ok.bsz I.sz, fun b o e hb => ?_, fun b hb hs => ?_, I.stack, I.stkFree⟩
    · have hx : (relabel scope X.env).names.lookup x = some .cell ∨ (relabel scope X.env).names.lookup x = some .free := hx
      have hfree : scope.names.lookup x = some .free := by
        rcases hx with hx | hx
        · rcases relabel_back hx with q | ⟨_, q⟩
          · exact absurd rfl (S.nocell _ (PySem.mem_of_lookup q))
          · exact q
        · rcases relabel_back hx with q | ⟨q, _⟩
          · exact q
          · cases q
      exact clos_has scope.names [] x (PySem.mem_of_lookup hfree)
    · exact Nat.ne_of_lt (Nat.lt_of_lt_of_le (blt b hb) hC)
    · rcases (hf b hb).2.2.2.1 with z | z
      · exact I.ok.noex b o e z
      · exact absurd (Nat.lt_of_lt_of_le (Heap.lt_size (I.ok.bs b o e).1) z) (Nat.lt_irrefl _)
    · rcases List.mem_cons.mp (I.stkSub b hs) with z | z
      · exact (hf b hb).2.1 z
      · exact (hf b hb).2.2.1 z
  refine ⟨ok, hos, hg, Un.kept hk, ⟨m, hn, fun i x v e1 e2 e3 => ?_⟩, fun x c e => ?_, I.hok.fresh hC, fun x c e => I.freeC x c (sub x c e), fun p hp => absurd (show p ∈ ([] : List (Addr × Obj)) from hp) (by simp), I.hok.kept hk, ?_⟩
  · cases i with
    | zero => cases e2
    | succ i =>
      have e1 : fs[i]? = some x := e1
      have e2 : (js.map fun j => (σ[j]?).join)[i]? = some (some v) := e2
      rw [List.getElem?_map] at e2
      cases ej : js[i]? with
      | none => rw [ej] at e2; cases e2
      | some j =>
        rw [ej] at e2
        have e2 : (σ[j]?).join = some v := Option.some.inj e2
        obtain ⟨hN, hfr⟩ := S.slots _ (zip_mem e1 ej)
        have hN : X.N[j]? = some x := by rw [hN0]; exact hN
        have hk2 : X.env.kindOf x = some .cell ∨ X.env.kindOf x = some .free := by subst h0; exact S.frees _ (PySem.mem_of_lookup hfr) rfl
        have hs : σ[j]? = some (some v) := by
          cases q : σ[j]? with
          | none => rw [q] at e2; cases e2
          | some z => rw [q] at e2; rw [show z = some v from e2]
        obtain ⟨m0, hn0, hl⟩ := I.loc
        obtain ⟨u, r, l⟩ := hl j x v hN hs (by rcases hk2 with z | z; exact .inr (.inl z); exact .inr (.inr z))
        refine ⟨u, r, ?_⟩
        rcases l with ⟨hloc, _⟩ | ⟨_, c, hc, hcell⟩
        · rcases hk2 with z | z
          · rw [z] at hloc; cases hloc
          · rw [z] at hloc; cases hloc
        · obtain ⟨c', hc'⟩ := clos_has (cells := X.env.cells) scope.names [] x (PySem.mem_of_lookup hfr)
          have : c' = c := Option.some.inj ((sub x c' hc').symm.trans hc)
          subst this
          exact .inr ⟨relabel_free hfr, c', hc', hcell.keeps hk⟩
  · obtain ⟨v, z⟩ := I.cell x c (sub x c e)
    exact ⟨v, z.keeps hk⟩
  · show (compSt σ js none).length = (xt :: fs).length
    unfold compSt
    rw [List.length_cons, List.length_map, List.length_cons, S.len]
theorem Inv.unblock {pins' : List (Addr × Obj)} {σ' : St} {H' : Hp} {s' : Shared} {h'' : Heap} {C D : Addr} {its : List Value} {n : Nat} {acc : List V} {N : List Str} (I : Inv X pins σ H s₂) (hf : ∀ b ∈ fp, FpOk X pins H b)
    (J : Inv (cxComp X N scope C fp s₂ H) pins' σ' H' s') (hC : s₂.heap.objs.size ≤ C) (hD : s₂.heap.objs.size ≤ D) (hDC : D ≠ C) (hHD : H' D = none)
    (hd : s'.heap.get? D = some { cls := .type "list", data := .seq its.toArray n }) (hv : Vals acc its) (hz : acc.length ≤ sizeLine) (hsb : Heap.SameBut C s'.heap h'') :
    Inv X pins σ (upd H' D (.lst acc)) { s' with heap := h'' } := by
  have hd2 : h''.get? D = some { cls := .type "list", data := .seq its.toArray n } := (hsb.2 D hDC).trans hd
  have keep : ∀ b o, b < s₂.heap.objs.size → s'.heap.get? b = some o → h''.get? b = some o := fun b o hb e => (hsb.2 b (Nat.ne_of_lt (Nat.lt_of_lt_of_le hb hC))).trans e
  have hHC : H' C = none := J.free
  have ok1 : HOk X.prog X.w H' h'' := fun b o e => (J.hok b o e).stay (fun c v hc q => (hsb.2 c (by
      rcases hc with z | z
      · rw [z]; exact fun w => by rw [w, hHC] at e; cases e
      · exact fun w => by rw [w, hHC] at z; cases z)).trans q) (fun _ q => q) fun _ _ q => q
  have ok2 : HOk X.prog X.w (upd H' D (.lst acc)) h'' := ok1.track hHD ⟨hz, its, n, hv, hd2⟩
  have un : Un (frs X.stack) fp H (upd H' D (.lst acc)) s₂.heap h'' := by
    have u := J.base
    refine ⟨fun b o e nb h1 h2 => keep b o (Heap.lt_size e) (u.keep b o e nb h1 h2), fun b o e nb h1 h2 => ?_, fun b o e nb h2 => ?_, fun b o e h2 => ?_, fun b xs e => ?_, fun b o v e => ?_, fun b ps e => ?_⟩
    · obtain ⟨sl, q⟩ := u.slot b o e nb h1 h2
      exact ⟨sl, keep b _ (Heap.lt_size e) q⟩
    · rw [yA (Nat.ne_of_lt (Nat.lt_of_lt_of_le (Heap.lt_size e) hD))]
      exact u.free b o e nb h2
    · obtain ⟨o', q⟩ := u.there b o e h2
      exact ⟨o', keep b _ (Heap.lt_size e) q⟩
    · have q := u.tups b xs e
      rw [yA (ne_of_none q hHD)]; exact q
    · have q := u.frzs b o v e
      rw [yA (ne_of_none q hHD)]; exact q
    · obtain ⟨more, q⟩ := u.tbls b ps e
      exact ⟨more, by rw [yA (ne_of_none q hHD)]; exact q⟩
  obtain ⟨hh, g, d, t, os'⟩ := s'
  obtain rfl : os' = s₂.os := J.os
  exact Inv.call (s := s₂) I (h' := h'') (g' := g) (d' := d) (t' := t) (ch := fp) un ok2 J.bare fun b hb => ⟨(hf b hb).2.2.2.1, (hf b hb).2.1, (hf b hb).2.2.2.2.1, (hf b hb).2.2.2.2.2⟩
end
def tTrue : TT := fun _ H Q => Q true H
inductive PTs (X : Cx) : List Expr → TT → Prop
  | nil : PTs X [] tTrue
  | one {c : Expr} {t : TT} : PT X c t → PTs X [c] t
def tComp (wi : TI) (tt : Addr → List Addr → Shared → Hp → TT) (te : Addr → List Addr → Shared → Hp → TE) (js : List Nat) : TE := fun σ H Q => wi σ H fun J H1 => ∀ C fp s₂ H₂, ∃ W : Nat → Nat → List V → Hp → Prop, (∃ m, W 0 m [] H1) ∧ ∀ i m acc H, W i m acc H →
  (J.stop i H ∧ ∀ p, H p = none → Q (.ref p) (upd H p (.lst acc))) ∨
  (J.go i H ∧ ∃ N : List V → Hp → Prop, (∀ acc' H', N acc' H' → ∃ m', m' < m ∧ W (i + 1) m' acc' H') ∧
    ∀ x H', J.yld i H x H' → tt C fp s₂ H₂ (compSt σ js (some x)) H' fun b H2 => if b = true then te C fp s₂ H₂ (compSt σ js (some x)) H2 fun v H3 => acc.length < sizeLine ∧ N (acc ++ [v]) H3 else N acc H2)
theorem comp_core {X : Cx} {elt iter : Expr} {ifs : List Expr} {sc0 scope : Scope} {N0 : List Str} {px pos : Pos} {xt : Str} {fs : List Str} {js : List Nat} {wi : TI} {tt : Addr → List Addr → Shared → Hp → TT} {te : Addr → List Addr → Shared → Hp → TE} (S : CompScope sc0 scope N0 xt fs js) (h0 : X.env.scope = sc0) (hN0 : X.N = N0) (hc : X.calm = true)
    (hi : PI X (.Name xt px) iter wi) (ht : ∀ C fp s₂ H, PTs (cxComp X (xt :: fs) scope C fp s₂ H) ifs (tt C fp s₂ H)) (he : ∀ C fp s₂ H, PE (cxComp X (xt :: fs) scope C fp s₂ H) elt (te C fp s₂ H))
    (hs : autoParam (∀ x, foldedSetIterable iter X.env x = pure x) autoK4._auto_1)
    {pins : List (Addr × Obj)} {cpos : Pos} {s : Shared} {σ : St} {H : Hp} {Q : VK} {use : Option (Value → Sem Unit)} {Qv : Value → Shared → Prop} (I : Inv X pins σ H s) (h : tComp wi tt te js σ H Q)
    (hfin : ∀ (s' : Shared) (C D : Addr) (Ha : Hp) (fl : Flow), (∀ h'', Heap.SameBut C s'.heap h'' → Inv X pins σ Ha { s' with heap := h'' }) → (∃ m, s'.heap.Ns C m) → FpOk X pins Ha C → Q (.ref D) Ha → compPost (model X.prog X.w) X.A X.xe use Qv (.ref D) C (.ok fl) s') :
    wpAny (model X.prog X.w) X.A (comprehension (.ListComp elt [⟨.Name xt px, iter, ifs, 0⟩] scope pos) scope X.env cpos (newList []) false (eval iter X.env) use) Qv X.xe s := by
  refine wpAny_comprehension_free (use := use) rfl hs (closureFor_eq (S.cells h0 I.ok)) S.kind S.names ?_
  refine thn (hi pins s σ H _ I h) fun v s1 h1 => thn h1 fun itv s2 h2 => ?_
  obtain ⟨it, fp, tn, J, H2, e, I2, T, st2, f2, hW⟩ := h2
  subst e
  have fo : ∀ b ∈ fp, ∃ o, s2.heap.get? b = some o := fun b hb => let ⟨o, e, _⟩ := T.obj 0 s2.heap st2 b hb; ⟨o, e⟩
  have blt : ∀ b ∈ fp, b < s2.heap.objs.size := fun b hb => let ⟨o, e⟩ := fo b hb; Heap.lt_size e
  refine block_new S.nocell S.kind fun D C h₁ mC hDle hCle hDC old hacc hns₁ => ?_
  have bC : ∀ b o, s2.heap.get? b = some o → b ≠ C := fun b o q z => Nat.not_lt.mpr hCle (z ▸ Heap.lt_size q)
  have bD : ∀ b o, s2.heap.get? b = some o → b ≠ D := fun b o q z => Nat.not_lt.mpr hDle (z ▸ Heap.lt_size q)
  obtain ⟨W, ⟨m0, w0⟩, turn⟩ := hW C fp s2 H2
  have fpk : ∀ {H' : Hp} (ob : Obj), (∀ b ∈ fp, H' b = none) → ∀ b ∈ fp, FpOk (cxComp X (xt :: fs) scope C fp s2 H2) [(D, ob)] H' b := fun {H'} ob hn b hb => by
    refine ⟨hn b hb, Nat.ne_of_lt (Nat.lt_of_lt_of_le (blt b hb) hCle), fun z => ?_, .inl hb, fun x c e => (f2 b hb).2.2.2.2.1 x c (S.sub h0 I2.ok x c e), fun p hp => ?_⟩
    · rcases List.mem_cons.mp (I2.stkSub b z) with q | q
      · exact (f2 b hb).2.1 q
      · exact (f2 b hb).2.2.1 q
    · have : p = (D, ob) := by
        have hp : p ∈ [] ++ [(D, ob)] := hp
        simpa using hp
      subst this
      exact Nat.ne_of_gt (Nat.lt_of_lt_of_le (blt b hb) hDle)
  have loop : codeAny (model X.prog X.w) X.A (.compLoop (.ListComp elt [⟨.Name xt px, iter, ifs, 0⟩] scope pos) 0 (.ref it) (.ref D) (compEnvC scope (clos X.env.cells scope.names []) C X.env))
        (compPost (model X.prog X.w) X.A X.xe use Qv (.ref D) C) { s2 with heap := h₁ } := by
    have J0 : Inv (cxComp X (xt :: fs) scope C fp s2 H2) [] (compSt σ js none) H2 { s2 with heap := h₁ } :=
      Inv.block (s₂ := s2) (s₄ := { s2 with heap := h₁ }) S h0 hN0 I2 f2 fo rfl I2.bare old hCle hns₁
    have H2D : H2 D = none := I2.hok.fresh hDle
    have ofD : D ∉ frs X.stack := fun z => by
      rcases List.mem_cons.mp (I2.stkSub D z) with q | q
      · exact absurd I2.lt (by rw [← q]; exact Nat.not_lt.mpr hDle)
      · exact I2.nofs (a := D) hDle q
    refine codeAny_loop rfl (fun n s' => ∃ (i : Nat) (σ' : St) (H' : Hp) (acc : List V) (its : List Value) (k : Nat), (∃ v0, σ' = compSt σ js v0) ∧ Inv (cxComp X (xt :: fs) scope C fp s2 H2) [] σ' H' s' ∧ tn i s'.heap ∧ (∀ b ∈ fp, H' b = none) ∧ H' D = none ∧
        s'.heap.get? D = some { cls := .type "list", data := .seq its.toArray k } ∧ Vals acc its ∧ acc.length ≤ sizeLine ∧ W i n acc H') ?_ m0
      ⟨0, _, H2, [], [], 0, ⟨none, rfl⟩, J0, T.keep 0 _ _ st2 fun b hb o e => old b o e, fun b hb => (f2 b hb).1, H2D, hacc, .nil, Nat.zero_le _, w0⟩
    rintro n s3 ⟨i, σ3, H3, acc, its, k, ⟨v0, rfl⟩, I3, st3, fr3, hD3, d3, va, hz, w3⟩
    show wpAny _ X.A ((compTurn (.ListComp elt [⟨.Name xt px, iter, ifs, 0⟩] scope pos) 0 (.ref it) (.ref D) (compEnvC scope (clos X.env.cells scope.names []) C X.env)).onRaise (fun x => do noteFrame x (compEnvC scope (clos X.env.cells scope.names []) C X.env); theTreesLotGoes x)) _ _ s3
    refine wpAny_noted ?_
    rw [compTurn_list]
    refine wpAny_bind (wpAny_standAt ?_)
    have pinD : Inv (cxComp X (xt :: fs) scope C fp s2 H2) [(D, { cls := .type "list", data := .seq its.toArray k })] (compSt σ js v0) H3 s3 := I3.pins_of fun p hp => by
      have : p = (D, { cls := .type "list", data := .seq its.toArray k }) := by simpa using hp
      subst this
      exact ⟨d3, hD3, hDC, ofD, fun v z => by cases z⟩
    refine wpAny_bind ?_
    rcases turn i n acc H3 w3 with ⟨stop, qn⟩ | ⟨go, N, hN, step⟩
    · refine thn (T.done (cxComp X (xt :: fs) scope C fp s2 H2) rfl rfl rfl hc i _ s3 _ H3 _ pinD (fpk _ fr3) st3 stop) fun r s4 ⟨hr, I4⟩ => ?_
      subst hr
      refine wpAny_pure ?_
      obtain ⟨m4, hn4, _⟩ := I4.loc
      have hHC : H3 C = none := I4.free
      refine hfin s4 C D (upd H3 D (.lst acc)) _ (fun h'' hsb => I2.unblock f2 I4 hCle hDle hDC hD3 ((I4.pin (D, { cls := .type "list", data := .seq its.toArray k }) (List.mem_append_right _ List.mem_cons_self)).1) va hz hsb) ⟨m4, hn4⟩ (I2.fpOk hCle (by rw [yA (Ne.symm hDC)]; exact hHC)) (qn D hD3)
    · refine thn (T.item (cxComp X (xt :: fs) scope C fp s2 H2) rfl rfl rfl hc i _ s3 _ H3 _ pinD (fpk _ fr3) st3 go) fun r s4 ⟨u, hr, h4⟩ => ?_
      subst hr
      refine wpAny_bind (thn h4 fun _ s5 ⟨x, H5, I5, r5, y5, st5, fr5⟩ => ?_)
      have I5' := I5.pinned (fpk _ fr5) (T.obj _ _ st5)
      have gok : PG (cxComp X (xt :: fs) scope C fp s2 H2) (.Name xt px) (gName 0) := pg_name S.nd rfl (.inl (lookup_relabel_local S.tgt)) (.inr (lookup_relabel_local S.tgt))
      have noE : ∀ (a : Value) (s' : Shared), (cxComp X (xt :: fs) scope C fp s2 H2).xe a s' → notedBy (model X.prog X.w) X.A (compEnvC scope (clos X.env.cells scope.names []) C X.env) (fun e s' => compPost (model X.prog X.w) X.A X.xe use Qv (.ref D) C (.error e) s') a s' := fun _ _ z => False.elim z
      refine wpAny_bind (wpAny_mono (gok _ s5 (compSt σ js v0) H5 x u (fun σ' H' => σ' = compSt σ js (some x) ∧ H' = H5) I5' r5 ⟨rfl, rfl⟩) (fun _ s6 ⟨σ6, H6, I6, e6, e6'⟩ => ?_) noE)
      subst e6 e6'
      have fin : ∀ {acc' : List V} {its' : List Value} {k' : Nat} {H7 : Hp} {s7 : Shared}, Inv (cxComp X (xt :: fs) scope C fp s2 H2) [] (compSt σ js (some x)) H7 s7 → tn (i + 1) s7.heap → (∀ b ∈ fp, H7 b = none) → H7 D = none → s7.heap.get? D = some { cls := .type "list", data := .seq its'.toArray k' } → Vals acc' its' → acc'.length ≤ sizeLine → N acc' H7 →
          ∃ m, m < n ∧ ∃ (i : Nat) (σ' : St) (H' : Hp) (acc : List V) (its : List Value) (k : Nat), (∃ v0, σ' = compSt σ js v0) ∧ Inv (cxComp X (xt :: fs) scope C fp s2 H2) [] σ' H' s7 ∧ tn i s7.heap ∧ (∀ b ∈ fp, H' b = none) ∧ H' D = none ∧
            s7.heap.get? D = some { cls := .type "list", data := .seq its.toArray k } ∧ Vals acc its ∧ acc.length ≤ sizeLine ∧ W i m acc H' := fun {acc' its' k' H7 s7} a1 a2 a3 a4 a5 a6 a7 a8 => by
        obtain ⟨m', hm, w7⟩ := hN _ _ a8
        exact ⟨m', hm, i + 1, _, H7, acc', its', k', ⟨_, rfl⟩, a1, a2, a3, a4, a5, a6, a7, w7⟩
      have rest : ∀ {H7 : Hp} {s7 : Shared}, Inv (cxComp X (xt :: fs) scope C fp s2 H2) ([(D, { cls := .type "list", data := .seq its.toArray k })] ++ pinsAt fp s5.heap) (compSt σ js (some x)) H7 s7 →
          tn (i + 1) s7.heap ∧ (∀ b ∈ fp, H7 b = none) ∧ H7 D = none ∧ s7.heap.get? D = some { cls := .type "list", data := .seq its.toArray k } := fun {H7 s7} I7 => by
        refine ⟨T.keep _ _ _ st5 fun b hb o e => (I7.pin (b, o) (List.mem_append_right _ (List.mem_append_right _ (mem_pinsAt hb e)))).1, fun b hb => ?_, (I7.pin (D, { cls := .type "list", data := .seq its.toArray k }) (List.mem_append_right _ (List.mem_append_left _ List.mem_cons_self))).2.1, (I7.pin (D, { cls := .type "list", data := .seq its.toArray k }) (List.mem_append_right _ (List.mem_append_left _ List.mem_cons_self))).1⟩
        obtain ⟨o, e, d⟩ := T.obj _ _ st5 b hb
        exact (I7.pin (b, o) (List.mem_append_right _ (List.mem_append_right _ (mem_pinsAt hb e)))).2.1
      have elem : ∀ {H7 : Hp} {s7 : Shared}, Inv (cxComp X (xt :: fs) scope C fp s2 H2) ([(D, { cls := .type "list", data := .seq its.toArray k })] ++ pinsAt fp s5.heap) (compSt σ js (some x)) H7 s7 →
          (te C fp s2 H2 (compSt σ js (some x)) H7 fun v H3 => acc.length < sizeLine ∧ N (acc ++ [v]) H3) →
          wpAny (model X.prog X.w) X.A (eval elt (compEnvC scope (clos X.env.cells scope.names []) C X.env)) (fun y s8 => wpAny (model X.prog X.w) X.A (call (.builtin "list.append") [.ref D, y]) (fun _ s9 => ∃ m, m < n ∧ ∃ (i : Nat) (σ' : St) (H' : Hp) (acc : List V) (its : List Value) (k : Nat), (∃ v0, σ' = compSt σ js v0) ∧ Inv (cxComp X (xt :: fs) scope C fp s2 H2) [] σ' H' s9 ∧ tn i s9.heap ∧ (∀ b ∈ fp, H' b = none) ∧ H' D = none ∧
            s9.heap.get? D = some { cls := .type "list", data := .seq its.toArray k } ∧ Vals acc its ∧ acc.length ≤ sizeLine ∧ W i m acc H')
            (fun _ _ => False) s8) (fun _ _ => False) s7 := fun {H7 s7} I7 q7 => by
        refine thn (he C fp s2 H2 _ s7 _ H7 _ I7 q7) fun y s8 ⟨v, H8, I8, r8, hl8, n8⟩ => ?_
        obtain ⟨t8, fr8, hD8, d8⟩ := rest I8
        have hsz := va.length
        refine call_meets F.slot_list_append ⟨_, d8, rfl⟩ F.entry_list_append (F.args_list_append_2 _ _) (PySem.list_append D its.toArray k y (by rw [List.size_toArray]; bv_omega)) ⟨d8, ?_⟩
        have q := PySem.IsL.update d8 (·.push y)
        rw [show (its.toArray.push y) = (its ++ [y]).toArray by simp] at q
        have kk : ∀ b o, b ≠ D → s8.heap.get? b = some o → (s8.heap.update D (Obj.mapSeq (·.push y))).get? b = some o := fun b o hb e => (Heap.get?_update_other s8.heap _ (Ne.symm hb)).trans e
        have I9 : Inv (cxComp X (xt :: fs) scope C fp s2 H2) [] (compSt σ js (some x)) H8 { s8 with heap := s8.heap.update D (Obj.mapSeq (·.push y)) } := by
          refine Inv.turned (it := D) (t' := s8.toks) (I8.pins_of (pins' := []) fun p hp => nomatch hp) kk hD8 hDC (.inr hDle) (fun x c e z => ?_) fun p hp => absurd (show p ∈ ([] : List (Addr × Obj)) from hp) (by simp)
          obtain ⟨v, o, ho, _⟩ := I2.cell x c (S.sub h0 I2.ok x c e)
          exact bD c o ho z
        refine fin I9 (T.keep _ _ _ t8 fun b hb o e => kk b o (Nat.ne_of_lt (Nat.lt_of_lt_of_le (blt b hb) hDle)) e) fr8 hD8 q (va.append (.cons r8 .nil)) ?_ n8
        rw [List.length_append, List.length_singleton]
        bv_omega
      have q6 := step x H6 y5
      have htt := ht C fp s2 H2
      generalize tt C fp s2 H2 = tt' at htt q6
      cases htt with
      | nil =>
        refine wpAny_bind (wpAny_pure ?_)
        dsimp only [tTrue] at q6
        rw [if_pos rfl] at q6
        refine wpAny_mono (wpAny_bind (wpAny_bind (thn (elem I6 q6) fun y s8 h8 => wpAny_bind (thn h8 fun _ s9 h9 => wpAny_pure (wpAny_pure ⟨rfl, h9⟩))))) (fun _ _ z => z) fun _ _ z => False.elim z
      | one ht1 =>
        refine wpAny_bind (wpAny_tests_one (wpAny_mono (ht1 _ s6 _ H6 _ I6 q6) (fun b s7 ⟨H7, I7, q7⟩ => ?_) noE))
        cases b with
        | false =>
          rw [if_neg Bool.false_ne_true] at q7
          obtain ⟨t8, fr8, hD8, d8⟩ := rest I7
          exact wpAny_pure ⟨rfl, fin (I7.pins_of (pins' := []) fun p hp => nomatch hp) t8 fr8 hD8 d8 va hz q7⟩
        | true =>
          rw [if_pos rfl] at q7
          refine wpAny_mono (wpAny_bind (wpAny_bind (thn (elem I7 q7) fun y s8 h8 => wpAny_bind (thn h8 fun _ s9 h9 => wpAny_pure (wpAny_pure ⟨rfl, h9⟩))))) (fun _ _ z => z) fun _ _ z => False.elim z
  exact codeAny_compStart_list loop (T.self X.A 0 _ _ _ (T.keep 0 _ _ st2 fun b hb o e => old b o e) loop)
theorem pe_comp {X : Cx} {elt iter : Expr} {ifs : List Expr} {sc0 scope : Scope} {N0 : List Str} {px pos : Pos} {xt : Str} {fs : List Str} {js : List Nat} {wi : TI} {tt : Addr → List Addr → Shared → Hp → TT} {te : Addr → List Addr → Shared → Hp → TE} (S : CompScope sc0 scope N0 xt fs js) (h0 : X.env.scope = sc0) (hN0 : X.N = N0) (hc : X.calm = true)
    (hi : PI X (.Name xt px) iter wi) (ht : ∀ C fp s₂ H, PTs (cxComp X (xt :: fs) scope C fp s₂ H) ifs (tt C fp s₂ H)) (he : ∀ C fp s₂ H, PE (cxComp X (xt :: fs) scope C fp s₂ H) elt (te C fp s₂ H))
    (hs : autoParam (∀ x, foldedSetIterable iter X.env x = pure x) autoK4._auto_1) :
    PE X (.ListComp elt [⟨.Name xt px, iter, ifs, 0⟩] scope pos) (tComp wi tt te js) := by
  intro pins s σ H Q I h
  rw [eval_ListComp]
  refine comp_core S h0 hN0 hc hi ht he hs (use := none) (Qv := EP X pins σ Q) I h fun s' C D Ha fl hI hns hC q => ?_
  obtain ⟨m, hn⟩ := hns
  exact ⟨m, hn, fun h' hsb => ⟨.ref D, Ha, hI h' hsb, rfl, q⟩⟩
theorem comp_range {lo : Int} {n : Nat} {tt : TT} {te : TE} {js : List Nat} {σ : St} {H : Hp} {Q : VK} (Pv : Nat → List V → Hp → Prop) (h0 : Pv 0 [] H)
    (hs : ∀ i acc H, i < n → Pv i acc H → tt (compSt σ js (some (.int (lo + i)))) H fun b H2 => if b = true then te (compSt σ js (some (.int (lo + i)))) H2 fun v H3 => acc.length < sizeLine ∧ Pv (i + 1) (acc ++ [v]) H3 else Pv (i + 1) acc H2)
    (hd : ∀ acc H, Pv n acc H → ∀ p, H p = none → Q (.ref p) (upd H p (.lst acc))) :
    ∃ W : Nat → Nat → List V → Hp → Prop, (∃ m, W 0 m [] H) ∧ ∀ i m acc H, W i m acc H →
      ((Itr lo n).stop i H ∧ ∀ p, H p = none → Q (.ref p) (upd H p (.lst acc))) ∨
      ((Itr lo n).go i H ∧ ∃ N : List V → Hp → Prop, (∀ acc' H', N acc' H' → ∃ m', m' < m ∧ W (i + 1) m' acc' H') ∧
        ∀ x H', (Itr lo n).yld i H x H' → tt (compSt σ js (some x)) H' fun b H2 => if b = true then te (compSt σ js (some x)) H2 fun v H3 => acc.length < sizeLine ∧ N (acc ++ [v]) H3 else N acc H2) := by
  refine ⟨fun i m acc H => m = n - i ∧ i ≤ n ∧ Pv i acc H, ⟨n, by simp, Nat.zero_le _, h0⟩, ?_⟩
  rintro i m acc H ⟨rfl, hi, p⟩
  by_cases hlt : i < n
  · refine .inr ⟨hlt, Pv (i + 1), fun acc' H' p' => ⟨n - (i + 1), by bv_omega, rfl, hlt, p'⟩, fun x H' y => ?_⟩
    obtain ⟨e, y⟩ := y
    subst e y
    exact hs i acc _ hlt p
  · have e : i = n := by bv_omega
    subst e
    exact .inl ⟨Nat.le_refl _, hd acc H p⟩
theorem Same.new {H : Hp} {p : Addr} {o : HO} (h : H p = none) : Same H (upd H p o) := fun b u e => by rw [yA (ne_of_none e h)]; exact e
end L2
set_option maxHeartbeats 4000000
namespace L2
open PySem PySem.Spec PyProof.Rows
def Small (i : Int) : Prop := ∃ k, k ≤ 1000000 ∧ i.natAbs < 2 ^ k
theorem Small.bits {i : Int} (h : Small i) : Builtin.Int.intBits i ≤ 2 ^ 20 := by
  obtain ⟨k, hk, hi⟩ := h
  unfold Builtin.Int.intBits
  by_cases h0 : (i == 0) = true
  · rw [if_pos h0]; exact Nat.zero_le _
  · rw [if_neg h0]
    have hn : i.natAbs ≠ 0 := by
      intro z
      have : i = 0 := by bv_omega
      rw [this] at h0
      exact h0 rfl
    have := (Nat.log2_lt hn).mpr hi
    have e : (2 : Nat) ^ 20 = 1048576 := by decide
    bv_omega
section
variable {X : Cx}
theorem call_sumI (hc : X.calm = true) : CallR X (.builtin "sum") (fun xs H Q => ∃ (p : Addr) (ns : List Int), xs = [.ref p] ∧ SqL X.K H p (ns.map V.int) ∧ Q (.int ns.sum) H) := by
  intro pins s σ H xs us Q I r h
  obtain ⟨p, ns, rfl, hq, q⟩ := h
  obtain ⟨u, rfl, ru⟩ := vals1 r
  cases ru
  obtain ⟨its, rv, pl, hz⟩ := I.list hq
  have hi : IntsAre its ns := intsAre_of rv
  obtain ⟨xs, e⟩ := hi.allInts.items
  refine sum_intListG (I.ok.hd hc) (by rw [← e]; exact pl.isList) fun h' tk t' hk => ⟨.int ns.sum, H, I.kept hk, ⟨t', ?_⟩, q⟩
  congr 1
  rw [preSum_eq, List.take_of_length_le (by simp), ← nums_intItems, ← e]
  show (numsOf its).sum = ns.sum
  rw [hi.numsOf]
theorem vals_pick {xs : List V} {its : List Value} (r : Vals xs its) : ∀ (ks : List Nat), Vals (ks.filterMap (xs[·]?)) (ks.filterMap (its.toArray[·]?))
  | [] => .nil
  | k :: ks => by
    have hl := r.length
    rw [List.filterMap_cons, List.filterMap_cons]
    cases e : xs[k]? with
    | none =>
      have : its.toArray[k]? = none := by
        rw [List.getElem?_eq_none_iff] at e
        rw [Array.getElem?_eq_none_iff, List.size_toArray]
        bv_omega
      rw [this]
      exact vals_pick r ks
    | some x =>
      obtain ⟨u, hu, ru⟩ := r.get e
      have : its.toArray[k]? = some u := by simpa using hu
      rw [this]
      exact .cons ru (vals_pick r ks)
def clsV : V → Option Value
  | .ty n => some (.type n)
  | .ref a => some (.ref a)
  | _ => none
theorem clsV_rel {c : V} {u cv : Value} (r : RelV c u) (e : clsV c = some cv) : u = cv := by
  cases c with
  | ty n => cases e; exact r
  | ref a => cases e; exact r
  | non => cases e
  | bl _ => cases e
  | int _ => cases e
  | str _ => cases e
  | byt _ => cases e
  | flt _ => cases e
end
end L2
set_option maxHeartbeats 4000000
namespace L2
open PySem PySem.Spec PyProof.Rows
mutual
inductive DatV (K : PySem.W.Frag) (H : Hp) : V → PyData → Prop
  | non : DatV K H .non .none
  | bl (b : Bool) : DatV K H (.bl b) (.bool b)
  | int (i : Int) : DatV K H (.int i) (.int i)
  | str (x : Str) : DatV K H (.str x) (.str x)
  | lst {a : Addr} {xs : List V} {ds : List PyData} : SqL K H a xs → DatAll K H xs ds → DatV K H (.ref a) (.list ds)
  | tup {a : Addr} {xs : List V} {ds : List PyData} : SqT K H a xs → DatAll K H xs ds → DatV K H (.ref a) (.tuple ds)
inductive DatAll (K : PySem.W.Frag) (H : Hp) : List V → List PyData → Prop
  | nil : DatAll K H [] []
  | cons {v : V} {d : PyData} {vs : List V} {ds : List PyData} : DatV K H v d → DatAll K H vs ds → DatAll K H (v :: vs) (d :: ds)
end
section
variable {X : Cx} {pins : List (Addr × Obj)} {σ : St} {H : Hp} {s : Shared}
mutual
theorem Inv.reads (I : Inv X pins σ H s) : ∀ {v : V} {d : PyData} {u : Value}, DatV X.K H v d → RelV v u → ∃ as, Reads s.heap u d as
  | _, _, _, .non, r => by cases r; exact ⟨_, .none⟩
  | _, _, _, .bl b, r => by cases r; exact ⟨_, .bool b⟩
  | _, _, _, .int i, r => by obtain ⟨t, rfl⟩ := r; exact ⟨_, .int i t⟩
  | _, _, _, .str x, r => by obtain ⟨t, rfl⟩ := r; exact ⟨_, .str x t⟩
  | _, _, _, .lst hq ha, r => by
    cases r
    obtain ⟨its, rv, ⟨o, n, ho, hc, _, hd⟩, _⟩ := I.list hq
    obtain ⟨as, z⟩ := Inv.readsAll I ha rv
    exact ⟨_, .list ho hc hd (by simpa using z)⟩
  | _, _, _, .tup hq ha, r => by
    cases r
    obtain ⟨its, rv, ⟨o, ho, hc, n, hd⟩, _⟩ := I.tuple hq
    obtain ⟨as, z⟩ := Inv.readsAll I ha rv
    exact ⟨_, .tuple ho hc hd (by simpa using z)⟩
theorem Inv.readsAll (I : Inv X pins σ H s) : ∀ {vs : List V} {ds : List PyData} {us : List Value}, DatAll X.K H vs ds → Vals vs us → ∃ as, ReadsAll s.heap us ds as
  | _, _, _, .nil, r => by cases r; exact ⟨_, .nil⟩
  | _, _, _, .cons h t, r => by
    cases r with
    | cons r1 r2 =>
      obtain ⟨as, z⟩ := Inv.reads I h r1
      obtain ⟨bs, z'⟩ := Inv.readsAll I t r2
      exact ⟨_, .cons z z'⟩
end
end
section
variable {X : Cx}
def rEqD (K : PySem.W.Frag) (neg : Bool) : R2 := fun x y H Q => ∃ dx dy, DatV K H x dx ∧ DatV K H y dy ∧ SeqAt.shaped dx = true ∧ SeqAt.shaped dy = true ∧ Q (.bl (if neg then !PyData.eqv dx dy else PyData.eqv dx dy)) H
theorem vD (hu : X.A.units + 64 < cLine) : OpR X (compareOp .Eq) (rEqD X.K false) := by
  intro pins s σ H x y v u Q I rx ry h
  obtain ⟨dx, dy, h1, h2, s1, s2, q⟩ := h
  obtain ⟨as, z1⟩ := I.reads h1 rx
  obtain ⟨bs, z2⟩ := I.reads h2 ry
  exact eq_dataH z1 z2 s1 s2 hu ⟨.bl _, H, I, rfl, q⟩
theorem op_neD (hu : X.A.units + 64 < cLine) : OpR X (compareOp .NotEq) (rEqD X.K true) := by
  intro pins s σ H x y v u Q I rx ry h
  obtain ⟨dx, dy, h1, h2, s1, s2, q⟩ := h
  obtain ⟨as, z1⟩ := I.reads h1 rx
  obtain ⟨bs, z2⟩ := I.reads h2 ry
  exact ne_dataH z1 z2 s1 s2 hu ⟨.bl _, H, I, rfl, q⟩
end
section
variable {X : Cx}
end
section
variable {X : Cx}
theorem bools_at {bs : List Bool} {its : List Value} (r : Vals (bs.map V.bl) its) {i : Nat} {v : Value} (h : its.toArray[i]? = some v) : v = .bool (bs.getD i false) := by
  have h2 : its[i]? = some v := by simpa using h
  have hi : i < its.length := (List.getElem?_eq_some_iff.mp h2).1
  have hl := r.length
  rw [List.length_map] at hl
  have e : (bs.map V.bl)[i]? = some (V.bl (bs.getD i false)) := by
    rw [List.getElem?_map, List.getElem?_eq_getElem (by bv_omega), List.getD_eq_getElem?_getD, List.getElem?_eq_getElem (by bv_omega)]
    rfl
  obtain ⟨u, hu, ru⟩ := r.get e
  rw [h2] at hu
  cases hu
  exact ru
theorem range_getD (bs : List Bool) : (List.range bs.length).map (fun i => bs.getD i false) = bs := by
  refine List.ext_getElem (by simp) fun i h1 h2 => ?_
  simp [List.getD, h2]
theorem range_all (bs : List Bool) : (List.range bs.length).all (fun i => bs.getD i false) = bs.all id := by
  have z := congrArg (fun l => List.all l id) (range_getD bs)
  simpa [List.all_map, Function.comp_def] using z
theorem call_allB (hc : X.calm = true) : CallR X (.builtin "all") (fun xs H Q => ∃ (p : Addr) (bs : List Bool), xs = [.ref p] ∧ SqL X.K H p (bs.map V.bl) ∧ Q (.bl (bs.all id)) H) := by
  intro pins s σ H xs us Q I r h
  obtain ⟨p, bs, rfl, hq, q⟩ := h
  obtain ⟨u, rfl, ru⟩ := vals1 r
  cases ru
  obtain ⟨its, rv, pl, hz⟩ := I.list hq
  have hl := rv.length
  rw [List.length_map] at hl
  refine call_all_walk (walk_list (A := X.A.in1) (I.ok.hd hc) pl.isList fun J hp St W st _ _ keep => ⟨_, _, _, _, _, _, fun i => bs.getD i false, rfl, W, st, ?_, fun h' tk hk => ?_⟩)
  · intro i v s' Q' E' hP hQ
    rw [bools_at rv hP]
    exact wpAny_truthy_bool hQ
  · rw [List.size_toArray, ← hl, range_all]
    exact ⟨.bl _, H, I.kept fun b o e => hk b o (by simpa using (keep b o e).1) (keep b o e).2, rfl, q⟩
end
end L2
set_option maxHeartbeats 4000000
namespace L2.L3
open PySem PySem.Spec PyProof.Rows
abbrev D := PyData
inductive Res (α : Type) where
  | ok (a : α)
  | ex (c : Str)
  | no
namespace Res
def bind {α β : Type} : Res α → (α → Res β) → Res β
  | .ok a, f => f a
  | .ex c, _ => .ex c
  | .no, _ => .no
def post {α : Type} : Res α → (α → Prop) → (Str → Prop) → Prop
  | .ok a, Q, _ => Q a
  | .ex c, _, E => E c
  | .no, _, _ => False
theorem zV {α β : Type} {r : Res α} {f : α → Res β} {Q : β → Prop} {E : Str → Prop} (h : (r.bind f).post Q E) : r.post (fun a => (f a).post Q E) E := by
  cases r <;> exact h
theorem zR {α : Type} {r : Res α} {Q Q' : α → Prop} {E E' : Str → Prop} (h : r.post Q E) (hQ : ∀ a, r = .ok a → Q a → Q' a) (hE : ∀ c, E c → E' c) : r.post Q' E' := by
  cases r with
  | ok a => exact hQ a rfl h
  | ex c => exact hE c h
  | no => exact h
def lft {α : Type} : Option α → Res α
  | some a => .ok a
  | none => .no
theorem vX {α : Type} {o : Option α} {Q : α → Prop} {E : Str → Prop} (h : (lft o).post Q E) : ∃ a, o = some a ∧ Q a := by
  cases o with
  | none => exact h.elim
  | some a => exact ⟨a, rfl, h⟩
@[simp] theorem zW {α β : Type} (a : α) (f : α → Res β) : (Res.ok a).bind f = f a := rfl
@[simp] theorem zD {α β : Type} (f : α → Res β) : (Res.no : Res α).bind f = .no := rfl
@[simp] theorem zL {α β : Type} (c : Str) (f : α → Res β) : (Res.ex c : Res α).bind f = .ex c := rfl
@[simp] theorem zT {α : Type} (a : α) : lft (some a) = .ok a := rfl
@[simp] theorem zN {α : Type} : lft (none : Option α) = .no := rfl
end Res
class CN where
  ad : Str → Addr
instance (priority := low) cn0 : CN := ⟨fun _ => 0⟩
abbrev excD (c : Str) : D := .dict [(.list [], .str c)]
variable [CN]
def excP (a : Addr) (c : Str) : Heap → Prop := fun h => ∃ o, h.get? a = some o ∧ o.cls = .ref (CN.ad c)
mutual
inductive Rep (H : Hp) (O : Addr → Prop) : V → D → Prop
  | non : Rep H O .non .none
  | bl (b : Bool) : Rep H O (.bl b) (.bool b)
  | int (i : Int) : Rep H O (.int i) (.int i)
  | str (x : Str) : Rep H O (.str x) (.str x)
  | lst {a : Addr} {xs : List V} {ds : List D} : Rd H a (.lst xs) → ¬ O a → Reps H O xs ds → Rep H O (.ref a) (.list ds)
  | tup {a : Addr} {xs : List V} {ds : List D} : Rd H a (.tup xs) → ¬ O a → Reps H O xs ds → Rep H O (.ref a) (.tuple ds)
  | exc {a : Addr} {c : Str} : H a = some (.ext (excP a c)) → ¬ O a → Rep H O (.ref a) (.dict [(.list [], .str c)])
inductive Reps (H : Hp) (O : Addr → Prop) : List V → List D → Prop
  | nil : Reps H O [] []
  | cons {v : V} {d : D} {vs : List V} {ds : List D} : Rep H O v d → Reps H O vs ds → Reps H O (v :: vs) (d :: ds)
end
theorem rd_some {H : Hp} {a : Addr} {u : HO} (h : Rd H a u) : H a ≠ none := by
  rcases h with h | ⟨o, h⟩ <;> (rw [h]; exact fun z => nomatch z)
theorem rd_keep {H H' : Hp} {a : Addr} {u : HO} (h : Rd H a u) (k : ∀ o, H a = some o → H' a = some o) : Rd H' a u := by
  rcases h with h | ⟨o, h⟩
  · exact .inl (k _ h)
  · exact .inr ⟨o, k _ h⟩
section
variable {H H' : Hp} {O O' : Addr → Prop}
mutual
theorem Rep.keep (k : ∀ b o, H b = some o → ¬ O b → H' b = some o) (s : ∀ b, H b ≠ none → O' b → O b) : ∀ {v : V} {d : D}, Rep H O v d → Rep H' O' v d
  | _, _, .non => .non
  | _, _, .bl b => .bl b
  | _, _, .int i => .int i
  | _, _, .str x => .str x
  | _, _, .lst r n t => .lst (rd_keep r fun o e => k _ o e n) (fun z => n (s _ (rd_some r) z)) (Reps.keep k s t)
  | _, _, .tup r n t => .tup (rd_keep r fun o e => k _ o e n) (fun z => n (s _ (rd_some r) z)) (Reps.keep k s t)
  | _, _, .exc r n => .exc (k _ _ r n) (fun z => n (s _ (by rw [r]; exact fun z => nomatch z) z))
theorem Reps.keep (k : ∀ b o, H b = some o → ¬ O b → H' b = some o) (s : ∀ b, H b ≠ none → O' b → O b) : ∀ {vs : List V} {ds : List D}, Reps H O vs ds → Reps H' O' vs ds
  | _, _, .nil => .nil
  | _, _, .cons h t => .cons (Rep.keep k s h) (Reps.keep k s t)
end
mutual
theorem Rep.dat {K : PySem.W.Frag} : ∀ {v : V} {d : D}, Rep H O v d → PyData.canLay0 d = true → DatV K H v d
  | _, _, .non, _ => .non
  | _, _, .bl b, _ => .bl b
  | _, _, .int i, _ => .int i
  | _, _, .str x, _ => .str x
  | _, _, .lst r n t, c => .lst (.inl r) (Reps.dat t c)
  | _, _, .tup r n t, c => .tup (.inl r) (Reps.dat t c)
  | _, _, .exc r n, c => by cases c
theorem Reps.dat {K : PySem.W.Frag} : ∀ {vs : List V} {ds : List D}, Reps H O vs ds → PyData.canLayAll0 ds = true → DatAll K H vs ds
  | _, _, .nil, _ => .nil
  | _, _, .cons h t, c => .cons (Rep.dat h (Bool.and_eq_true_iff.mp c).1) (Reps.dat t (Bool.and_eq_true_iff.mp c).2)
end
theorem Rep.same {v : V} {d : D} (h : Rep H O v d) (s : Same H H') : Rep H' O v d := h.keep (fun b o e _ => s b o e) fun _ _ z => z
theorem Reps.same {v : List V} {d : List D} (h : Reps H O v d) (s : Same H H') : Reps H' O v d := h.keep (fun b o e _ => s b o e) fun _ _ z => z
theorem Rep.less {v : V} {d : D} (h : Rep H O v d) (s : ∀ b, O' b → O b) : Rep H O' v d := h.keep (fun b o e _ => e) fun b _ z => s b z
theorem Reps.less {v : List V} {d : List D} (h : Reps H O v d) (s : ∀ b, O' b → O b) : Reps H O' v d := h.keep (fun b o e _ => e) fun b _ z => s b z
theorem Reps.length : ∀ {vs : List V} {ds : List D}, Reps H O vs ds → vs.length = ds.length
  | _, _, .nil => rfl
  | _, _, .cons _ t => congrArg (· + 1) (Reps.length t)
theorem Reps.get : ∀ {vs : List V} {ds : List D} {i : Nat} {d : D}, Reps H O vs ds → ds[i]? = some d → ∃ v, vs[i]? = some v ∧ Rep H O v d
  | _, _, _, _, .nil, e => by simp at e
  | _, _, 0, _, .cons r _, e => by simp at e; subst e; exact ⟨_, rfl, r⟩
  | _, _, i + 1, d, .cons _ t, e => by
    obtain ⟨u, h1, h2⟩ := Reps.get (i := i) (d := d) t (by simpa using e)
    exact ⟨u, by simpa using h1, h2⟩
theorem Reps.append : ∀ {vs ws : List V} {ds es : List D}, Reps H O vs ds → Reps H O ws es → Reps H O (vs ++ ws) (ds ++ es)
  | _, _, _, _, .nil, s => s
  | _, _, _, _, .cons r t, s => .cons r (Reps.append t s)
theorem Reps.one {v : V} {d : D} (h : Rep H O v d) : Reps H O [v] [d] := .cons h .nil
theorem Reps.set {x : V} {u : D} (r : Rep H O x u) : ∀ {vs : List V} {ds : List D} (i : Nat), Reps H O vs ds → Reps H O (vs.set i x) (ds.set i u)
  | _, _, _, .nil => .nil
  | _, _, 0, .cons _ t => .cons r t
  | _, _, i + 1, .cons q t => .cons q (Reps.set r i t)
theorem Reps.take : ∀ {vs : List V} {ds : List D} (n : Nat), Reps H O vs ds → Reps H O (vs.take n) (ds.take n)
  | _, _, 0, _ => .nil
  | _, _, _ + 1, .nil => .nil
  | _, _, n + 1, .cons r t => .cons r (Reps.take n t)
theorem Reps.drop : ∀ {vs : List V} {ds : List D} (n : Nat), Reps H O vs ds → Reps H O (vs.drop n) (ds.drop n)
  | _, _, 0, r => r
  | _, _, _ + 1, .nil => .nil
  | _, _, n + 1, .cons _ t => Reps.drop n t
theorem Reps.rep {vs : List V} {ds : List D} (h : Reps H O vs ds) : ∀ k : Nat, Reps H O (List.replicate k vs).flatten (List.replicate k ds).flatten
  | 0 => .nil
  | k + 1 => by
    rw [List.replicate_succ, List.replicate_succ, List.flatten_cons, List.flatten_cons]
    exact h.append (Reps.rep h k)
theorem reps_ints : ∀ (ns : List Int), Reps H O (ns.map V.int) (ns.map PyData.int)
  | [] => .nil
  | n :: ns => .cons (.int n) (reps_ints ns)
theorem Reps.ints : ∀ {ns : List Int} {vs : List V}, Reps H O vs (ns.map PyData.int) → vs = ns.map V.int
  | [], _, h => by cases h; rfl
  | n :: ns, _, h => by
    cases h with
    | cons r t => cases r; rw [Reps.ints t]; rfl
theorem Reps.bools : ∀ {ns : List Bool} {vs : List V}, Reps H O vs (ns.map PyData.bool) → vs = ns.map V.bl
  | [], _, h => by cases h; rfl
  | n :: ns, _, h => by
    cases h with
    | cons r t => cases r; rw [Reps.bools t]; rfl
end
abbrev Ev := List (Option D)
structure Wd where
  o : Addr → Prop
  la : Nat → Addr
instance : CoeFun Wd (fun _ => Addr → Prop) := ⟨Wd.o⟩
abbrev Uni (Oc : Wd) (Ob : Addr → Prop) : Addr → Prop := fun b => Oc b ∨ Ob b
def OwnAt (H : Hp) (Oc : Wd) (Ob : Addr → Prop) (v : V) (d : D) : Prop := ∃ a ys ds, v = .ref a ∧ d = .list ds ∧ H a = some (.lst ys) ∧ Ob a ∧ Reps H (Uni Oc Ob) ys ds
def LentAt (i : Nat) (H : Hp) (Oc : Wd) (Ob : Addr → Prop) (v : V) (d : D) : Prop := ∃ ys ds, v = .ref (Oc.la i) ∧ d = .list ds ∧ H (Oc.la i) = some (.lst ys) ∧ Oc (Oc.la i) ∧ Reps H (Uni Oc Ob) ys ds
structure Rel (Oc : Wd) (Ob : Addr → Prop) (om ln : List Nat) (σ : St) (H : Hp) (ρ : Ev) : Prop where
  len : σ.length = ρ.length
  val : ∀ i d, ρ[i]? = some (some d) → i ∉ om → i ∉ ln → ∃ v, σ[i]? = some (some v) ∧ Rep H (Uni Oc Ob) v d
  own : ∀ i d, ρ[i]? = some (some d) → i ∈ om → ∃ v, σ[i]? = some (some v) ∧ OwnAt H Oc Ob v d
  lnt : ∀ i d, ρ[i]? = some (some d) → i ∉ om → i ∈ ln → ∃ v, σ[i]? = some (some v) ∧ LentAt i H Oc Ob v d
  inj : ∀ i j di dj a, ρ[i]? = some (some di) → ρ[j]? = some (some dj) → i ∈ om → j ∈ om → σ[i]? = some (some (.ref a)) → σ[j]? = some (some (.ref a)) → i = j
  oh : ∀ a, Oc a ∨ Ob a → H a ≠ none
  ap : ∀ a, Ob a → ¬ Oc a
section
variable {Oc : Wd} {Ob : Addr → Prop} {om ln : List Nat} {σ : St} {H H' : Hp} {ρ : Ev}
theorem Same.ne {b : Addr} (s : Same H H') (h : H b ≠ none) : H' b ≠ none := by
  cases e : H b with
  | none => exact absurd e h
  | some o => rw [s b o e]; exact fun z => nomatch z
theorem Rel.same (R : Rel Oc Ob om ln σ H ρ) (s : Same H H') : Rel Oc Ob om ln σ H' ρ where
  len := R.len
  val := fun i d e h1 h2 => let ⟨v, a, b⟩ := R.val i d e h1 h2; ⟨v, a, b.same s⟩
  own := fun i d e h1 => let ⟨v, q, a, ys, ds, e1, e2, e3, e4, e5⟩ := R.own i d e h1; ⟨v, q, a, ys, ds, e1, e2, s _ _ e3, e4, e5.same s⟩
  lnt := fun i d e h1 h2 => let ⟨v, q, ys, ds, e1, e2, e3, e4, e5⟩ := R.lnt i d e h1 h2; ⟨v, q, ys, ds, e1, e2, s _ _ e3, e4, e5.same s⟩
  inj := R.inj
  oh := fun a h => Same.ne s (R.oh a h)
  ap := R.ap
end
inductive Md where
  | cl
  | rd
  | any
  | new
def VA (Oc : Wd) (Ob : Addr → Prop) (H : Hp) (v : V) (d : D) : Prop :=
  Rep H (Uni Oc Ob) v d ∨ ∃ a ys ds, v = .ref a ∧ d = .list ds ∧ H a = some (.lst ys) ∧ Reps H (Uni Oc Ob) ys ds
def VR : Md → Wd → (Addr → Prop) → Hp → Hp → V → D → Prop
  | .cl, Oc, Ob, _, H', v, d => Rep H' (Uni Oc Ob) v d
  | .rd, Oc, Ob, _, H', v, d => Rep H' (Uni Oc Ob) v d ∨ ∃ a ys ds, v = .ref a ∧ d = .list ds ∧ H' a = some (.lst ys) ∧ ¬ Ob a ∧ Reps H' (Uni Oc Ob) ys ds
  | .any, Oc, Ob, _, H', v, d => VA Oc Ob H' v d
  | .new, Oc, Ob, H, H', v, d => ∃ a ys ds, v = .ref a ∧ d = .list ds ∧ H a = none ∧ H' a = some (.lst ys) ∧ Reps H' (fun b => Uni Oc Ob b ∨ b = a) ys ds
section
variable {Oc : Wd} {Ob : Addr → Prop} {H H1 H2 : Hp} {v : V} {d : D} {md : Md}
theorem VR.same (h : VR md Oc Ob H H1 v d) (s : Same H1 H2) : VR md Oc Ob H H2 v d := by
  cases md with
  | cl => exact Rep.same h s
  | rd =>
    rcases h with h | ⟨a, ys, ds, e1, e2, e3, e4, e5⟩
    · exact .inl (Rep.same h s)
    · exact .inr ⟨a, ys, ds, e1, e2, s _ _ e3, e4, e5.same s⟩
  | any =>
    rcases h with h | ⟨a, ys, ds, e1, e2, e3, e5⟩
    · exact .inl (Rep.same h s)
    · exact .inr ⟨a, ys, ds, e1, e2, s _ _ e3, e5.same s⟩
  | new =>
    obtain ⟨a, ys, ds, e1, e2, e3, e4, e5⟩ := h
    exact ⟨a, ys, ds, e1, e2, e3, s _ _ e4, e5.same s⟩
theorem VR.from (h : VR md Oc Ob H1 H2 v d) (s : Same H H1) : VR md Oc Ob H H2 v d := by
  cases md with
  | new =>
    obtain ⟨a, ys, ds, e1, e2, e3, e4, e5⟩ := h
    exact ⟨a, ys, ds, e1, e2, s.free e3, e4, e5⟩
  | _ => exact h
theorem VR.clean (h : VR .new Oc Ob H H1 v d) (oh : ∀ a, Oc a ∨ Ob a → H a ≠ none) : VR .cl Oc Ob H H1 v d := by
  obtain ⟨a, ys, ds, rfl, rfl, e3, e4, e5⟩ := h
  exact .lst (.inl e4) (fun z => oh a z e3) (e5.less fun b z => .inl z)
theorem VR.va (h : VR md Oc Ob H H1 v d) (oh : ∀ a, Oc a ∨ Ob a → H a ≠ none) : VA Oc Ob H1 v d := by
  cases md with
  | cl => exact .inl h
  | rd =>
    rcases h with h | ⟨a, ys, ds, e1, e2, e3, e4, e5⟩
    · exact .inl h
    · exact .inr ⟨a, ys, ds, e1, e2, e3, e5⟩
  | any => exact h
  | new => exact .inl (VR.clean h oh)
theorem VA.dat {K : PySem.W.Frag} (h : VA Oc Ob H v d) (c : PyData.canLay0 d = true) : DatV K H v d := by
  rcases h with h | ⟨a, ys, ds, rfl, rfl, e3, e5⟩
  · exact h.dat c
  · exact .lst (SqL.of e3) (e5.dat c)
theorem VA.datS {K : PySem.W.Frag} (h : VA Oc Ob H v d) (c : SeqAt.shaped d = true) : DatV K H v d := h.dat (SeqAt.canLay_of_shaped c)
theorem VA.list {ds : List D} (h : VA Oc Ob H v (.list ds)) : ∃ a ys, v = .ref a ∧ Rd H a (.lst ys) ∧ Reps H (Uni Oc Ob) ys ds := by
  rcases h with h | ⟨a, ys, ds, rfl, e, e3, e5⟩
  · cases h with
    | lst r n t => exact ⟨_, _, rfl, r, t⟩
  · cases e
    exact ⟨a, ys, rfl, .inl e3, e5⟩
theorem VA.tuple {ds : List D} (h : VA Oc Ob H v (.tuple ds)) : ∃ a ys, v = .ref a ∧ Rd H a (.tup ys) ∧ Reps H (Uni Oc Ob) ys ds := by
  rcases h with h | ⟨a, ys, ds, rfl, e, e3, e5⟩
  · cases h with
    | tup r n t => exact ⟨_, _, rfl, r, t⟩
  · cases e
theorem VA.int {i : Int} (h : VA Oc Ob H v (.int i)) : v = .int i := by
  rcases h with h | ⟨a, ys, ds, rfl, e, e3, e5⟩
  · cases h; rfl
  · cases e
theorem VA.bool {i : Bool} (h : VA Oc Ob H v (.bool i)) : v = .bl i := by
  rcases h with h | ⟨a, ys, ds, rfl, e, e3, e5⟩
  · cases h; rfl
  · cases e
theorem VA.none (h : VA Oc Ob H v .none) : v = .non := by
  rcases h with h | ⟨a, ys, ds, rfl, e, e3, e5⟩
  · cases h; rfl
  · cases e
theorem VA.rep (h : VA Oc Ob H v d) : Rep H (fun _ => False) v d := by
  rcases h with h | ⟨a, ys, ds, rfl, rfl, e3, e5⟩
  · exact h.less fun _ z => z.elim
  · exact .lst (.inl e3) (fun z => z) (e5.less fun _ z => z.elim)
end
structure Ct where
  X : Cx
  XE : Str → Hp → Prop
  om : List Nat
  ln : List Nat
def RE (C : Ct) (md : Md) (e : Expr) (m : Ev → Res D) : Prop :=
  ∃ t, PE C.X e t ∧ ∀ (Oc : Wd) (Ob : Addr → Prop) (σ : St) (H : Hp) (ρ : Ev) (Q : VK), Rel Oc Ob C.om C.ln σ H ρ →
    (m ρ).post (fun d => ∀ v H', Same H H' → VR md Oc Ob H H' v d → Q v H') (fun c => ∀ H', Same H H' → C.XE c H') → t σ H Q
def RT (C : Ct) (e : Expr) (m : Ev → Res Bool) : Prop :=
  ∃ t, PT C.X e t ∧ ∀ (Oc : Wd) (Ob : Addr → Prop) (σ : St) (H : Hp) (ρ : Ev) (Q : Bool → Hp → Prop), Rel Oc Ob C.om C.ln σ H ρ →
    (m ρ).post (fun b => ∀ H', Same H H' → Q b H') (fun c => ∀ H', Same H H' → C.XE c H') → t σ H Q
def RW (C : Ct) (e : Expr) (m : Ev → Res Bool) : Prop :=
  ∃ t, PW C.X e t ∧ ∀ (Oc : Wd) (Ob : Addr → Prop) (σ : St) (H : Hp) (ρ : Ev) (Q : Bool → Hp → Prop), Rel Oc Ob C.om C.ln σ H ρ →
    (m ρ).post (fun b => ∀ H', Same H H' → Q b H') (fun c => ∀ H', Same H H' → C.XE c H') → t σ H Q
inductive Out where
  | nx (ρ : Ev)
  | rt (d : D)
def Frm (Ob : Addr → Prop) (H H' : Hp) : Prop := ∀ b o, H b = some o → ¬ Ob b → H' b = some o
theorem Same.frm {Ob : Addr → Prop} {H H' : Hp} (s : Same H H') : Frm Ob H H' := fun b o e _ => s b o e
def RetOk : Bool → Wd → (Addr → Prop) → Hp → Hp → V → D → Prop
  | true, Oc, Ob, H, H', v, d => ∃ a ys ds, v = .ref a ∧ d = .list ds ∧ (H a = none ∨ Ob a) ∧ ¬ Oc a ∧ H' a = some (.lst ys) ∧ Reps H' (fun b => Oc b ∨ b = a) ys ds
  | false, Oc, _, _, H', v, d => Rep H' Oc.o v d
def SPost (C : Ct) (fr : Bool) (Oc : Wd) (Ob : Addr → Prop) (H : Hp) (E : Ends) (r : Res Out) : Prop :=
  r.post (fun o => match o with
    | .nx ρ' => ∀ σ' H' Ob', Rel Oc Ob' C.om C.ln σ' H' ρ' → Frm Ob H H' → (∀ b, Ob' b → Ob b ∨ H b = none) → E.nx σ' H'
    | .rt d => ∀ v H', Frm Ob H H' → RetOk fr Oc Ob H H' v d → E.rt v H') (fun c => ∀ H', Frm Ob H H' → C.XE c H')
def RS (C : Ct) (fr : Bool) (st : Stmt) (m : Ev → Res Out) : Prop :=
  ∃ t, PS C.X st t ∧ ∀ (Oc : Wd) (Ob : Addr → Prop) (σ : St) (H : Hp) (ρ : Ev) (E : Ends), Rel Oc Ob C.om C.ln σ H ρ → SPost C fr Oc Ob H E (m ρ) → t E σ H
def RSs (C : Ct) (fr : Bool) (st : List Stmt) (m : Ev → Res Out) : Prop :=
  ∃ t, PSs C.X st t ∧ ∀ (Oc : Wd) (Ob : Addr → Prop) (σ : St) (H : Hp) (ρ : Ev) (E : Ends), Rel Oc Ob C.om C.ln σ H ρ → SPost C fr Oc Ob H E (m ρ) → t E σ H
section
variable {C : Ct} {fr : Bool} {Oc : Wd} {Ob Ob1 Ob2 : Addr → Prop} {H H1 H2 : Hp} {E : Ends} {r : Res Out}
theorem Frm.trans (f : Frm Ob H H1) (s : ∀ b, Ob1 b → Ob b ∨ H b = none) (g : Frm Ob1 H1 H2) : Frm Ob H H2 := fun b o e n =>
  g b o (f b o e n) fun z => (s b z).elim n fun q => by rw [e] at q; cases q
theorem Frm.none (f : Frm Ob H H1) {b : Addr} (h : H1 b = none) : Ob b ∨ H b = none := by
  by_cases n : Ob b
  · exact .inl n
  · cases e : H b with
    | none => exact .inr rfl
    | some o => rw [f b o e n] at h; cases h
theorem SPost.step (f : Frm Ob H H1) (s : ∀ b, Ob1 b → Ob b ∨ H b = none) (h : SPost C fr Oc Ob H E r) : SPost C fr Oc Ob1 H1 E r := by
  refine Res.zR h (fun o _ q => ?_) fun c q H' g => q H' (f.trans s g)
  cases o with
  | nx ρ' => exact fun σ' H' Ob' R g s' => q σ' H' Ob' R (f.trans s g) fun b z => (s' b z).elim (s b) fun z => f.none z
  | rt d =>
    refine fun v H' g k => q v H' (f.trans s g) ?_
    cases fr with
    | false => exact k
    | true =>
      obtain ⟨a, ys, ds, e1, e2, e3, e4, e5, e6⟩ := k
      refine ⟨a, ys, ds, e1, e2, ?_, e4, e5, e6⟩
      rcases e3 with e3 | e3
      · exact (f.none e3).symm
      · exact (s a e3).symm
theorem SPost.same (f : Same H H1) (h : SPost C fr Oc Ob H E r) : SPost C fr Oc Ob H1 E r := h.step (Same.frm f) fun b z => .inl z
end
end L2.L3
set_option maxHeartbeats 4000000
namespace L2.L3
open PySem PySem.Spec PyProof.Rows
variable [CN]
section
variable {C : Ct} {a b c e : Expr} {es : List Expr} {pos : Pos} {md mda mdb mdc : Md} {ma mb mc : Ev → Res D}
theorem RE.cl (h : RE C .new e ma) : RE C .cl e ma := by
  obtain ⟨t, p, q⟩ := h
  exact ⟨t, p, fun Oc Ob σ H ρ Q R h => q Oc Ob σ H ρ Q R (Res.zR h (fun d _ k v H' s r => k v H' s (VR.clean r R.oh)) fun _ z => z)⟩
theorem RE.rd (h : RE C .cl e ma) : RE C .rd e ma := by
  obtain ⟨t, p, q⟩ := h
  exact ⟨t, p, fun Oc Ob σ H ρ Q R h => q Oc Ob σ H ρ Q R (Res.zR h (fun d _ k v H' s r => k v H' s (.inl r)) fun _ z => z)⟩
def eC (d : D) : Ev → Res D := fun _ => .ok d
theorem vU {i j} : RE C .cl (.Constant (.int i) j pos) (eC (.int i)) := ⟨_, pe_int, fun Oc Ob σ H ρ Q R h => h _ H (Same.refl H) (Rep.int i)⟩
theorem vC {i j} : RE C .cl (.Constant (.bool i) j pos) (eC (.bool i)) := ⟨_, pe_bl, fun Oc Ob σ H ρ Q R h => h _ H (Same.refl H) (Rep.bl i)⟩
theorem re_non {j} : RE C .cl (.Constant .none j pos) (eC .none) := ⟨_, pe_non, fun Oc Ob σ H ρ Q R h => h _ H (Same.refl H) Rep.non⟩
theorem re_str {i j} : RE C .cl (.Constant (.str i) j pos) (eC (.str i)) := ⟨_, pe_str, fun Oc Ob σ H ρ Q R h => h _ H (Same.refl H) (Rep.str i)⟩
def eV (i : Nat) : Ev → Res D := fun ρ => match ρ[i]? with
  | some (some d) => .ok d
  | _ => .no
theorem eV_post {i : Nat} {ρ : Ev} {Q : D → Prop} {E : Str → Prop} (h : (eV i ρ).post Q E) : ∃ d, ρ[i]? = some (some d) ∧ Q d := by
  unfold eV at h
  split at h
  · exact ⟨_, by assumption, h⟩
  · exact h.elim
theorem not_mem_of {i : Nat} {l : List Nat} (h : l.contains i = false) : i ∉ l := by
  intro z
  rw [List.contains_iff_mem.mpr z] at h
  cases h
theorem mem_of {i : Nat} {l : List Nat} (h : l.contains i = true) : i ∈ l := List.contains_iff_mem.mp h
theorem zZ (i : Nat) {x : Str} (hN : autoParam (C.X.N[i]? = some x) zX._auto_1) (ho : autoParam (C.om.contains i = false) zX._auto_1) (hl : autoParam (C.ln.contains i = false) zX._auto_1) (hv : autoParam (Vis C.X.env.scope x) autoK8._auto_1) (hd : autoParam ((x == ("__debug__" : Str)) = false) vY._auto_1)
    (hcd : autoParam ((x == ("__classdict__" : Str)) = false) vY._auto_1) : RE C .cl (.Name x pos) (eV i) := by
  refine ⟨_, pe_var hN hv hd hcd, fun Oc Ob σ H ρ Q R h => ?_⟩
  obtain ⟨d, e, k⟩ := eV_post h
  obtain ⟨v, q, r⟩ := R.val i d e (not_mem_of ho) (not_mem_of hl)
  exact ⟨v, q, k v H (Same.refl H) r⟩
theorem re_own (i : Nat) {x : Str} (hN : autoParam (C.X.N[i]? = some x) zX._auto_1) (ho : autoParam (C.om.contains i = true) zX._auto_1) (hv : autoParam (Vis C.X.env.scope x) autoK8._auto_1) (hd : autoParam ((x == ("__debug__" : Str)) = false) vY._auto_1)
    (hcd : autoParam ((x == ("__classdict__" : Str)) = false) vY._auto_1) : RE C .any (.Name x pos) (eV i) := by
  refine ⟨_, pe_var hN hv hd hcd, fun Oc Ob σ H ρ Q R h => ?_⟩
  obtain ⟨d, e, k⟩ := eV_post h
  obtain ⟨v, q, a, ys, ds, e1, e2, e3, e4, e5⟩ := R.own i d e (mem_of ho)
  exact ⟨v, q, k v H (Same.refl H) (.inr ⟨a, ys, ds, e1, e2, e3, e5⟩)⟩
theorem re_globI {x : Str} {i : Int} {u : Value} (hm : C.X.mg x = some u) (r : RelV (.int i) u) (hg : autoParam (Gl C.X x) zX._auto_1) (hd : autoParam ((x == ("__debug__" : Str)) = false) vY._auto_1) : RE C .cl (.Name x pos) (eC (.int i)) :=
  ⟨_, pe_glob hg hm r hd, fun Oc Ob σ H ρ Q R h => h _ H (Same.refl H) (Rep.int i)⟩
def e2 (f : D → D → Option D) (m n : Ev → Res D) : Ev → Res D := fun ρ => (m ρ).bind fun x => (n ρ).bind fun y => Res.lft (f x y)
def Pr2 (r : R2) (md : Md) (f : D → D → Option D) : Prop :=
  ∀ (Oc : Wd) (Ob : Addr → Prop) (H : Hp) (x y : V) (dx dy d : D) (Q : VK), (∀ a, Oc a ∨ Ob a → H a ≠ none) → VA Oc Ob H x dx → VA Oc Ob H y dy → f dx dy = some d → (∀ v H', Same H H' → VR md Oc Ob H H' v d → Q v H') → r x y H Q
theorem two {ta tb : TE} {f : D → D → Option D} {r : R2} (ha : ∀ (Oc : Wd) (Ob : Addr → Prop) (σ : St) (H : Hp) (ρ : Ev) (Q : VK), Rel Oc Ob C.om C.ln σ H ρ → (ma ρ).post (fun d => ∀ v H', Same H H' → VR mda Oc Ob H H' v d → Q v H') (fun c => ∀ H', Same H H' → C.XE c H') → ta σ H Q)
    (hb : ∀ (Oc : Wd) (Ob : Addr → Prop) (σ : St) (H : Hp) (ρ : Ev) (Q : VK), Rel Oc Ob C.om C.ln σ H ρ → (mb ρ).post (fun d => ∀ v H', Same H H' → VR mdb Oc Ob H H' v d → Q v H') (fun c => ∀ H', Same H H' → C.XE c H') → tb σ H Q) (hp : Pr2 r md f)
    {Oc : Wd} {Ob : Addr → Prop} {σ : St} {H : Hp} {ρ : Ev} {Q : VK} (R : Rel Oc Ob C.om C.ln σ H ρ) (h : (e2 f ma mb ρ).post (fun d => ∀ v H', Same H H' → VR md Oc Ob H H' v d → Q v H') (fun c => ∀ H', Same H H' → C.XE c H')) :
    ta σ H fun x H1 => tb σ H1 fun y H2 => r x y H2 Q := by
  refine ha Oc Ob σ H ρ _ R (Res.zR (Res.zV h) (fun dx _ q x H1 s1 vx => ?_) fun _ z => z)
  refine hb Oc Ob σ H1 ρ _ (R.same s1) (Res.zR (Res.zV q) (fun dy _ q y H2 s2 vy => ?_) fun c z H' s' => z H' (s1.trans s'))
  obtain ⟨d, e, q⟩ := Res.vX q
  have oh2 := ((R.same s1).same s2).oh
  refine hp Oc Ob H2 x y dx dy d Q oh2 ((vx.same s2).va R.oh) (vy.va (R.same s1).oh) e fun v H' s3 r => ?_
  exact q v H' ((s1.trans s2).trans s3) (r.from (s1.trans s2))
theorem vQ {op : Operator} {r : R2} {f : D → D → Option D} (ho : OpR C.X (binaryOp op) r) (hp : Pr2 r md f) (ha : RE C mda a ma) (hb : RE C mdb b mb) : RE C md (.BinOp a op b pos) (e2 f ma mb) := by
  obtain ⟨ta, pa, qa⟩ := ha
  obtain ⟨tb, pb, qb⟩ := hb
  exact ⟨_, pe_op ho pa pb, fun Oc Ob σ H ρ Q R h => two qa qb hp R h⟩
theorem vK {r : R2} {f : D → D → Option D} (ho : IxR C.X r) (hp : Pr2 r md f) (ha : RE C mda a ma) (hb : RE C mdb b mb) (hs : autoParam (PlainIx b) autoK9._auto_1) : RE C md (.Subscript a b pos) (e2 f ma mb) := by
  obtain ⟨ta, pa, qa⟩ := ha
  obtain ⟨tb, pb, qb⟩ := hb
  exact ⟨_, pe_ix ho pa pb hs, fun Oc Ob σ H ρ Q R h => two qa qb hp R h⟩
def PrB (r : R2) (f : D → D → Option Bool) : Prop :=
  ∀ (Oc : Wd) (Ob : Addr → Prop) (H : Hp) (x y : V) (dx dy : D) (k : Bool) (Q : VK), VA Oc Ob H x dx → VA Oc Ob H y dy → f dx dy = some k → Q (.bl k) H → r x y H Q
def bD (o : Option Bool) : Option D := o.map PyData.bool
theorem PrB.pr {r : R2} {f : D → D → Option Bool} (h : PrB r f) : Pr2 r .cl (fun x y => bD (f x y)) := by
  intro Oc Ob H x y dx dy d Q oh vx vy e k
  cases ef : f dx dy with
  | none => simp only [ef] at e; cases e
  | some b =>
    simp only [ef] at e
    cases e
    exact h Oc Ob H x y dx dy b Q vx vy ef (k _ H (Same.refl H) (Rep.bl b))
theorem re_cmp {op : CmpOp} {r : R2} {f : D → D → Option Bool} (ho : OpR C.X (compareOp op) r) (hp : PrB r f) (ha : RE C mda a ma) (hb : RE C mdb b mb) (hm : autoParam (behindInMarks op b = false) autoK10._auto_1) : RE C .cl (.Compare a [op] [b] pos) (e2 (fun x y => bD (f x y)) ma mb) := by
  obtain ⟨ta, pa, qa⟩ := ha
  obtain ⟨tb, pb, qb⟩ := hb
  exact ⟨_, pe_cmpR ho pa pb hm, fun Oc Ob σ H ρ Q R h => two qa qb hp.pr R h⟩
def b2 (f : D → D → Option Bool) (m n : Ev → Res D) : Ev → Res Bool := fun ρ => (m ρ).bind fun x => (n ρ).bind fun y => Res.lft (f x y)
theorem two_bl {f : D → D → Option Bool} {ρ : Ev} {Q : Bool → Hp → Prop} {H : Hp} {E : Str → Prop} {Oc : Wd} {Ob : Addr → Prop} (h : (b2 f ma mb ρ).post (fun b => ∀ H', Same H H' → Q b H') E) :
    (e2 (fun x y => bD (f x y)) ma mb ρ).post (fun d => ∀ v H', Same H H' → VR .cl Oc Ob H H' v d → ∃ k, v = .bl k ∧ Q k H') E := by
  unfold e2
  unfold b2 at h
  cases ea : ma ρ with
  | no => rw [ea] at h; exact h
  | ex c => rw [ea] at h; exact h
  | ok x =>
    rw [ea] at h
    simp only [Res.zW] at h ⊢
    cases eb : mb ρ with
    | no => rw [eb] at h; exact h
    | ex c => rw [eb] at h; exact h
    | ok y =>
      rw [eb] at h
      simp only [Res.zW] at h ⊢
      obtain ⟨k, ek, q⟩ := Res.vX h
      rw [ek]
      intro v H' s r
      have : v = .bl k := by cases r; rfl
      exact ⟨k, this, q H' s⟩
theorem vN {op : CmpOp} {r : R2} {f : D → D → Option Bool} (ho : OpR C.X (compareOp op) r) (hp : PrB r f) (ha : RE C mda a ma) (hb : RE C mdb b mb) (hm : autoParam (behindInMarks op b = false) autoK10._auto_1) : RT C (.Compare a [op] [b] pos) (b2 f ma mb) := by
  obtain ⟨ta, pa, qa⟩ := ha
  obtain ⟨tb, pb, qb⟩ := hb
  exact ⟨_, pt_cmpR ho pa pb hm, fun Oc Ob σ H ρ Q R h => two qa qb hp.pr R (two_bl h)⟩
def b3 (f g : D → D → Option Bool) (m n o : Ev → Res D) : Ev → Res Bool := fun ρ => (m ρ).bind fun x => (n ρ).bind fun y => (Res.lft (f x y)).bind fun k => if k then (o ρ).bind fun z => Res.lft (g y z) else .ok false
theorem chain3 {ta tb tc : TE} {f g : D → D → Option Bool} {r r' : R2} (ha : ∀ (Oc : Wd) (Ob : Addr → Prop) (σ : St) (H : Hp) (ρ : Ev) (Q : VK), Rel Oc Ob C.om C.ln σ H ρ → (ma ρ).post (fun d => ∀ v H', Same H H' → VR mda Oc Ob H H' v d → Q v H') (fun c => ∀ H', Same H H' → C.XE c H') → ta σ H Q)
    (hb : ∀ (Oc : Wd) (Ob : Addr → Prop) (σ : St) (H : Hp) (ρ : Ev) (Q : VK), Rel Oc Ob C.om C.ln σ H ρ → (mb ρ).post (fun d => ∀ v H', Same H H' → VR mdb Oc Ob H H' v d → Q v H') (fun c => ∀ H', Same H H' → C.XE c H') → tb σ H Q)
    (hc : ∀ (Oc : Wd) (Ob : Addr → Prop) (σ : St) (H : Hp) (ρ : Ev) (Q : VK), Rel Oc Ob C.om C.ln σ H ρ → (mc ρ).post (fun d => ∀ v H', Same H H' → VR mdc Oc Ob H H' v d → Q v H') (fun c => ∀ H', Same H H' → C.XE c H') → tc σ H Q) (hp : PrB r f) (hp' : PrB r' g)
    {Oc : Wd} {Ob : Addr → Prop} {σ : St} {H : Hp} {ρ : Ev} {Q : VK} (R : Rel Oc Ob C.om C.ln σ H ρ) (h : (b3 f g ma mb mc ρ).post (fun d => ∀ H', Same H H' → Q (.bl d) H') (fun c => ∀ H', Same H H' → C.XE c H')) :
    tChain r r' ta tb tc σ H Q := by
  refine ha Oc Ob σ H ρ _ R (Res.zR (Res.zV h) (fun dx _ q x H1 s1 vx => ?_) fun _ z => z)
  refine hb Oc Ob σ H1 ρ _ (R.same s1) (Res.zR (Res.zV q) (fun dy _ q y H2 s2 vy => ?_) fun c z H' s' => z H' (s1.trans s'))
  obtain ⟨k, e, q⟩ := Res.vX (Res.zV q)
  have R2 := (R.same s1).same s2
  refine hp Oc Ob H2 x y dx dy k _ ((vx.same s2).va R.oh) (vy.va (R.same s1).oh) e ⟨k, rfl, ?_⟩
  cases k with
  | false => exact iteF (q H2 (s1.trans s2))
  | true =>
    refine iteT (hc Oc Ob σ H2 ρ _ R2 (Res.zR (Res.zV q) (fun dz _ q z H3 s3 vz => ?_) fun c z H' s' => z H' ((s1.trans s2).trans s')))
    obtain ⟨k, e, q⟩ := Res.vX q
    exact hp' Oc Ob H3 y z dy dz k _ ((vy.same s3).va (R.same s1).oh) (vz.va R2.oh) e (q H3 ((s1.trans s2).trans s3))
theorem rt_chain {op op' : CmpOp} {r r' : R2} {f g : D → D → Option Bool} (ho : OpR C.X (compareOp op) r) (ho' : OpR C.X (compareOp op') r') (hp : PrB r f) (hp' : PrB r' g) (ha : RE C mda a ma) (hb : RE C mdb b mb) (hc : RE C mdc c mc)
    (hm : autoParam (lastMarks [op, op'] [b, c] = false) autoK7._auto_1) : RT C (.Compare a [op, op'] [b, c] pos) (b3 f g ma mb mc) := by
  obtain ⟨ta, pa, qa⟩ := ha
  obtain ⟨tb, pb, qb⟩ := hb
  obtain ⟨tc, pc, qc⟩ := hc
  exact ⟨_, pt_chain ho ho' pa pb pc hm, fun Oc Ob σ H ρ Q R h => chain3 qa qb qc hp hp' R (Res.zR h (fun b _ q H' s => ⟨b, rfl, q H' s⟩) fun _ z => z)⟩
def vB (m : Ev → Res Bool) : Ev → Res D := fun ρ => (m ρ).bind fun b => .ok (.bool b)
variable {ta' tb' : Ev → Res Bool} {rest : List Expr}
def isB : D → Option Bool
  | .bool b => some b
  | _ => none
def tV (m : Ev → Res D) : Ev → Res Bool := fun ρ => (m ρ).bind fun d => Res.lft (isB d)
theorem isB_some {d : D} {b : Bool} (h : isB d = some b) : d = .bool b := by
  cases d <;> simp [isB] at h ⊢
  exact h
theorem rt_val (h : RE C md a ma) (he : autoParam (∀ whole, isTrue a C.X.env whole = (do let v ← whole; standAt a.pos; holding [v] (truthy v))) autoK4._auto_1) : RT C a (tV ma) := by
  obtain ⟨t, p, q⟩ := h
  refine ⟨_, pt_val p he, fun Oc Ob σ H ρ Q R h => q Oc Ob σ H ρ _ R (Res.zR (Res.zV h) (fun d _ k v H' s r => ?_) fun _ z => z)⟩
  obtain ⟨b, e, k⟩ := Res.vX k
  obtain rfl := isB_some e
  exact ⟨b, (r.va R.oh).bool, k H' s⟩
def tNt (m : Ev → Res Bool) : Ev → Res Bool := fun ρ => (m ρ).bind fun b => .ok (!b)
theorem rt_not (h : RT C a ta') : RT C (.UnaryOp .Not a pos) (tNt ta') := by
  obtain ⟨t, p, q⟩ := h
  exact ⟨_, pt_not p, fun Oc Ob σ H ρ Q R h => q Oc Ob σ H ρ _ R (Res.zR (Res.zV h) (fun d _ k => k) fun _ z => z)⟩
def tAn (m n : Ev → Res Bool) : Ev → Res Bool := fun ρ => (m ρ).bind fun b => if b then n ρ else .ok false
def tO (m n : Ev → Res Bool) : Ev → Res Bool := fun ρ => (m ρ).bind fun b => if b then .ok true else n ρ
theorem rw_and1 (h : RT C a ta') : RW C (.BoolOp .And [a] pos) ta' := by
  obtain ⟨t, p, q⟩ := h
  exact ⟨_, pw_and1 p, q⟩
theorem rw_or1 (h : RT C a ta') : RW C (.BoolOp .Or [a] pos) ta' := by
  obtain ⟨t, p, q⟩ := h
  exact ⟨_, pw_or1 p, q⟩
theorem rw_and (ha : RT C a ta') (hb : RW C (.BoolOp .And (b :: rest) pos) tb') : RW C (.BoolOp .And (a :: b :: rest) pos) (tAn ta' tb') := by
  obtain ⟨t, p, q⟩ := ha
  obtain ⟨t', p', q'⟩ := hb
  refine ⟨_, pw_and p p', fun Oc Ob σ H ρ Q R h => q Oc Ob σ H ρ _ R (Res.zR (Res.zV h) (fun b _ k H' s => ?_) fun _ z => z)⟩
  cases b with
  | true => exact iteT (q' Oc Ob σ H' ρ Q (R.same s) (Res.zR k (fun b _ k H2 s2 => k H2 (s.trans s2)) fun c z H2 s2 => z H2 (s.trans s2)))
  | false => exact iteF (k H' s)
theorem rw_or (ha : RT C a ta') (hb : RW C (.BoolOp .Or (b :: rest) pos) tb') : RW C (.BoolOp .Or (a :: b :: rest) pos) (tO ta' tb') := by
  obtain ⟨t, p, q⟩ := ha
  obtain ⟨t', p', q'⟩ := hb
  refine ⟨_, pw_or p p', fun Oc Ob σ H ρ Q R h => q Oc Ob σ H ρ _ R (Res.zR (Res.zV h) (fun b _ k H' s => ?_) fun _ z => z)⟩
  cases b with
  | false => exact iteF (q' Oc Ob σ H' ρ Q (R.same s) (Res.zR k (fun b _ k H2 s2 => k H2 (s.trans s2)) fun c z H2 s2 => z H2 (s.trans s2)))
  | true => exact iteT (k H' s)
theorem RW.rt (h : RW C a ta') : RT C a ta' := by
  obtain ⟨t, p, q⟩ := h
  exact ⟨_, p.pt, q⟩
theorem re_one {op} (h : RE C md a ma) : RE C md (.BoolOp op [a] pos) ma := by
  obtain ⟨t, p, q⟩ := h
  exact ⟨_, pe_one p, q⟩
def vAn (m n : Ev → Res D) : Ev → Res D := fun ρ => (m ρ).bind fun d => (Res.lft (isB d)).bind fun b => if b then n ρ else .ok (.bool false)
def vO (m n : Ev → Res D) : Ev → Res D := fun ρ => (m ρ).bind fun d => (Res.lft (isB d)).bind fun b => if b then .ok (.bool true) else n ρ
def vNt (m : Ev → Res D) : Ev → Res D := fun ρ => (m ρ).bind fun d => (Res.lft (isB d)).bind fun b => .ok (.bool (!b))
theorem vF (ha : RE C mda a ma) (hb : RE C .cl (.BoolOp .And (b :: rest) pos) mb) : RE C .cl (.BoolOp .And (a :: b :: rest) pos) (vAn ma mb) := by
  obtain ⟨t, p, q⟩ := ha
  obtain ⟨t', p', q'⟩ := hb
  refine ⟨_, pe_and p p', fun Oc Ob σ H ρ Q R h => q Oc Ob σ H ρ _ R (Res.zR (Res.zV h) (fun d _ k v H' s r => ?_) fun _ z => z)⟩
  obtain ⟨b, e, k⟩ := Res.vX (Res.zV k)
  obtain rfl := isB_some e
  refine ⟨b, (r.va R.oh).bool, ?_⟩
  cases b with
  | true => exact iteT (q' Oc Ob σ H' ρ Q (R.same s) (Res.zR k (fun b _ k v H2 s2 r => k v H2 (s.trans s2) r) fun c z H2 s2 => z H2 (s.trans s2)))
  | false => exact iteF (k _ H' s (Rep.bl false))
theorem re_not (ha : RE C mda a ma) : RE C .cl (.UnaryOp .Not a pos) (vNt ma) := by
  obtain ⟨t, p, q⟩ := ha
  refine ⟨_, pe_not p, fun Oc Ob σ H ρ Q R h => q Oc Ob σ H ρ _ R (Res.zR (Res.zV h) (fun d _ k v H' s r => ?_) fun _ z => z)⟩
  obtain ⟨b, e, k⟩ := Res.vX (Res.zV k)
  obtain rfl := isB_some e
  exact ⟨b, (r.va R.oh).bool, k _ H' s (Rep.bl _)⟩
def eIf (m : Ev → Res Bool) (n o : Ev → Res D) : Ev → Res D := fun ρ => (m ρ).bind fun b => if b then n ρ else o ρ
def e1 (f : D → Option D) (m : Ev → Res D) : Ev → Res D := fun ρ => (m ρ).bind fun x => Res.lft (f x)
def negD : D → Option D
  | .int i => some (.int (-i))
  | _ => none
theorem re_neg (ha : RE C mda a ma) : RE C .cl (.UnaryOp .USub a pos) (e1 negD ma) := by
  obtain ⟨t, p, q⟩ := ha
  refine ⟨_, pe_un un_neg p, fun Oc Ob σ H ρ Q R h => q Oc Ob σ H ρ _ R (Res.zR (Res.zV h) (fun d _ k v H' s r => ?_) fun _ z => z)⟩
  obtain ⟨d', e, k⟩ := Res.vX k
  cases d with
  | int i =>
    cases e
    exact ⟨i, (r.va R.oh).int, k _ H' s (Rep.int _)⟩
  | _ => cases e
end
end L2.L3
set_option maxHeartbeats 4000000
namespace L2.L3
open PySem PySem.Spec PyProof.Rows
variable [CN]
inductive VAs (Oc : Wd) (Ob : Addr → Prop) (H : Hp) : List V → List D → Prop
  | nil : VAs Oc Ob H [] []
  | cons {v : V} {d : D} {vs : List V} {ds : List D} : VA Oc Ob H v d → VAs Oc Ob H vs ds → VAs Oc Ob H (v :: vs) (d :: ds)
section
variable {Oc : Wd} {Ob : Addr → Prop} {H H' : Hp}
theorem VAs.rep : ∀ {vs : List V} {ds : List D}, VAs Oc Ob H vs ds → Reps H (fun _ => False) vs ds
  | _, _, .nil => .nil
  | _, _, .cons h t => .cons h.rep (VAs.rep t)
theorem VA.same {v : V} {d : D} (h : VA Oc Ob H v d) (s : Same H H') : VA Oc Ob H' v d := VR.same (md := .any) (H := H) h s
end
def VQ : Bool → Wd → (Addr → Prop) → Hp → List V → List D → Prop
  | true, Oc, Ob, H, vs, ds => Reps H (Uni Oc Ob) vs ds
  | false, Oc, Ob, H, vs, ds => VAs Oc Ob H vs ds
def RArg (C : Ct) (cl : Bool) (es : List Expr) (m : Ev → Res (List D)) : Prop :=
  ∃ t, PA C.X es t ∧ ∀ (Oc : Wd) (Ob : Addr → Prop) (σ : St) (H : Hp) (ρ : Ev) (Q : List V → Hp → Prop), Rel Oc Ob C.om C.ln σ H ρ →
    (m ρ).post (fun ds => ∀ vs H', Same H H' → VQ cl Oc Ob H' vs ds → Q vs H') (fun c => ∀ H', Same H H' → C.XE c H') → t σ H Q
section
variable {C : Ct} {a b c e : Expr} {es : List Expr} {pos p : Pos} {md mda mdb mdc : Md} {ma mb mc : Ev → Res D} {ms : Ev → Res (List D)} {cl : Bool}
def aN : Ev → Res (List D) := fun _ => .ok []
def aC (m : Ev → Res D) (n : Ev → Res (List D)) : Ev → Res (List D) := fun ρ => (m ρ).bind fun x => (n ρ).bind fun xs => .ok (x :: xs)
theorem zI : RArg C cl [] aN := ⟨_, pa_nil, fun Oc Ob σ H ρ Q R h => h [] H (Same.refl H) (by cases cl; exact VAs.nil; exact Reps.nil)⟩
theorem zM (ha : RE C .cl e ma) (hr : RArg C true es ms) (hs : autoParam (starEach (e :: es) C.X.env = (false, eval e C.X.env) :: starEach es C.X.env) zX._auto_1) : RArg C true (e :: es) (aC ma ms) := by
  obtain ⟨t, p, q⟩ := ha
  obtain ⟨t', p', q'⟩ := hr
  refine ⟨_, yB p p' hs, fun Oc Ob σ H ρ Q R h => q Oc Ob σ H ρ _ R (Res.zR (Res.zV h) (fun d _ k v H' s r => ?_) fun _ z => z)⟩
  refine q' Oc Ob σ H' ρ _ (R.same s) (Res.zR (Res.zV k) (fun ds _ k vs H2 s2 r2 => ?_) fun c z H2 s2 => z H2 (s.trans s2))
  exact k _ H2 (s.trans s2) (Reps.cons (r.same s2) r2)
theorem wJ (ha : RE C md e ma) (hr : RArg C false es ms) (hs : autoParam (starEach (e :: es) C.X.env = (false, eval e C.X.env) :: starEach es C.X.env) zX._auto_1) : RArg C false (e :: es) (aC ma ms) := by
  obtain ⟨t, p, q⟩ := ha
  obtain ⟨t', p', q'⟩ := hr
  refine ⟨_, yB p p' hs, fun Oc Ob σ H ρ Q R h => q Oc Ob σ H ρ _ R (Res.zR (Res.zV h) (fun d _ k v H' s r => ?_) fun _ z => z)⟩
  refine q' Oc Ob σ H' ρ _ (R.same s) (Res.zR (Res.zV k) (fun ds _ k vs H2 s2 r2 => ?_) fun c z H2 s2 => z H2 (s.trans s2))
  exact k _ H2 (s.trans s2) (VAs.cons ((r.va R.oh).same s2) r2)
def mkL (ds : List D) : Option D := if ds.length ≤ sizeLine then some (.list ds) else none
def mkT (ds : List D) : Option D := if ds.length ≤ sizeLine then some (.tuple ds) else none
def eB (f : List D → Option D) (m : Ev → Res (List D)) : Ev → Res D := fun ρ => (m ρ).bind fun ds => Res.lft (f ds)
theorem new_list {Oc : Wd} {Ob : Addr → Prop} {H H1 : Hp} {p : Addr} {vs : List V} {ds : List D} (s : Same H H1) (hp : H1 p = none) (r : Reps H1 (Uni Oc Ob) vs ds) : VR .new Oc Ob H (upd H1 p (.lst vs)) (.ref p) (.list ds) :=
  ⟨p, vs, ds, rfl, rfl, s.free hp, wL, r.keep (fun b o e _ => by rw [yA (ne_of_none e hp)]; exact e) fun b n z => z.elim id fun z => by subst z; exact absurd hp n⟩
theorem new_tup {Oc : Wd} {Ob : Addr → Prop} {H1 : Hp} {p : Addr} {vs : List V} {ds : List D} (oh : ∀ a, Oc a ∨ Ob a → H1 a ≠ none) (hp : H1 p = none) (r : Reps H1 (Uni Oc Ob) vs ds) : Rep (upd H1 p (.tup vs)) (Uni Oc Ob) (.ref p) (.tuple ds) :=
  .tup (.inl wL) (fun z => oh p z hp) (r.same (Same.new hp))
theorem vL (h : RArg C true es ms) : RE C .new (.List es pos) (eB mkL ms) := by
  obtain ⟨t, p, q⟩ := h
  refine ⟨_, pe_lst p, fun Oc Ob σ H ρ Q R h => q Oc Ob σ H ρ _ R (Res.zR (Res.zV h) (fun ds _ k vs H' s r => ?_) fun _ z => z)⟩
  obtain ⟨d, e, k⟩ := Res.vX k
  unfold mkL at e
  split at e
  · rename_i hl
    cases e
    exact ⟨by rw [Reps.length r]; exact hl, fun p hp => k _ _ (s.trans (Same.new hp)) (new_list s hp r)⟩
  · cases e
theorem re_tup {x1} (h : RArg C true es ms) : RE C .cl (.Tuple es x1 pos) (eB mkT ms) := by
  obtain ⟨t, p, q⟩ := h
  refine ⟨_, pe_tup p, fun Oc Ob σ H ρ Q R h => q Oc Ob σ H ρ _ R (Res.zR (Res.zV h) (fun ds _ k vs H' s r => ?_) fun _ z => z)⟩
  obtain ⟨d, e, k⟩ := Res.vX k
  unfold mkT at e
  split at e
  · rename_i hl
    cases e
    exact ⟨by rw [Reps.length r]; exact hl, fun p hp => k _ _ (s.trans (Same.new hp)) (new_tup (R.same s).oh hp r)⟩
  · cases e
def PrC (r : List V → Hp → VK → Prop) (md : Md) (f : List D → Option D) : Prop :=
  ∀ (Oc : Wd) (Ob : Addr → Prop) (H : Hp) (vs : List V) (ds : List D) (d : D) (Q : VK), (∀ a, Oc a ∨ Ob a → H a ≠ none) → VAs Oc Ob H vs ds → f ds = some d → (∀ v H', Same H H' → VR md Oc Ob H H' v d → Q v H') → r vs H Q
theorem prim_call {t : TA} {r : List V → Hp → VK → Prop} {f : List D → Option D} (q : ∀ (Oc : Wd) (Ob : Addr → Prop) (σ : St) (H : Hp) (ρ : Ev) (Q : List V → Hp → Prop), Rel Oc Ob C.om C.ln σ H ρ →
    (ms ρ).post (fun ds => ∀ vs H', Same H H' → VQ false Oc Ob H' vs ds → Q vs H') (fun c => ∀ H', Same H H' → C.XE c H') → t σ H Q) (hp : PrC r md f)
    {Oc : Wd} {Ob : Addr → Prop} {σ : St} {H : Hp} {ρ : Ev} {Q : VK} (R : Rel Oc Ob C.om C.ln σ H ρ) (h : (eB f ms ρ).post (fun d => ∀ v H', Same H H' → VR md Oc Ob H H' v d → Q v H') (fun c => ∀ H', Same H H' → C.XE c H')) : tCB r t σ H Q := by
  refine q Oc Ob σ H ρ _ R (Res.zR (Res.zV h) (fun ds _ k vs H' s r => ?_) fun _ z => z)
  obtain ⟨d, e, k⟩ := Res.vX k
  exact hp Oc Ob H' vs ds d Q (R.same s).oh r e fun v H2 s2 r2 => k v H2 (s.trans s2) (r2.from s)
theorem vS {x : Str} {id : String} {r : List V → Hp → VK → Prop} {f : List D → Option D} (hc : CallR C.X (.builtin id) r) (hp : PrC r md f) (hm : C.X.mg x = none) (hv : bootBuiltins x = some (.builtin id)) (ha : RArg C false (e :: es) ms) (hg : autoParam (Gl C.X x) zX._auto_1) (hn : autoParam (x ≠ "__name__") vY._auto_1) (hdb : autoParam ((x == ("__debug__" : Str)) = false) vY._auto_1)
    (he : autoParam (starEach (e :: es) C.X.env = (false, eval e C.X.env) :: starEach es C.X.env) zX._auto_1) (hpl : autoParam ((backTo pos (starEach es C.X.env)).any (·.1) = false) zX._auto_1) : RE C md (.Call (.Name x p) (e :: es) [] pos) (eB f ms) := by
  obtain ⟨t, pa, q⟩ := ha
  exact ⟨_, pe_callB hc hg hm hv pa hn hdb he hpl, fun Oc Ob σ H ρ Q R h => prim_call q hp R h⟩
theorem re_callTy {x : Str} {T : String} {r : List V → Hp → VK → Prop} {f : List D → Option D} (hc : CallR C.X (.type T) r) (hp : PrC r md f) (hm : C.X.mg x = none) (hv : bootBuiltins x = some (.type T)) (ha : RArg C false (e :: es) ms) (hg : autoParam (Gl C.X x) zX._auto_1) (hn : autoParam (x ≠ "__name__") vY._auto_1) (hdb : autoParam ((x == ("__debug__" : Str)) = false) vY._auto_1)
    (he : autoParam (starEach (e :: es) C.X.env = (false, eval e C.X.env) :: starEach es C.X.env) zX._auto_1) (hpl : autoParam ((backTo pos (starEach es C.X.env)).any (·.1) = false) zX._auto_1) : RE C md (.Call (.Name x p) (e :: es) [] pos) (eB f ms) := by
  obtain ⟨t, pa, q⟩ := ha
  exact ⟨_, pe_callTy hc hg hm hv pa hn hdb he hpl, fun Oc Ob σ H ρ Q R h => prim_call q hp R h⟩
def Walks (Oc : Wd) (Ob : Addr → Prop) (J : It) (H1 : Hp) (ds : List D) : Prop :=
  ∀ (H2 : Hp) (Ob2 : Addr → Prop), Frm Ob H1 H2 → (∀ b, Ob2 b → Ob b ∨ H1 b = none) → ∀ i, (∀ d, ds[i]? = some d → J.go i H2 ∧ ∀ x H3, J.yld i H2 x H3 → Same H2 H3 ∧ Rep H3 (Uni Oc Ob2) x d) ∧ (ds.length ≤ i → J.stop i H2)
def RI (C : Ct) (tg iter : Expr) (m : Ev → Res (List D)) : Prop :=
  ∃ wi, PI C.X tg iter wi ∧ ∀ (Oc : Wd) (Ob : Addr → Prop) (σ : St) (H : Hp) (ρ : Ev) (R : It → Hp → Prop), Rel Oc Ob C.om C.ln σ H ρ →
    (m ρ).post (fun ds => ∀ J H1, Same H H1 → Walks Oc Ob J H1 ds → R J H1) (fun c => ∀ H', Same H H' → C.XE c H') → wi σ H R
def iSeq (K : PySem.W.Frag) (tl : TE) : TI := fun σ H R => tl σ H fun x H1 => ∃ a, x = .ref a ∧ (((∃ xs, SqL K H1 a xs) ∧ R (Itl K a) H1) ∨ ((∃ xs, SqT K H1 a xs) ∧ R (Itt K a) H1))
theorem pi_seq {X : Cx} {tg l : Expr} {tl : TE} (hl : PE X l tl) : PI X tg l (iSeq X.K tl) := by
  intro pins s σ H R I h
  refine thn (hl pins s σ H _ I h) fun v s1 ⟨x, H1, I1, r1, q1⟩ => ?_
  obtain ⟨a, e, q1⟩ := q1
  subst e
  cases r1
  rcases q1 with ⟨⟨xs, hq⟩, q⟩ | ⟨⟨xs, hq⟩, q⟩
  · obtain ⟨its, rv, p, hz⟩ := I1.list hq
    refine wpAny_pyIter_list p.isList ?_
    refine ⟨s1.heap.objs.size, [s1.heap.objs.size], _, _, H1, rfl, I1.kept (t' := s1.toks) fun b o e => Heap.get?_push_of_some _ e, turn_list a _, ⟨_, Heap.get?_push_size _ rfl, rfl, rfl⟩, fun b hb => ?_, q⟩
    have e : b = s1.heap.objs.size := by simpa using hb
    subst e
    exact I1.fpOk (Nat.le_refl _) (I1.hok.fresh (Nat.le_refl _))
  · obtain ⟨its, rv, p, hz⟩ := I1.tuple hq
    refine wpAny_pyIter_tuple (show s1.heap.IsTuple a its.toArray from p) ?_
    refine ⟨s1.heap.objs.size, [s1.heap.objs.size], _, _, H1, rfl, I1.kept (t' := s1.toks) fun b o e => Heap.get?_push_of_some _ e, turn_tuple a _, ⟨_, Heap.get?_push_size _ rfl, rfl, rfl⟩, fun b hb => ?_, q⟩
    have e : b = s1.heap.objs.size := by simpa using hb
    subst e
    exact I1.fpOk (Nat.le_refl _) (I1.hok.fresh (Nat.le_refl _))
def seqD : D → Option (List D)
  | .list ds => some ds
  | .tuple ds => some ds
  | _ => none
def iS (m : Ev → Res D) : Ev → Res (List D) := fun ρ => (m ρ).bind fun d => Res.lft (seqD d)
theorem Reps.step {Oc : Wd} {Ob Ob2 : Addr → Prop} {H1 H2 : Hp} {vs : List V} {ds : List D} (r : Reps H1 (Uni Oc Ob) vs ds) (f : Frm Ob H1 H2) (s : ∀ b, Ob2 b → Ob b ∨ H1 b = none) : Reps H2 (Uni Oc Ob2) vs ds :=
  r.keep (fun b o e n => f b o e fun z => n (.inr z)) fun b n z => z.elim .inl fun z => (s b z).elim .inr fun q => absurd q n
end
theorem walks_list {K : PySem.W.Frag} {Oc : Wd} {Ob : Addr → Prop} {H1 : Hp} {a : Addr} {ys : List V} {ds : List D} (r : Rd H1 a (.lst ys)) (n : ¬ Ob a) (rs : Reps H1 (Uni Oc Ob) ys ds) : Walks Oc Ob (Itl K a) H1 ds := by
  intro H2 Ob2 f s i
  have r2 : Rd H2 a (.lst ys) := rd_keep r fun o e => f a o e n
  have rs2 := rs.step f s
  refine ⟨fun d e => ?_, fun h => ⟨ys, .inl r2, by rw [rs2.length]; exact h⟩⟩
  obtain ⟨v, ev, rv⟩ := rs2.get e
  refine ⟨⟨ys, v, .inl r2, ev⟩, fun x H3 hy => ?_⟩
  obtain ⟨rfl, hy⟩ := hy
  have := hy ys (.inl r2)
  rw [ev] at this
  cases this
  exact ⟨Same.refl _, rv⟩
theorem walks_tuple {K : PySem.W.Frag} {Oc : Wd} {Ob : Addr → Prop} {H1 : Hp} {a : Addr} {ys : List V} {ds : List D} (r : Rd H1 a (.tup ys)) (n : ¬ Ob a) (rs : Reps H1 (Uni Oc Ob) ys ds) : Walks Oc Ob (Itt K a) H1 ds := by
  intro H2 Ob2 f s i
  have r2 : Rd H2 a (.tup ys) := rd_keep r fun o e => f a o e n
  have rs2 := rs.step f s
  refine ⟨fun d e => ?_, fun h => ⟨ys, .inl r2, by rw [rs2.length]; exact h⟩⟩
  obtain ⟨v, ev, rv⟩ := rs2.get e
  refine ⟨⟨ys, v, .inl r2, ev⟩, fun x H3 hy => ?_⟩
  obtain ⟨rfl, hy⟩ := hy
  have := hy ys (.inl r2)
  rw [ev] at this
  cases this
  exact ⟨Same.refl _, rv⟩
theorem walks_range {Oc : Wd} {Ob : Addr → Prop} {H1 : Hp} {lo : Int} {n : Nat} {ds : List D} (e : ds = (List.range n).map fun (i : Nat) => PyData.int (lo + (i : Int))) : Walks Oc Ob (Itr lo n) H1 ds := by
  intro H2 Ob2 f s i
  subst e
  refine ⟨fun d e => ?_, fun h => by show n ≤ i; simpa using h⟩
  rw [List.getElem?_map] at e
  by_cases hi : i < n
  · rw [List.getElem?_range hi] at e
    cases e
    refine ⟨hi, fun x H3 hy => ?_⟩
    obtain ⟨rfl, rfl⟩ := hy
    exact ⟨Same.refl _, .int _⟩
  · rw [List.getElem?_eq_none (by simpa using hi)] at e
    cases e
section
variable {C : Ct} {a b c e : Expr} {es : List Expr} {pos p : Pos} {md mda mdb mdc : Md} {ma mb mc : Ev → Res D} {ms : Ev → Res (List D)} {cl : Bool} {tg : Expr}
theorem ri_seq (h : RE C .rd e ma) : RI C tg e (iS ma) := by
  obtain ⟨t, p, q⟩ := h
  refine ⟨_, pi_seq p, fun Oc Ob σ H ρ W R h => q Oc Ob σ H ρ _ R (Res.zR (Res.zV h) (fun d _ k v H' s r => ?_) fun _ z => z)⟩
  obtain ⟨ds, e, k⟩ := Res.vX k
  rcases r with r | ⟨a, ys, ds', rfl, rfl, e3, e4, e5⟩
  · cases r with
    | lst r n t => cases e; exact ⟨_, rfl, .inl ⟨⟨_, .inl r⟩, k _ H' s (walks_list r (fun z => n (.inr z)) t)⟩⟩
    | tup r n t => cases e; exact ⟨_, rfl, .inr ⟨⟨_, .inl r⟩, k _ H' s (walks_tuple r (fun z => n (.inr z)) t)⟩⟩
    | _ => cases e
  · cases e
    exact ⟨_, rfl, .inl ⟨⟨_, SqL.of e3⟩, k _ H' s (walks_list (.inl e3) e4 e5)⟩⟩
def rng1 : List D → Option (List D)
  | [.int j] => if -(2 ^ 62) ≤ j ∧ j < 2 ^ 62 then some ((List.range j.toNat).map fun (i : Nat) => PyData.int (i : Int)) else none
  | _ => none
def rng2 : List D → Option (List D)
  | [.int i, .int j] => if -(2 ^ 62) ≤ i ∧ i < 2 ^ 62 ∧ -(2 ^ 62) ≤ j ∧ j < 2 ^ 62 then some ((List.range (j - i).toNat).map fun (k : Nat) => PyData.int (i + (k : Int))) else none
  | _ => none
def iR (f : List D → Option (List D)) (m : Ev → Res (List D)) : Ev → Res (List D) := fun ρ => (m ρ).bind fun ds => Res.lft (f ds)
theorem VAs.one {Oc : Wd} {Ob : Addr → Prop} {H : Hp} {vs : List V} {d : D} (h : VAs Oc Ob H vs [d]) : ∃ v, vs = [v] ∧ VA Oc Ob H v d := by
  cases h with
  | cons a t => cases t; exact ⟨_, rfl, a⟩
theorem VAs.two {Oc : Wd} {Ob : Addr → Prop} {H : Hp} {vs : List V} {d d' : D} (h : VAs Oc Ob H vs [d, d']) : ∃ v v', vs = [v, v'] ∧ VA Oc Ob H v d ∧ VA Oc Ob H v' d' := by
  cases h with
  | cons a t =>
    obtain ⟨v, rfl, q⟩ := VAs.one t
    exact ⟨_, _, rfl, a, q⟩
theorem vH (hm : C.X.mg "range" = none) (ha : RArg C false [a] ms) (hg : autoParam (Gl C.X "range") zX._auto_1) (hs : autoParam (starEach [a] C.X.env = [(false, eval a C.X.env)]) zX._auto_1) : RI C tg (.Call (.Name "range" p) [a] [] pos) (iR rng1 ms) := by
  obtain ⟨t, pa, q⟩ := ha
  refine ⟨_, pi_range1 hg hm pa hs, fun Oc Ob σ H ρ W R h => q Oc Ob σ H ρ _ R (Res.zR (Res.zV h) (fun ds _ k vs H' s r => ?_) fun _ z => z)⟩
  obtain ⟨xs, e, k⟩ := Res.vX k
  unfold rng1 at e
  split at e
  · split at e
    · rename_i hb
      cases e
      obtain ⟨v, rfl, va⟩ := VAs.one r
      obtain rfl := va.int
      exact ⟨_, rfl, hb.1, hb.2, k _ H' s (walks_range (by simp))⟩
    · cases e
  · cases e
theorem ri_range2 (hm : C.X.mg "range" = none) (ha : RArg C false [a, b] ms) (hg : autoParam (Gl C.X "range") zX._auto_1) (hs : autoParam (starEach [a, b] C.X.env = [(false, eval a C.X.env), (false, eval b C.X.env)]) zX._auto_1) (hs2 : autoParam (starEach [b] C.X.env = [(false, eval b C.X.env)]) zX._auto_1) : RI C tg (.Call (.Name "range" p) [a, b] [] pos) (iR rng2 ms) := by
  obtain ⟨t, pa, q⟩ := ha
  refine ⟨_, pi_range2 hg hm pa hs hs2, fun Oc Ob σ H ρ W R h => q Oc Ob σ H ρ _ R (Res.zR (Res.zV h) (fun ds _ k vs H' s r => ?_) fun _ z => z)⟩
  obtain ⟨xs, e, k⟩ := Res.vX k
  unfold rng2 at e
  split at e
  · split at e
    · rename_i hb
      cases e
      obtain ⟨v, v', rfl, va, va'⟩ := VAs.two r
      obtain rfl := va.int
      obtain rfl := va'.int
      exact ⟨_, _, rfl, hb, k _ H' s (walks_range rfl)⟩
    · cases e
  · cases e
end
end L2.L3
set_option maxHeartbeats 4000000
namespace L2.L3
open PySem PySem.Spec PyProof.Rows
variable [CN]
def cEnv (ρ : Ev) (js : List Nat) (x : D) : Ev := some x :: js.map fun j => (ρ[j]?).join
def capt (js l : List Nat) : List Nat := ((List.range js.length).filter fun i => l.contains (js.getD i 0)).map (· + 1)
def noEx {α : Type} : Res α → Res α
  | .ok a => .ok a
  | _ => .no
theorem noEx_ok {α : Type} {r : Res α} {a : α} (h : noEx r = .ok a) : r = .ok a := by
  cases r with
  | ok b => exact h
  | ex c => cases h
  | no => cases h
def compM (t : D → Res Bool) (f : D → Res D) : List D → Res (List D)
  | [] => .ok []
  | x :: xs => (noEx (t x)).bind fun b => if b then (noEx (f x)).bind fun y => (compM t f xs).bind fun ys => .ok (y :: ys) else compM t f xs
def eComp (mi : Ev → Res (List D)) (mt : Ev → Res Bool) (me : Ev → Res D) (js : List Nat) : Ev → Res D := fun ρ => (mi ρ).bind fun ds => if ds.length ≤ sizeLine then (compM (fun x => mt (cEnv ρ js x)) (fun x => me (cEnv ρ js x)) ds).bind fun out => .ok (.list out) else .no
theorem capt_mem {js l : List Nat} {i : Nat} (h : i ∈ capt js l) : ∃ k, i = k + 1 ∧ k < js.length ∧ js.getD k 0 ∈ l := by
  unfold capt at h
  obtain ⟨k, hk, rfl⟩ := List.mem_map.mp h
  obtain ⟨h1, h2⟩ := List.mem_filter.mp hk
  exact ⟨k, rfl, List.mem_range.mp h1, List.contains_iff_mem.mp h2⟩
theorem mem_capt {js l : List Nat} {k j : Nat} (h : js[k]? = some j) (hl : j ∈ l) : k + 1 ∈ capt js l := by
  unfold capt
  refine List.mem_map.mpr ⟨k, List.mem_filter.mpr ⟨List.mem_range.mpr ?_, ?_⟩, rfl⟩
  · exact (List.getElem?_eq_some_iff.mp h).1
  · rw [List.getD_eq_getElem?_getD, h]
    exact List.contains_iff_mem.mpr hl
theorem cEnv_succ {ρ : Ev} {js : List Nat} {x d : D} {k : Nat} (h : (cEnv ρ js x)[k + 1]? = some (some d)) : ∃ j, js[k]? = some j ∧ ρ[j]? = some (some d) := by
  unfold cEnv at h
  rw [List.getElem?_cons_succ, List.getElem?_map] at h
  cases e : js[k]? with
  | none => rw [e] at h; cases h
  | some j =>
    rw [e] at h
    refine ⟨j, rfl, ?_⟩
    have h : (ρ[j]?).join = some d := Option.some.inj h
    cases q : ρ[j]? with
    | none => rw [q] at h; cases h
    | some z => rw [q] at h; rw [show z = some d from h]
theorem compSt_succ {σ : St} {js : List Nat} {v0 : Option V} {v : V} {k j : Nat} (h : js[k]? = some j) (e : σ[j]? = some (some v)) : (compSt σ js v0)[k + 1]? = some (some v) := by
  unfold compSt
  rw [List.getElem?_cons_succ, List.getElem?_map, h]
  show some ((σ[j]?).join) = _
  rw [e]
  rfl
def adr : Option (Option V) → Addr
  | some (some (.ref a)) => a
  | _ => 0
def cW (Oc : Wd) (Ob : Addr → Prop) (σ : St) (js : List Nat) : Wd := ⟨Uni Oc Ob, fun i => adr ((compSt σ js none)[i]?)⟩
theorem Rel.comp {Oc : Wd} {Ob : Addr → Prop} {om ln : List Nat} {σ : St} {H : Hp} {ρ : Ev} {js : List Nat} {x : V} {d : D} (R : Rel Oc Ob om ln σ H ρ) (r : Rep H (Uni Oc Ob) x d) : Rel (cW Oc Ob σ js) (fun _ => False) [] (capt js (om ++ ln)) (compSt σ js (some x)) H (cEnv ρ js d) where
  len := by unfold compSt cEnv; simp
  val := fun i d' e _ hl => by
    cases i with
    | zero =>
      cases e
      exact ⟨x, rfl, r.less fun b z => z.elim id fun z => z.elim⟩
    | succ k =>
      obtain ⟨j, e1, e2⟩ := cEnv_succ e
      have h1 : j ∉ om := fun z => hl (mem_capt e1 (List.mem_append_left _ z))
      have h2 : j ∉ ln := fun z => hl (mem_capt e1 (List.mem_append_right _ z))
      obtain ⟨v, q, rv⟩ := R.val j d' e2 h1 h2
      exact ⟨v, compSt_succ e1 q, rv.less fun b z => z.elim id fun z => z.elim⟩
  own := fun i d' e h => nomatch h
  lnt := fun i d' e _ hl => by
    obtain ⟨k, rfl, hk, hj⟩ := capt_mem hl
    obtain ⟨j, e1, e2⟩ := cEnv_succ e
    rw [List.getD_eq_getElem?_getD, e1, Option.getD_some] at hj
    by_cases ho : j ∈ om
    · obtain ⟨v, q, a, ys, ds, z1, z2, z3, z4, z5⟩ := R.own j d' e2 ho
      have ea : (cW Oc Ob σ js).la (k + 1) = a := by show adr _ = a; rw [compSt_succ e1 q, z1]; rfl
      exact ⟨v, compSt_succ e1 q, ys, ds, by rw [ea]; exact z1, z2, by rw [ea]; exact z3, by rw [ea]; exact .inr z4, z5.less fun b z => z.elim id fun z => z.elim⟩
    · have hl2 : j ∈ ln := (List.mem_append.mp hj).elim (fun z => absurd z ho) id
      obtain ⟨v, q, ys, ds, z1, z2, z3, z4, z5⟩ := R.lnt j d' e2 ho hl2
      have ea : (cW Oc Ob σ js).la (k + 1) = Oc.la j := by show adr _ = _; rw [compSt_succ e1 q, z1]; rfl
      exact ⟨v, compSt_succ e1 q, ys, ds, by rw [ea]; exact z1, z2, by rw [ea]; exact z3, by rw [ea]; exact .inl z4, z5.less fun b z => z.elim id fun z => z.elim⟩
  inj := fun i j di dj a _ _ h => nomatch h
  oh := fun a z => R.oh a (z.elim id fun z => z.elim)
  ap := fun a z => z.elim
abbrev cC (C : Ct) (N : List Str) (scope : Scope) (A : Addr) (fp : List Addr) (s₂ : Shared) (H : Hp) (js : List Nat) : Ct := ⟨cxComp C.X N scope A fp s₂ H, fun _ _ => False, [], capt js (C.om ++ C.ln)⟩
def RTs (C : Ct) (ifs : List Expr) (m : Ev → Res Bool) : Prop := ∃ t, PTs C.X ifs t ∧ ∀ (Oc : Wd) (Ob : Addr → Prop) (σ : St) (H : Hp) (ρ : Ev) (Q : Bool → Hp → Prop), Rel Oc Ob C.om C.ln σ H ρ →
    (m ρ).post (fun b => ∀ H', Same H H' → Q b H') (fun c => ∀ H', Same H H' → C.XE c H') → t σ H Q
def tYes : Ev → Res Bool := fun _ => .ok true
theorem vG {C : Ct} : RTs C [] tYes := ⟨_, .nil, fun Oc Ob σ H ρ Q R h => h H (Same.refl H)⟩
theorem rts_one {C : Ct} {c : Expr} {m : Ev → Res Bool} (h : RT C c m) : RTs C [c] m := by
  obtain ⟨t, p, q⟩ := h
  exact ⟨t, .one p, q⟩
def WalksS (Oc : Wd) (Ob : Addr → Prop) (J : It) (H1 : Hp) (ds : List D) : Prop :=
  ∀ (H2 : Hp), Same H1 H2 → ∀ i, (∀ d, ds[i]? = some d → J.go i H2 ∧ ∀ x H3, J.yld i H2 x H3 → Same H2 H3 ∧ Rep H3 (Uni Oc Ob) x d) ∧ (ds.length ≤ i → J.stop i H2)
def RIc (C : Ct) (tg iter : Expr) (m : Ev → Res (List D)) : Prop :=
  ∃ wi, PI C.X tg iter wi ∧ ∀ (Oc : Wd) (Ob : Addr → Prop) (σ : St) (H : Hp) (ρ : Ev) (R : It → Hp → Prop), Rel Oc Ob C.om C.ln σ H ρ →
    (m ρ).post (fun ds => ∀ J H1, Same H H1 → WalksS Oc Ob J H1 ds → R J H1) (fun c => ∀ H', Same H H' → C.XE c H') → wi σ H R
theorem RI.c {C : Ct} {tg iter : Expr} {m : Ev → Res (List D)} (h : RI C tg iter m) : RIc C tg iter m := by
  obtain ⟨wi, p, q⟩ := h
  exact ⟨wi, p, fun Oc Ob σ H ρ W R h => q Oc Ob σ H ρ W R (Res.zR h (fun ds _ k J H1 s w => k J H1 s fun H2 s2 => w H2 Ob (Same.frm s2) fun b z => .inl z) fun _ z => z)⟩
theorem comp_read {C : Ct} {elt : Expr} {ifs : List Expr} {scope : Scope} {N : List Str} {js : List Nat} {mi : Ev → Res (List D)} {mt : Ev → Res Bool} {me : Ev → Res D} {wi : TI}
    (qi : ∀ (Oc : Wd) (Ob : Addr → Prop) (σ : St) (H : Hp) (ρ : Ev) (R : It → Hp → Prop), Rel Oc Ob C.om C.ln σ H ρ → (mi ρ).post (fun ds => ∀ J H1, Same H H1 → WalksS Oc Ob J H1 ds → R J H1) (fun c => ∀ H', Same H H' → C.XE c H') → wi σ H R)
    (ht : ∀ A fp s₂ H, RTs (cC C N scope A fp s₂ H js) ifs mt) (he : ∀ A fp s₂ H, RE (cC C N scope A fp s₂ H js) .cl elt me)
    {Oc : Wd} {Ob : Addr → Prop} {σ : St} {H : Hp} {ρ : Ev} {Q : VK} (R : Rel Oc Ob C.om C.ln σ H ρ) (h : (eComp mi mt me js ρ).post (fun d => ∀ v H', Same H H' → VR .new Oc Ob H H' v d → Q v H') (fun c => ∀ H', Same H H' → C.XE c H')) :
    tComp wi (fun A fp s H => Classical.choose (ht A fp s H)) (fun A fp s H => Classical.choose (he A fp s H)) js σ H Q := by
  refine qi Oc Ob σ H ρ _ R (Res.zR (Res.zV h) (fun ds _ k J H1 s1 wk => ?_) fun _ z => z)
  intro A fp s₂ H₂
  have qt := (Classical.choose_spec (ht A fp s₂ H₂)).2
  have qe := (Classical.choose_spec (he A fp s₂ H₂)).2
  have k : (if ds.length ≤ sizeLine then (compM (fun x => mt (cEnv ρ js x)) (fun x => me (cEnv ρ js x)) ds).bind fun out => Res.ok (PyData.list out) else .no).post (fun d => ∀ v H', Same H H' → VR .new Oc Ob H H' v d → Q v H') (fun c => ∀ H', Same H H' → C.XE c H') := k
  by_cases hlen : ds.length ≤ sizeLine
  · rw [if_pos hlen] at k
    generalize hT : (fun x => mt (cEnv ρ js x)) = T at k
    generalize hF : (fun x => me (cEnv ρ js x)) = F at k
    cases ec : compM T F ds with
    | no => rw [ec] at k; exact k.elim
    | ex c =>
      exfalso
      have nex : ∀ xs c, compM T F xs ≠ .ex c := by
        intro xs
        induction xs with
        | nil => intro c z; cases z
        | cons x xs ih =>
          intro c z
          rw [compM] at z
          cases e1 : noEx (T x) with
          | no => rw [e1] at z; cases z
          | ex c' => cases hx : T x <;> rw [hx] at e1 <;> cases e1
          | ok b =>
            rw [e1, Res.zW] at z
            cases b with
            | false => exact ih c z
            | true =>
              simp only [if_true] at z
              cases e2 : noEx (F x) with
              | no => rw [e2] at z; cases z
              | ex c' => cases hx : F x <;> rw [hx] at e2 <;> cases e2
              | ok y =>
                rw [e2, Res.zW] at z
                cases e3 : compM T F xs with
                | no => rw [e3] at z; cases z
                | ex c' => exact ih c' e3
                | ok ys => rw [e3] at z; cases z
      exact nex ds c ec
    | ok out =>
      rw [ec, Res.zW] at k
      refine ⟨fun i m acc H => m = ds.length - i ∧ i ≤ ds.length ∧ Same H1 H ∧ ∃ done rest, Reps H (Uni Oc Ob) acc done ∧ acc.length ≤ i ∧ compM T F (ds.drop i) = .ok rest ∧ done ++ rest = out, ⟨_, rfl, Nat.zero_le _, Same.refl _, [], out, .nil, Nat.le_refl _, ec, rfl⟩, ?_⟩
      rintro i m acc H2 ⟨rfl, hi, s2, done, rest, ra, la, er, eo⟩
      obtain ⟨w1, w2⟩ := wk H2 s2 i
      have R2 := (R.same s1).same s2
      by_cases hlt : i < ds.length
      · obtain ⟨go, yl⟩ := w1 ds[i] (List.getElem?_eq_getElem hlt)
        have ed : ds.drop i = ds[i] :: ds.drop (i + 1) := List.drop_eq_getElem_cons hlt
        rw [ed, compM] at er
        have nxt : ∀ (acc' : List V) (H3 : Hp) (done' rest' : List D), Same H2 H3 → Reps H3 (Uni Oc Ob) acc' done' → acc'.length ≤ i + 1 → compM T F (ds.drop (i + 1)) = .ok rest' → done' ++ rest' = out →
            ∃ m', m' < ds.length - i ∧ (m' = ds.length - (i + 1) ∧ i + 1 ≤ ds.length ∧ Same H1 H3 ∧ ∃ done rest, Reps H3 (Uni Oc Ob) acc' done ∧ acc'.length ≤ i + 1 ∧ compM T F (ds.drop (i + 1)) = .ok rest ∧ done ++ rest = out) :=
          fun acc' H3 done' rest' s3 r3 l3 c3 o3 => ⟨_, by bv_omega, rfl, hlt, s2.trans s3, done', rest', r3, l3, c3, o3⟩
        refine .inr ⟨go, fun acc' H' => ∃ m', m' < ds.length - i ∧ (m' = ds.length - (i + 1) ∧ i + 1 ≤ ds.length ∧ Same H1 H' ∧ ∃ done rest, Reps H' (Uni Oc Ob) acc' done ∧ acc'.length ≤ i + 1 ∧ compM T F (ds.drop (i + 1)) = .ok rest ∧ done ++ rest = out), fun acc' H' z => z, fun x H3 hy => ?_⟩
        obtain ⟨s3, rx⟩ := yl x H3 hy
        have R3 := (R2.same s3).comp (js := js) rx
        cases e1 : noEx (T ds[i]) with
        | no => rw [e1] at er; cases er
        | ex c => rw [e1] at er; cases er
        | ok b =>
          rw [e1, Res.zW] at er
          have t1 : mt (cEnv ρ js ds[i]) = .ok b := by
            have t1 := noEx_ok e1
            rw [← hT] at t1
            exact t1
          refine qt _ _ _ H3 _ _ R3 ?_
          show (mt (cEnv ρ js ds[i])).post _ _
          rw [t1]
          intro H4 s4
          cases b with
          | false => exact iteF (nxt acc H4 done rest (s3.trans s4) (ra.same (s3.trans s4)) (by bv_omega) er eo)
          | true =>
            refine iteT ?_
            simp only [if_true] at er
            cases e2 : noEx (F ds[i]) with
            | no => rw [e2] at er; cases er
            | ex c => rw [e2] at er; cases er
            | ok y =>
              rw [e2, Res.zW] at er
              have t2 : me (cEnv ρ js ds[i]) = .ok y := by
                have t2 := noEx_ok e2
                rw [← hF] at t2
                exact t2
              refine qe _ _ _ H4 _ _ (R3.same s4) ?_
              show (me (cEnv ρ js ds[i])).post _ _
              rw [t2]
              intro v H5 s5 rv
              refine ⟨by bv_omega, ?_⟩
              obtain ⟨ys, e3⟩ : ∃ ys, compM T F (ds.drop (i + 1)) = .ok ys := by
                cases e3 : compM T F (ds.drop (i + 1)) with
                | no => rw [e3] at er; cases er
                | ex c => rw [e3] at er; cases er
                | ok ys => exact ⟨ys, rfl⟩
              rw [e3, Res.zW] at er
              cases er
              have rv' : Rep H5 (Uni Oc Ob) v y := Rep.less rv fun b z => .inl z
              refine nxt (acc ++ [v]) H5 (done ++ [y]) ys ((s3.trans s4).trans s5) ((ra.same ((s3.trans s4).trans s5)).append (.one rv')) (by rw [List.length_append, List.length_singleton]; bv_omega) e3 ?_
              rw [List.append_assoc]
              exact eo
      · have ei : i = ds.length := by bv_omega
        subst ei
        refine .inl ⟨w2 (Nat.le_refl _), fun p hp => ?_⟩
        rw [List.drop_length] at er
        cases er
        rw [List.append_nil] at eo
        subst eo
        exact k _ _ ((s1.trans s2).trans (Same.new hp)) (new_list (s1.trans s2) hp ra)
  · rw [if_neg hlen] at k
    exact k.elim
theorem re_comp {C : Ct} {elt iter : Expr} {ifs : List Expr} {sc0 scope : Scope} {N0 : List Str} {px pos : Pos} {xt : Str} {fs : List Str} {js : List Nat} {mi : Ev → Res (List D)} {mt : Ev → Res Bool} {me : Ev → Res D} (S : CompScope sc0 scope N0 xt fs js) (h0 : C.X.env.scope = sc0) (hN0 : C.X.N = N0) (hc : C.X.calm = true)
    (hi : RIc C (.Name xt px) iter mi) (ht : ∀ A fp s₂ H, RTs (cC C (xt :: fs) scope A fp s₂ H js) ifs mt) (he : ∀ A fp s₂ H, RE (cC C (xt :: fs) scope A fp s₂ H js) .cl elt me)
    (hs : autoParam (∀ x, foldedSetIterable iter C.X.env x = pure x) autoK4._auto_1) :
    RE C .new (.ListComp elt [⟨.Name xt px, iter, ifs, 0⟩] scope pos) (eComp mi mt me js) := by
  obtain ⟨wi, pi, qi⟩ := hi
  refine ⟨_, pe_comp (tt := fun A fp s H => Classical.choose (ht A fp s H)) (te := fun A fp s H => Classical.choose (he A fp s H)) S h0 hN0 hc pi (fun A fp s H => (Classical.choose_spec (ht A fp s H)).1) (fun A fp s H => (Classical.choose_spec (he A fp s H)).1) hs, fun Oc Ob σ H ρ Q R h => comp_read qi ht he R h⟩
end L2.L3
set_option maxHeartbeats 4000000
namespace L2.L3
open PySem PySem.Spec PyProof.Rows
variable [CN]
section
variable {C : Ct} {fr : Bool} {e c : Expr} {pos : Pos} {md : Md} {me : Ev → Res D} {mt : Ev → Res Bool} {st : Stmt} {sts rest : List Stmt} {m n : Ev → Res Out}
def sN : Ev → Res Out := fun ρ => .ok (.nx ρ)
def sQ (m n : Ev → Res Out) : Ev → Res Out := fun ρ => (m ρ).bind fun o => match o with
  | .nx ρ' => n ρ'
  | .rt d => .ok (.rt d)
theorem vP : RSs C fr [] sN := ⟨_, pss_nil, fun Oc Ob σ H ρ E R h => h σ H Ob R (Same.frm (Same.refl H)) fun b z => .inl z⟩
theorem wK (h : RS C fr st m) : RSs C fr [st] m := by
  obtain ⟨t, p, q⟩ := h
  exact ⟨_, pss_one p, q⟩
theorem xP (h : RS C fr st m) (hr : RSs C fr rest n) : RSs C fr (st :: rest) (sQ m n) := by
  obtain ⟨t, p, q⟩ := h
  obtain ⟨t', p', q'⟩ := hr
  refine ⟨_, pss_cons p p', fun Oc Ob σ H ρ E R h => q Oc Ob σ H ρ _ R (Res.zR (Res.zV h) (fun o _ k => ?_) fun _ z => z)⟩
  cases o with
  | rt d => exact k
  | nx ρ' => exact fun σ' H' Ob' R' f s => q' Oc Ob' σ' H' ρ' E R' (SPost.step f s k)
def sX : Ev → Res Out := fun _ => .no
def sIf (t : Ev → Res Bool) (m n : Ev → Res Out) : Ev → Res Out := fun ρ => (t ρ).bind fun b => if b then m ρ else n ρ
theorem vI {x y : List Stmt} (hc : RT C c mt) (hx : RSs C fr x m) (hy : RSs C fr y n) : RS C fr (.If c x y pos) (sIf mt m n) := by
  obtain ⟨t, p, q⟩ := hc
  obtain ⟨t1, p1, q1⟩ := hx
  obtain ⟨t2, p2, q2⟩ := hy
  refine ⟨_, ps_if p p1 p2, fun Oc Ob σ H ρ E R h => q Oc Ob σ H ρ _ R (Res.zR (Res.zV h) (fun b _ k H' s => ?_) fun c z H' s => z H' (Same.frm s))⟩
  cases b with
  | true => exact iteT (q1 Oc Ob σ H' ρ E (R.same s) (SPost.same s k))
  | false => exact iteF (q2 Oc Ob σ H' ρ E (R.same s) (SPost.same s k))
def sR (m : Ev → Res D) : Ev → Res Out := fun ρ => (m ρ).bind fun d => .ok (.rt d)
theorem vR (he : RE C .cl e me) : RS C false (.Return (some e) pos) (sR me) := by
  obtain ⟨t, p, q⟩ := he
  refine ⟨_, ps_ret p, fun Oc Ob σ H ρ E R h => q Oc Ob σ H ρ _ R (Res.zR (Res.zV h) (fun d _ k v H' s r => ?_) fun c z H' s => z H' (Same.frm s))⟩
  exact k v H' (Same.frm s) (Rep.less r fun b z => .inl z)
theorem rs_retW (he : RE C .new e me) : RS C true (.Return (some e) pos) (sR me) := by
  obtain ⟨t, p, q⟩ := he
  refine ⟨_, ps_ret p, fun Oc Ob σ H ρ E R h => q Oc Ob σ H ρ _ R (Res.zR (Res.zV h) (fun d _ k v H' s r => ?_) fun c z H' s => z H' (Same.frm s))⟩
  obtain ⟨a, ys, ds, e1, e2, e3, e4, e5⟩ := r
  exact k v H' (Same.frm s) ⟨a, ys, ds, e1, e2, .inl e3, fun z => R.oh a (.inl z) e3, e4, e5.less fun b z => z.elim (fun z => .inl (.inl z)) .inr⟩
theorem rs_retO (i : Nat) {x : Str} {p' : Pos} (hN : autoParam (C.X.N[i]? = some x) zX._auto_1) (ho : autoParam (C.om.contains i = true) zX._auto_1) (hv : autoParam (Vis C.X.env.scope x) autoK8._auto_1) (hd : autoParam ((x == ("__debug__" : Str)) = false) vY._auto_1)
    (hcd : autoParam ((x == ("__classdict__" : Str)) = false) vY._auto_1) : RS C true (.Return (some (.Name x p')) pos) (sR (eV i)) := by
  refine ⟨_, ps_ret (pe_var hN hv hd hcd), fun Oc Ob σ H ρ E R h => ?_⟩
  obtain ⟨d, e, k⟩ := eV_post (Res.zV h)
  obtain ⟨v, q, a, ys, ds, e1, e2, e3, e4, e5⟩ := R.own i d e (mem_of ho)
  exact ⟨v, q, k v H (Same.frm (Same.refl H)) ⟨a, ys, ds, e1, e2, .inr e4, R.ap a e4, e3, e5.less fun b z => z.elim .inl fun z => .inr (by subst z; exact e4)⟩⟩
theorem set_get {α : Type} {l : List (Option α)} {i j : Nat} {v d : α} (h : (l.set i (some v))[j]? = some (some d)) : (j = i ∧ d = v) ∨ (j ≠ i ∧ l[j]? = some (some d)) := by
  by_cases e : i = j
  · subst e
    rw [List.getElem?_set_self'] at h
    cases q : l[i]? with
    | none => rw [q] at h; cases h
    | some z => rw [q] at h; cases h; exact .inl ⟨rfl, rfl⟩
  · rw [List.getElem?_set_ne e] at h
    exact .inr ⟨fun z => e z.symm, h⟩
theorem set_lt {α : Type} {l : List (Option α)} {i j : Nat} {v d : α} (h : (l.set i (some v))[j]? = some (some d)) : j < l.length := by
  have := (List.getElem?_eq_some_iff.mp h).1
  simpa using this
theorem Rel.set {Oc : Wd} {Ob : Addr → Prop} {om ln : List Nat} {σ : St} {H : Hp} {ρ : Ev} {i : Nat} {v : V} {d : D} (R : Rel Oc Ob om ln σ H ρ) (ho : i ∉ om) (hl : i ∉ ln) (r : Rep H (Uni Oc Ob) v d) : Rel Oc Ob om ln (σ.set i (some v)) H (ρ.set i (some d)) where
  len := by rw [List.length_set, List.length_set]; exact R.len
  val := fun j d' e h1 h2 => by
    have hj := set_lt e
    rcases set_get e with ⟨rfl, rfl⟩ | ⟨ne, e⟩
    · exact ⟨v, by rw [List.getElem?_set_self (by rw [R.len]; exact hj)], r⟩
    · obtain ⟨w, q, k⟩ := R.val j d' e h1 h2
      exact ⟨w, by rw [List.getElem?_set_ne (fun z => ne z.symm)]; exact q, k⟩
  own := fun j d' e h1 => by
    rcases set_get e with ⟨rfl, rfl⟩ | ⟨ne, e⟩
    · exact absurd h1 ho
    · obtain ⟨w, q, k⟩ := R.own j d' e h1
      exact ⟨w, by rw [List.getElem?_set_ne (fun z => ne z.symm)]; exact q, k⟩
  lnt := fun j d' e h1 h2 => by
    rcases set_get e with ⟨rfl, rfl⟩ | ⟨ne, e⟩
    · exact absurd h2 hl
    · obtain ⟨w, q, k⟩ := R.lnt j d' e h1 h2
      exact ⟨w, by rw [List.getElem?_set_ne (fun z => ne z.symm)]; exact q, k⟩
  inj := fun j k dj dk a ej ek hj hk qj qk => by
    rcases set_get ej with ⟨rfl, rfl⟩ | ⟨nj, ej⟩
    · exact absurd hj ho
    · rcases set_get ek with ⟨rfl, rfl⟩ | ⟨nk, ek⟩
      · exact absurd hk ho
      · rw [List.getElem?_set_ne (fun z => nj z.symm)] at qj
        rw [List.getElem?_set_ne (fun z => nk z.symm)] at qk
        exact R.inj j k dj dk a ej ek hj hk qj qk
  oh := R.oh
  ap := R.ap
theorem Rel.setO {Oc : Wd} {Ob : Addr → Prop} {om ln : List Nat} {σ : St} {H H' : Hp} {ρ : Ev} {i : Nat} {v : V} {d : D} (R : Rel Oc Ob om ln σ H ρ) (s : Same H H') (ho : i ∈ om) (r : VR .new Oc Ob H H' v d) : ∃ a, H a = none ∧ Rel Oc (fun b => Ob b ∨ b = a) om ln (σ.set i (some v)) H' (ρ.set i (some d)) := by
  obtain ⟨a, ys, ds, rfl, rfl, e3, e4, e5⟩ := r
  have up : ∀ {vs : List V} {es : List D}, Reps H (Uni Oc Ob) vs es → Reps H' (Uni Oc fun b => Ob b ∨ b = a) vs es := fun r => r.keep (fun b o e _ => s b o e) fun b n z => z.elim .inl fun z => z.elim .inr fun z => by subst z; exact absurd e3 n
  have up1 : ∀ {v : V} {e : D}, Rep H (Uni Oc Ob) v e → Rep H' (Uni Oc fun b => Ob b ∨ b = a) v e := fun r => r.keep (fun b o e _ => s b o e) fun b n z => z.elim .inl fun z => z.elim .inr fun z => by subst z; exact absurd e3 n
  refine ⟨a, e3, ?_, fun j d' e h1 h2 => ?_, fun j d' e h1 => ?_, fun j d' e h1 h2 => ?_, fun j k dj dk b ej ek hj hk qj qk => ?_, fun b z => ?_, fun b z => ?_⟩
  · rw [List.length_set, List.length_set]; exact R.len
  · rcases set_get e with ⟨rfl, rfl⟩ | ⟨ne, e⟩
    · exact absurd ho h1
    · obtain ⟨w, q, k⟩ := R.val j d' e h1 h2
      exact ⟨w, by rw [List.getElem?_set_ne (fun z => ne z.symm)]; exact q, up1 k⟩
  · have hj := set_lt e
    rcases set_get e with ⟨rfl, rfl⟩ | ⟨ne, e⟩
    · refine ⟨.ref a, by rw [List.getElem?_set_self (by rw [R.len]; exact hj)], a, ys, ds, rfl, rfl, e4, .inr rfl, e5.less fun b z => z.elim (fun z => .inl (.inl z)) fun z => z.elim (fun z => .inl (.inr z)) .inr⟩
    · obtain ⟨w, q, b, zs, fs, z1, z2, z3, z4, z5⟩ := R.own j d' e h1
      exact ⟨w, by rw [List.getElem?_set_ne (fun z => ne z.symm)]; exact q, b, zs, fs, z1, z2, s _ _ z3, .inl z4, up z5⟩
  · rcases set_get e with ⟨rfl, rfl⟩ | ⟨ne, e⟩
    · exact absurd ho h1
    · obtain ⟨w, q, zs, fs, z1, z2, z3, z4, z5⟩ := R.lnt j d' e h1 h2
      exact ⟨w, by rw [List.getElem?_set_ne (fun z => ne z.symm)]; exact q, zs, fs, z1, z2, s _ _ z3, z4, up z5⟩
  · have lj := set_lt ej
    have lk := set_lt ek
    rcases set_get ej with ⟨rfl, rfl⟩ | ⟨nj, ej'⟩
    · rw [List.getElem?_set_self (by rw [R.len]; exact lj)] at qj
      cases qj
      rcases set_get ek with ⟨rfl, rfl⟩ | ⟨nk, ek'⟩
      · rfl
      · rw [List.getElem?_set_ne (fun z => nk z.symm)] at qk
        obtain ⟨w, q, b, zs, fs, z1, z2, z3, z4, z5⟩ := R.own k dk ek' hk
        rw [qk] at q
        cases q
        cases z1
        rw [e3] at z3
        cases z3
    · rw [List.getElem?_set_ne (fun z => nj z.symm)] at qj
      rcases set_get ek with ⟨rfl, rfl⟩ | ⟨nk, ek'⟩
      · rw [List.getElem?_set_self (by rw [R.len]; exact lk)] at qk
        cases qk
        obtain ⟨w, q, b, zs, fs, z1, z2, z3, z4, z5⟩ := R.own j dj ej' hj
        rw [qj] at q
        cases q
        cases z1
        rw [e3] at z3
        cases z3
      · rw [List.getElem?_set_ne (fun z => nk z.symm)] at qk
        exact R.inj j k dj dk b ej' ek' hj hk qj qk
  · rcases z with z | z | rfl
    · exact Same.ne s (R.oh b (.inl z))
    · exact Same.ne s (R.oh b (.inr z))
    · rw [e4]; exact fun z => nomatch z
  · rcases z with z | rfl
    · exact R.ap b z
    · exact fun z => R.oh b (.inl z) e3
def sS (i : Nat) (m : Ev → Res D) : Ev → Res Out := fun ρ => (m ρ).bind fun d => .ok (.nx (ρ.set i (some d)))
theorem vM (i : Nat) {x : Str} {p' : Pos} (nd : C.X.N.Nodup) (he : RE C .cl e me) (hi : autoParam (C.X.N[i]? = some x) zX._auto_1) (ho : autoParam (C.om.contains i = false) zX._auto_1) (hl : autoParam (C.ln.contains i = false) zX._auto_1) (hx : autoParam (Loc C.X.env.scope x) autoK11._auto_1)
    (hs : autoParam (swapsWith e (some (.Name x p')) pos.line C.X.env = pure false) zX._auto_1) (hf : autoParam (C.X.fn x = true ∨ C.X.env.scope.names.lookup x = some .local) autoK12._auto_1) : RS C fr (.Assign [.Name x p'] e pos) (sS i me) := by
  obtain ⟨t, p, q⟩ := he
  refine ⟨_, ps_set nd hi hx p hs hf, fun Oc Ob σ H ρ E R h => q Oc Ob σ H ρ _ R (Res.zR (Res.zV h) (fun d _ k v H' s r => ?_) fun c z H' s => z H' (Same.frm s))⟩
  exact k _ H' Ob ((R.same s).set (not_mem_of ho) (not_mem_of hl) r) (Same.frm s) fun b z => .inl z
theorem rs_setO (i : Nat) {x : Str} {p' : Pos} (nd : C.X.N.Nodup) (he : RE C .new e me) (hi : autoParam (C.X.N[i]? = some x) zX._auto_1) (ho : autoParam (C.om.contains i = true) zX._auto_1) (hx : autoParam (Loc C.X.env.scope x) autoK11._auto_1)
    (hs : autoParam (swapsWith e (some (.Name x p')) pos.line C.X.env = pure false) zX._auto_1) (hf : autoParam (C.X.fn x = true ∨ C.X.env.scope.names.lookup x = some .local) autoK12._auto_1) : RS C fr (.Assign [.Name x p'] e pos) (sS i me) := by
  obtain ⟨t, p, q⟩ := he
  refine ⟨_, ps_set nd hi hx p hs hf, fun Oc Ob σ H ρ E R h => q Oc Ob σ H ρ _ R (Res.zR (Res.zV h) (fun d _ k v H' s r => ?_) fun c z H' s => z H' (Same.frm s))⟩
  obtain ⟨a, ha, R'⟩ := R.setO s (mem_of ho) r
  exact k _ H' _ R' (Same.frm s) fun b z => z.elim .inl fun z => .inr (by subst z; exact ha)
theorem rs_aug (i : Nat) {x : Str} {p' : Pos} {op : Operator} {r : R2} {f : D → D → Option D} (nd : C.X.N.Nodup) (hop : OpR C.X (inplaceOp op) r) (hp : Pr2 r .cl f) (he : RE C md e me) (hi : autoParam (C.X.N[i]? = some x) zX._auto_1) (ho : autoParam (C.om.contains i = false) zX._auto_1) (hl : autoParam (C.ln.contains i = false) zX._auto_1) (hx : autoParam (Loc C.X.env.scope x) autoK11._auto_1)
    (hf : autoParam (C.X.fn x = true ∨ C.X.env.scope.names.lookup x = some .local) autoK12._auto_1) : RS C fr (.AugAssign (.Name x p') op e pos) (sS i (e2 f (eV i) me)) := by
  obtain ⟨t, p, q⟩ := he
  refine ⟨_, ps_aug (ti := r) nd hi hx p hop hf, fun Oc Ob σ H ρ E R h => ?_⟩
  obtain ⟨d, ed, k⟩ := eV_post (Res.zV (Res.zV h))
  obtain ⟨v, qv, rv⟩ := R.val i d ed (not_mem_of ho) (not_mem_of hl)
  refine ⟨v, qv, q Oc Ob σ H ρ _ R (Res.zR (Res.zV k) (fun d' _ k v' H' s r' => ?_) fun c z H' s => z H' (Same.frm s))⟩
  obtain ⟨d2, e, k⟩ := Res.vX k
  refine hp Oc Ob H' v v' d d' d2 _ (R.same s).oh (.inl (rv.same s)) (r'.va R.oh) e fun w H2 s2 rw' => ?_
  exact k _ H2 Ob ((R.same (s.trans s2)).set (not_mem_of ho) (not_mem_of hl) rw') (Same.frm (s.trans s2)) fun b z => .inl z
def sE (m : Ev → Res D) : Ev → Res Out := fun ρ => (m ρ).bind fun _ => .ok (.nx ρ)
theorem rs_expr (he : RE C md e me) (hs : autoParam (swapsWith e none pos.line C.X.env = pure false) zX._auto_1) : RS C fr (.Expr e pos) (sE me) := by
  obtain ⟨t, p, q⟩ := he
  refine ⟨_, ps_expr p hs, fun Oc Ob σ H ρ E R h => q Oc Ob σ H ρ _ R (Res.zR (Res.zV h) (fun d _ k v H' s r => ?_) fun c z H' s => z H' (Same.frm s))⟩
  exact k σ H' Ob (R.same s) (Same.frm s) fun b z => .inl z
theorem Rel.write {Oc : Wd} {Ob : Addr → Prop} {om ln : List Nat} {σ : St} {H : Hp} {ρ : Ev} {i : Nat} {a : Addr} {ys ys' : List V} {d : D} {ds' : List D} (R : Rel Oc Ob om ln σ H ρ) (ho : i ∈ om) (ed : ρ[i]? = some (some d)) (es : σ[i]? = some (some (.ref a))) (ha : H a = some (.lst ys)) (hb : Ob a)
    (r : Reps H (Uni Oc Ob) ys' ds') : Rel Oc Ob om ln σ (upd H a (.lst ys')) (ρ.set i (some (.list ds'))) := by
  have kp : ∀ b o, H b = some o → ¬ Uni Oc Ob b → upd H a (.lst ys') b = some o := fun b o e n => by
    rw [yA (fun z => n (by subst z; exact .inr hb))]; exact e
  have up : ∀ {vs : List V} {es : List D}, Reps H (Uni Oc Ob) vs es → Reps (upd H a (.lst ys')) (Uni Oc Ob) vs es := fun r => r.keep kp fun b n z => z
  have up1 : ∀ {v : V} {e : D}, Rep H (Uni Oc Ob) v e → Rep (upd H a (.lst ys')) (Uni Oc Ob) v e := fun r => r.keep kp fun b n z => z
  have li : i < σ.length := (List.getElem?_eq_some_iff.mp es).1
  refine ⟨by rw [List.length_set]; exact R.len, fun j d' e h1 h2 => ?_, fun j d' e h1 => ?_, fun j d' e h1 h2 => ?_, fun j k dj dk b ej ek hj hk qj qk => ?_, fun b z => ?_, R.ap⟩
  · rcases set_get e with ⟨rfl, rfl⟩ | ⟨ne, e⟩
    · exact absurd ho h1
    · obtain ⟨w, q, k⟩ := R.val j d' e h1 h2
      exact ⟨w, q, up1 k⟩
  · rcases set_get e with ⟨rfl, rfl⟩ | ⟨ne, e⟩
    · exact ⟨.ref a, es, a, ys', ds', rfl, rfl, wL, hb, up r⟩
    · obtain ⟨w, q, b, zs, fs, rfl, z2, z3, z4, z5⟩ := R.own j d' e h1
      have nb : b ≠ a := fun z => by subst z; exact ne (R.inj j i d' d b e ed h1 ho q es)
      exact ⟨_, q, b, zs, fs, rfl, z2, by rw [yA nb]; exact z3, z4, up z5⟩
  · rcases set_get e with ⟨rfl, rfl⟩ | ⟨ne, e⟩
    · exact absurd ho h1
    · obtain ⟨w, q, zs, fs, z1, z2, z3, z4, z5⟩ := R.lnt j d' e h1 h2
      have nb : Oc.la j ≠ a := fun z => R.ap a hb (z ▸ z4)
      exact ⟨_, q, zs, fs, z1, z2, by rw [yA nb]; exact z3, z4, up z5⟩
  · have get : ∀ j dj, (ρ.set i (some (.list ds')))[j]? = some (some dj) → ∃ d, ρ[j]? = some (some d) := fun j dj e => by
      rcases set_get e with ⟨rfl, rfl⟩ | ⟨ne, e⟩
      · exact ⟨d, ed⟩
      · exact ⟨dj, e⟩
    obtain ⟨d1, e1⟩ := get j dj ej
    obtain ⟨d2, e2⟩ := get k dk ek
    exact R.inj j k d1 d2 b e1 e2 hj hk qj qk
  · by_cases h : b = a
    · subst h; rw [wL]; exact fun z => nomatch z
    · rw [yA h]; exact R.oh b z
def PrM (r : V → List V → Hp → VK → Prop) (g : List D → List D → Option (List D)) : Prop :=
  ∀ (O : Addr → Prop) (H : Hp) (l : Addr) (xs vs : List V) (xd ad ds' : List D) (Q : VK), H l = some (.lst xs) → Reps H O xs xd → Reps H O vs ad → g xd ad = some ds' → (∀ xs', Reps H O xs' ds' → Q .non (upd H l (.lst xs'))) → r (.ref l) vs H Q
def lstD : D → Option (List D)
  | .list ds => some ds
  | _ => none
def sM (i : Nat) (g : List D → List D → Option (List D)) (m : Ev → Res (List D)) : Ev → Res Out := fun ρ => (eV i ρ).bind fun d => (Res.lft (lstD d)).bind fun xd => (m ρ).bind fun ad => (Res.lft (g xd ad)).bind fun ds => .ok (.nx (ρ.set i (some (.list ds))))
theorem lstD_some {d : D} {ds : List D} (h : lstD d = some ds) : d = .list ds := by
  cases d <;> simp [lstD] at h ⊢
  exact h
theorem rs_meth (i : Nat) {x name : Str} {id : String} {a : Expr} {es : List Expr} {ms : Ev → Res (List D)} {p' apos cpos : Pos} {r : V → List V → Hp → VK → Prop} {g : List D → List D → Option (List D)} (slot : Slot "list" name id) (hty : typeOf (.builtin id) = pure (.type "method_descriptor")) (hm : MtR C.X id r) (hp : PrM r g) (ha : RArg C true (a :: es) ms)
    (hN : autoParam (C.X.N[i]? = some x) zX._auto_1) (ho : autoParam (C.om.contains i = true) zX._auto_1) (hv : autoParam (Vis C.X.env.scope x) autoK8._auto_1) (hd : autoParam ((x == ("__debug__" : Str)) = false) vY._auto_1) (hcd : autoParam ((x == ("__classdict__" : Str)) = false) vY._auto_1)
    (hbase : autoParam (attributeBase (.Name x p') name C.X.env (eval (.Name x p') C.X.env) = eval (.Name x p') C.X.env) zX._auto_1)
    (hfew : ((backTo cpos (starEach (a :: es) C.X.env)).all (fun x => !x.1) && (backToKw cpos (keywordEach [] C.X.env)).all (fun x => x.1.isSome)
      && decide ((a :: es).length + ([] : List Keyword).length + (if ([] : List Keyword).isEmpty then 0 else 1) < 30)) = true := by rfl)
    (hline : autoParam ((apos.endLine == cpos.line) = true) zX._auto_1) (hs : autoParam (starEach (a :: es) C.X.env = (false, eval a C.X.env) :: starEach es C.X.env) zX._auto_1) (hplain : autoParam ((backTo cpos (starEach es C.X.env)).any (·.1) = false) zX._auto_1)
    (hsw : autoParam (swapsWith (.Call (.Attribute (.Name x p') name apos) (a :: es) [] cpos) none pos.line C.X.env = pure false) zX._auto_1) :
    RS C fr (.Expr (.Call (.Attribute (.Name x p') name apos) (a :: es) [] cpos) pos) (sM i g ms) := by
  obtain ⟨t, p, q⟩ := ha
  refine ⟨_, ps_expr (pe_bm PySem.F.plainAttrs_list slot hty hm (pe_var hN hv hd hcd) p hbase hfew hline hs hplain) hsw, fun Oc Ob σ H ρ E R h => ?_⟩
  obtain ⟨d, ed, k⟩ := eV_post (Res.zV h)
  obtain ⟨xd, ex, k⟩ := Res.vX (Res.zV k)
  obtain rfl := lstD_some ex
  obtain ⟨v, qv, l, ys, ds, rfl, e2, e3, e4, e5⟩ := R.own i _ ed (mem_of ho)
  cases e2
  refine ⟨_, qv, .inl ⟨rfl, _, SqL.of e3⟩, q Oc Ob σ H ρ _ R (Res.zR (Res.zV k) (fun ad _ k vs H' s r' => ?_) fun c z H' s => z H' (Same.frm s))⟩
  obtain ⟨ds', eg, k⟩ := Res.vX (Res.zV k)
  refine hp _ H' l ys vs xd ad ds' _ (s _ _ e3) (e5.same s) r' eg fun xs' rx => ?_
  refine k _ _ Ob ((R.same s).write (mem_of ho) ed qv (s _ _ e3) e4 rx) (fun b o e n => ?_) fun b z => .inl z
  rw [yA (fun z => n (by subst z; exact e4))]
  exact s b o e
end
end L2.L3
set_option maxHeartbeats 4000000
namespace L2.L3
open PySem PySem.Spec PyProof.Rows
variable [CN]
def RG (C : Ct) (tg : Expr) (g : D → Ev → Option Ev) : Prop :=
  ∃ t, PG C.X tg t ∧ ∀ (Oc : Wd) (Ob : Addr → Prop) (σ : St) (H : Hp) (ρ ρ' : Ev) (v : V) (d : D) (Q : St → Hp → Prop), Rel Oc Ob C.om C.ln σ H ρ → Rep H (Uni Oc Ob) v d → g d ρ = some ρ' → (∀ σ', Rel Oc Ob C.om C.ln σ' H ρ' → Q σ' H) → t v σ H Q
def gN (i : Nat) : D → Ev → Option Ev := fun d ρ => some (ρ.set i (some d))
section
variable {C : Ct} {fr : Bool} {e c : Expr} {es : List Expr} {pos : Pos} {md : Md} {me : Ev → Res D} {mt : Ev → Res Bool} {st : Stmt} {body sts rest : List Stmt} {m n : Ev → Res Out} {mi : Ev → Res (List D)} {g : D → Ev → Option Ev}
theorem rg_name (i : Nat) {x : Str} (nd : C.X.N.Nodup) (hi : autoParam (C.X.N[i]? = some x) zX._auto_1) (ho : autoParam (C.om.contains i = false) zX._auto_1) (hl : autoParam (C.ln.contains i = false) zX._auto_1) (hx : autoParam (Loc C.X.env.scope x) autoK11._auto_1)
    (hf : autoParam (C.X.fn x = true ∨ C.X.env.scope.names.lookup x = some .local) autoK12._auto_1) : RG C (.Name x pos) (gN i) := by
  refine ⟨_, pg_name nd hi hx hf, fun Oc Ob σ H ρ ρ' v d Q R r e k => ?_⟩
  cases e
  exact k _ (R.set (not_mem_of ho) (not_mem_of hl) r)
def RGs (C : Ct) (ts : List Expr) (g : List D → Ev → Option Ev) : Prop :=
  ∃ t, PGs C.X ts t ∧ ∀ (Oc : Wd) (Ob : Addr → Prop) (σ : St) (H : Hp) (ρ ρ' : Ev) (vs : List V) (ds : List D) (Q : St → Hp → Prop), Rel Oc Ob C.om C.ln σ H ρ → Reps H (Uni Oc Ob) vs ds → g ds ρ = some ρ' → (∀ σ', Rel Oc Ob C.om C.ln σ' H ρ' → Q σ' H) → t vs σ H Q
def gsN : List D → Ev → Option Ev
  | [], ρ => some ρ
  | _, _ => none
def gsC (g : D → Ev → Option Ev) (h : List D → Ev → Option Ev) : List D → Ev → Option Ev
  | d :: ds, ρ => (g d ρ).bind fun ρ1 => h ds ρ1
  | [], _ => none
theorem rgs_nil : RGs C [] gsN := by
  refine ⟨_, pgs_nil, fun Oc Ob σ H ρ ρ' vs ds Q R r e k => ?_⟩
  cases r with
  | nil => cases e; exact ⟨rfl, k σ R⟩
  | cons => cases e
theorem rgs_cons {h : List D → Ev → Option Ev} (h1 : RG C e g) (h2 : RGs C es h) (hs : autoParam ((assignEach (e :: es) C.X.env).map (·.2) = assign e C.X.env :: (assignEach es C.X.env).map (·.2)) zX._auto_1) : RGs C (e :: es) (gsC g h) := by
  obtain ⟨t, p, q⟩ := h1
  obtain ⟨t', p', q'⟩ := h2
  refine ⟨_, pgs_cons p p' hs, fun Oc Ob σ H ρ ρ' vs ds Q R r e k => ?_⟩
  cases r with
  | nil => cases e
  | cons r rs =>
    obtain ⟨ρ1, e1, e2⟩ := Option.bind_eq_some_iff.mp e
    exact ⟨_, _, rfl, q Oc Ob σ H ρ ρ1 _ _ _ R r e1 fun σ' R' => q' Oc Ob σ' H ρ1 ρ' _ _ Q R' rs e2 k⟩
def gT (n : Nat) (h : List D → Ev → Option Ev) : D → Ev → Option Ev
  | .tuple ds, ρ => if ds.length = n then h ds ρ else none
  | _, _ => none
theorem rg_tup {k n : Nat} {h : List D → Ev → Option Ev} (hc : C.X.calm = true) (hg : RGs C es h) (hn : autoParam ((assignEach es C.X.env).length = n) zX._auto_1) (hst : autoParam ((assignEach es C.X.env).findIdx? (·.1) = none) zX._auto_1) : RG C (.Tuple es k pos) (gT n h) := by
  obtain ⟨t, p, q⟩ := hg
  refine ⟨_, pg_tup hc p hn hst, fun Oc Ob σ H ρ ρ' v d Q R r e k => ?_⟩
  cases r with
  | tup rd no rs =>
    unfold gT at e
    simp only at e
    split at e
    · rename_i hl
      exact ⟨_, _, rfl, .inl rd, by rw [rs.length]; exact hl, q Oc Ob σ H ρ ρ' _ _ Q R rs e k⟩
    · cases e
  | _ => cases e
theorem rs_asg {tg : Expr} (he : RE C .cl e me) (hg : RG C tg g) (hs : autoParam (swapsWithSole [tg] e pos.line C.X.env = pure false) zX._auto_1) (hw : autoParam (swappedStores [tg] e C.X.env = pure none) zX._auto_1)
    (h1 : autoParam ((assignEach [tg] C.X.env).map (·.2) = [assign tg C.X.env]) zX._auto_1) : RS C fr (.Assign [tg] e pos) (fun ρ => (me ρ).bind fun d => (Res.lft (g d ρ)).bind fun ρ' => .ok (.nx ρ')) := by
  obtain ⟨t, p, q⟩ := he
  obtain ⟨t', p', q'⟩ := hg
  refine ⟨_, ps_asg p p' hs hw h1, fun Oc Ob σ H ρ E R h => q Oc Ob σ H ρ _ R (Res.zR (Res.zV h) (fun d _ k v H' s r => ?_) fun c z H' s => z H' (Same.frm s))⟩
  obtain ⟨ρ', e, k⟩ := Res.vX (Res.zV k)
  exact q' Oc Ob σ H' ρ ρ' v d _ (R.same s) r e fun σ' R' => k σ' H' Ob R' (Same.frm s) fun b z => .inl z
def forM (g : D → Ev → Option Ev) (b : Ev → Res Out) : List D → Ev → Res Out
  | [], ρ => .ok (.nx ρ)
  | x :: xs, ρ => (Res.lft (g x ρ)).bind fun ρ1 => (b ρ1).bind fun o => match o with
    | .nx ρ2 => forM g b xs ρ2
    | .rt d => .ok (.rt d)
def sF (mi : Ev → Res (List D)) (g : D → Ev → Option Ev) (b : Ev → Res Out) : Ev → Res Out := fun ρ => (mi ρ).bind fun ds => forM g b ds ρ
theorem rs_for {tg iter : Expr} (hi : RI C tg iter mi) (hg : RG C tg g) (hb : RSs C fr body m) (hp : autoParam (PassesOwn (model C.X.prog C.X.w) C.X.A C.X.env C.X.xe) autoK13._auto_1) (hc : autoParam (C.X.calm = true) zX._auto_1)
    (hs : autoParam (∀ x, foldedSetIterable iter C.X.env x = pure x) autoK4._auto_1) : RS C fr (.For tg iter body [] pos) (sF mi g m) := by
  obtain ⟨wi, pi, qi⟩ := hi
  obtain ⟨tg', pg, qg⟩ := hg
  obtain ⟨tb, pb, qb⟩ := hb
  refine ⟨_, ps_for hp hc pi pg pb hs, fun Oc Ob σ H ρ E R h => qi Oc Ob σ H ρ _ R (Res.zR (Res.zV h) (fun ds _ k J H1 s1 wk => ?_) fun c z H' s => z H' (Same.frm s))⟩
  refine ⟨fun i mm σ' H' => mm = ds.length - i ∧ i ≤ ds.length ∧ ∃ ρi Obi, Rel Oc Obi C.om C.ln σ' H' ρi ∧ Frm Ob H1 H' ∧ (∀ b, Obi b → Ob b ∨ H1 b = none) ∧ SPost C fr Oc Obi H' E (forM g m (ds.drop i) ρi),
    ⟨_, rfl, Nat.zero_le _, ρ, Ob, R.same s1, Same.frm (Same.refl _), fun b z => .inl z, SPost.same s1 k⟩, ?_⟩
  rintro i mm σ2 H2 ⟨rfl, hi, ρi, Obi, R2, f2, sb2, k2⟩
  obtain ⟨w1, w2⟩ := wk H2 Obi f2 sb2 i
  by_cases hlt : i < ds.length
  · obtain ⟨go, yl⟩ := w1 ds[i] (List.getElem?_eq_getElem hlt)
    have ed : ds.drop i = ds[i] :: ds.drop (i + 1) := List.drop_eq_getElem_cons hlt
    rw [ed, forM] at k2
    obtain ⟨ρ1, e1, k2⟩ := Res.vX (Res.zV k2)
    refine .inr ⟨go, fun σ' H' => ∃ m', m' < ds.length - i ∧ (m' = ds.length - (i + 1) ∧ i + 1 ≤ ds.length ∧ ∃ ρi Obi, Rel Oc Obi C.om C.ln σ' H' ρi ∧ Frm Ob H1 H' ∧ (∀ b, Obi b → Ob b ∨ H1 b = none) ∧ SPost C fr Oc Obi H' E (forM g m (ds.drop (i + 1)) ρi)), fun _ _ z => z, fun x H3 hy => ?_⟩
    obtain ⟨s3, rx⟩ := yl x H3 hy
    refine qg Oc Obi σ2 H3 ρi ρ1 x _ _ (R2.same s3) rx e1 fun σ3 R3 => ?_
    have k3 := SPost.same s3 (show SPost C fr Oc Obi H2 E _ from k2)
    refine qb Oc Obi σ3 H3 ρ1 _ R3 (Res.zR (Res.zV k3) (fun o _ k4 => ?_) fun _ z => z)
    cases o with
    | rt d => exact k4
    | nx ρ2 =>
      intro σ4 H4 Ob4 R4 f4 sb4
      have f3 : Frm Ob H1 H3 := fun b o e n => s3 b o (f2 b o e n)
      refine ⟨_, by bv_omega, rfl, hlt, ρ2, Ob4, R4, f3.trans sb2 f4, fun b z => (sb4 b z).elim (sb2 b) fun z => f3.none z, SPost.step f4 sb4 k4⟩
  · have ei : i = ds.length := by bv_omega
    subst ei
    rw [List.drop_length] at k2
    exact .inl ⟨w2 (Nat.le_refl _), k2 σ2 H2 Obi R2 (Same.frm (Same.refl _)) fun b z => .inl z⟩
def whM (t : Ev → Res Bool) (b : Ev → Res Out) : Nat → Ev → Res Out
  | 0, _ => .no
  | k + 1, ρ => (t ρ).bind fun c => if c then (b ρ).bind fun o => match o with
    | .nx ρ' => whM t b k ρ'
    | .rt d => .ok (.rt d) else .ok (.nx ρ)
def sW (fuel : Nat) (t : Ev → Res Bool) (b : Ev → Res Out) : Ev → Res Out := fun ρ => whM t b fuel ρ
theorem rs_while (fuel : Nat) (hc : RT C c mt) (hb : RSs C fr body m) (hp : autoParam (PassesOwn (model C.X.prog C.X.w) C.X.A C.X.env C.X.xe) autoK13._auto_1) : RS C fr (.While c body [] pos) (sW fuel mt m) := by
  obtain ⟨t, p, q⟩ := hc
  obtain ⟨tb, pb, qb⟩ := hb
  refine ⟨_, ps_while hp p pb, fun Oc Ob σ H ρ E R h => ?_⟩
  refine ⟨fun mm σ' H' => ∃ ρi Obi, Rel Oc Obi C.om C.ln σ' H' ρi ∧ Frm Ob H H' ∧ (∀ b, Obi b → Ob b ∨ H b = none) ∧ SPost C fr Oc Obi H' E (whM mt m mm ρi), ⟨fuel, ρ, Ob, R, Same.frm (Same.refl _), fun b z => .inl z, h⟩, ?_⟩
  rintro mm σ2 H2 ⟨ρi, Obi, R2, f2, sb2, k2⟩
  cases mm with
  | zero => exact k2.elim
  | succ mm =>
    rw [whM] at k2
    refine q Oc Obi σ2 H2 ρi _ R2 (Res.zR (Res.zV k2) (fun b _ k3 H3 s3 => ?_) fun c z H' s => z H' (Same.frm s))
    cases b with
    | false => exact iteF (k3 σ2 H3 Obi (R2.same s3) (Same.frm s3) fun b z => .inl z)
    | true =>
      refine iteT ⟨fun σ' H' => ∃ m', m' < mm + 1 ∧ ∃ ρi Obi, Rel Oc Obi C.om C.ln σ' H' ρi ∧ Frm Ob H H' ∧ (∀ b, Obi b → Ob b ∨ H b = none) ∧ SPost C fr Oc Obi H' E (whM mt m m' ρi), fun _ _ z => z, ?_⟩
      have k3 := SPost.same s3 (show SPost C fr Oc Obi H2 E _ from k3)
      refine qb Oc Obi σ2 H3 ρi _ (R2.same s3) (Res.zR (Res.zV k3) (fun o _ k4 => ?_) fun _ z => z)
      cases o with
      | rt d => exact k4
      | nx ρ2 =>
        intro σ4 H4 Ob4 R4 f4 sb4
        have f3 : Frm Ob H H3 := fun b o e n => s3 b o (f2 b o e n)
        exact ⟨mm, Nat.lt_succ_self _, ρ2, Ob4, R4, f3.trans sb2 f4, fun b z => (sb4 b z).elim (sb2 b) fun z => f3.none z, SPost.step f4 sb4 k4⟩
def setD (ds : List D) (i v : D) : Option (List D) := match i with
  | .int k => (ixN ds.length k).map fun j => ds.set j v
  | _ => none
def sI (i : Nat) (mk me : Ev → Res D) : Ev → Res Out := fun ρ => (me ρ).bind fun v => (eV i ρ).bind fun d => (Res.lft (lstD d)).bind fun xd => (mk ρ).bind fun k => (Res.lft (setD xd k v)).bind fun ds => .ok (.nx (ρ.set i (some (.list ds))))
theorem rs_item (i : Nat) {x : Str} {p' p2 : Pos} {k : Expr} {mk : Ev → Res D} (he : RE C .cl e me) (hk : RE C md k mk) (hN : autoParam (C.X.N[i]? = some x) zX._auto_1) (ho : autoParam (C.om.contains i = true) zX._auto_1) (hv : autoParam (Vis C.X.env.scope x) autoK8._auto_1) (hd : autoParam ((x == ("__debug__" : Str)) = false) vY._auto_1)
    (hcd : autoParam ((x == ("__classdict__" : Str)) = false) vY._auto_1)
    (ha : ∀ v, assign (.Subscript (.Name x p') k p2) C.X.env v = (do
      let ov ← holding [v] (eval (.Name x p') C.X.env)
      let iv ← holding [v, ov] (eval k C.X.env)
      standAt p2
      holding [v, ov, iv] (setItem ov iv v)
      release [v, ov, iv] []) := by intro _; rfl)
    (hs : autoParam (swapsWithSole [.Subscript (.Name x p') k p2] e pos.line C.X.env = pure false) zX._auto_1) (hw : autoParam (swappedStores [.Subscript (.Name x p') k p2] e C.X.env = pure none) zX._auto_1)
    (h1 : autoParam ((assignEach [.Subscript (.Name x p') k p2] C.X.env).map (·.2) = [assign (.Subscript (.Name x p') k p2) C.X.env]) zX._auto_1) : RS C fr (.Assign [.Subscript (.Name x p') k p2] e pos) (sI i mk me) := by
  obtain ⟨t, p, q⟩ := he
  obtain ⟨t', p', q'⟩ := hk
  refine ⟨_, ps_asg p (pg_sub (pe_var hN hv hd hcd) p' set_list ha) hs hw h1, fun Oc Ob σ H ρ E R h => q Oc Ob σ H ρ _ R (Res.zR (Res.zV h) (fun dv _ k v H' s r => ?_) fun c z H' s => z H' (Same.frm s))⟩
  obtain ⟨d, ed, k⟩ := eV_post (Res.zV k)
  obtain ⟨xd, ex, k⟩ := Res.vX (Res.zV k)
  obtain rfl := lstD_some ex
  obtain ⟨w', qv, l, ys, ds, rfl, e2, e3, e4, e5⟩ := (R.same s).own i _ ed (mem_of ho)
  cases e2
  refine ⟨_, qv, q' Oc Ob σ H' ρ _ (R.same s) (Res.zR (Res.zV k) (fun dk _ k kv H2 s2 rk => ?_) fun c z H2 s2 => z H2 (Same.frm (s.trans s2)))⟩
  obtain ⟨ds', eg, k⟩ := Res.vX (Res.zV k)
  unfold setD at eg
  split at eg
  · obtain ⟨j, ej, rfl⟩ := Option.map_eq_some_iff.mp eg
    obtain rfl := (rk.va (R.same s).oh).int
    have hl := e5.length
    refine ⟨l, ys, _, j, rfl, rfl, s2 _ _ e3, by rw [hl]; exact ej, ?_⟩
    refine k _ _ Ob ((R.same (s.trans s2)).write (mem_of ho) ed qv (s2 _ _ e3) e4 (Reps.set (Rep.same r s2) j (e5.same s2))) (fun b o e n => ?_) fun b z => .inl z
    rw [yA (fun z => n (by subst z; exact e4))]
    exact s2 b o (s b o e)
  · cases eg
def sV (i j : Nat) : Ev → Res Out := fun ρ => (eV j ρ).bind fun d => .ok (.nx ((ρ.set i (some d)).set j none))
theorem set_none {α : Type} {l : List (Option α)} {i j : Nat} {d : α} (h : (l.set i none)[j]? = some (some d)) : j ≠ i ∧ l[j]? = some (some d) := by
  by_cases e : i = j
  · subst e
    rw [List.getElem?_set_self'] at h
    cases q : l[i]? with
    | none => rw [q] at h; cases h
    | some z => rw [q] at h; cases h
  · rw [List.getElem?_set_ne e] at h
    exact ⟨fun z => e z.symm, h⟩
theorem rs_move (i j : Nat) {x y : Str} {p' p2 : Pos} (nd : C.X.N.Nodup) (hi : autoParam (C.X.N[i]? = some x) zX._auto_1) (hj : autoParam (C.X.N[j]? = some y) zX._auto_1) (oi : autoParam (C.om.contains i = false) zX._auto_1) (oj : autoParam (C.om.contains j = true) zX._auto_1) (hl : autoParam (C.ln.contains i = false) zX._auto_1) (hx : autoParam (Loc C.X.env.scope x) autoK11._auto_1)
    (hv : autoParam (Vis C.X.env.scope y) autoK8._auto_1) (hd : autoParam ((y == ("__debug__" : Str)) = false) vY._auto_1) (hcd : autoParam ((y == ("__classdict__" : Str)) = false) vY._auto_1)
    (hs : autoParam (swapsWith (.Name y p2) (some (.Name x p')) pos.line C.X.env = pure false) zX._auto_1) (hf : autoParam (C.X.fn x = true ∨ C.X.env.scope.names.lookup x = some .local) autoK12._auto_1) : RS C fr (.Assign [.Name x p'] (.Name y p2) pos) (sV i j) := by
  refine ⟨_, ps_set nd hi hx (pe_var hj hv hd hcd) hs hf, fun Oc Ob σ H ρ E R h => ?_⟩
  obtain ⟨d, ed, k⟩ := eV_post (Res.zV h)
  obtain ⟨v, qv, a, ys, ds, rfl, rfl, e3, e4, e5⟩ := R.own j d ed (mem_of oj)
  refine ⟨_, qv, k _ H (fun b => Ob b ∧ b ≠ a) ?_ (Same.frm (Same.refl H)) fun b z => .inl z.1⟩
  have ls : ∀ {b : Addr}, Uni Oc (fun b => Ob b ∧ b ≠ a) b → Uni Oc Ob b := fun z => z.elim .inl fun z => .inr z.1
  have io := not_mem_of oi
  have il := not_mem_of hl
  have ij : i ≠ j := fun z => io (by subst z; exact mem_of oj)
  refine ⟨by rw [List.length_set, List.length_set, List.length_set]; exact R.len, fun n d' e h1 h2 => ?_, fun n d' e h1 => ?_, fun n d' e h1 h2 => ?_, fun n k dn dk b en ek hn hk qn qk => ?_, fun b z => R.oh b (ls z), fun b z => R.ap b z.1⟩
  · obtain ⟨nj, e⟩ := set_none e
    have hn := set_lt e
    rcases set_get e with ⟨rfl, rfl⟩ | ⟨ne, e⟩
    · exact ⟨_, by rw [List.getElem?_set_self (by rw [R.len]; exact hn)], .lst (.inl e3) (fun z => z.elim (R.ap a e4) fun z => z.2 rfl) (e5.less fun b z => ls z)⟩
    · obtain ⟨w, q, k⟩ := R.val n d' e h1 h2
      exact ⟨w, by rw [List.getElem?_set_ne (fun z => ne z.symm)]; exact q, k.less fun b z => ls z⟩
  · obtain ⟨nj, e⟩ := set_none e
    rcases set_get e with ⟨rfl, rfl⟩ | ⟨ne, e⟩
    · exact absurd h1 io
    · obtain ⟨w, q, b, zs, fs, rfl, z2, z3, z4, z5⟩ := R.own n d' e h1
      have nb : b ≠ a := fun z => by subst z; exact nj (R.inj n j d' _ b e ed h1 (mem_of oj) q qv)
      exact ⟨_, by rw [List.getElem?_set_ne (fun z => ne z.symm)]; exact q, b, zs, fs, rfl, z2, z3, ⟨z4, nb⟩, z5.less fun b z => ls z⟩
  · obtain ⟨nj, e⟩ := set_none e
    rcases set_get e with ⟨rfl, rfl⟩ | ⟨ne, e⟩
    · exact absurd h2 il
    · obtain ⟨w, q, zs, fs, z1, z2, z3, z4, z5⟩ := R.lnt n d' e h1 h2
      exact ⟨w, by rw [List.getElem?_set_ne (fun z => ne z.symm)]; exact q, zs, fs, z1, z2, z3, z4, z5.less fun b z => ls z⟩
  · obtain ⟨nn, en⟩ := set_none en
    obtain ⟨nk, ek⟩ := set_none ek
    rcases set_get en with ⟨rfl, rfl⟩ | ⟨nn', en'⟩
    · exact absurd hn io
    · rcases set_get ek with ⟨rfl, rfl⟩ | ⟨nk', ek'⟩
      · exact absurd hk io
      · rw [List.getElem?_set_ne (fun z => nn' z.symm)] at qn
        rw [List.getElem?_set_ne (fun z => nk' z.symm)] at qk
        exact R.inj n k dn dk b en' ek' hn hk qn qk
end
end L2.L3
set_option maxHeartbeats 4000000
namespace L2
open PySem PySem.Spec PyProof.Rows
structure Has (K : PySem.W.Frag) (mg : Str → Option Value) (x : Str) (st : Stmt) (f : Addr) (fd : FuncData) (ps : List Str) : Prop where
  F : Fun K x x st f fd
  b : Binds K fd ps []
  m : mg x = some (.ref f)
theorem has_mk {K : PySem.W.Frag} {h : Heap} {mg : Str → Option Value} {x : Str} {st : Stmt} {f : Addr} {oc : Value} {od an : Option Addr} {osl : Array (Option Value)} {kV doc pm cdv ct : Value} {ps : List Str} (X : K.In h) (G : h.Ns mainGlobals mg)
    (a : PySem.W.nsIn K mainGlobals x = some (some (.ref f))) (l : K.lookup f = some ⟨oc, od, .func (PySem.W.fnOf x x (defArgs st) (defBody st) (zS st) .none kV doc pm an cdv ct), osl⟩)
    (c : PySem.W.codeIn K cdv x = true) (k : PySem.W.keepIn K (.ref f) = true)
    (hb : ∀ (kV doc pm : Value) (an : Option Addr) (cdv ct : Value) (us : List Value), us.length = ps.length → bindArgs (PySem.W.fnOf x x (defArgs st) (defBody st) (zS st) .none kV doc pm an cdv ct) ⟨us, []⟩ = pure (ps.zip us)) :
    Has K mg x st f (PySem.W.fnOf x x (defArgs st) (defBody st) (zS st) .none kV doc pm an cdv ct) ps :=
  have F := fun_mk (st := st) l c k
  ⟨F, F.binds hb, PySem.W.mg_of X G a⟩
end L2
namespace L2.L3
open PySem PySem.Spec PyProof.Rows
variable [CN]
def CallOk : Bool → (Addr → Prop) → Hp → Hp → V → D → Prop
  | true, O, H, H', v, d => ∃ a ys ds, v = .ref a ∧ d = .list ds ∧ H a = none ∧ H' a = some (.lst ys) ∧ Reps H' (fun b => O b ∨ b = a) ys ds
  | false, O, _, H', v, d => Rep H' O v d
def spF (fr : Bool) (F : List D → Res D) : Sp := fun vs H Q _ => ∃ (ds : List D) (O : Addr → Prop), (∀ a, O a → H a ≠ none) ∧ Reps H O vs ds ∧ (F ds).post (fun d => ∀ v H', Same H H' → CallOk fr O H H' v d → Q v H') (fun _ => False)
def fin (fr : Bool) : Out → Res D
  | .rt d => .ok d
  | .nx _ => if fr then .no else .ok .none
def runF (fr : Bool) (p n : Nat) (m : Ev → Res Out) : List D → Res D := fun ds => if ds.length = p then (m (ds.map some ++ List.replicate (n - p) none)).bind (fin fr) else .no
theorem start_get {α : Type} {ds : List α} {k i : Nat} {d : α} (h : (ds.map some ++ List.replicate k none)[i]? = some (some d)) : ds[i]? = some d := by
  by_cases hi : i < ds.length
  · rw [List.getElem?_append_left (by simpa using hi), List.getElem?_map] at h
    cases e : ds[i]? with
    | none => rw [e] at h; cases h
    | some z => rw [e] at h; cases h; rfl
  · rw [List.getElem?_append_right (by simpa using hi), List.getElem?_replicate] at h
    split at h <;> cases h
theorem start_of {α : Type} {ds : List α} {k i : Nat} {d : α} (h : ds[i]? = some d) : (ds.map some ++ List.replicate k none)[i]? = some (some d) := by
  have hi := (List.getElem?_eq_some_iff.mp h).1
  rw [List.getElem?_append_left (by simpa using hi), List.getElem?_map, h]
  rfl
section
variable {P : Program} {w : World} {K : PySem.W.Frag} {mg : Str → Option Value} {base : Heap}
abbrev bodyCt (P : Program) (w : World) (K : PySem.W.Frag) (mg : Str → Option Value) (base : Heap) (N : List Str) (x : Str) (sc : Scope) (f : Addr) (cdv : Value) (A : Around) (outer : List Env) (s : Shared) (H : Hp) (E : XK) (om : List Nat) : Ct :=
  ⟨(cxOf CX0 P w K mg base N x sc f cdv A outer s H E).nox, fun _ _ => False, om, []⟩
theorem fn_ok {x : Str} {st : Stmt} {f : Addr} {fd : FuncData} {N ps : List Str} {k : Nat} {m : Ev → Res Out} {fr : Bool} (om : List Nat) (F : Fun K x x st f fd) (S : vW N ps (zS st))
    (hbody : ∀ (cdv : Value) (A : Around) (outer : List Env) (s : Shared) (H : Hp) (E : XK), Room k (A.deeper (envOfC x (zS st) s.heap.objs.size f cdv)) → RSs (bodyCt P w K mg base N x (zS st) f cdv A outer s H E om) fr (defBody st) m)
    (hom : autoParam (om.all (fun i => decide (ps.length ≤ i)) = true) zX._auto_1) :
    FnOk P w K mg base CX0 (k + 1) f fd ps (spF fr (runF fr ps.length N.length m)) := by
  have len : ∀ (vs : List V) (H : Hp) (Q : VK) (E : XK), spF fr (runF fr ps.length N.length m) vs H Q E → vs.length = ps.length := fun vs H Q E h => by
    obtain ⟨ds, O, oh, r, k⟩ := h
    unfold runF at k
    split at k
    · rename_i hl
      rw [r.length]; exact hl
    · exact k.elim
  refine F.ok S len fun cdv A outer s H vs Q E hr h => ?_
  have hvl := len vs H Q E h
  obtain ⟨ds, O, oh, r, k⟩ := h
  have hl : ds.length = ps.length := by rw [← r.length]; exact hvl
  unfold runF at k
  rw [if_pos hl] at k
  obtain ⟨t, p, q⟩ := hbody cdv A outer s H E hr
  refine ⟨t, p, q ⟨O, fun _ => 0⟩ (fun _ => False) _ H (ds.map some ++ List.replicate (N.length - ps.length) none) _ ?_ ?_⟩
  · refine ⟨?_, fun i d e _ _ => ?_, fun i d e ho => ?_, fun i d e _ hl => (nomatch hl), fun i j di dj a ei _ ho _ _ _ => ?_, fun a z => oh a (z.elim id fun z => z.elim), fun a z => z.elim⟩
    · unfold start
      rw [List.length_append, List.length_append, List.length_map, List.length_map, List.length_replicate, List.length_replicate, hvl, hl]
    · obtain ⟨v, ev, rv⟩ := r.get (start_get e)
      exact ⟨v, start_of ev, rv.less fun b z => z.elim id fun z => z.elim⟩
    · have h1 := (List.getElem?_eq_some_iff.mp (start_get e)).1
      have h2 : ps.length ≤ i := of_decide_eq_true (List.all_eq_true.mp hom i ho)
      bv_omega
    · have h1 := (List.getElem?_eq_some_iff.mp (start_get ei)).1
      have h2 : ps.length ≤ i := of_decide_eq_true (List.all_eq_true.mp hom i ho)
      bv_omega
  · refine Res.zR (Res.zV k) (fun o _ k => ?_) fun c z => z.elim
    have same : ∀ {H' : Hp}, Frm (fun _ => False) H H' → Same H H' := fun f b o e => f b o e fun z => z
    cases o with
    | rt d =>
      intro v H' f rt
      refine k v H' (same f) ?_
      cases fr with
      | false => exact rt
      | true =>
        obtain ⟨a, ys, ds, e1, e2, e3, e4, e5, e6⟩ := rt
        exact ⟨a, ys, ds, e1, e2, e3.elim id fun z => z.elim, e5, e6⟩
    | nx ρ' =>
      cases fr with
      | true => exact k.elim
      | false => exact fun σ' H' Ob' R f s => k .non H' (same f) Rep.non
end
def mdF (fr : Bool) : Md := if fr then .new else .cl
def eF (F : List D → Res D) (m : Ev → Res (List D)) : Ev → Res D := fun ρ => (m ρ).bind F
section
variable {C : Ct} {k : Nat} {f : Addr} {fd : FuncData} {ps : List Str} {fr : Bool} {F : List D → Res D} {x : Str} {p pos : Pos} {e : Expr} {es : List Expr} {ms : Ev → Res (List D)} {st : Stmt}
end
mutual
def lf : D → Bool
  | .list _ => false
  | .dict _ => false
  | .tuple ds => lfs ds
  | _ => true
def lfs : List D → Bool
  | [] => true
  | d :: ds => lf d && lfs ds
end
mutual
theorem Rep.lf {H : Hp} {U : Addr → Prop} {B : Addr → Prop} (hB : ∀ b, B b → ∃ ys, H b = some (.lst ys)) : ∀ {v : V} {d : D}, Rep H (fun b => U b ∧ ¬ B b) v d → L3.lf d = true → Rep H U v d
  | _, _, .non, _ => .non
  | _, _, .bl b, _ => .bl b
  | _, _, .int i, _ => .int i
  | _, _, .str x, _ => .str x
  | _, _, .lst r n t, h => by simp [L3.lf] at h
  | _, _, .exc r n, h => by simp [L3.lf] at h
  | _, _, @Rep.tup _ _ _ a _ _ r n t, h => .tup r (fun z => by
      by_cases hb : B a
      · obtain ⟨ys, e⟩ := hB _ hb
        rcases r with r | ⟨o, r⟩ <;> (rw [r] at e; cases e)
      · exact n ⟨z, hb⟩) (Reps.lf hB t (by simpa [L3.lf] using h))
theorem Reps.lf {H : Hp} {U : Addr → Prop} {B : Addr → Prop} (hB : ∀ b, B b → ∃ ys, H b = some (.lst ys)) : ∀ {vs : List V} {ds : List D}, Reps H (fun b => U b ∧ ¬ B b) vs ds → lfs ds = true → Reps H U vs ds
  | _, _, .nil, _ => .nil
  | _, _, .cons r t, h => by
    rw [lfs, Bool.and_eq_true] at h
    exact .cons (Rep.lf hB r h.1) (Reps.lf hB t h.2)
end
def lfT : Bool → D → Bool
  | true, .list ds => lfs ds
  | _, d => lf d
def eFA (fr : Bool) (F : List D → Res D) (m : Ev → Res (List D)) : Ev → Res D := fun ρ => (m ρ).bind fun ds => (F ds).bind fun d => if lfT fr d then .ok d else .no
end L2.L3
set_option maxHeartbeats 4000000
namespace L2.L3
open PySem PySem.Spec PyProof.Rows
variable [CN]
def i2 (f : Int → Int → Option Int) : D → D → Option D
  | .int i, .int j => (f i j).map PyData.int
  | _, _ => none
theorem i2_some {f : Int → Int → Option Int} {x y d : D} (h : i2 f x y = some d) : ∃ i j k, x = .int i ∧ y = .int j ∧ f i j = some k ∧ d = .int k := by
  cases x with
  | int i =>
    cases y with
    | int j =>
      obtain ⟨k, e, rfl⟩ := Option.map_eq_some_iff.mp (show (f i j).map PyData.int = some d from h)
      exact ⟨i, j, k, rfl, rfl, e, rfl⟩
    | _ => cases h
  | _ => cases h
theorem pr_I {C : Int → Int → Prop} {g : Int → Int → Int} {f : Int → Int → Option Int} (hf : ∀ i j k, f i j = some k → C i j ∧ k = g i j) : Pr2 (rI C fun i j => .int (g i j)) .cl (i2 f) := by
  intro Oc Ob H x y dx dy d Q oh vx vy e k
  obtain ⟨i, j, n, rfl, rfl, ef, rfl⟩ := i2_some e
  obtain ⟨hc, rfl⟩ := hf i j n ef
  exact ⟨i, j, vx.int, vy.int, hc, k _ H (Same.refl H) (Rep.int _)⟩
theorem pr_I0 {g : Int → Int → Int} : Pr2 (rI0 fun i j => .int (g i j)) .cl (i2 fun i j => some (g i j)) := by
  intro Oc Ob H x y dx dy d Q oh vx vy e k
  obtain ⟨i, j, n, rfl, rfl, ef, rfl⟩ := i2_some e
  cases ef
  exact ⟨i, j, vx.int, vy.int, k _ H (Same.refl H) (Rep.int _)⟩
abbrev addI : D → D → Option D := i2 fun i j => some (i + j)
abbrev subI : D → D → Option D := i2 fun i j => some (i - j)
def MulOk (i j : Int) : Prop := CMul i j ∨ (Small i ∧ Small j)
open Classical in
def mulO (i j : Int) : Option Int := if MulOk i j then some (i * j) else none
abbrev mulI : D → D → Option D := i2 mulO
def DivOk (j : Int) : Prop := 0 < j ∧ j.natAbs.log2 < 9000
instance (j : Int) : Decidable (DivOk j) := by unfold DivOk; infer_instance
def fdivO (i j : Int) : Option Int := if DivOk j then some (i / j) else none
def modO (i j : Int) : Option Int := if 0 < j then some (i % j) else none
def powO (i j : Int) : Option Int := if 0 ≤ j ∧ j ≤ 1000000 ∧ i.natAbs < 2 ^ 64 then some (i ^ j.toNat) else none
abbrev fdivI : D → D → Option D := i2 fdivO
abbrev modI : D → D → Option D := i2 modO
abbrev powI : D → D → Option D := i2 powO
section
variable {X : Cx}
theorem op_mulA : OpR X (binaryOp .Mult) (rI MulOk fun i j => .int (i * j)) := opI fun _ _ _ _ _ _ _ hc q => mul_int q (hc.elim CMul.ok fun h => .of_bits h.1.bits h.2.bits)
theorem iop_mulA : OpR X (inplaceOp .Mult) (rI MulOk fun i j => .int (i * j)) := opI fun _ _ _ _ _ _ _ hc q => imul_int q (hc.elim CMul.ok fun h => .of_bits h.1.bits h.2.bits)
theorem op_fdivA : OpR X (binaryOp .FloorDiv) (rI (fun _ j => DivOk j) fun i j => .int (i / j)) := opI fun i j _ _ _ _ _ hc q => by
  refine floordiv_int (by have := hc.1; bv_omega) ?_ (.inl (PyProof.noPylong_of_log2 hc.2))
  rw [Int.fdiv_eq_ediv_of_nonneg _ (by have := hc.1; bv_omega)]
  exact q
end
open Classical in
theorem mulO_some {i j k : Int} (h : mulO i j = some k) : MulOk i j ∧ k = i * j := by
  unfold mulO at h
  split at h
  · cases h; exact ⟨by assumption, rfl⟩
  · cases h
theorem mulO_ok {i j : Int} (h : MulOk i j) : mulO i j = some (i * j) := by
  unfold mulO
  exact if_pos h
theorem fdivO_some {i j k : Int} (h : fdivO i j = some k) : DivOk j ∧ k = i / j := by
  unfold fdivO at h
  split at h
  · cases h; exact ⟨by assumption, rfl⟩
  · cases h
theorem modO_some {i j k : Int} (h : modO i j = some k) : 0 < j ∧ k = i % j := by
  unfold modO at h
  split at h
  · cases h; exact ⟨by assumption, rfl⟩
  · cases h
theorem powO_some {i j k : Int} (h : powO i j = some k) : CPow i j ∧ k = i ^ j.toNat := by
  unfold powO at h
  split at h
  · cases h; exact ⟨by assumption, rfl⟩
  · cases h
theorem DivOk.small {j : Int} (h : 0 < j) (h2 : j < 1073741824) : DivOk j := by
  refine ⟨h, ?_⟩
  have h30 : j.natAbs.log2 < 30 := (Nat.log2_lt (by bv_omega)).mpr (by bv_omega)
  bv_omega
theorem MulOk.left {i j : Int} (h : -(2 ^ 64) < i) (h2 : i < 2 ^ 64) : MulOk i j := .inl (.inl ⟨h, h2⟩)
theorem MulOk.right {i j : Int} (h : -(2 ^ 64) < j) (h2 : j < 2 ^ 64) : MulOk i j := .inl (.inr ⟨h, h2⟩)
theorem pr_add : Pr2 (rI0 fun i j => .int (i + j)) .cl addI := pr_I0
theorem pr_sub : Pr2 (rI0 fun i j => .int (i - j)) .cl subI := pr_I0
theorem pr_mul : Pr2 (rI MulOk fun i j => .int (i * j)) .cl mulI := pr_I fun _ _ _ h => mulO_some h
theorem pr_fdiv : Pr2 (rI (fun _ j => DivOk j) fun i j => .int (i / j)) .cl fdivI := pr_I fun _ _ _ h => fdivO_some h
theorem pr_mod : Pr2 (rI (fun _ j => 0 < j) fun i j => .int (i % j)) .cl modI := pr_I fun _ _ _ h => modO_some h
theorem pr_pow : Pr2 (rI CPow fun i j => .int (i ^ j.toNat)) .cl powI := pr_I fun _ _ _ h => powO_some h
def c2 (f : Int → Int → Bool) : D → D → Option Bool
  | .int i, .int j => some (f i j)
  | _, _ => none
theorem pb_I {f : Int → Int → Bool} : PrB (rI0 fun i j => .bl (f i j)) (c2 f) := by
  intro Oc Ob H x y dx dy b Q vx vy e k
  cases dx with
  | int i =>
    cases dy with
    | int j =>
      cases e
      exact ⟨_, _, vx.int, vy.int, k⟩
    | _ => cases e
  | _ => cases e
abbrev ltI : D → D → Option Bool := c2 fun i j => decide (i < j)
abbrev leI : D → D → Option Bool := c2 fun i j => decide (i ≤ j)
abbrev gtI : D → D → Option Bool := c2 fun i j => decide (j < i)
theorem pb_lt : PrB (rI0 fun i j => .bl (decide (i < j))) ltI := pb_I
theorem pb_le : PrB (rI0 fun i j => .bl (decide (i ≤ j))) leI := pb_I
theorem pb_gt : PrB (rI0 fun i j => .bl (decide (j < i))) gtI := pb_I
def eqD (x y : D) : Option Bool := if SeqAt.shaped x = true ∧ SeqAt.shaped y = true then some (PyData.eqv x y) else none
def neD (x y : D) : Option Bool := if SeqAt.shaped x = true ∧ SeqAt.shaped y = true then some (!PyData.eqv x y) else none
theorem pb_eq {K : PySem.W.Frag} : PrB (rEqD K false) eqD := by
  intro Oc Ob H x y dx dy b Q vx vy e k
  unfold eqD at e
  split at e
  · rename_i h
    cases e
    exact ⟨dx, dy, vx.datS h.1, vy.datS h.2, h.1, h.2, k⟩
  · cases e
theorem pb_ne {K : PySem.W.Frag} : PrB (rEqD K true) neD := by
  intro Oc Ob H x y dx dy b Q vx vy e k
  unfold neD at e
  split at e
  · rename_i h
    cases e
    exact ⟨dx, dy, vx.datS h.1, vy.datS h.2, h.1, h.2, k⟩
  · cases e
def isND (neg : Bool) : D → D → Option Bool
  | .none, .none => some (!neg)
  | _, .none => some neg
  | _, _ => none
theorem va_non {Oc : Wd} {Ob : Addr → Prop} {H : Hp} {x : V} {d : D} (h : VA Oc Ob H x d) : decide (x = .non) = (match d with | .none => true | _ => false) := by
  rcases h with h | ⟨a, ys, ds, rfl, rfl, e3, e5⟩
  · cases h <;> rfl
  · rfl
theorem pb_is : PrB (fun x y H Q => y = .non ∧ Q (.bl (decide (x = .non))) H) (isND false) := by
  intro Oc Ob H x y dx dy b Q vx vy e k
  cases dy with
  | none =>
    refine ⟨vy.none, ?_⟩
    rw [va_non vx]
    cases dx <;> (simp only [isND] at e; cases e; exact k)
  | _ => cases dx <;> cases e
theorem pb_isnot : PrB (fun x y H Q => y = .non ∧ Q (.bl (!decide (x = .non))) H) (isND true) := by
  intro Oc Ob H x y dx dy b Q vx vy e k
  cases dy with
  | none =>
    refine ⟨vy.none, ?_⟩
    rw [va_non vx]
    cases dx <;> (simp only [isND] at e; cases e; exact k)
  | _ => cases dx <;> cases e
def flD : D → Bool
  | .none => true
  | .bool _ => true
  | .int _ => true
  | .str _ => true
  | _ => false
def eqF : D → D → Bool
  | .none, .none => true
  | .bool a, .bool b => a == b
  | .bool a, .int b => (if a then 1 else 0) == b
  | .int a, .bool b => a == (if b then 1 else 0)
  | .int a, .int b => a == b
  | .str a, .str b => a == b
  | _, _ => false
theorem rep_flat {H : Hp} {O : Addr → Prop} {v : V} {d : D} (h : Rep H O v d) (f : flD d = true) : flatV v = true := by
  cases h <;> first | rfl | cases f
theorem rep_eqF {H : Hp} {O O' : Addr → Prop} {v v' : V} {d d' : D} (h : Rep H O v d) (h' : Rep H O' v' d') (f : flD d = true) (f' : flD d' = true) : eqV v v' = eqF d d' := by
  cases h <;> cases h' <;> first | rfl | cases f | cases f'
theorem reps_flat {H : Hp} {O : Addr → Prop} : ∀ {vs : List V} {ds : List D}, Reps H O vs ds → ds.all flD = true → vs.all flatV = true
  | _, _, .nil, _ => rfl
  | _, _, .cons h t, f => by
    rw [List.all_cons, Bool.and_eq_true] at f ⊢
    exact ⟨rep_flat h f.1, reps_flat t f.2⟩
theorem reps_any {H : Hp} {O O' : Addr → Prop} {x : V} {dx : D} (hx : Rep H O' x dx) (fx : flD dx = true) : ∀ {vs : List V} {ds : List D}, Reps H O vs ds → ds.all flD = true → inV x vs = ds.any fun y => eqF y dx
  | _, _, .nil, _ => rfl
  | _, _, .cons h t, f => by
    rw [List.all_cons, Bool.and_eq_true] at f
    have ih := reps_any hx fx t f.2
    unfold inV at ih ⊢
    rw [List.any_cons, List.any_cons, ih, rep_eqF h hx f.1 fx]
def inD (neg : Bool) (x y : D) : Option Bool := (seqD y).bind fun ds => if flD x = true ∧ ds.all flD = true then some (if neg then !ds.any (fun z => eqF z x) else ds.any fun z => eqF z x) else none
theorem va_flat {Oc : Wd} {Ob : Addr → Prop} {H : Hp} {x : V} {d : D} (h : VA Oc Ob H x d) (f : flD d = true) : Rep H (Uni Oc Ob) x d := by
  rcases h with h | ⟨a, ys, ds, rfl, rfl, e3, e5⟩
  · exact h
  · cases f
theorem pb_in {K : PySem.W.Frag} {neg : Bool} : PrB (rIn K neg) (inD neg) := by
  intro Oc Ob H x y dx dy b Q vx vy e k
  unfold inD at e
  obtain ⟨ds, e1, e⟩ := Option.bind_eq_some_iff.mp e
  split at e
  · rename_i h
    cases e
    have rx := va_flat vx h.1
    cases dy with
    | list ds' =>
      cases e1
      obtain ⟨a, ys, rfl, rd, rs⟩ := vy.list
      refine ⟨a, ys, rfl, .inl (.inl rd), rep_flat rx h.1, reps_flat rs h.2, ?_⟩
      rw [reps_any rx h.1 rs h.2]
      exact k
    | tuple ds' =>
      cases e1
      obtain ⟨a, ys, rfl, rd, rs⟩ := vy.tuple
      refine ⟨a, ys, rfl, .inr (.inl rd), rep_flat rx h.1, reps_flat rs h.2, ?_⟩
      rw [reps_any rx h.1 rs h.2]
      exact k
    | _ => cases e1
  · cases e
def ixD : D → D → Option D
  | .list ds, .int i => atI ds i
  | .tuple ds, .int i => atI ds i
  | _, _ => none
theorem atI_reps {H : Hp} {O : Addr → Prop} {vs : List V} {ds : List D} {i : Int} {d : D} (r : Reps H O vs ds) (h : atI ds i = some d) : ∃ v, atI vs i = some v ∧ Rep H O v d := by
  unfold atI at h ⊢
  obtain ⟨j, e1, e2⟩ := Option.bind_eq_some_iff.mp h
  obtain ⟨v, ev, rv⟩ := r.get e2
  refine ⟨v, ?_, rv⟩
  rw [r.length, e1]
  exact ev
theorem vJ {K : PySem.W.Frag} : Pr2 (rIx K) .cl ixD := by
  intro Oc Ob H x y dx dy d Q oh vx vy e k
  cases dx with
  | list ds =>
    cases dy with
    | int i =>
      obtain ⟨a, ys, rfl, rd, rs⟩ := vx.list
      obtain ⟨v, ev, rv⟩ := atI_reps rs e
      exact .inl ⟨a, ys, i, v, rfl, vy.int, .inl rd, ev, k v H (Same.refl H) rv⟩
    | _ => cases e
  | tuple ds =>
    cases dy with
    | int i =>
      obtain ⟨a, ys, rfl, rd, rs⟩ := vx.tuple
      obtain ⟨v, ev, rv⟩ := atI_reps rs e
      exact .inr (.inl ⟨a, ys, i, v, rfl, vy.int, .inl rd, ev, k v H (Same.refl H) rv⟩)
    | _ => cases e
  | _ => cases e
def rCatR : R2 := fun x y H Q => ∃ l b xs zs, x = .ref l ∧ y = .ref b ∧ Rd H l (.lst xs) ∧ Rd H b (.lst zs) ∧ xs.length + zs.length ≤ sizeLine ∧ ∀ p, H p = none → Q (.ref p) (upd H p (.lst (xs ++ zs)))
theorem Rd.lstM {X : Cx} {pins : List (Addr × Obj)} {σ : St} {H : Hp} {s : Shared} {l : Addr} {xs : List V} (I : Inv X pins σ H s) (hH : Rd H l (.lst xs)) : xs.length ≤ sizeLine ∧ ∃ (its : List Value) (n : Nat), Vals xs its ∧ xs.length = its.length ∧ s.heap.get? l = some { cls := .type "list", data := .seq its.toArray n } := by
  obtain ⟨z, its, n, r, e⟩ := hH.ok I.hok
  exact ⟨z, its, n, r, r.length, e⟩
section
variable {X : Cx}
theorem op_catR : OpR X (binaryOp .Add) rCatR := by
  intro pins s σ H x y v u Q I rx ry h
  obtain ⟨l, b, xs, zs, rfl, rfl, hH, hB, hz, q⟩ := h
  cases rx
  cases ry
  obtain ⟨z, its, n, r, hl, e⟩ := Rd.lstM I hH
  obtain ⟨z2, its2, n2, r2, hl2, e2⟩ := Rd.lstM I hB
  refine PySem.P.add_list e e2 ?_ (by rw [List.size_toArray, List.size_toArray]; bv_omega)
  have ea : its.toArray ++ its2.toArray = (its ++ its2).toArray := by simp
  rw [ea]
  exact ⟨.ref _, _, I.lnew (t' := s.toks) (r.append r2) (by rw [List.length_append]; bv_omega), rfl, q _ I.fresh⟩
def rRepR : R2 := fun x y H Q => ∃ l k xs, x = .ref l ∧ y = .int k ∧ Rd H l (.lst xs) ∧ -(2 ^ 63) ≤ k ∧ k < 2 ^ 63 ∧ xs.length * k.toNat ≤ sizeLine ∧
  ∀ p, H p = none → Q (.ref p) (upd H p (.lst (List.replicate k.toNat xs).flatten))
theorem op_repR : OpR X (binaryOp .Mult) rRepR := by
  intro pins s σ H x y v u Q I rx ry h
  obtain ⟨l, k, xs, rfl, rfl, hH, h1, h2, hz, q⟩ := h
  cases rx
  obtain ⟨t, rfl⟩ := ry
  obtain ⟨z, its, n, r, hl, e⟩ := Rd.lstM I hH
  have hlen : its.toArray.size * k.toNat ≤ sizeLine := by rw [List.size_toArray, ← hl]; exact hz
  have hcap : ¬ its.toArray.size * k.toNat > (2 ^ 63 - 1) / 8 := by
    have : (sizeLine : Nat) ≤ (2 ^ 63 - 1) / 8 := by decide
    bv_omega
  have hfit : ¬ (!Builtin.List.listFitsIndex k) = true := by
    rw [fitsIndex_both h1 h2]
    exact Bool.false_ne_true
  have hlong : ¬ Builtin.List.listTooLong (its.toArray.size * k.toNat) = true := by
    rw [notLongL hlen]
    exact Bool.false_ne_true
  have hnew : List.foldl (fun x1 x2 => x1 ++ x2) #[] (List.replicate (if its.toArray.isEmpty = true then 0 else k.toNat) its.toArray) = (List.replicate k.toNat its).flatten.toArray := by
    have f0 : ∀ m : Nat, List.foldl (fun x1 x2 => x1 ++ x2) #[] (List.replicate m its.toArray) = (List.replicate m its).flatten.toArray := fun m => by
      have := foldl_rep its m []
      rw [List.nil_append] at this
      exact this
    rw [f0]
    cases its with
    | nil => simp
    | cons a r' => rw [if_neg (by simp)]
  refine wpAny_binaryOp_repeat_ref (T := "list") (U := "int") (by decide) ⟨_, e, rfl⟩ (fun s' => typeIs_int s' k t) noFill_list_mul F.fills_int_mul F.slot_int_rmul repeat_list F.slot_int_index.lookup
    (call_meets F.slot_int_rmul (typeIs_int s k t) F.entry_int_rmul (F.args_int_rmul_2 _ _) (int___rmul___int_list k t l its.toArray n)
      ⟨e, rfl, ⟨_, e, rfl⟩, call_meets F.slot_list_mul ⟨_, e, rfl⟩ F.entry_list_mul (F.args_list_mul_2 _ _) (AutoListH.list___mul___list_int_3 l its.toArray n k t hfit hcap hlong) ⟨e, ?_⟩⟩)
  rw [hnew]
  exact ⟨.ref _, _, I.lnew (t' := s.toks) (r.rep k.toNat) (by rw [len_rep, Nat.mul_comm]; exact hz), rfl, q _ I.fresh⟩
end
def catL : D → D → Option D
  | .list xs, .list ys => if xs.length + ys.length ≤ sizeLine then some (.list (xs ++ ys)) else none
  | _, _ => none
theorem pr_cat : Pr2 rCatR .new catL := by
  intro Oc Ob H x y dx dy d Q oh vx vy e k
  cases dx with
  | list xs =>
    cases dy with
    | list ys =>
      obtain ⟨a, vs, rfl, rd, rs⟩ := vx.list
      obtain ⟨b, ws, rfl, rd', rs'⟩ := vy.list
      unfold catL at e
      simp only at e
      split at e
      · rename_i hl
        cases e
        refine ⟨a, b, vs, ws, rfl, rfl, rd, rd', by rw [rs.length, rs'.length]; exact hl, fun p hp => k _ _ (Same.new hp) (new_list (Same.refl H) hp (rs.append rs'))⟩
      · cases e
    | _ => cases e
  | _ => cases e
def repL : D → D → Option D
  | .list xs, .int k => if -(2 ^ 63) ≤ k ∧ k < 2 ^ 63 ∧ xs.length * k.toNat ≤ sizeLine then some (.list (List.replicate k.toNat xs).flatten) else none
  | _, _ => none
theorem pr_rep : Pr2 rRepR .new repL := by
  intro Oc Ob H x y dx dy d Q oh vx vy e k
  cases dx with
  | list xs =>
    cases dy with
    | int j =>
      obtain ⟨a, vs, rfl, rd, rs⟩ := vx.list
      unfold repL at e
      simp only at e
      split at e
      · rename_i hl
        cases e
        refine ⟨a, j, vs, rfl, vy.int, rd, hl.1, hl.2.1, by rw [rs.length]; exact hl.2.2, fun p hp => k _ _ (Same.new hp) (new_list (Same.refl H) hp (rs.rep _))⟩
      · cases e
    | _ => cases e
  | _ => cases e
def lenD : List D → Option D
  | [d] => (seqD d).map fun ds => .int ds.length
  | _ => none
theorem pc_len {K : PySem.W.Frag} : PrC (fun xs H Q => ∃ p ys, xs = [.ref p] ∧ (SqL K H p ys ∨ SqT K H p ys) ∧ Q (.int ys.length) H) .cl lenD := by
  intro Oc Ob H vs ds d Q oh va e k
  cases ds with
  | nil => cases e
  | cons x xs =>
    cases xs with
    | cons => cases e
    | nil =>
      obtain ⟨v, rfl, vx⟩ := va.one
      obtain ⟨es, e1, rfl⟩ := Option.map_eq_some_iff.mp e
      cases x with
      | list ds' =>
        cases e1
        obtain ⟨a, ys, rfl, rd, rs⟩ := vx.list
        exact ⟨a, ys, rfl, .inl (.inl rd), k _ H (Same.refl H) (by rw [rs.length]; exact Rep.int _)⟩
      | tuple ds' =>
        cases e1
        obtain ⟨a, ys, rfl, rd, rs⟩ := vx.tuple
        exact ⟨a, ys, rfl, .inr (.inl rd), k _ H (Same.refl H) (by rw [rs.length]; exact Rep.int _)⟩
      | _ => cases e1
def listD : List D → Option D
  | [d] => (seqD d).map fun ds => .list ds
  | _ => none
def tupD : List D → Option D
  | [d] => (seqD d).map fun ds => .tuple ds
  | _ => none
theorem pc_tup {K : PySem.W.Frag} : PrC (fun xs H Q => ∃ p ys, xs = [.ref p] ∧ ((SqL K H p ys ∧ ∀ l, H l = none → Q (.ref l) (upd H l (.tup ys))) ∨ (SqT K H p ys ∧ Q (.ref p) H))) .cl tupD := by
  intro Oc Ob H vs ds d Q oh va e k
  cases ds with
  | nil => cases e
  | cons x xs =>
    cases xs with
    | cons => cases e
    | nil =>
      obtain ⟨v, rfl, vx⟩ := va.one
      obtain ⟨es, e1, rfl⟩ := Option.map_eq_some_iff.mp e
      cases x with
      | list ds' =>
        cases e1
        obtain ⟨a, ys, rfl, rd, rs⟩ := vx.list
        exact ⟨a, ys, rfl, .inl ⟨.inl rd, fun l hl => k _ _ (Same.new hl) (new_tup oh hl rs)⟩⟩
      | tuple ds' =>
        cases e1
        rcases vx with vx | ⟨a, ys, ds, rfl, ez, _⟩
        · cases vx with
          | tup rd n rs => exact ⟨_, _, rfl, .inr ⟨.inl rd, k _ H (Same.refl H) (.tup rd n rs)⟩⟩
        · cases ez
      | _ => cases e1
def intsOf : List D → Option (List Int)
  | [] => some []
  | .int i :: ds => (intsOf ds).map (i :: ·)
  | _ :: _ => none
@[simp] theorem intsOf_map : ∀ ns : List Int, intsOf (ns.map PyData.int) = some ns
  | [] => rfl
  | n :: ns => by rw [List.map_cons, intsOf, intsOf_map ns]; rfl
theorem intsOf_some : ∀ {ds : List D} {ns : List Int}, intsOf ds = some ns → ds = ns.map PyData.int
  | [], ns, h => by cases h; rfl
  | d :: ds, ns, h => by
    cases d with
    | int i =>
      obtain ⟨ms, e, rfl⟩ := Option.map_eq_some_iff.mp (show (intsOf ds).map (i :: ·) = some ns from h)
      rw [intsOf_some e]; rfl
    | _ => cases h
def boolsOf : List D → Option (List Bool)
  | [] => some []
  | .bool i :: ds => (boolsOf ds).map (i :: ·)
  | _ :: _ => none
@[simp] theorem boolsOf_map : ∀ ns : List Bool, boolsOf (ns.map PyData.bool) = some ns
  | [] => rfl
  | n :: ns => by rw [List.map_cons, boolsOf, boolsOf_map ns]; rfl
theorem boolsOf_some : ∀ {ds : List D} {ns : List Bool}, boolsOf ds = some ns → ds = ns.map PyData.bool
  | [], ns, h => by cases h; rfl
  | d :: ds, ns, h => by
    cases d with
    | bool i =>
      obtain ⟨ms, e, rfl⟩ := Option.map_eq_some_iff.mp (show (boolsOf ds).map (i :: ·) = some ns from h)
      rw [boolsOf_some e]; rfl
    | _ => cases h
def nsD (d : D) : Option (List Int) := (seqD d).bind intsOf
theorem nsD_va {K : PySem.W.Frag} {Oc : Wd} {Ob : Addr → Prop} {H : Hp} {x : V} {d : D} {ns : List Int} (h : VA Oc Ob H x d) (e : nsD d = some ns) : ∃ p, x = .ref p ∧ (SqL K H p (ns.map V.int) ∨ SqT K H p (ns.map V.int)) := by
  obtain ⟨ds, e1, e2⟩ := Option.bind_eq_some_iff.mp e
  obtain rfl := intsOf_some e2
  cases d with
  | list ds' =>
    cases e1
    obtain ⟨a, ys, rfl, rd, rs⟩ := h.list
    rw [rs.ints] at rd
    exact ⟨a, rfl, .inl (.inl rd)⟩
  | tuple ds' =>
    cases e1
    obtain ⟨a, ys, rfl, rd, rs⟩ := h.tuple
    rw [rs.ints] at rd
    exact ⟨a, rfl, .inr (.inl rd)⟩
  | _ => cases e1
def sumD : List D → Option D
  | [.list ds] => (intsOf ds).map fun ns => .int ns.sum
  | _ => none
theorem pc_sum {K : PySem.W.Frag} : PrC (fun xs H Q => ∃ (p : Addr) (ns : List Int), xs = [.ref p] ∧ SqL K H p (ns.map V.int) ∧ Q (.int ns.sum) H) .cl sumD := by
  intro Oc Ob H vs ds d Q oh va e k
  unfold sumD at e
  split at e
  · obtain ⟨ns, e1, rfl⟩ := Option.map_eq_some_iff.mp e
    obtain ⟨v, rfl, vx⟩ := va.one
    obtain ⟨a, ys, rfl, rd, rs⟩ := vx.list
    rw [intsOf_some e1] at rs
    rw [rs.ints] at rd
    exact ⟨a, ns, rfl, .inl rd, k _ H (Same.refl H) (Rep.int _)⟩
  · cases e
def allD : List D → Option D
  | [.list ds] => (boolsOf ds).map fun bs => .bool (bs.all id)
  | _ => none
theorem pc_all {K : PySem.W.Frag} : PrC (fun xs H Q => ∃ (p : Addr) (bs : List Bool), xs = [.ref p] ∧ SqL K H p (bs.map V.bl) ∧ Q (.bl (bs.all id)) H) .cl allD := by
  intro Oc Ob H vs ds d Q oh va e k
  unfold allD at e
  split at e
  · obtain ⟨ns, e1, rfl⟩ := Option.map_eq_some_iff.mp e
    obtain ⟨v, rfl, vx⟩ := va.one
    obtain ⟨a, ys, rfl, rd, rs⟩ := vx.list
    rw [boolsOf_some e1] at rs
    rw [rs.bools] at rd
    exact ⟨a, ns, rfl, .inl rd, k _ H (Same.refl H) (Rep.bl _)⟩
  · cases e
end L2.L3
set_option maxHeartbeats 4000000
namespace L2.L3
open PySem PySem.Spec PyProof.Rows
variable [CN]
def tyD : D → String
  | .none => "NoneType"
  | .bool _ => "bool"
  | .int _ => "int"
  | .str _ => "str"
  | .list _ => "list"
  | .tuple _ => "tuple"
  | .dict _ => "dict"
def subTy (t T : String) : Bool := t == T || (t == "bool" && T == "int")
structure Kit (K : PySem.W.Frag) (T : String) : Prop where
  non : PySem.W.kitOne K (.type "NoneType") (.type T) = some (subTy "NoneType" T)
  bl : PySem.W.kitOne K (.type "bool") (.type T) = some (subTy "bool" T)
  int : PySem.W.kitOne K (.type "int") (.type T) = some (subTy "int" T)
  str : PySem.W.kitOne K (.type "str") (.type T) = some (subTy "str" T)
  lst : PySem.W.kitOne K (.type "list") (.type T) = some (subTy "list" T)
  tup : PySem.W.kitOne K (.type "tuple") (.type T) = some (subTy "tuple" T)
def TyR (K : PySem.W.Frag) (H : Hp) (x : V) (t : Value) : Prop := TyOf K H x t ∨ ∃ a xs, x = .ref a ∧ Rd H a (.tup xs) ∧ t = .type "tuple"
section
variable {X : Cx}
theorem call_isiR : CallR X (.builtin "isinstance") (fun vs H Q => ∃ x c cv t b, vs = [x, c] ∧ clsV c = some cv ∧ TyR X.K H x t ∧ PySem.W.kitOne X.K t cv = some b ∧ Q (.bl b) H) := by
  intro pins s σ H xs us Q I r h
  obtain ⟨x, c, cv, t, b, rfl, ec, ty, k, q⟩ := h
  obtain ⟨u, w', rfl, ru, rw'⟩ := vals2 r
  obtain rfl := clsV_rel rw' ec
  rcases ty with ty | ⟨a, xs, rfl, rd, rfl⟩
  · exact isinst_ok I ru ty k fun tk => ⟨.bl b, H, I.tok tk, rfl, q⟩
  · cases ru
    obtain ⟨_, _, _, p⟩ := rd.ok I.hok
    obtain ⟨o, h1, h2, _⟩ := p
    exact PySem.W.kia_one PySem.W.kitx_tuple I.kIn ⟨o, h1, h2⟩ k (fun z => nomatch z) fun tk => ⟨.bl b, H, I.tok tk, rfl, q⟩
end
def isiD (T : String) : D → Option D
  | .dict _ => none
  | d => some (.bool (subTy (tyD d) T))
theorem isiD_some {T : String} {d r : D} (h : isiD T d = some r) : (∀ k, d ≠ .dict k) ∧ r = .bool (subTy (tyD d) T) := by
  cases d <;> first | (cases h; done) | (cases h; exact ⟨(fun k z => nomatch z), rfl⟩)
theorem va_ty {K : PySem.W.Frag} {Oc : Wd} {Ob : Addr → Prop} {H : Hp} {x : V} {d : D} {T : String} (h : VA Oc Ob H x d) (k : Kit K T) (nd : ∀ k, d ≠ .dict k) : ∃ t, TyR K H x t ∧ PySem.W.kitOne K t (.type T) = some (subTy (tyD d) T) := by
  rcases h with h | ⟨a, ys, ds, rfl, rfl, e3, e5⟩
  · cases h with
    | non => exact ⟨_, .inl .non, k.non⟩
    | bl b => exact ⟨_, .inl (.bl b), k.bl⟩
    | int i => exact ⟨_, .inl (.int i), k.int⟩
    | str x => exact ⟨_, .inl (.str x), k.str⟩
    | lst r n t =>
      rcases r with r | ⟨o, r⟩
      · exact ⟨_, .inl (.lst r), k.lst⟩
      · exact ⟨_, .inl (.frz r), k.lst⟩
    | tup r n t => exact ⟨_, .inr ⟨_, _, rfl, r, rfl⟩, k.tup⟩
    | exc r n => exact absurd rfl (nd _)
  · exact ⟨_, .inl (.lst e3), k.lst⟩
theorem re_isi {C : Ct} {e : Expr} {T : String} {x : Str} {p p2 pos : Pos} {md : Md} {me : Ev → Res D} (k : Kit C.X.K T) (hm : C.X.mg "isinstance" = none) (hx : C.X.mg x = none) (hv : bootBuiltins x = some (.type T)) (he : RE C md e me) (hg : autoParam (Gl C.X "isinstance") zX._auto_1) (hgx : autoParam (Gl C.X x) zX._auto_1) (hn : autoParam (x ≠ "__name__") vY._auto_1) (hdb : autoParam ((x == ("__debug__" : Str)) = false) vY._auto_1)
    (hs1 : autoParam (starEach [e, .Name x p2] C.X.env = (false, eval e C.X.env) :: starEach [.Name x p2] C.X.env) zX._auto_1) (hs2 : autoParam (starEach [.Name x p2] C.X.env = (false, eval (.Name x p2) C.X.env) :: starEach [] C.X.env) zX._auto_1) (hpl : autoParam ((backTo pos (starEach [.Name x p2] C.X.env)).any (·.1) = false) zX._auto_1) :
    RE C .cl (.Call (.Name "isinstance" p) [e, .Name x p2] [] pos) (e1 (isiD T) me) := by
  obtain ⟨t, pe, q⟩ := he
  refine ⟨_, pe_callB call_isiR hg hm PyProof.Rows.boot_isinstance (yB pe (yB (pe_bltn (v := .ty T) hgx hx hv rfl hn hdb) pa_nil hs2) hs1) (by decide) (by decide) hs1 hpl, fun Oc Ob σ H ρ Q R h => q Oc Ob σ H ρ _ R (Res.zR (Res.zV h) (fun d _ kk v H' s r => ?_) fun _ z => z)⟩
  obtain ⟨dd, ed, kk⟩ := Res.vX kk
  obtain ⟨nd, rfl⟩ := isiD_some ed
  obtain ⟨tt, ty, kt⟩ := va_ty (r.va R.oh) k nd
  exact ⟨v, .ty T, .type T, tt, _, rfl, rfl, ty, kt, kk _ H' s (Rep.bl _)⟩
theorem best_keep {s : Shared} {J : Addr} {hp h' : Heap} (keep : ∀ b o, s.heap.get? b = some o → b ≠ J ∧ hp.get? b = some o) (hk : ∀ b o, b ∉ [J] → hp.get? b = some o → h'.get? b = some o) : ∀ b o, s.heap.get? b = some o → h'.get? b = some o :=
  fun b o e => hk b o (by simpa using (keep b o e).1) (keep b o e).2
theorem size_ints (xs : Array (Int × Tok)) : (intItems xs).size = xs.size := by simp [intItems]
section
variable {prog : Program} {w : World} {A : Around} {E : Value → Shared → Prop} {s : Shared} {l : Addr} {xs : Array (Int × Tok)} {Q : Value → Shared → Prop}
theorem min_tup (hh : A.handled = none) (hl : s.heap.IsTuple l (intItems xs)) (ne : 0 < xs.size)
    (k : ∀ v h' tk, (intItems xs)[argBest (fun i j => decide (numAt xs i < numAt xs j)) (xs.size - 1)]? = some v → (∀ b o, s.heap.get? b = some o → h'.get? b = some o) → Q v { s with heap := h', toks := tk }) : wpAny (model prog w) A (call (.builtin "min") [.ref l]) Q E s :=
  call_min_walk (walk_tup (A := A.in1) hh hl fun J hp St W st a b keep => ⟨_, _, _, _, _, _, _, rfl, W, st, by simp [a, b], by rw [size_ints]; exact ne, .ints_lt (numAt xs) (fun _ _ => intItems_at), fun v h' tk at_ hk => k v h' tk (by rw [size_ints] at at_; exact at_) (best_keep keep hk)⟩)
theorem max_tup (hh : A.handled = none) (hl : s.heap.IsTuple l (intItems xs)) (ne : 0 < xs.size)
    (k : ∀ v h' tk, (intItems xs)[argBest (fun i j => decide (numAt xs i > numAt xs j)) (xs.size - 1)]? = some v → (∀ b o, s.heap.get? b = some o → h'.get? b = some o) → Q v { s with heap := h', toks := tk }) : wpAny (model prog w) A (call (.builtin "max") [.ref l]) Q E s :=
  call_max_walk (walk_tup (A := A.in1) hh hl fun J hp St W st a b keep => ⟨_, _, _, _, _, _, _, rfl, W, st, by simp [a, b], by rw [size_ints]; exact ne, .ints_gt (numAt xs) (fun _ _ => intItems_at), fun v h' tk at_ hk => k v h' tk (by rw [size_ints] at at_; exact at_) (best_keep keep hk)⟩)
end
def minL : List Int → Int
  | [] => 0
  | n :: ns => ns.foldl (fun a b => if b < a then b else a) n
def maxL : List Int → Int
  | [] => 0
  | n :: ns => ns.foldl (fun a b => if b > a then b else a) n
theorem minf_spec : ∀ (ns : List Int) (n : Int), (ns.foldl (fun a b => if b < a then b else a) n = n ∨ ns.foldl (fun a b => if b < a then b else a) n ∈ ns) ∧ ns.foldl (fun a b => if b < a then b else a) n ≤ n ∧ ∀ m ∈ ns, ns.foldl (fun a b => if b < a then b else a) n ≤ m
  | [], n => ⟨.inl rfl, Int.le_refl _, fun m h => nomatch h⟩
  | b :: ns, n => by
    obtain ⟨h1, h2, h3⟩ := minf_spec ns (if b < n then b else n)
    rw [List.foldl_cons]
    refine ⟨?_, ?_, fun m hm => ?_⟩
    · rcases h1 with h1 | h1
      · rw [h1]
        split
        · exact .inr List.mem_cons_self
        · exact .inl rfl
      · exact .inr (List.mem_cons_of_mem _ h1)
    · refine Int.le_trans h2 ?_
      split <;> bv_omega
    · rcases List.mem_cons.mp hm with rfl | hm
      · refine Int.le_trans h2 ?_
        split <;> bv_omega
      · exact h3 m hm
theorem maxf_spec : ∀ (ns : List Int) (n : Int), (ns.foldl (fun a b => if b > a then b else a) n = n ∨ ns.foldl (fun a b => if b > a then b else a) n ∈ ns) ∧ n ≤ ns.foldl (fun a b => if b > a then b else a) n ∧ ∀ m ∈ ns, m ≤ ns.foldl (fun a b => if b > a then b else a) n
  | [], n => ⟨.inl rfl, Int.le_refl _, fun m h => nomatch h⟩
  | b :: ns, n => by
    obtain ⟨h1, h2, h3⟩ := maxf_spec ns (if b > n then b else n)
    rw [List.foldl_cons]
    refine ⟨?_, ?_, fun m hm => ?_⟩
    · rcases h1 with h1 | h1
      · rw [h1]
        split
        · exact .inr List.mem_cons_self
        · exact .inl rfl
      · exact .inr (List.mem_cons_of_mem _ h1)
    · refine Int.le_trans ?_ h2
      split <;> bv_omega
    · rcases List.mem_cons.mp hm with rfl | hm
      · refine Int.le_trans ?_ h2
        split <;> bv_omega
      · exact h3 m hm
theorem minL_mem {ns : List Int} (h : ns ≠ []) : minL ns ∈ ns := by
  cases ns with
  | nil => exact absurd rfl h
  | cons n ns =>
    rcases (minf_spec ns n).1 with e | e
    · show List.foldl _ n ns ∈ _
      rw [e]; exact List.mem_cons_self
    · exact List.mem_cons_of_mem _ e
theorem minL_le {ns : List Int} {m : Int} (h : m ∈ ns) : minL ns ≤ m := by
  cases ns with
  | nil => cases h
  | cons n ns =>
    rcases List.mem_cons.mp h with rfl | h
    · exact (minf_spec ns m).2.1
    · exact (minf_spec ns n).2.2 m h
theorem maxL_mem {ns : List Int} (h : ns ≠ []) : maxL ns ∈ ns := by
  cases ns with
  | nil => exact absurd rfl h
  | cons n ns =>
    rcases (maxf_spec ns n).1 with e | e
    · show List.foldl _ n ns ∈ _
      rw [e]; exact List.mem_cons_self
    · exact List.mem_cons_of_mem _ e
theorem le_maxL {ns : List Int} {m : Int} (h : m ∈ ns) : m ≤ maxL ns := by
  cases ns with
  | nil => cases h
  | cons n ns =>
    rcases List.mem_cons.mp h with rfl | h
    · exact (maxf_spec ns m).2.1
    · exact (maxf_spec ns n).2.2 m h
theorem num_mem {xs : Array (Int × Tok)} {i : Nat} (h : i < xs.size) : numAt xs i ∈ xs.toList.map (·.1) := by
  rw [numAt_eq]
  exact getD_mem (by simpa using h)
theorem mem_num {xs : Array (Int × Tok)} {a : Int} (h : a ∈ xs.toList.map (·.1)) : ∃ i, i < xs.size ∧ a = numAt xs i := by
  obtain ⟨i, hi, e⟩ := mem_getD h
  exact ⟨i, by simpa using hi, by rw [numAt_eq, e]⟩
theorem best_min {xs : Array (Int × Tok)} (h : 0 < xs.size) : numAt xs (argBest (fun i j => decide (numAt xs i < numAt xs j)) (xs.size - 1)) = minL (xs.toList.map (·.1)) := by
  have z := argBest_lt (numAt xs) (xs.size - 1)
  have m := num_mem (xs := xs) (i := argBest (fun i j => decide (numAt xs i < numAt xs j)) (xs.size - 1)) (by bv_omega)
  obtain ⟨i, hi, e⟩ := mem_num (minL_mem (List.ne_nil_of_mem m))
  have := minL_le m
  have := z.2 i (by bv_omega)
  bv_omega
theorem best_max {xs : Array (Int × Tok)} (h : 0 < xs.size) : numAt xs (argBest (fun i j => decide (numAt xs i > numAt xs j)) (xs.size - 1)) = maxL (xs.toList.map (·.1)) := by
  have z := argBest_gt (numAt xs) (xs.size - 1)
  have m := num_mem (xs := xs) (i := argBest (fun i j => decide (numAt xs i > numAt xs j)) (xs.size - 1)) (by bv_omega)
  obtain ⟨i, hi, e⟩ := mem_num (maxL_mem (List.ne_nil_of_mem m))
  have := le_maxL m
  have := z.2 i (by bv_omega)
  bv_omega
section
variable {X : Cx}
theorem call_min1 (hc : X.calm = true) : CallR X (.builtin "min") (fun xs H Q => ∃ (p : Addr) (ns : List Int), xs = [.ref p] ∧ (SqL X.K H p (ns.map V.int) ∨ SqT X.K H p (ns.map V.int)) ∧ ns ≠ [] ∧ Q (.int (minL ns)) H) := by
  intro pins s σ H xs us Q I r h
  obtain ⟨p, ns, rfl, hq, hne, q⟩ := h
  obtain ⟨u, rfl, ru⟩ := vals1 r
  cases ru
  have core : ∀ (its : List Value), Vals (ns.map V.int) its → ∃ xs : Array (Int × Tok), its.toArray = intItems xs ∧ ns = xs.toList.map (·.1) := fun its rv => by
    have hi : IntsAre its ns := intsAre_of rv
    obtain ⟨xs, e⟩ := hi.allInts.items
    exact ⟨xs, e, by rw [← hi.numsOf, ← nums_intItems, ← e]⟩
  have fin : ∀ (xs : Array (Int × Tok)), ns = xs.toList.map (·.1) → 0 < xs.size → ∀ (v : Value) (h' : Heap) (tk : Nat), (intItems xs)[argBest (fun i j => decide (numAt xs i < numAt xs j)) (xs.size - 1)]? = some v → (∀ b o, s.heap.get? b = some o → h'.get? b = some o) → EP X pins σ Q v { s with heap := h', toks := tk } := fun xs hns hsz v h' tk hv hk => by
    obtain ⟨t, rfl⟩ := intItems_at hv
    have e := best_min hsz
    rw [← hns] at e
    exact ⟨.int _, H, I.kept hk, ⟨t, by rw [e]⟩, q⟩
  have sz : ∀ xs : Array (Int × Tok), ns = xs.toList.map (·.1) → 0 < xs.size := fun xs hns => by
    rcases Nat.eq_zero_or_pos xs.size with z | z
    · exact absurd (by rw [hns, Array.size_eq_zero_iff.mp z]; rfl) hne
    · exact z
  rcases hq with hq | hq
  · obtain ⟨its, rv, pl, hz⟩ := I.list hq
    obtain ⟨xs, e, hns⟩ := core its rv
    exact min_intList (I.ok.hd hc) (by rw [← e]; exact pl.isList) (sz xs hns) (fin xs hns (sz xs hns))
  · obtain ⟨its, rv, pl, hz⟩ := I.tuple hq
    obtain ⟨xs, e, hns⟩ := core its rv
    exact min_tup (I.ok.hd hc) (by rw [← e]; exact pl) (sz xs hns) (fin xs hns (sz xs hns))
theorem call_max1 (hc : X.calm = true) : CallR X (.builtin "max") (fun xs H Q => ∃ (p : Addr) (ns : List Int), xs = [.ref p] ∧ (SqL X.K H p (ns.map V.int) ∨ SqT X.K H p (ns.map V.int)) ∧ ns ≠ [] ∧ Q (.int (maxL ns)) H) := by
  intro pins s σ H xs us Q I r h
  obtain ⟨p, ns, rfl, hq, hne, q⟩ := h
  obtain ⟨u, rfl, ru⟩ := vals1 r
  cases ru
  have core : ∀ (its : List Value), Vals (ns.map V.int) its → ∃ xs : Array (Int × Tok), its.toArray = intItems xs ∧ ns = xs.toList.map (·.1) := fun its rv => by
    have hi : IntsAre its ns := intsAre_of rv
    obtain ⟨xs, e⟩ := hi.allInts.items
    exact ⟨xs, e, by rw [← hi.numsOf, ← nums_intItems, ← e]⟩
  have fin : ∀ (xs : Array (Int × Tok)), ns = xs.toList.map (·.1) → 0 < xs.size → ∀ (v : Value) (h' : Heap) (tk : Nat), (intItems xs)[argBest (fun i j => decide (numAt xs i > numAt xs j)) (xs.size - 1)]? = some v → (∀ b o, s.heap.get? b = some o → h'.get? b = some o) → EP X pins σ Q v { s with heap := h', toks := tk } := fun xs hns hsz v h' tk hv hk => by
    obtain ⟨t, rfl⟩ := intItems_at hv
    have e := best_max hsz
    rw [← hns] at e
    exact ⟨.int _, H, I.kept hk, ⟨t, by rw [e]⟩, q⟩
  have sz : ∀ xs : Array (Int × Tok), ns = xs.toList.map (·.1) → 0 < xs.size := fun xs hns => by
    rcases Nat.eq_zero_or_pos xs.size with z | z
    · exact absurd (by rw [hns, Array.size_eq_zero_iff.mp z]; rfl) hne
    · exact z
  rcases hq with hq | hq
  · obtain ⟨its, rv, pl, hz⟩ := I.list hq
    obtain ⟨xs, e, hns⟩ := core its rv
    exact max_intList (I.ok.hd hc) (by rw [← e]; exact pl.isList) (sz xs hns) (fin xs hns (sz xs hns))
  · obtain ⟨its, rv, pl, hz⟩ := I.tuple hq
    obtain ⟨xs, e, hns⟩ := core its rv
    exact max_tup (I.ok.hd hc) (by rw [← e]; exact pl) (sz xs hns) (fin xs hns (sz xs hns))
end
def min1D : List D → Option D
  | [d] => (nsD d).bind fun ns => if ns = [] then none else some (.int (minL ns))
  | _ => none
def max1D : List D → Option D
  | [d] => (nsD d).bind fun ns => if ns = [] then none else some (.int (maxL ns))
  | _ => none
theorem pc_min1 {K : PySem.W.Frag} : PrC (fun xs H Q => ∃ (p : Addr) (ns : List Int), xs = [.ref p] ∧ (SqL K H p (ns.map V.int) ∨ SqT K H p (ns.map V.int)) ∧ ns ≠ [] ∧ Q (.int (minL ns)) H) .cl min1D := by
  intro Oc Ob H vs ds d Q oh va e k
  unfold min1D at e
  split at e
  · obtain ⟨ns, e1, e⟩ := Option.bind_eq_some_iff.mp e
    split at e
    · cases e
    · rename_i hl
      cases e
      obtain ⟨v, rfl, vx⟩ := va.one
      obtain ⟨p, rfl, hq⟩ := nsD_va vx e1
      exact ⟨p, ns, rfl, hq, hl, k _ H (Same.refl H) (Rep.int _)⟩
  · cases e
theorem pc_max1 {K : PySem.W.Frag} : PrC (fun xs H Q => ∃ (p : Addr) (ns : List Int), xs = [.ref p] ∧ (SqL K H p (ns.map V.int) ∨ SqT K H p (ns.map V.int)) ∧ ns ≠ [] ∧ Q (.int (maxL ns)) H) .cl max1D := by
  intro Oc Ob H vs ds d Q oh va e k
  unfold max1D at e
  split at e
  · obtain ⟨ns, e1, e⟩ := Option.bind_eq_some_iff.mp e
    split at e
    · cases e
    · rename_i hl
      cases e
      obtain ⟨v, rfl, vx⟩ := va.one
      obtain ⟨p, rfl, hq⟩ := nsD_va vx e1
      exact ⟨p, ns, rfl, hq, hl, k _ H (Same.refl H) (Rep.int _)⟩
  · cases e
section
variable {X : Cx}
end
section
variable {X : Cx}
def rExtR : V → List V → Hp → VK → Prop := fun x vs H Q => ∃ l b xs zs, x = .ref l ∧ vs = [.ref b] ∧ H l = some (.lst xs) ∧ (Rd H b (.lst zs) ∨ Rd H b (.tup zs)) ∧ xs.length + zs.length ≤ sizeLine ∧ Q .non (upd H l (.lst (xs ++ zs)))
theorem mt_extR : MtM X "list.extend" rExtR := by
  intro pins s σ H x vs v us Q I rx rv h
  obtain ⟨l, b, xs, zs, rfl, rfl, hH, hB, hz, q⟩ := h
  cases rx
  obtain ⟨u, rfl, ru⟩ := rv.one
  cases ru
  obtain ⟨z, its, n, r, hl, e⟩ := I.lstM hH
  have len : (xs ++ zs).length ≤ sizeLine := by rw [List.length_append]; exact hz
  rcases hB with hB | hB
  · obtain ⟨z2, its2, n2, r2, hl2, e2⟩ := Rd.lstM I hB
    have hsz : its.toArray.size + its2.toArray.size ≤ sizeLine := by rw [List.size_toArray, List.size_toArray]; bv_omega
    have hlong : ¬ (!its.toArray.isEmpty && Builtin.List.listTooLong (its.toArray.size + its2.toArray.size)) = true := by
      rw [notLongL hsz, Bool.and_false]
      exact Bool.false_ne_true
    refine call_meets F.slot_list_extend ⟨_, e, rfl⟩ F.entry_list_extend (F.args_list_extend_2 _ _)
      (AutoSeq1.list_extend_list_list_0 l its.toArray n b its2.toArray n2 hlong (by rw [List.size_toArray]; bv_omega) (by bv_omega)) ⟨e, e2, ?_⟩
    exact ⟨.non, _, I.lset (its' := its ++ its2) hH e (by simp) (r.append r2) len, rfl, q⟩
  · obtain ⟨z2, its2, r2, o, ho, hc, ⟨n2, hd⟩, _⟩ := hB.ok I.hok
    have hl2 := r2.length
    have hsz : its.toArray.size + its2.toArray.size ≤ sizeLine := by rw [List.size_toArray, List.size_toArray]; bv_omega
    refine call_meets F.slot_list_extend ⟨_, e, rfl⟩ F.entry_list_extend (F.args_list_extend_2 _ _)
      (ext_tup hc hd hsz) ⟨e, ho, ?_⟩
    exact ⟨.non, _, I.lset (its' := its ++ its2) hH e (by simp) (r.append r2) len, rfl, q⟩
end
def appD : List D → List D → Option (List D)
  | xs, [d] => if xs.length < sizeLine then some (xs ++ [d]) else none
  | _, _ => none
def extD : List D → List D → Option (List D)
  | xs, [d] => (seqD d).bind fun ys => if xs.length + ys.length ≤ sizeLine then some (xs ++ ys) else none
  | _, _ => none
theorem Reps.one' {H : Hp} {O : Addr → Prop} {vs : List V} {d : D} (h : Reps H O vs [d]) : ∃ v, vs = [v] ∧ Rep H O v d := by
  cases h with
  | cons a t => cases t; exact ⟨_, rfl, a⟩
theorem pm_append : PrM rAppend appD := by
  intro O H l xs vs xd ad ds' Q hl rx ra e k
  unfold appD at e
  split at e
  · split at e
    · rename_i h
      cases e
      obtain ⟨v, rfl, rv⟩ := Reps.one' ra
      exact ⟨l, xs, v, rfl, rfl, hl, by rw [rx.length]; exact h, k _ (rx.append (.one rv))⟩
    · cases e
  · cases e
end L2.L3
set_option maxHeartbeats 4000000
namespace L2.L3
open PySem PySem.Spec PyProof.Rows
variable [CN]
section
variable {i j : Nat} {m n : Ev → Res Out} {t : Ev → Res Bool} {me mk : Ev → Res D} {ms mi : Ev → Res (List D)} {g : D → Ev → Option Ev} {f : List D → List D → Option (List D)}
end
end L2.L3
namespace L2.L3
open PySem PySem.Spec PyProof.Rows
variable [CN]
def isL : Value → Bool
  | .type t => t == "list"
  | _ => false
def noLst (K : PySem.W.Frag) : Bool := K.all fun p => !isL p.2.cls
theorem mem_of_look {K : PySem.W.Frag} {a : Addr} {o : Obj} (h : K.lookup a = some o) : (a, o) ∈ K := by
  have h : List.lookup a K = some o := h
  induction K with
  | nil => cases h
  | cons p r ih =>
    obtain ⟨b, u⟩ := p
    rw [List.lookup_cons] at h
    by_cases e : (a == b) = true
    · simp only [e] at h
      cases h
      have : a = b := by simpa using e
      rw [this]
      exact List.mem_cons_self
    · simp only [e] at h
      exact List.mem_cons_of_mem _ (ih h h)
theorem rd_of {K : PySem.W.Frag} {H : Hp} {a : Addr} {xs : List V} (hn : noLst K = true) (h : SqL K H a xs) : Rd H a (.lst xs) := by
  rcases h with h | ⟨o, its, n, hk, hc, _⟩
  · exact h
  · have := List.all_eq_true.mp hn _ (mem_of_look hk)
    rw [hc] at this
    cases this
end L2.L3
set_option maxHeartbeats 4000000
namespace L2.L3
open PySem
section
variable (m n : Ev → Res Out) (t t' : Ev → Res Bool) (a b c : Ev → Res D) (xs : Ev → Res (List D)) (ρ : Ev) (i j : Nat) (d : D)
theorem xQ : sN ρ = .ok (.nx ρ) := rfl
theorem xB : sX ρ = .no := rfl
theorem xT : sQ m n ρ = (m ρ).bind fun o => match o with | .nx ρ' => n ρ' | .rt d => .ok (.rt d) := rfl
theorem zC : sIf t m n ρ = (t ρ).bind fun k => if k then m ρ else n ρ := rfl
theorem wN : sR a ρ = (a ρ).bind fun d => .ok (.rt d) := rfl
theorem wV : sS i a ρ = (a ρ).bind fun d => .ok (.nx (ρ.set i (some d))) := rfl
theorem xJ : sE a ρ = (a ρ).bind fun _ => .ok (.nx ρ) := rfl
theorem wM (g : List D → List D → Option (List D)) : sM i g xs ρ = (eV i ρ).bind fun d => (Res.lft (lstD d)).bind fun xd => (xs ρ).bind fun ad => (Res.lft (g xd ad)).bind fun ds => .ok (.nx (ρ.set i (some (.list ds)))) := rfl
theorem xM : sI i b a ρ = (a ρ).bind fun v => (eV i ρ).bind fun d => (Res.lft (lstD d)).bind fun xd => (b ρ).bind fun k => (Res.lft (setD xd k v)).bind fun ds => .ok (.nx (ρ.set i (some (.list ds)))) := rfl
theorem xL : sV i j ρ = (eV j ρ).bind fun d => .ok (.nx ((ρ.set i (some d)).set j none)) := rfl
theorem xD (g : D → Ev → Option Ev) : sF xs g m ρ = (xs ρ).bind fun ds => forM g m ds ρ := rfl
theorem wZ (k : Nat) : sW k t m ρ = whM t m k ρ := rfl
theorem xZ : eC d ρ = .ok d := rfl
theorem eV0 (x : D) (r : Ev) : eV 0 (some x :: r) = .ok x := rfl
theorem eVs (o : Option D) (r : Ev) : eV (i + 1) (o :: r) = eV i r := rfl
theorem xE (f : D → Option D) : e1 f a ρ = (a ρ).bind fun x => Res.lft (f x) := rfl
theorem wQ (f : D → D → Option D) : e2 f a b ρ = (a ρ).bind fun x => (b ρ).bind fun y => Res.lft (f x y) := rfl
theorem xU (f : List D → Option D) : eB f xs ρ = (xs ρ).bind fun ds => Res.lft (f ds) := rfl
theorem xK (f : List D → Res D) : eF f xs ρ = (xs ρ).bind f := rfl
theorem yJ (fr : Bool) (f : List D → Res D) : eFA fr f xs ρ = (xs ρ).bind fun ds => (f ds).bind fun d => if lfT fr d then .ok d else .no := rfl
theorem xS (f : D → D → Option Bool) : b2 f a b ρ = (a ρ).bind fun x => (b ρ).bind fun y => Res.lft (f x y) := rfl
theorem xV (f g : D → D → Option Bool) : b3 f g a b c ρ = (a ρ).bind fun x => (b ρ).bind fun y => (Res.lft (f x y)).bind fun k => if k then (c ρ).bind fun z => Res.lft (g y z) else .ok false := rfl
theorem wO : vB t ρ = (t ρ).bind fun k => .ok (.bool k) := rfl
theorem wR : tV a ρ = (a ρ).bind fun d => Res.lft (isB d) := rfl
theorem zB : tNt t ρ = (t ρ).bind fun k => .ok (!k) := rfl
theorem yU : tAn t t' ρ = (t ρ).bind fun k => if k then t' ρ else .ok false := rfl
theorem xR : tO t t' ρ = (t ρ).bind fun k => if k then .ok true else t' ρ := rfl
theorem yW : vAn a b ρ = (a ρ).bind fun d => (Res.lft (isB d)).bind fun k => if k then b ρ else .ok (.bool false) := rfl
theorem wY : vO a b ρ = (a ρ).bind fun d => (Res.lft (isB d)).bind fun k => if k then .ok (.bool true) else b ρ := rfl
theorem yP : vNt a ρ = (a ρ).bind fun d => (Res.lft (isB d)).bind fun k => .ok (.bool (!k)) := rfl
theorem yH : eIf t a b ρ = (t ρ).bind fun k => if k then a ρ else b ρ := rfl
theorem xY : aN ρ = .ok [] := rfl
theorem xW : aC a xs ρ = (a ρ).bind fun x => (xs ρ).bind fun r => .ok (x :: r) := rfl
theorem xG : iS a ρ = (a ρ).bind fun d => Res.lft (seqD d) := rfl
theorem wU (f : List D → Option (List D)) : iR f xs ρ = (xs ρ).bind fun ds => Res.lft (f ds) := rfl
theorem xI : gN i d ρ = some (ρ.set i (some d)) := rfl
theorem zF : tYes ρ = .ok true := rfl
theorem eComp_ap (mi : Ev → Res (List D)) (js : List Nat) : eComp mi t a js ρ = (mi ρ).bind fun ds => if ds.length ≤ sizeLine then (compM (fun x => t (cEnv ρ js x)) (fun x => a (cEnv ρ js x)) ds).bind fun out => .ok (.list out) else .no := rfl
theorem xC (f : Int → Int → Option Int) (x y : Int) : i2 f (.int x) (.int y) = (f x y).map PyData.int := rfl
theorem xX (f : Int → Int → Bool) (x y : Int) : c2 f (.int x) (.int y) = some (f x y) := rfl
theorem zG (l : List D) : lstD (.list l) = some l := rfl
theorem zA (l : List D) : seqD (.list l) = some l := rfl
theorem yZ (l : List D) : seqD (.tuple l) = some l := rfl
theorem yV (k : Bool) : isB (.bool k) = some k := rfl
theorem zK : lenD [d] = (seqD d).map fun ds => .int ds.length := rfl
theorem zQ : listD [d] = (seqD d).map fun ds => .list ds := rfl
theorem zE : tupD [d] = (seqD d).map fun ds => .tuple ds := rfl
theorem wW (l : List D) (k : Int) : ixD (.list l) (.int k) = atI l k := rfl
theorem xA (l : List D) (k : Int) : ixD (.tuple l) (.int k) = atI l k := rfl
theorem zH (k : Int) : negD (.int k) = some (.int (-k)) := rfl
theorem xH (k : Bool) : bD (some k) = some (.bool k) := rfl
end
theorem yM (fr : Bool) (d : D) : fin fr (.rt d) = .ok d := rfl
theorem yD (ρ : Ev) : fin false (.nx ρ) = .ok .none := rfl
theorem forM_ok {g : D → Ev → Option Ev} {b : Ev → Res Out} (P : Nat → Ev → Prop) (ds : List D) (ρ : Ev) (h0 : P 0 ρ) (hs : ∀ (i : Nat) d ρ, ds[i]? = some d → P i ρ → ∃ ρ1 ρ2, g d ρ = some ρ1 ∧ b ρ1 = .ok (.nx ρ2) ∧ P (i + 1) ρ2) :
    ∃ ρ', forM g b ds ρ = .ok (.nx ρ') ∧ P ds.length ρ' := by
  induction ds generalizing P ρ with
  | nil => exact ⟨ρ, rfl, h0⟩
  | cons d ds ih =>
    obtain ⟨ρ1, ρ2, e1, e2, p⟩ := hs 0 d ρ rfl h0
    obtain ⟨ρ', e, p'⟩ := ih (fun i => P (i + 1)) ρ2 p fun i d ρ hd hp => hs (i + 1) d ρ (by simpa using hd) hp
    refine ⟨ρ', ?_, by simpa using p'⟩
    rw [forM, e1, Res.zT, Res.zW, e2, Res.zW]
    exact e
theorem whM_ok {t : Ev → Res Bool} {b : Ev → Res Out} (P : Nat → Ev → Prop) (n : Nat) : ∀ (fuel : Nat) (ρ : Ev), P 0 ρ → (∀ i ρ, i < n → P i ρ → t ρ = .ok true ∧ ∃ ρ2, b ρ = .ok (.nx ρ2) ∧ P (i + 1) ρ2) → (∀ ρ, P n ρ → t ρ = .ok false) → n < fuel → ∃ ρ', whM t b fuel ρ = .ok (.nx ρ') ∧ P n ρ' := by
  induction n generalizing P with
  | zero =>
    intro fuel ρ h0 _ he hf
    obtain ⟨f, rfl⟩ : ∃ f, fuel = f + 1 := ⟨fuel - 1, by bv_omega⟩
    refine ⟨ρ, ?_, h0⟩
    rw [whM, he ρ h0]
    rfl
  | succ n ih =>
    intro fuel ρ h0 hs he hf
    obtain ⟨f, rfl⟩ : ∃ f, fuel = f + 1 := ⟨fuel - 1, by bv_omega⟩
    obtain ⟨e1, ρ2, e2, p⟩ := hs 0 ρ (Nat.succ_pos _) h0
    obtain ⟨ρ', e, p'⟩ := ih (fun i => P (i + 1)) f ρ2 p (fun i ρ hi hp => hs (i + 1) ρ (by bv_omega) hp) he (by bv_omega)
    refine ⟨ρ', ?_, p'⟩
    rw [whM, e1, Res.zW, if_pos rfl, e2, Res.zW]
    exact e
theorem compM_map {t : D → Res Bool} {f : D → Res D} {α : Type} (A : α → D) (p : α → Bool) (q : α → D) : ∀ (xs : List α), (∀ x ∈ xs, t (A x) = .ok (p x)) → (∀ x ∈ xs, p x = true → f (A x) = .ok (q x)) → compM t f (xs.map A) = .ok ((xs.filter p).map q)
  | [], _, _ => rfl
  | x :: xs, ht, hf => by
    have ih := compM_map A p q xs (fun y hy => ht y (List.mem_cons_of_mem _ hy)) (fun y hy => hf y (List.mem_cons_of_mem _ hy))
    rw [List.map_cons, compM, ht x List.mem_cons_self]
    cases hp : p x with
    | false => simp only [noEx, Res.zW, Bool.false_eq_true, if_false, List.filter_cons, hp]; exact ih
    | true =>
      rw [hf x List.mem_cons_self hp, ih]
      simp [noEx, List.filter_cons, hp]
abbrev tI (ns : List Int) : D := .tuple (ns.map PyData.int)
abbrev lI (ns : List Int) : D := .list (ns.map PyData.int)
theorem atI_map {α β : Type} (f : α → β) (xs : List α) (i : Int) : atI (xs.map f) i = (atI xs i).map f := by
  unfold atI
  rw [List.length_map]
  cases ixN xs.length i with
  | none => rfl
  | some j => simp
theorem atI_getD {xs : List Int} {j : Nat} (h : j < xs.length) : atI xs (j : Int) = some (xs.getD j 0) := by
  refine atI_nat ?_
  rw [List.getD_eq_getElem?_getD, List.getElem?_eq_getElem h]
  rfl
end L2.L3
namespace L2.L3
open PySem
theorem mkL_le {ds : List D} (h : ds.length ≤ 1000) : mkL ds = some (.list ds) := by
  unfold mkL
  exact if_pos (Nat.le_of_lt (small1000 h))
theorem mkT_le {ds : List D} (h : ds.length ≤ 1000) : mkT ds = some (.tuple ds) := by
  unfold mkT
  exact if_pos (Nat.le_of_lt (small1000 h))
theorem wA : mkL [] = some (.list []) := mkL_le (by simp)
theorem wF (a : D) : mkL [a] = some (.list [a]) := mkL_le (by simp)
theorem wC (a b : D) : mkL [a, b] = some (.list [a, b]) := mkL_le (by simp)
theorem wB (a b c : D) : mkL [a, b, c] = some (.list [a, b, c]) := mkL_le (by simp)
theorem wE (a b c d : D) : mkL [a, b, c, d] = some (.list [a, b, c, d]) := mkL_le (by simp)
theorem wI : mkT [] = some (.tuple []) := mkT_le (by simp)
theorem wD (a : D) : mkT [a] = some (.tuple [a]) := mkT_le (by simp)
theorem wG (a b : D) : mkT [a, b] = some (.tuple [a, b]) := mkT_le (by simp)
theorem wH (a b c : D) : mkT [a, b, c] = some (.tuple [a, b, c]) := mkT_le (by simp)
theorem app_le {l : List D} {d : D} (h : l.length ≤ 1000) : appD l [d] = some (l ++ [d]) := if_pos (small1000 h)
theorem ext_le {l k : List D} {d : D} (hd : seqD d = some k) (h : l.length + k.length ≤ 1000) : extD l [d] = some (l ++ k) := by
  show (seqD d).bind (fun ys => if l.length + ys.length ≤ sizeLine then some (l ++ ys) else none) = _
  rw [hd]
  exact if_pos (Nat.le_of_lt (small1000 h))
theorem comp_le {ds : List D} {r : Res D} (h : ds.length ≤ 1000) : (if ds.length ≤ sizeLine then r else .no) = r := if_pos (Nat.le_of_lt (small1000 h))
theorem rng_nat {n : Nat} (h : n ≤ 1000) : rng1 [.int (n : Int)] = some ((List.range n).map fun (i : Nat) => PyData.int (i : Int)) := by
  unfold rng1
  simp only
  rw [if_pos ⟨by bv_omega, by bv_omega⟩, Int.toNat_natCast]
theorem rng_get {n i : Nat} {d : D} (h : ((List.range n).map fun (i : Nat) => PyData.int (i : Int))[i]? = some d) : i < n ∧ d = .int (i : Int) := by
  rw [List.getElem?_map] at h
  by_cases hi : i < n
  · rw [List.getElem?_range hi] at h
    cases h
    exact ⟨hi, rfl⟩
  · rw [List.getElem?_eq_none (by simpa using hi)] at h
    cases h
theorem shaped_int (i : Int) : SeqAt.shaped (.int i) = true := rfl
theorem eqv_int (i j : Int) : PyData.eqv (.int i) (.int j) = decide (i = j) := by
  rw [PyData.eqv]
  exact Bool.beq_eq_decide_eq i j
theorem eqD_int (i j : Int) : eqD (.int i) (.int j) = some (decide (i = j)) := by
  unfold eqD
  rw [if_pos ⟨shaped_int i, shaped_int j⟩, eqv_int]
theorem neD_int (i j : Int) : neD (.int i) (.int j) = some (!decide (i = j)) := by
  unfold neD
  rw [if_pos ⟨shaped_int i, shaped_int j⟩, eqv_int]
end L2.L3
namespace L2.L3
open PySem
abbrev rows (rs : List (List Int)) : D := .list (rs.map tI)
theorem ixN_nat {n m : Nat} (h : m < n) : ixN n (m : Int) = some m := by
  unfold ixN
  rw [if_pos (by bv_omega), if_pos (by bv_omega), Int.toNat_natCast]
theorem set_range {n m : Nat} (h : m < n) (f : Nat → D) (v : D) : ((List.range n).map f).set m v = (List.range n).map fun c => if c = m then v else f c := by
  apply List.ext_getElem?
  intro i
  by_cases e : m = i
  · subst e
    rw [List.getElem?_set_self (by simpa using h), List.getElem?_map, List.getElem?_range h]
    simp
  · rw [List.getElem?_set_ne e, List.getElem?_map, List.getElem?_map]
    cases q : (List.range n)[i]? with
    | none => rfl
    | some c =>
      have : c = i := by
        have hi := (List.getElem?_eq_some_iff.mp q).1
        rw [List.getElem?_range (by simpa using hi)] at q
        cases q; rfl
      subst this
      show some (f c) = some (if c = m then v else f c)
      rw [if_neg (fun z => e z.symm)]
theorem repL_one (v : D) (n : Nat) (h : n ≤ 1000) : repL (.list [v]) (.int (n : Int)) = some (.list (List.replicate n v)) := by
  unfold repL
  simp only
  rw [if_pos ⟨by bv_omega, by bv_omega, by rw [List.length_singleton, Int.toNat_natCast]; exact Nat.le_of_lt (small1000 (by bv_omega))⟩, Int.toNat_natCast]
  congr 2
  induction n with
  | zero => rfl
  | succ n ih => rw [List.replicate_succ, List.flatten_cons, ih (by bv_omega), List.replicate_succ]; rfl
theorem min1_tI {ns : List Int} (h : ns ≠ []) : min1D [tI ns] = some (.int (minL ns)) := by
  unfold min1D
  simp only [nsD, seqD, Option.bind_some, intsOf_map]
  rw [if_neg h]
theorem min1_lI {ns : List Int} (h : ns ≠ []) : min1D [lI ns] = some (.int (minL ns)) := by
  unfold min1D
  simp only [nsD, seqD, Option.bind_some, intsOf_map]
  rw [if_neg h]
end L2.L3
namespace L2.L3
open PySem
section
variable (i : Int) (b : Bool) (l : List D)
theorem yC : isiD "int" (.int i) = some (.bool true) := rfl
theorem yN : isiD "bool" (.int i) = some (.bool false) := rfl
theorem yG : isiD "bool" (.bool b) = some (.bool true) := rfl
theorem yT : isiD "int" (.bool b) = some (.bool true) := rfl
theorem yR : isiD "tuple" (.tuple l) = some (.bool true) := rfl
theorem yX : isiD "list" (.list l) = some (.bool true) := rfl
theorem yY : isiD "tuple" (.list l) = some (.bool false) := rfl
theorem yS : isiD "list" (.tuple l) = some (.bool false) := rfl
theorem yL : isiD "tuple" .none = some (.bool false) := rfl
theorem yI : isiD "bool" .none = some (.bool false) := rfl
end
theorem eComp_eq {mi : Ev → Res (List D)} {t : Ev → Res Bool} {me : Ev → Res D} {js : List Nat} {ρ : Ev} {α : Type} (A : α → D) (p : α → Bool) (q : α → D) (xs : List α) (h : mi ρ = .ok (xs.map A)) (hl : xs.length ≤ 1000)
    (ht : ∀ x ∈ xs, t (cEnv ρ js (A x)) = .ok (p x)) (hf : ∀ x ∈ xs, p x = true → me (cEnv ρ js (A x)) = .ok (q x)) : eComp mi t me js ρ = .ok (.list ((xs.filter p).map q)) := by
  rw [eComp_ap, h, Res.zW, comp_le (by rw [List.length_map]; exact hl), compM_map A p q xs ht hf]
  rfl
theorem eComp_all {mi : Ev → Res (List D)} {me : Ev → Res D} {js : List Nat} {ρ : Ev} {α : Type} (A : α → D) (q : α → D) (xs : List α) (h : mi ρ = .ok (xs.map A)) (hl : xs.length ≤ 1000)
    (hf : ∀ x ∈ xs, me (cEnv ρ js (A x)) = .ok (q x)) : eComp mi tYes me js ρ = .ok (.list (xs.map q)) := by
  rw [eComp_eq A (fun _ => true) q xs h hl (fun _ _ => rfl) (fun x hx _ => hf x hx), List.filter_eq_self.mpr fun _ _ => rfl]
end L2.L3
namespace L2.L3
end L2.L3
set_option maxHeartbeats 4000000
namespace HT
open PySem PySem.Spec PyProof.Rows
section
variable {prog : Program} {w : World} {A : Around} {E : Value → Shared → Prop} {s : Shared}
theorem getItem_tuple_all {t sl : Addr} {items : Array Value} {vl vu : Value} {lo hi : Option Int} {Q : Value → Shared → Prop} (ht : IsTup s.heap t items) (hs : s.heap.IsSliceOf sl vl vu .none) (pl : IsPart vl lo) (pu : IsPart vu hi)
    (hw : sIx items.size 0 lo = 0 ∧ sIx items.size items.size hi = items.size) (h : Q (.ref t) s) : wpAny (model prog w) A (getItem (.ref t) (.ref sl)) Q E s := by
  obtain ⟨os, hos, hcs, hds⟩ := id hs
  have hTs : s.TypeIs (.ref sl) "slice" := ⟨os, hos, hcs⟩
  unfold getItem
  try with_reducible refine wpAny_holding ?_
  first | refine wpAny_bind (wpAny_pure ?_) | skip
  refine wpAny_bind (wpAny_sequenceKey ht.typeIs (by decide) ?_)
  refine wpAny_bind (wpAny_callSpecial?_slot (name := Str.ofString "__getitem__") ht.typeIs PyProof.Rows.slot_tuple_getitem
    (wpAny_call_entry PyProof.Rows.slot_tuple_getitem ht.typeIs entry_tuple_getitem ?_ (args_tuple_getitem _ _)))
  show wpAny _ _ (Builtin.Tuple.tupleItemsOf (.ref t) >>= _) _ _ s
  refine wpAny_bind (tupleItemsOf_ ht ?_)
  refine wpAny_bind (wpAny_typeOf hTs ?_)
  rw [if_pos (by decide)]
  refine wpAny_bind (sliceApplied_gen hs pl pu ?_)
  have hyes : (((sIx items.size 0 lo : Nat) : Int) == 0 && (1 : Int) == 1 && (sIx items.size items.size hi - sIx items.size 0 lo) == items.size) = true := by
    rw [hw.1, hw.2]
    simp
  show wpAny _ _ (if (((sIx items.size 0 lo : Nat) : Int) == 0 && (1 : Int) == 1 && (sIx items.size items.size hi - sIx items.size 0 lo) == items.size) = true then _ else _) _ _ s
  rw [if_pos hyes]
  unfold Builtin.Tuple.tupleIsExact
  refine wpAny_bind (wpAny_bind (wpAny_typeOf ht.typeIs (wpAny_pure ?_)))
  rw [if_pos (by decide)]
  refine wpAny_bind (wpAny_rule ?_)
  exact wpAny_pure ⟨_, rfl, wpAny_pure h⟩
end
end HT
namespace L2.L3
open PySem PySem.Spec PyProof.Rows
variable [CN]
section
variable {X : Cx}
def rSlTA (K : PySem.W.Frag) : V → Option Int → Option Int → Hp → VK → Prop := fun x lo hi H Q => ∃ a xs, x = .ref a ∧ SqT K H a xs ∧ HT.sIx xs.length 0 lo = 0 ∧ HT.sIx xs.length xs.length hi = xs.length ∧ Q (.ref a) H
theorem sl_tupA : SlR X (rSlTA X.K) := by
  intro pins s σ H x v vl vu lo hi sl Q I rx hs pl pu h
  obtain ⟨a, xs, rfl, hx, hw1, hw2, q⟩ := h
  cases rx
  obtain ⟨its, r, ht, hz⟩ := I.tuple hx
  have hlen : its.toArray.size = xs.length := by rw [List.size_toArray]; exact r.length.symm
  refine ⟨"tuple", _, PyProof.Rows.slot_tuple_getitem.lookup, ht.typeIs, ?_⟩
  exact HT.getItem_tuple_all ht hs pl pu (by rw [hlen]; exact ⟨hw1, hw2⟩) ⟨.ref a, H, I, rfl, q⟩
end
def RO (C : Ct) (e : Option Expr) (m : Ev → Res (Option Int)) : Prop :=
  ∃ t, PO C.X e t ∧ ∀ (Oc : Wd) (Ob : Addr → Prop) (σ : St) (H : Hp) (ρ : Ev) (Q : Option Int → Hp → Prop), Rel Oc Ob C.om C.ln σ H ρ →
    (m ρ).post (fun d => ∀ H', Same H H' → Q d H') (fun c => ∀ H', Same H H' → C.XE c H') → t σ H Q
def oN : Ev → Res (Option Int) := fun _ => .ok none
def isI : D → Option Int
  | .int i => some i
  | _ => none
def oS (m : Ev → Res D) : Ev → Res (Option Int) := fun ρ => (m ρ).bind fun d => (Res.lft (isI d)).bind fun i => .ok (some i)
theorem ro_none {C : Ct} : RO C none oN := ⟨_, po_none, fun Oc Ob σ H ρ Q R h => h H (Same.refl H)⟩
theorem ro_some {C : Ct} {e : Expr} {md : Md} {me : Ev → Res D} (h : RE C md e me) : RO C (some e) (oS me) := by
  obtain ⟨t, p, q⟩ := h
  refine ⟨_, po_some p, fun Oc Ob σ H ρ Q R h => q Oc Ob σ H ρ _ R (Res.zR (Res.zV h) (fun d _ k v H' s r => ?_) fun _ z => z)⟩
  obtain ⟨i, e, k⟩ := Res.vX (Res.zV k)
  cases d with
  | int j => cases e; exact ⟨i, (r.va R.oh).int, k H' s⟩
  | _ => cases e
def eS (f : D → Option Int → Option Int → Option D) (m : Ev → Res D) (lo hi : Ev → Res (Option Int)) : Ev → Res D := fun ρ => (m ρ).bind fun x => (lo ρ).bind fun l => (hi ρ).bind fun u => Res.lft (f x l u)
def PrS (r : V → Option Int → Option Int → Hp → VK → Prop) (md : Md) (f : D → Option Int → Option Int → Option D) : Prop :=
  ∀ (Oc : Wd) (Ob : Addr → Prop) (H : Hp) (x : V) (dx : D) (lo hi : Option Int) (d : D) (Q : VK), (∀ a, Oc a ∨ Ob a → H a ≠ none) → VA Oc Ob H x dx → f dx lo hi = some d → (∀ v H', Same H H' → VR md Oc Ob H H' v d → Q v H') → r x lo hi H Q
theorem re_slice {C : Ct} {e : Expr} {lo hi : Option Expr} {md mda : Md} {me : Ev → Res D} {ml mh : Ev → Res (Option Int)} {p2 pos : Pos} {r : V → Option Int → Option Int → Hp → VK → Prop} {f : D → Option Int → Option Int → Option D} (hr : SlR C.X r) (hp : PrS r md f) (he : RE C mda e me) (hl : RO C lo ml) (hu : RO C hi mh) :
    RE C md (.Subscript e (.Slice lo hi none p2) pos) (eS f me ml mh) := by
  obtain ⟨t, p, q⟩ := he
  obtain ⟨tl, pl, ql⟩ := hl
  obtain ⟨th, ph, qh⟩ := hu
  refine ⟨_, pe_slice hr p pl ph, fun Oc Ob σ H ρ Q R h => q Oc Ob σ H ρ _ R (Res.zR (Res.zV h) (fun d _ k v H1 s1 r => ?_) fun _ z => z)⟩
  refine ql Oc Ob σ H1 ρ _ (R.same s1) (Res.zR (Res.zV k) (fun l _ k H2 s2 => ?_) fun c z H' s' => z H' (s1.trans s'))
  refine qh Oc Ob σ H2 ρ _ ((R.same s1).same s2) (Res.zR (Res.zV k) (fun u _ k H3 s3 => ?_) fun c z H' s' => z H' ((s1.trans s2).trans s'))
  obtain ⟨d', e, k⟩ := Res.vX k
  have R3 := ((R.same s1).same s2).same s3
  refine hp Oc Ob H3 v d l u d' Q R3.oh ((r.va R.oh).same (s2.trans s3)) e fun w H' s4 rw' => ?_
  exact k w H' (((s1.trans s2).trans s3).trans s4) (rw'.from ((s1.trans s2).trans s3))
def cutD {α : Type} (xs : List α) (lo hi : Option Int) : List α := (xs.drop (HT.sIx xs.length 0 lo)).take (HT.sIx xs.length xs.length hi - HT.sIx xs.length 0 lo)
theorem cutV_reps {H : Hp} {O : Addr → Prop} {vs : List V} {ds : List D} (r : Reps H O vs ds) (lo hi : Option Int) : Reps H O (cutV vs lo hi) (cutD ds lo hi) := by
  unfold cutV cutD
  rw [r.length]
  exact (r.drop _).take _
def slL : D → Option Int → Option Int → Option D
  | .list ds, lo, hi => some (.list (cutD ds lo hi))
  | _, _, _ => none
def slD : D → Option Int → Option Int → Option D
  | .list ds, lo, hi => some (.list (cutD ds lo hi))
  | .tuple ds, lo, hi => some (.tuple (cutD ds lo hi))
  | _, _, _ => none
theorem cut_all {α : Type} {xs : List α} {lo hi : Option Int} (h1 : HT.sIx xs.length 0 lo = 0) (h2 : HT.sIx xs.length xs.length hi = xs.length) : cutD xs lo hi = xs := by
  unfold cutD
  rw [h1, h2, List.drop_zero, Nat.sub_zero, List.take_length]
theorem ps_seq {K : PySem.W.Frag} : PrS (fun x lo hi H Q => rSlL K x lo hi H Q ∨ rSlT K x lo hi H Q ∨ rSlTA K x lo hi H Q) .cl slD := by
  intro Oc Ob H x dx lo hi d Q oh va e k
  cases dx with
  | list ds =>
    cases e
    obtain ⟨a, ys, rfl, rd, rs⟩ := va.list
    exact .inl ⟨a, ys, rfl, .inl rd, fun p hp => k _ _ (Same.new hp) (VR.clean (new_list (Same.refl H) hp (cutV_reps rs lo hi)) oh)⟩
  | tuple ds =>
    cases e
    rcases va with va | ⟨_, _, _, _, ez, _⟩
    · cases va with
      | @tup a ys _ rd n rs =>
        by_cases hw : HT.sIx ys.length 0 lo = 0 ∧ HT.sIx ys.length ys.length hi = ys.length
        · refine .inr (.inr ⟨a, ys, rfl, .inl rd, hw.1, hw.2, k _ H (Same.refl H) ?_⟩)
          rw [cut_all (by rw [← rs.length]; exact hw.1) (by rw [← rs.length]; exact hw.2)]
          exact .tup rd n rs
        · exact .inr (.inl ⟨a, ys, rfl, .inl rd, hw, fun p hp => k _ _ (Same.new hp) (new_tup oh hp (cutV_reps rs lo hi))⟩)
    · cases ez
  | _ => cases e
theorem re_sliceD {C : Ct} {e : Expr} {lo hi : Option Expr} {mda : Md} {me : Ev → Res D} {ml mh : Ev → Res (Option Int)} {p2 pos : Pos} (he : RE C mda e me) (hl : RO C lo ml) (hu : RO C hi mh) : RE C .cl (.Subscript e (.Slice lo hi none p2) pos) (eS slD me ml mh) := re_slice (sl_list.or (sl_tup.or sl_tupA)) ps_seq he hl hu
theorem rs_ext {C : Ct} {fr : Bool} (i : Nat) {x : Str} {a : Expr} {md : Md} {ma : Ev → Res D} {p' apos cpos pos : Pos} (ha : RE C md a ma)
    (hN : autoParam (C.X.N[i]? = some x) zX._auto_1) (ho : autoParam (C.om.contains i = true) zX._auto_1) (hv : autoParam (Vis C.X.env.scope x) autoK8._auto_1) (hd : autoParam ((x == ("__debug__" : Str)) = false) vY._auto_1) (hcd : autoParam ((x == ("__classdict__" : Str)) = false) vY._auto_1)
    (hbase : autoParam (attributeBase (.Name x p') "extend" C.X.env (eval (.Name x p') C.X.env) = eval (.Name x p') C.X.env) zX._auto_1)
    (hfew : ((backTo cpos (starEach [a] C.X.env)).all (fun x => !x.1) && (backToKw cpos (keywordEach [] C.X.env)).all (fun x => x.1.isSome)
      && decide ([a].length + ([] : List Keyword).length + (if ([] : List Keyword).isEmpty then 0 else 1) < 30)) = true := by rfl)
    (hline : autoParam ((apos.endLine == cpos.line) = true) zX._auto_1) (hs : autoParam (starEach [a] C.X.env = (false, eval a C.X.env) :: starEach [] C.X.env) zX._auto_1) (hplain : autoParam ((backTo cpos (starEach [] C.X.env)).any (·.1) = false) zX._auto_1)
    (hsw : autoParam (swapsWith (.Call (.Attribute (.Name x p') "extend" apos) [a] [] cpos) none pos.line C.X.env = pure false) zX._auto_1) :
    RS C fr (.Expr (.Call (.Attribute (.Name x p') "extend" apos) [a] [] cpos) pos) (sM i extD (aC ma aN)) := by
  obtain ⟨t, p, q⟩ := ha
  refine ⟨_, ps_expr (pe_bm PySem.F.plainAttrs_list PySem.F.slot_list_extend PySem.F.type_list_extend mt_extR (pe_var hN hv hd hcd) (yB p pa_nil hs) hbase hfew hline hs hplain) hsw, fun Oc Ob σ H ρ E R h => ?_⟩
  obtain ⟨d, ed, k⟩ := eV_post (Res.zV h)
  obtain ⟨xd, ex, k⟩ := Res.vX (Res.zV k)
  obtain rfl := lstD_some ex
  obtain ⟨v, qv, l, ys, ds, rfl, e2, e3, e4, e5⟩ := R.own i _ ed (mem_of ho)
  cases e2
  refine ⟨_, qv, .inl ⟨rfl, _, SqL.of e3⟩, q Oc Ob σ H ρ _ R (Res.zR (Res.zV (Res.zV k)) (fun ad _ k w H' s r' => ?_) fun c z H' s => z H' (Same.frm s))⟩
  obtain ⟨ds', eg, k⟩ := Res.vX (Res.zV (show ((Res.lft (extD xd [ad])).bind fun ds => Res.ok (Out.nx (ρ.set i (some (.list ds))))).post _ _ from k))
  obtain ⟨zs, e1, eg⟩ := Option.bind_eq_some_iff.mp (show (seqD ad).bind (fun ys => if xd.length + ys.length ≤ sizeLine then some (xd ++ ys) else none) = some ds' from eg)
  split at eg
  · rename_i hl
    cases eg
    have va := r'.va R.oh
    have fin : ∀ (b : Addr) (ws : List V), (Rd H' b (.lst ws) ∨ Rd H' b (.tup ws)) → Reps H' (Uni Oc Ob) ws zs → rExtR (.ref l) [.ref b] H' fun _ H1 => E.nx σ H1 := fun b ws rd rs => by
      refine ⟨l, b, ys, ws, rfl, rfl, s _ _ e3, rd, by rw [e5.length, rs.length]; exact hl, ?_⟩
      refine k _ _ Ob ((R.same s).write (mem_of ho) ed qv (s _ _ e3) e4 ((e5.same s).append rs)) (fun b o e n => ?_) fun b z => .inl z
      rw [yA (fun z => n (by subst z; exact e4))]
      exact s b o e
    cases ad with
    | list ds' =>
      cases e1
      obtain ⟨b, ws, rfl, rd, rs⟩ := va.list
      exact fin b ws (.inl rd) rs
    | tuple ds' =>
      cases e1
      obtain ⟨b, ws, rfl, rd, rs⟩ := va.tuple
      exact fin b ws (.inr rd) rs
    | _ => cases e1
  · cases eg
section
variable (a : Ev → Res D) (l h : Ev → Res (Option Int)) (ρ : Ev) (f : D → Option Int → Option Int → Option D)
theorem xN : eS f a l h ρ = (a ρ).bind fun x => (l ρ).bind fun lo => (h ρ).bind fun u => Res.lft (f x lo u) := rfl
theorem xO : oN ρ = .ok none := rfl
theorem wS : oS a ρ = (a ρ).bind fun d => (Res.lft (isI d)).bind fun i => .ok (some i) := rfl
theorem yK (i : Int) : isI (.int i) = some i := rfl
theorem yE (ds : List D) (lo hi : Option Int) : slL (.list ds) lo hi = some (.list (cutD ds lo hi)) := rfl
theorem xF (ds : List D) (lo hi : Option Int) : slD (.list ds) lo hi = some (.list (cutD ds lo hi)) := rfl
theorem wP (ds : List D) (lo hi : Option Int) : slD (.tuple ds) lo hi = some (.tuple (cutD ds lo hi)) := rfl
end
theorem cut_to {α : Type} (xs : List α) (k : Nat) : cutD xs none (some (k : Int)) = xs.take k := by
  unfold cutD
  rw [HT.sIx_none, HT.sIx_nat, List.drop_zero, Nat.sub_zero]
  by_cases h : k ≤ xs.length
  · rw [Nat.min_eq_left h]
  · rw [Nat.min_eq_right (by bv_omega), List.take_length, List.take_of_length_le (by bv_omega)]
theorem cut_from {α : Type} (xs : List α) (k : Nat) : cutD xs (some (k : Int)) none = xs.drop k := by
  unfold cutD
  rw [HT.sIx_none, HT.sIx_nat]
  by_cases h : k ≤ xs.length
  · rw [Nat.min_eq_left h, List.take_of_length_le (by rw [List.length_drop]; bv_omega)]
  · rw [Nat.min_eq_right (by bv_omega), List.drop_eq_nil_of_le (show xs.length ≤ k by bv_omega)]
    simp
end L2.L3
namespace L2.L3
open PySem
theorem any_eqF (i : Int) : ∀ ns : List Int, (ns.map PyData.int).any (fun z => eqF z (.int i)) = ns.contains i
  | [] => rfl
  | n :: ns => by
    rw [List.map_cons, List.any_cons, any_eqF i ns, List.contains_cons]
    congr 1
    show (n == i) = (i == n)
    rw [Bool.eq_iff_iff]
    simp only [beq_iff_eq]
    exact eq_comm
theorem all_flD : ∀ ns : List Int, (ns.map PyData.int).all flD = true
  | [] => rfl
  | n :: ns => by rw [List.map_cons, List.all_cons, all_flD ns]; rfl
theorem inD_l (neg : Bool) (i : Int) (ns : List Int) : inD neg (.int i) (lI ns) = some (if neg then !ns.contains i else ns.contains i) := by
  unfold inD
  show (if flD (.int i) = true ∧ (ns.map PyData.int).all flD = true then _ else none) = _
  rw [if_pos ⟨rfl, all_flD ns⟩, any_eqF]
theorem max1_tI {ns : List Int} (h : ns ≠ []) : max1D [tI ns] = some (.int (maxL ns)) := by
  unfold max1D
  simp only [nsD, seqD, Option.bind_some, intsOf_map]
  rw [if_neg h]
theorem max1_lI {ns : List Int} (h : ns ≠ []) : max1D [lI ns] = some (.int (maxL ns)) := by
  unfold max1D
  simp only [nsD, seqD, Option.bind_some, intsOf_map]
  rw [if_neg h]
theorem rng2_nat {a b : Nat} (ha : a ≤ 1000) (hb : b ≤ 1000) : rng2 [.int (a : Int), .int (b : Int)] = some ((List.range (b - a)).map fun (i : Nat) => PyData.int ((a + i : Nat) : Int)) := by
  unfold rng2
  simp only
  rw [if_pos ⟨by bv_omega, by bv_omega, by bv_omega, by bv_omega⟩]
  congr 1
  rw [show ((b : Int) - (a : Int)).toNat = b - a by bv_omega]
  refine List.map_congr_left fun i _ => ?_
  congr 1
theorem rngN_get {n i : Nat} {f : Nat → D} {d : D} (h : ((List.range n).map f)[i]? = some d) : i < n ∧ d = f i := by
  rw [List.getElem?_map] at h
  by_cases hi : i < n
  · rw [List.getElem?_range hi] at h
    cases h
    exact ⟨hi, rfl⟩
  · rw [List.getElem?_eq_none (by simpa using hi)] at h
    cases h
end L2.L3
namespace L2.L3
open PySem
theorem forM_b2 {α β : Type} {g : D → Ev → Option Ev} {b : Ev → Res Out} {ds : List D} {ρ : Ev} {k : Out → Res α} {k' : α → Res β} {R : Res β} (P : Nat → Ev → Prop) (h0 : P 0 ρ) (hs : ∀ (i : Nat) d ρ, ds[i]? = some d → P i ρ → ∃ ρ1 ρ2, g d ρ = some ρ1 ∧ b ρ1 = .ok (.nx ρ2) ∧ P (i + 1) ρ2)
    (hd : ∀ ρ', P ds.length ρ' → (k (.nx ρ')).bind k' = R) : ((forM g b ds ρ).bind k).bind k' = R := by
  obtain ⟨ρ', e, p⟩ := forM_ok P ds ρ h0 hs
  rw [e, Res.zW]
  exact hd ρ' p
theorem whM_b2 {α β : Type} {t : Ev → Res Bool} {b : Ev → Res Out} {fuel : Nat} {ρ : Ev} {k : Out → Res α} {k' : α → Res β} {R : Res β} (P : Nat → Ev → Prop) (n : Nat) (hf : n < fuel) (h0 : P 0 ρ) (hs : ∀ i ρ, i < n → P i ρ → t ρ = .ok true ∧ ∃ ρ2, b ρ = .ok (.nx ρ2) ∧ P (i + 1) ρ2) (he : ∀ ρ, P n ρ → t ρ = .ok false)
    (hd : ∀ ρ', P n ρ' → (k (.nx ρ')).bind k' = R) : ((whM t b fuel ρ).bind k).bind k' = R := by
  obtain ⟨ρ', e, p⟩ := whM_ok P n fuel ρ h0 hs he hf
  rw [e, Res.zW]
  exact hd ρ' p
end L2.L3
set_option maxHeartbeats 4000000
namespace L2
open PySem PySem.Spec PyProof.Rows
theorem ps_comp {X : Cx} {elt iter : Expr} {ifs : List Expr} {sc0 scope : Scope} {N0 : List Str} {px py pos spos : Pos} {xt y : Str} {fs : List Str} {js : List Nat} {i : Nat} {wi : TI} {tt : Addr → List Addr → Shared → Hp → TT} {te : Addr → List Addr → Shared → Hp → TE} (S : CompScope sc0 scope N0 xt fs js) (h0 : X.env.scope = sc0) (hN0 : X.N = N0) (hc : X.calm = true)
    (hi : PI X (.Name xt px) iter wi) (ht : ∀ C fp s₂ H, PTs (cxComp X (xt :: fs) scope C fp s₂ H) ifs (tt C fp s₂ H)) (he : ∀ C fp s₂ H, PE (cxComp X (xt :: fs) scope C fp s₂ H) elt (te C fp s₂ H))
    (nd : X.N.Nodup) (hy : X.N[i]? = some y) (hl : Loc X.env.scope y) (hsw : swapsWith (.ListComp elt [⟨.Name xt px, iter, ifs, 0⟩] scope pos) (some (.Name y py)) spos.line X.env = pure true)
    (hs : autoParam (∀ x, foldedSetIterable iter X.env x = pure x) autoK4._auto_1) (hf : autoParam (X.fn y = true ∨ X.env.scope.names.lookup y = some .local) autoK1._auto_1) :
    PS X (.Assign [.Name y py] (.ListComp elt [⟨.Name xt px, iter, ifs, 0⟩] scope pos) spos) (tAsg (tComp wi tt te js) (gName i)) := by
  intro pins s σ H E I h
  rw [exec_Assign_Name_used _ _ _ _ hsw]
  refine wpAny_bind (wpAny_standAt (wpAny_bind ?_))
  show wpAny _ X.A (do let _ ← comprehension (.ListComp elt [⟨.Name xt px, iter, ifs, 0⟩] scope pos) scope X.env _ (newList []) false (eval iter X.env) (some (assign (.Name y py) X.env))) _ _ s
  refine wpAny_bind (thn (comp_core S h0 hN0 hc hi ht he hs (use := some (assign (.Name y py) X.env)) (Qv := fun _ s' => SP X pins E .next s') I h fun s' C D Ha fl hI hns hC q => ?_) fun _ s' hq => wpAny_pure (wpAny_pure hq))
  show wpAny (model X.prog X.w) X.A (assign (.Name y py) X.env (.ref D)) (fun _ s'' => ∃ m, s''.heap.Ns C m ∧ ∀ h', Heap.SameBut C s''.heap h' → SP X pins E .next { s'' with heap := h' }) X.xe s'
  obtain ⟨m, oC, es, ep, hgC, hdC, hrC⟩ := hns
  have I1 : Inv X pins σ Ha s' := hI s'.heap ⟨rfl, fun b _ => rfl⟩
  have I2 : Inv X (pins ++ [(C, oC)]) σ Ha s' := I1.pins_of fun p hp => by
    rcases List.mem_append.mp hp with z | z
    · exact I1.pin p (List.mem_append_right _ z)
    · have : p = (C, oC) := by simpa using z
      subst this
      exact ⟨hgC, hC.1, hC.2.1, hC.2.2.1, fun v z => by rw [hdC] at z; cases z⟩
  refine wpAny_assign_Name (store_ok I2 nd hy hl (show RelV (.ref D) (.ref D) from rfl) (fun s'' I3 => ?_) hf)
  have hgC' := (I3.pin (C, oC) (List.mem_append_right _ (List.mem_append_right _ List.mem_cons_self))).1
  refine ⟨m, ⟨oC, es, ep, hgC', hdC, hrC⟩, fun h' hsb => ?_⟩
  have I4 : Inv X pins (σ.set i (some (.ref D))) Ha s'' := I3.pins_of fun p hp => I3.pin p (List.mem_append_right _ (List.mem_append_left _ hp))
  exact ⟨_, Ha, Inv.turned (it := C) (t' := s''.toks) I4 (fun b o hb e => (hsb.2 b hb).trans e) hC.1 hC.2.1 hC.2.2.2.1 hC.2.2.2.2.1 hC.2.2.2.2.2, q⟩
end L2
namespace L2.L3
open PySem PySem.Spec PyProof.Rows
variable [CN]
theorem rs_comp {C : Ct} {fr : Bool} (i : Nat) {elt iter : Expr} {ifs : List Expr} {sc0 scope : Scope} {N0 : List Str} {px py pos spos : Pos} {xt y : Str} {fs : List Str} {js : List Nat} {mi : Ev → Res (List D)} {mt : Ev → Res Bool} {me : Ev → Res D} (nd : C.X.N.Nodup) (S : CompScope sc0 scope N0 xt fs js) (h0 : C.X.env.scope = sc0) (hN0 : C.X.N = N0) (hc : C.X.calm = true)
    (hi : RIc C (.Name xt px) iter mi) (ht : ∀ A fp s₂ H, RTs (cC C (xt :: fs) scope A fp s₂ H js) ifs mt) (he : ∀ A fp s₂ H, RE (cC C (xt :: fs) scope A fp s₂ H js) .cl elt me)
    (hy : autoParam (C.X.N[i]? = some y) zX._auto_1) (ho : autoParam (C.om.contains i = false) zX._auto_1) (hln : autoParam (C.ln.contains i = false) zX._auto_1) (hl : autoParam (Loc C.X.env.scope y) autoK11._auto_1)
    (hsw : autoParam (swapsWith (.ListComp elt [⟨.Name xt px, iter, ifs, 0⟩] scope pos) (some (.Name y py)) spos.line C.X.env = pure true) zX._auto_1) (hs : autoParam (∀ x, foldedSetIterable iter C.X.env x = pure x) autoK4._auto_1) (hf : autoParam (C.X.fn y = true ∨ C.X.env.scope.names.lookup y = some .local) autoK12._auto_1) :
    RS C fr (.Assign [.Name y py] (.ListComp elt [⟨.Name xt px, iter, ifs, 0⟩] scope pos) spos) (sS i (eComp mi mt me js)) := by
  obtain ⟨wi, pi, qi⟩ := hi
  refine ⟨_, ps_comp (tt := fun A fp s H => Classical.choose (ht A fp s H)) (te := fun A fp s H => Classical.choose (he A fp s H)) S h0 hN0 hc pi (fun A fp s H => (Classical.choose_spec (ht A fp s H)).1) (fun A fp s H => (Classical.choose_spec (he A fp s H)).1) nd hy hl hsw hs hf, fun Oc Ob σ H ρ E R h => ?_⟩
  refine comp_read qi ht he R (Res.zR (Res.zV h) (fun d _ k v H' s r => ?_) fun c z H' s => z H' (Same.frm s))
  exact k _ H' Ob ((R.same s).set (not_mem_of ho) (not_mem_of hln) (VR.clean r R.oh)) (Same.frm s) fun b z => .inl z
end L2.L3
set_option maxHeartbeats 4000000
namespace L2
open PySem PySem.Spec PyProof.Rows
def pick3 {α : Type} (xs : List α) (l u k : Option Int) : List α := (sliceRange (sliceBounds l u k xs.length).1 (sliceBounds l u k xs.length).2.1 (sliceBounds l u k xs.length).2.2).filterMap (xs[·]?)
def tSl3E (K : PySem.W.Frag) (te : TE) (tl th ts : TO) : TE := fun σ H Q => te σ H fun x H1 => tl σ H1 fun l H2 => th σ H2 fun u H3 => ts σ H3 fun st H4 => st ≠ some 0 ∧ ∃ a xs, x = .ref a ∧ SqL K H4 a xs ∧
  ((pick3 xs l u st).length ≤ xs.length → ∀ p, H4 p = none → Q (.ref p) (upd H4 p (.lst (pick3 xs l u st))))
theorem pe_slice3E {X : Cx} {e st : Expr} {te : TE} {lo hi : Option Expr} {tl th ts : TO} {pos p2 : Pos} (he : PE X e te) (hl : PO X lo tl) (hu : PO X hi th) (hst : PO X (some st) ts) : PE X (.Subscript e (.Slice lo hi (some st) p2) pos) (tSl3E X.K te tl th ts) := by
  intro pins s σ H Q I h
  refine Subscript_ (thn (he pins s σ H _ I h) fun v s1 ⟨x, H1, I1, r1, q1⟩ => ?_)
  refine wpAny_Slice (thn (hl pins s1 σ H1 _ I1 q1) fun vl s2 ⟨l, H2, I2, pl, q2⟩ => thn (hu pins s2 σ H2 _ I2 q2) fun vu s3 ⟨u, H3, I3, pu, q3⟩ => thn (hst pins s3 σ H3 _ I3 q3) fun vs s4 ⟨k, H4, I4, pk, q4⟩ => ?_)
  obtain ⟨h0, a, xs, rfl, hx, q⟩ := q4
  cases r1
  have I5 : Inv X pins σ H4 { s4 with heap := s4.heap.push { cls := .type "slice", data := .fields #[vl, vu, vs] } } := I4.kept (t' := s4.toks) fun b ob q => Heap.get?_push_of_some _ q
  obtain ⟨its, r, ht, hz⟩ := I5.list hx
  have hlen := r.length
  show wpAny (model X.prog X.w) X.A (subscriptTail e (.Slice lo hi (some st) p2) (.ref a) (.ref s4.heap.objs.size)) (EP X pins σ Q) X.xe { s4 with heap := s4.heap.push { cls := .type "slice", data := .fields #[vl, vu, vs] } }
  refine tail_any (ops := [.ref a, .ref s4.heap.objs.size]) ht.isList.typeIs slot_list_getitem.lookup ?_ (by with_unfolding_all rfl)
  refine wpAny_getItem_list_slice ht.isList (Heap.IsSliceOf.new ..) pl pu pk h0 ?_ (by rw [List.size_toArray] <;> bv_omega)
  have sz := slicePick_size_le its.toArray l u k
  unfold slicePick at sz ⊢
  unfold pick3 at q
  rw [hlen] at q
  rw [List.size_toArray] at sz ⊢
  generalize sliceRange (sliceBounds l u k its.length).1 (sliceBounds l u k its.length).2.1 (sliceBounds l u k its.length).2.2 = ks at sz q ⊢
  have rv := vals_pick r ks
  have rl := rv.length
  rw [List.size_toArray] at sz
  exact ⟨.ref (s4.heap.push { cls := .type "slice", data := .fields #[vl, vu, vs] }).objs.size, _, I5.laid (t' := s4.toks) (o := .lst (ks.filterMap (xs[·]?))) (fun b ob q => Heap.get?_push_of_some _ q) (Nat.le_refl _) ⟨by bv_omega, _, 0, rv, Heap.get?_push_size _ rfl⟩, rfl, q (by bv_omega) _ (I5.hok.fresh (Nat.le_refl _))⟩
end L2
namespace L2.L3
open PySem PySem.Spec PyProof.Rows
variable [CN]
def eS3 (m : Ev → Res D) (lo hi st : Ev → Res (Option Int)) : Ev → Res D := fun ρ => (m ρ).bind fun x => (lo ρ).bind fun l => (hi ρ).bind fun u => (st ρ).bind fun k => (Res.lft (lstD x)).bind fun ds => if k ≠ some 0 then .ok (.list (pick3 ds l u k)) else .no
theorem reps_pick {H : Hp} {O : Addr → Prop} {vs : List V} {ds : List D} (r : Reps H O vs ds) : ∀ ks : List Nat, Reps H O (ks.filterMap (vs[·]?)) (ks.filterMap (ds[·]?))
  | [] => .nil
  | k :: ks => by
    rw [List.filterMap_cons, List.filterMap_cons]
    cases e : ds[k]? with
    | none =>
      have : vs[k]? = none := by
        rw [List.getElem?_eq_none_iff] at e ⊢
        rw [r.length]; exact e
      rw [this]
      exact reps_pick r ks
    | some d =>
      obtain ⟨v, ev, rv⟩ := r.get e
      rw [ev]
      exact .cons rv (reps_pick r ks)
theorem re_slice3 {C : Ct} {e st : Expr} {lo hi : Option Expr} {mda : Md} {me : Ev → Res D} {ml mh ms : Ev → Res (Option Int)} {p2 pos : Pos} (he : RE C mda e me) (hl : RO C lo ml) (hu : RO C hi mh) (hs : RO C (some st) ms) :
    RE C .new (.Subscript e (.Slice lo hi (some st) p2) pos) (eS3 me ml mh ms) := by
  obtain ⟨t, p, q⟩ := he
  obtain ⟨tl, pl, ql⟩ := hl
  obtain ⟨th, ph, qh⟩ := hu
  obtain ⟨ts, ps, qs⟩ := hs
  refine ⟨_, pe_slice3E p pl ph ps, fun Oc Ob σ H ρ Q R h => q Oc Ob σ H ρ _ R (Res.zR (Res.zV h) (fun d _ k v H1 s1 r => ?_) fun _ z => z)⟩
  refine ql Oc Ob σ H1 ρ _ (R.same s1) (Res.zR (Res.zV k) (fun l _ k H2 s2 => ?_) fun c z H' s' => z H' (s1.trans s'))
  refine qh Oc Ob σ H2 ρ _ ((R.same s1).same s2) (Res.zR (Res.zV k) (fun u _ k H3 s3 => ?_) fun c z H' s' => z H' ((s1.trans s2).trans s'))
  refine qs Oc Ob σ H3 ρ _ (((R.same s1).same s2).same s3) (Res.zR (Res.zV k) (fun st _ k H4 s4 => ?_) fun c z H' s' => z H' (((s1.trans s2).trans s3).trans s'))
  obtain ⟨ds, ed, k5⟩ := Res.vX (Res.zV k)
  clear k
  obtain rfl := lstD_some ed
  by_cases h0 : st ≠ some 0
  · rw [if_pos h0] at k5
    have S := ((s1.trans s2).trans s3).trans s4
    obtain ⟨a, ys, rfl, rd, rs⟩ := ((r.va R.oh).same ((s2.trans s3).trans s4)).list
    refine ⟨h0, a, ys, rfl, .inl rd, fun _ p hp => k5 _ _ (S.trans (Same.new hp)) (new_list S hp ?_)⟩
    unfold pick3
    rw [rs.length]
    exact reps_pick rs _
  · rw [if_neg h0] at k5
    exact k5.elim
theorem pick3_map {α β : Type} (f : α → β) (xs : List α) (l u k : Option Int) : pick3 (xs.map f) l u k = (pick3 xs l u k).map f := by
  unfold pick3
  rw [List.length_map]
  generalize sliceRange (sliceBounds l u k xs.length).1 (sliceBounds l u k xs.length).2.1 (sliceBounds l u k xs.length).2.2 = ks
  induction ks with
  | nil => rfl
  | cons a ks ih =>
    rw [List.filterMap_cons, List.filterMap_cons, List.getElem?_map]
    cases xs[a]? with
    | none => exact ih
    | some y => rw [Option.map_some, List.map_cons, ← ih]
theorem yF (a : Ev → Res D) (l h st : Ev → Res (Option Int)) (ρ : Ev) : eS3 a l h st ρ = (a ρ).bind fun x => (l ρ).bind fun l => (h ρ).bind fun u => (st ρ).bind fun k => (Res.lft (lstD x)).bind fun ds => if k ≠ some 0 then .ok (.list (pick3 ds l u k)) else .no := rfl
end L2.L3
namespace L2.L3
open PySem
theorem catL_lI {xs ys : List Int} (h : xs.length + ys.length ≤ 1000) : catL (lI xs) (lI ys) = some (lI (xs ++ ys)) := by
  unfold catL
  simp only
  rw [List.length_map, List.length_map, if_pos (Nat.le_of_lt (small1000 h))]
  simp only [lI, List.map_append]
theorem sumD_lI (xs : List Int) : sumD [lI xs] = some (.int xs.sum) := by
  unfold sumD
  simp only [intsOf_map, Option.map_some]
end L2.L3
namespace L2.L3
open PySem
variable [CN]
section
variable {X : Cx}
end
end L2.L3
namespace L2.L3
open PySem
variable [CN]
section
variable {X : Cx}
end
end L2.L3
namespace L2.L3
open PySem PyProof.Rows
variable [CN]
section
variable {X : Cx}
end
end L2.L3
namespace L2.L3
open PySem PyProof.Rows
variable [CN]
section
variable {X : Cx}
end
section
variable {C : Ct} {fr : Bool} {md : Md} {e : Expr} {me : Ev → Res D} {pos : Pos}
def atP (xd : List D) : D → Option D
  | .int j => if 0 ≤ j then atI xd j else none
  | _ => none
def sJ0 (i : Nat) (mk : Ev → Res D) (f : D → D → Option D) (me : Ev → Res D) : Ev → Res Out := fun ρ => (eV i ρ).bind fun d => (Res.lft (lstD d)).bind fun xd => (mk ρ).bind fun k => (Res.lft (atP xd k)).bind fun old => (me ρ).bind fun v => (Res.lft (f old v)).bind fun w => (Res.lft (setD xd k w)).bind fun ds => .ok (.nx (ρ.set i (some (.list ds))))
theorem yO (i : Nat) (mk : Ev → Res D) (f : D → D → Option D) (me : Ev → Res D) (ρ : Ev) : sJ0 i mk f me ρ = (eV i ρ).bind fun d => (Res.lft (lstD d)).bind fun xd => (mk ρ).bind fun k => (Res.lft (atP xd k)).bind fun old => (me ρ).bind fun v => (Res.lft (f old v)).bind fun w => (Res.lft (setD xd k w)).bind fun ds => .ok (.nx (ρ.set i (some (.list ds)))) := rfl
end
end L2.L3
namespace L2.L3
open PySem PyProof.Rows
variable [CN]
section
variable {X : Cx} {pins : List (Addr × Obj)} {σ : St} {H : Hp} {s : Shared} {h' : Heap}
theorem turned2 {t' : Nat} {e it : Addr} (I : Inv X pins σ H s) (k : ∀ b o, b ≠ e → b ≠ it → s.heap.get? b = some o → h'.get? b = some o) (fe : FpOk X pins H e) (fi : FpOk X pins H it) : Inv X pins σ H { s with heap := h', toks := t' } := by
  have nit : ∀ b u, H b = some u → b ≠ e ∧ b ≠ it := fun b u q => ⟨fun z => (by rw [z, fe.1] at q; cases q), fun z => by rw [z, fi.1] at q; cases q⟩
  refine I.step (g' := s.gens) (d' := s.drawn) (ch := [e, it]) (fun b hb => ?_) (fun b o _ _ hc q _ => k b o (fun z => hc (by simp [z])) (fun z => hc (by simp [z])) q) (fun b o _ _ hc q _ => ⟨o.slots, k b o (fun z => hc (by simp [z])) (fun z => hc (by simp [z])) q⟩) (fun _ _ _ _ n => n)
    (fun b o hc q => ⟨o, k b o (fun z => hc (by simp [z])) (fun z => hc (by simp [z])) q⟩) (fun _ _ q => q) (fun _ _ _ q => q) (fun b ps q => ⟨#[], by rw [q]; simp⟩) (fun m hm => ?_) (fun b u q => ?_) I.bare
  · have z : b = e ∨ b = it := by simpa using hb
    rcases z with rfl | rfl
    · obtain ⟨f0, f1, f2, f3, f4, f5⟩ := fe
      exact ⟨f3, f1, f4, f5⟩
    · obtain ⟨f0, f1, f2, f3, f4, f5⟩ := fi
      exact ⟨f3, f1, f4, f5⟩
  · obtain ⟨o, es, ep, ho, r⟩ := hm
    exact ⟨o, es, ep, k _ o (Ne.symm fe.2.1) (Ne.symm fi.2.1) ho, r⟩
  · refine (I.hok b u q).stay (fun c v hc q' => ?_) (fun _ q => q) fun _ _ q => q
    have nc : c ≠ e ∧ c ≠ it := by
      rcases hc with z | z
      · rw [z]; exact nit b u q
      · exact nit c _ z
    exact k c v nc.1 nc.2 q'
end
def Ite (K : PySem.W.Frag) (a : Addr) : It :=
  ⟨fun i H => ∃ xs x, SqL K H a xs ∧ xs[i]? = some x, fun i H x H' => ∃ t y, H t = none ∧ x = .ref t ∧ H' = upd H t (.tup [.int (i : Int), y]) ∧ ∀ xs, SqL K H a xs → xs[i]? = some y, fun i H => ∃ xs, SqL K H a xs ∧ xs.length ≤ i⟩
theorem turn_enum {P : Program} {w : World} {K : PySem.W.Frag} {es : List Expr} {x1 : Nat} {tp : Pos} (a e it : Addr) (hne : e ≠ it) : Turn P w K (.Tuple es x1 tp) (Ite K a) [e, it] e (fun i h => (∃ old, IsEnum h e it i old) ∧ h.IsListIter it a i) where
  mem := by simp
  obj := fun i h st b hb => by
    obtain ⟨⟨old, he⟩, o, ho, hc, hd⟩ := st
    have z : b = e ∨ b = it := by simpa using hb
    rcases z with rfl | rfl
    · exact ⟨_, he, fun v z => by cases z⟩
    · exact ⟨o, ho, fun v z => by rw [hd] at z; cases z⟩
  keep := fun i h h' st k => ⟨st.1.elim fun old he => ⟨old, k e (by simp) _ he⟩, st.2.at fun o q => k it (by simp) o q⟩
  item := by
    intro X hP hw hK hc i pins s σ H E I hf st hg
    subst hP hw hK
    obtain ⟨xs, x, hq, hx⟩ := hg
    obtain ⟨its, rv, p, hz⟩ := I.list hq
    obtain ⟨u, hu, ru⟩ := rv.get hx
    obtain ⟨⟨old, he⟩, hit⟩ := st
    have fe := hf e (by simp)
    have fi := hf it (by simp)
    refine wpAny_pyNext_enum_item he hit p.isList (x := u) (by simpa using hu) hne fun h' ho hit' hT hsz hk => ⟨_, rfl, ?_⟩
    have hfr : H s.heap.objs.size = none := I.hok.fresh (Nat.le_refl _)
    have I1 : Inv X pins σ (upd H s.heap.objs.size (.tup [.int (i : Int), x])) { s with heap := s.heap.push { cls := .type "tuple", data := .seq #[.int i s.toks, u] }, toks := s.toks + 1 } :=
      I.laid (t' := s.toks + 1) (fun b o q => Heap.get?_push_of_some _ q) (Nat.le_refl _) ⟨by show 2 ≤ sizeLine; decide, [.int i s.toks, u], .cons ⟨_, rfl⟩ (.cons ru .nil), TupAt.new _ _⟩
    have lte : e < s.heap.objs.size := Heap.lt_size he
    have lti : it < s.heap.objs.size := by obtain ⟨_, q, _⟩ := hit; exact Heap.lt_size q
    have fe1 : FpOk X pins (upd H s.heap.objs.size (.tup [.int (i : Int), x])) e := ⟨by rw [yA (Nat.ne_of_lt lte)]; exact fe.1, fe.2⟩
    have fi1 : FpOk X pins (upd H s.heap.objs.size (.tup [.int (i : Int), x])) it := ⟨by rw [yA (Nat.ne_of_lt lti)]; exact fi.1, fi.2⟩
    have I2 : Inv X pins σ (upd H s.heap.objs.size (.tup [.int (i : Int), x])) { s with heap := h', toks := s.toks + 1 } := by
      refine turned2 (s := { s with heap := s.heap.push { cls := .type "tuple", data := .seq #[.int i s.toks, u] }, toks := s.toks + 1 }) (h' := h') (t' := s.toks + 1) I1 (fun b o b1 b2 q => ?_) fe1 fi1
      by_cases z : b = s.heap.objs.size
      · subst z
        have q : (s.heap.push { cls := .type "tuple", data := .seq #[.int i s.toks, u] }).get? s.heap.objs.size = some o := q
        rw [Heap.get?_push_size _ rfl] at q
        rw [hT]; exact q
      · have q : (s.heap.push { cls := .type "tuple", data := .seq #[.int i s.toks, u] }).get? b = some o := q
        rw [Heap.get?_push_ne _ _ _ z] at q
        exact hk b o b1 b2 q
    refine wpAny_letOwnedTupleGo_enum ho fun h2 he2 hs2 => ?_
    refine ⟨.ref s.heap.objs.size, _, turned2 (s := { s with heap := h', toks := s.toks + 1 }) (h' := h2) (t' := s.toks + 1) I2 (fun b o b1 b2 q => (hs2.2 b b1).trans q) fe1 fi1, rfl, ⟨_, x, hfr, rfl, rfl, fun ys hy => by rw [I.list_inj hy hq]; exact hx⟩, ⟨⟨_, he2⟩, hit'.at fun o q => (hs2.2 it hne.symm).trans q⟩, fun b hb => ?_⟩
    have z : b = e ∨ b = it := by simpa using hb
    rcases z with rfl | rfl
    · exact fe1.1
    · exact fi1.1
  done := by
    intro X hP hw hK hc i pins s σ H E I hf st hg
    subst hP hw hK
    obtain ⟨xs, hq, hx⟩ := hg
    obtain ⟨its, rv, p, hz⟩ := I.list hq
    obtain ⟨⟨old, he⟩, hit⟩ := st
    have hl := rv.length
    exact wpAny_pyNext_enum_end (I.ok.hd hc) he hit p.isList (by simp; bv_omega) fun h' eb => ⟨rfl, turned2 (t' := s.toks) I (fun b o _ b2 q => eb b o b2 q) (hf e (by simp)) (hf it (by simp))⟩
  self := fun _ _ _ _ _ st h => st.1.elim fun old he => wpAny_pyIter_enum he h
end L2.L3
namespace PySem
section
variable {prog : Program} {w : World} {A : Around} {E : Value → Shared → Prop} {s : Shared}
theorem drawsT (hA : A.handled = none) (it t : Addr) (its : Array Value) (hne : it ≠ t) : Draws prog w A it [it, t] its.size (fun i x => its[i]? = some x) (fun i h => h.IsTupleIter it t i ∧ h.IsTuple t its) where
  live := fun i h st => let ⟨o, q, _⟩ := st.1; ⟨o, q⟩
  frame := fun i h h' st k => ⟨let ⟨o, q, r⟩ := st.1; ⟨o, k it (by simp) o q, r⟩, let ⟨o, q, r⟩ := st.2; ⟨o, k t (by simp) o q, r⟩⟩
  item := fun i s Q E hi st hQ => tup_item st.1 st.2 (v := its[i]) (by simp [hi]) fun h' z sb => hQ _ h' s.toks (by simp [hi]) ⟨z, let ⟨o, q, r⟩ := st.2; ⟨o, (sb.2 t (Ne.symm hne)).trans q, r⟩⟩ sb
  done := fun s Q E st hE => tup_end hA st.1 st.2 (by simp) hE
theorem drawsE (hA : A.handled = none) (it t : Addr) (its : Array Value) (n : Nat) (hx : its[n]? = none) (hne : it ≠ t) : Draws prog w A it [it, t] n (fun _ _ => False) (fun j h => j = n ∧ h.IsTupleIter it t n ∧ h.IsTuple t its) where
  live := fun i h st => let ⟨o, q, _⟩ := st.2.1; ⟨o, q⟩
  frame := fun i h h' st k => ⟨st.1, let ⟨o, q, r⟩ := st.2.1; ⟨o, k it (by simp) o q, r⟩, let ⟨o, q, r⟩ := st.2.2; ⟨o, k t (by simp) o q, r⟩⟩
  item := fun i s Q E hi st hQ => absurd st.1 (Nat.ne_of_lt hi)
  done := fun s Q E st hE => tup_end hA st.2.1 st.2.2 hx hE
end
end PySem
namespace L2.L3
open PySem PyProof.Rows
variable [CN]
def Ith (K : PySem.W.Frag) (a : Addr) : It :=
  ⟨fun i H => ∃ xs x, SqT K H a xs ∧ xs[i]? = some x, fun i H x H' => ∃ t y, H t = none ∧ x = .ref t ∧ H' = upd H t (.tup [.int (i : Int), y]) ∧ ∀ xs, SqT K H a xs → xs[i]? = some y, fun i H => ∃ xs, SqT K H a xs ∧ xs.length ≤ i⟩
theorem turn_enumT {P : Program} {w : World} {K : PySem.W.Frag} {es : List Expr} {x1 : Nat} {tp : Pos} (a e it : Addr) (hne : e ≠ it) (hia : it ≠ a) (hea : e ≠ a) : Turn P w K (.Tuple es x1 tp) (Ith K a) [e, it] e (fun i h => (∃ old, IsEnum h e it i old) ∧ h.IsTupleIter it a i) where
  mem := by simp
  obj := fun i h st b hb => by
    obtain ⟨⟨old, he⟩, o, ho, hc, hd⟩ := st
    have z : b = e ∨ b = it := by simpa using hb
    rcases z with rfl | rfl
    · exact ⟨_, he, fun v z => by cases z⟩
    · exact ⟨o, ho, fun v z => by rw [hd] at z; cases z⟩
  keep := fun i h h' st k => ⟨st.1.elim fun old he => ⟨old, k e (by simp) _ he⟩, let ⟨o, q, r⟩ := st.2; ⟨o, k it (by simp) o q, r⟩⟩
  item := by
    intro X hP hw hK hc i pins s σ H E I hf st hg
    subst hP hw hK
    obtain ⟨xs, x, hq, hx⟩ := hg
    obtain ⟨its, rv, p, hz⟩ := I.tuple hq
    obtain ⟨u, hu, ru⟩ := rv.get hx
    obtain ⟨⟨old, he⟩, hit⟩ := st
    have fe := hf e (by simp)
    have fi := hf it (by simp)
    have hlt : i < its.toArray.size := by
      have := (List.getElem?_eq_some_iff.mp hu).1
      simpa using this
    refine wpAny_pyNext_enum_itemD (drawsT (show X.A.in1.handled = none from I.ok.hd hc) it a its.toArray hia) he ⟨hit, p⟩ hlt hne (by simp [hne, hea]) fun x' h' tk hP' ho hit' hT hsz hk => ⟨_, rfl, ?_⟩
    have ex : x' = u := by
      have h2 : its.toArray[i]? = some u := by simpa using hu
      have h3 : its.toArray[i]? = some x' := hP'
      rw [h2] at h3
      exact (Option.some.inj h3).symm
    subst ex
    have hfr : H s.heap.objs.size = none := I.hok.fresh (Nat.le_refl _)
    have I1 : Inv X pins σ (upd H s.heap.objs.size (.tup [.int (i : Int), x])) { s with heap := s.heap.push { cls := .type "tuple", data := .seq #[.int i tk, x'] }, toks := tk + 1 } :=
      I.laid (t' := tk + 1) (fun b o q => Heap.get?_push_of_some _ q) (Nat.le_refl _) ⟨by show 2 ≤ sizeLine; decide, [.int i tk, x'], .cons ⟨_, rfl⟩ (.cons ru .nil), TupAt.new _ _⟩
    have lte : e < s.heap.objs.size := Heap.lt_size he
    have lti : it < s.heap.objs.size := by obtain ⟨_, q, _⟩ := hit; exact Heap.lt_size q
    have fe1 : FpOk X pins (upd H s.heap.objs.size (.tup [.int (i : Int), x])) e := ⟨by rw [yA (Nat.ne_of_lt lte)]; exact fe.1, fe.2⟩
    have fi1 : FpOk X pins (upd H s.heap.objs.size (.tup [.int (i : Int), x])) it := ⟨by rw [yA (Nat.ne_of_lt lti)]; exact fi.1, fi.2⟩
    have I2 : Inv X pins σ (upd H s.heap.objs.size (.tup [.int (i : Int), x])) { s with heap := h', toks := tk + 1 } := by
      refine turned2 (s := { s with heap := s.heap.push { cls := .type "tuple", data := .seq #[.int i tk, x'] }, toks := tk + 1 }) (h' := h') (t' := tk + 1) I1 (fun b o b1 b2 q => ?_) fe1 fi1
      by_cases z : b = s.heap.objs.size
      · subst z
        have q : (s.heap.push { cls := .type "tuple", data := .seq #[.int i tk, x'] }).get? s.heap.objs.size = some o := q
        rw [Heap.get?_push_size _ rfl] at q
        rw [hT]; exact q
      · have q : (s.heap.push { cls := .type "tuple", data := .seq #[.int i tk, x'] }).get? b = some o := q
        rw [Heap.get?_push_ne _ _ _ z] at q
        exact hk b o b1 b2 q
    refine wpAny_letOwnedTupleGo_enum ho fun h2 he2 hs2 => ?_
    refine ⟨.ref s.heap.objs.size, _, turned2 (s := { s with heap := h', toks := tk + 1 }) (h' := h2) (t' := tk + 1) I2 (fun b o b1 b2 q => (hs2.2 b b1).trans q) fe1 fi1, rfl, ⟨_, x, hfr, rfl, rfl, fun ys hy => by rw [I.tuple_inj hy hq]; exact hx⟩, ⟨⟨_, he2⟩, let ⟨o, q, r⟩ := hit'.1; ⟨o, (hs2.2 it hne.symm).trans q, r⟩⟩, fun b hb => ?_⟩
    have z : b = e ∨ b = it := by simpa using hb
    rcases z with rfl | rfl
    · exact fe1.1
    · exact fi1.1
  done := by
    intro X hP hw hK hc i pins s σ H E I hf st hg
    subst hP hw hK
    obtain ⟨xs, hq, hx⟩ := hg
    obtain ⟨its, rv, p, hz⟩ := I.tuple hq
    obtain ⟨⟨old, he⟩, hit⟩ := st
    have hl := rv.length
    exact wpAny_pyNext_enum_endD (drawsE (show X.A.in1.handled = none from I.ok.hd hc) it a its.toArray i (by simp; bv_omega) hia) he ⟨rfl, hit, p⟩ fun h' eb => ⟨rfl, turned2 (t' := s.toks) I (fun b o _ b2 q => eb b o b2 q) (hf e (by simp)) (hf it (by simp))⟩
  self := fun _ _ _ _ _ st h => st.1.elim fun old he => wpAny_pyIter_enum he h
def iEnum (K : PySem.W.Frag) (t : TA) : TI := fun σ H R => t σ H fun vs H1 => ∃ a, vs = [.ref a] ∧ (((∃ xs, SqL K H1 a xs) ∧ R (Ite K a) H1) ∨ ((∃ xs, SqT K H1 a xs) ∧ R (Ith K a) H1))
theorem pi_enum {X : Cx} {l : Expr} {ta : TA} {es : List Expr} {x1 : Nat} {tp p pos : Pos} (hg : Gl X "enumerate") (hm : X.mg "enumerate" = none) (ha : PA X [l] ta) (hs : autoParam (starEach [l] X.env = [(false, eval l X.env)]) zX._auto_1) : PI X (.Tuple es x1 tp) (.Call (.Name "enumerate" p) [l] [] pos) (iEnum X.K ta) := by
  intro pins s σ H R I h
  refine Call_ (ld_blt I hg hm boot_enumerate (PyProof.Rows.callWith_type1 (thn (ha pos pins s σ H _ I h) fun us s1 ⟨vs, H1, I1, r1, q1⟩ => ?_) hs rfl))
  obtain ⟨a, e, q1⟩ := q1
  subst e
  obtain ⟨u, rfl, ru⟩ := vals1 r1
  cases ru
  rcases q1 with ⟨⟨xs, hq⟩, q⟩ | ⟨⟨xs, hq⟩, q⟩
  · obtain ⟨its, rv, pl, hz⟩ := I1.list hq
    refine call_enumerate_list pl.isList fun h' he hit hsz hk => ?_
    refine wpAny_pyIter_enum he ?_
    refine ⟨s1.heap.objs.size + 1, [s1.heap.objs.size + 1, s1.heap.objs.size], _, _, H1, rfl, I1.kept (t' := s1.toks) hk, turn_enum a (s1.heap.objs.size + 1) s1.heap.objs.size (Nat.succ_ne_self _), ⟨⟨_, he⟩, hit⟩, fun b hb => ?_, q⟩
    have z : b = s1.heap.objs.size + 1 ∨ b = s1.heap.objs.size := by simpa using hb
    rcases z with rfl | rfl
    · exact I1.fpOk (by bv_omega) (I1.hok.fresh (by bv_omega))
    · exact I1.fpOk (Nat.le_refl _) (I1.hok.fresh (Nat.le_refl _))
  · obtain ⟨its, rv, pt, hz⟩ := I1.tuple hq
    have lta : a < s1.heap.objs.size := by obtain ⟨o, q, _⟩ := pt; exact Heap.lt_size q
    refine enum_by (oI := { cls := .type "tuple_iterator", data := .fields #[.ref a, .int 0 0] }) rfl (fun B P E' z => wpAny_pyIter_tuple (show s1.heap.IsTuple a its.toArray from pt) z) fun h' he h0 hk => ?_
    have hit : h'.IsTupleIter s1.heap.objs.size a 0 := ⟨_, h0, rfl, rfl⟩
    refine wpAny_pyIter_enum he ?_
    refine ⟨s1.heap.objs.size + 1, [s1.heap.objs.size + 1, s1.heap.objs.size], _, _, H1, rfl, I1.kept (t' := s1.toks) hk, turn_enumT a (s1.heap.objs.size + 1) s1.heap.objs.size (Nat.succ_ne_self _) (Nat.ne_of_gt lta) (Nat.ne_of_gt (Nat.lt_succ_of_lt lta)), ⟨⟨_, he⟩, hit⟩, fun b hb => ?_, q⟩
    have z : b = s1.heap.objs.size + 1 ∨ b = s1.heap.objs.size := by simpa using hb
    rcases z with rfl | rfl
    · exact I1.fpOk (by bv_omega) (I1.hok.fresh (by bv_omega))
    · exact I1.fpOk (Nat.le_refl _) (I1.hok.fresh (Nat.le_refl _))
def WalksO (Oc : Wd) (Ob : Addr → Prop) (J : It) (H1 : Hp) (ds : List D) : Prop :=
  ∀ (H2 : Hp) (Ob2 : Addr → Prop), Frm Ob H1 H2 → (∀ b, Ob2 b → Ob b ∨ H1 b = none) → (∀ a, Oc a ∨ Ob2 a → H2 a ≠ none) → ∀ i, (∀ d, ds[i]? = some d → J.go i H2 ∧ ∀ x H3, J.yld i H2 x H3 → Same H2 H3 ∧ Rep H3 (Uni Oc Ob2) x d) ∧ (ds.length ≤ i → J.stop i H2)
def RIo (C : Ct) (tg iter : Expr) (m : Ev → Res (List D)) : Prop :=
  ∃ wi, PI C.X tg iter wi ∧ ∀ (Oc : Wd) (Ob : Addr → Prop) (σ : St) (H : Hp) (ρ : Ev) (R : It → Hp → Prop), Rel Oc Ob C.om C.ln σ H ρ →
    (m ρ).post (fun ds => ∀ J H1, Same H H1 → WalksO Oc Ob J H1 ds → R J H1) (fun c => ∀ H', Same H H' → C.XE c H') → wi σ H R
section
variable {C : Ct} {fr : Bool} {body : List Stmt} {m : Ev → Res Out} {mi : Ev → Res (List D)} {g : D → Ev → Option Ev} {pos : Pos}
def enumD (ds : List D) : List D := (List.range ds.length).map fun (i : Nat) => PyData.tuple [.int (i : Int), ds.getD i .none]
def i_enumerate (m : Ev → Res D) : Ev → Res (List D) := fun ρ => (m ρ).bind fun d => (Res.lft (seqD d)).bind fun ds => .ok (enumD ds)
theorem walks_enum {K : PySem.W.Frag} {Oc : Wd} {Ob : Addr → Prop} {H1 : Hp} {a : Addr} {ys : List V} {ds : List D} (r : Rd H1 a (.lst ys)) (n : ¬ Ob a) (rs : Reps H1 (Uni Oc Ob) ys ds) : WalksO Oc Ob (Ite K a) H1 (enumD ds) := by
  intro H2 Ob2 f s oh i
  have r2 : Rd H2 a (.lst ys) := rd_keep r fun o e => f a o e n
  have rs2 := rs.step f s
  have le : (enumD ds).length = ds.length := by unfold enumD; simp
  refine ⟨fun d e => ?_, fun h => ⟨ys, .inl r2, by rw [rs2.length]; rw [le] at h; exact h⟩⟩
  unfold enumD at e
  rw [List.getElem?_map] at e
  obtain ⟨j, ej, rfl⟩ := Option.map_eq_some_iff.mp e
  have hi : i < ds.length := by
    have := (List.getElem?_eq_some_iff.mp ej).1
    simpa using this
  rw [List.getElem?_range hi] at ej
  cases ej
  have ed : ds[i]? = some (ds.getD i .none) := by rw [List.getD_eq_getElem?_getD, List.getElem?_eq_getElem hi]; rfl
  obtain ⟨v, ev, rv⟩ := rs2.get ed
  refine ⟨⟨ys, v, .inl r2, ev⟩, fun x H3 hy => ?_⟩
  obtain ⟨t, y, ht, rfl, rfl, hy⟩ := hy
  have := hy ys (.inl r2)
  rw [ev] at this
  cases this
  exact ⟨Same.new ht, new_tup oh ht (.cons (.int _) (.cons rv .nil))⟩
theorem walks_enumT {K : PySem.W.Frag} {Oc : Wd} {Ob : Addr → Prop} {H1 : Hp} {a : Addr} {ys : List V} {ds : List D} (r : Rd H1 a (.tup ys)) (n : ¬ Ob a) (rs : Reps H1 (Uni Oc Ob) ys ds) : WalksO Oc Ob (Ith K a) H1 (enumD ds) := by
  intro H2 Ob2 f s oh i
  have r2 : Rd H2 a (.tup ys) := rd_keep r fun o e => f a o e n
  have rs2 := rs.step f s
  have le : (enumD ds).length = ds.length := by unfold enumD; simp
  refine ⟨fun d e => ?_, fun h => ⟨ys, .inl r2, by rw [rs2.length]; rw [le] at h; exact h⟩⟩
  unfold enumD at e
  rw [List.getElem?_map] at e
  obtain ⟨j, ej, rfl⟩ := Option.map_eq_some_iff.mp e
  have hi : i < ds.length := by
    have := (List.getElem?_eq_some_iff.mp ej).1
    simpa using this
  rw [List.getElem?_range hi] at ej
  cases ej
  have ed : ds[i]? = some (ds.getD i .none) := by rw [List.getD_eq_getElem?_getD, List.getElem?_eq_getElem hi]; rfl
  obtain ⟨v, ev, rv⟩ := rs2.get ed
  refine ⟨⟨ys, v, .inl r2, ev⟩, fun x H3 hy => ?_⟩
  obtain ⟨t, y, ht, rfl, rfl, hy⟩ := hy
  have := hy ys (.inl r2)
  rw [ev] at this
  cases this
  exact ⟨Same.new ht, new_tup oh ht (.cons (.int _) (.cons rv .nil))⟩
theorem ri_enumerate {e : Expr} {ma : Ev → Res D} {es : List Expr} {x1 : Nat} {tp p pos : Pos} (hm : C.X.mg "enumerate" = none) (h : RE C .rd e ma) (hg : autoParam (Gl C.X "enumerate") zX._auto_1) (hs : autoParam (starEach [e] C.X.env = [(false, eval e C.X.env)]) zX._auto_1) (hs2 : autoParam (starEach [e] C.X.env = (false, eval e C.X.env) :: starEach [] C.X.env) zX._auto_1) : RIo C (.Tuple es x1 tp) (.Call (.Name "enumerate" p) [e] [] pos) (i_enumerate ma) := by
  obtain ⟨t, pe, q⟩ := h
  refine ⟨_, pi_enum hg hm (yB pe pa_nil hs2) hs, fun Oc Ob σ H ρ W R h => q Oc Ob σ H ρ _ R (Res.zR (Res.zV h) (fun d _ k v H' s r => ?_) fun _ z => z)⟩
  obtain ⟨ds, e, k⟩ := Res.vX (Res.zV k)
  rcases r with r | ⟨a, ys, ds', rfl, rfl, e3, e4, e5⟩
  · cases r with
    | lst r n t => cases e; exact ⟨_, rfl, .inl ⟨⟨_, .inl r⟩, k _ H' s (walks_enum r (fun z => n (.inr z)) t)⟩⟩
    | tup r n t => cases e; exact ⟨_, rfl, .inr ⟨⟨_, .inl r⟩, k _ H' s (walks_enumT r (fun z => n (.inr z)) t)⟩⟩
    | _ => cases e
  · cases e
    exact ⟨_, rfl, .inl ⟨⟨_, SqL.of e3⟩, k _ H' s (walks_enum (.inl e3) e4 e5)⟩⟩
end
theorem zY (m : Ev → Res D) (ρ : Ev) : i_enumerate m ρ = (m ρ).bind fun d => (Res.lft (seqD d)).bind fun ds => .ok (enumD ds) := rfl
end L2.L3
set_option maxHeartbeats 4000000
namespace PySem
section
variable {prog : Program} {w : World} {A : Around} {E : Value → Shared → Prop} {s : Shared}
end
end PySem
namespace L2.L3
open PySem PySem.Spec PyProof.Rows
variable [CN]
def sA (me : Ev → Res D) (g : D → Ev → Option Ev) : Ev → Res Out := fun ρ => (me ρ).bind fun d => (Res.lft (g d ρ)).bind fun ρ' => .ok (.nx ρ')
theorem wT (me : Ev → Res D) (g : D → Ev → Option Ev) (ρ : Ev) : sA me g ρ = (me ρ).bind fun d => (Res.lft (g d ρ)).bind fun ρ' => .ok (.nx ρ') := rfl
theorem rs_asgA {C : Ct} {fr : Bool} {e tg : Expr} {pos : Pos} {me : Ev → Res D} {g : D → Ev → Option Ev} (he : RE C .cl e me) (hg : RG C tg g) (hs : autoParam (swapsWithSole [tg] e pos.line C.X.env = pure false) zX._auto_1) (hw : autoParam (swappedStores [tg] e C.X.env = pure none) zX._auto_1)
    (h1 : autoParam ((assignEach [tg] C.X.env).map (·.2) = [assign tg C.X.env]) zX._auto_1) : RS C fr (.Assign [tg] e pos) (sA me g) := rs_asg he hg hs hw h1
end L2.L3
set_option maxHeartbeats 4000000
namespace L2.L3
open PySem PySem.Spec PyProof.Rows
variable [CN]
section
variable {X : Cx}
def rCnt (K : PySem.W.Frag) : V → List V → Hp → VK → Prop := fun x vs H Q => ∃ (p : Addr) (xs : List V) (y : V), x = .ref p ∧ vs = [y] ∧ SqL K H p xs ∧ flatV y = true ∧ xs.all flatV = true ∧ Q (.int ((xs.countP fun z => eqV z y : Nat) : Int)) H
theorem count_eqU {y : V} : ∀ {xs : List V} {us : List Value}, Vals xs us → xs.all flatV = true → us.countP (eqU y) = xs.countP fun z => eqV z y
  | _, _, .nil, _ => rfl
  | _, _, .cons h t, f => by
    rw [List.all_cons, Bool.and_eq_true] at f
    rw [List.countP_cons, List.countP_cons, count_eqU t f.2, eqU_of h f.1]
theorem mt_count : MtR X "list.count" (rCnt X.K) := by
  intro pins s σ H x vs v us Q I rx rv h
  obtain ⟨p, xs, y, rfl, rfl, hq, fy, fs, q⟩ := h
  cases rx
  obtain ⟨u, rfl, ru⟩ := vals1 rv
  obtain ⟨its, r, pl, hz⟩ := I.list hq
  obtain ⟨⟨c, dd, dt, sl⟩, e, hc, n, hd⟩ := pl.isList
  simp only at hc hd
  subst hc hd
  refine call_meets F.slot_list_count ⟨_, e, rfl⟩ F.entry_list_count (F.args_list_count_2 _ _) (SeqAt.list_countAt p its.toArray n dd sl u (eqU y)) ⟨e, fun w hw => mem_eqAt ru fy r fs w (by simpa using hw), ?_⟩
  refine ⟨.int _, H, I.tok _, ⟨_, rfl⟩, ?_⟩
  rw [show its.toArray.toList = its from rfl, count_eqU r fs]
  exact q
end
def Pr1 (K : PySem.W.Frag) (r : V → List V → Hp → VK → Prop) (f : D → D → Option D) : Prop :=
  ∀ (Oc : Wd) (Ob : Addr → Prop) (H : Hp) (x y : V) (dx dy d : D) (Q : VK), VA Oc Ob H x dx → VA Oc Ob H y dy → f dx dy = some d → (∀ v, Rep H (Uni Oc Ob) v d → Q v H) → r x [y] H Q
def eM1 (f : List D → D → Option D) (mo ma : Ev → Res D) : Ev → Res D := fun ρ => (mo ρ).bind fun x => (Res.lft (lstD x)).bind fun ds => (ma ρ).bind fun y => Res.lft (f ds y)
theorem yQ (f : List D → D → Option D) (mo ma : Ev → Res D) (ρ : Ev) : eM1 f mo ma ρ = (mo ρ).bind fun x => (Res.lft (lstD x)).bind fun ds => (ma ρ).bind fun y => Res.lft (f ds y) := rfl
theorem re_meth1 {C : Ct} {o a : Expr} {name : Str} {id : String} {apos cpos : Pos} {md mda : Md} {mo ma : Ev → Res D} {r : V → List V → Hp → VK → Prop} {f : List D → D → Option D} (slot : Slot "list" name id) (hty : typeOf (.builtin id) = pure (.type "method_descriptor")) (hm : MtR C.X id r) (hp : Pr1 C.X.K r (fun x y => (lstD x).bind fun ds => f ds y)) (ho : RE C md o mo) (ha : RE C mda a ma)
    (hbase : autoParam (attributeBase o name C.X.env (eval o C.X.env) = eval o C.X.env) zX._auto_1)
    (hfew : ((backTo cpos (starEach [a] C.X.env)).all (fun x => !x.1) && (backToKw cpos (keywordEach [] C.X.env)).all (fun x => x.1.isSome)
      && decide ([a].length + ([] : List Keyword).length + (if ([] : List Keyword).isEmpty then 0 else 1) < 30)) = true := by rfl)
    (hline : autoParam ((apos.endLine == cpos.line) = true) zX._auto_1) (hs : autoParam (starEach [a] C.X.env = (false, eval a C.X.env) :: starEach [] C.X.env) zX._auto_1) (hplain : autoParam ((backTo cpos (starEach [] C.X.env)).any (·.1) = false) zX._auto_1) :
    RE C .cl (.Call (.Attribute o name apos) [a] [] cpos) (eM1 f mo ma) := by
  obtain ⟨to, po, qo⟩ := ho
  obtain ⟨ta, pa, qa⟩ := ha
  refine ⟨_, pe_bm PySem.F.plainAttrs_list slot hty hm po (yB pa pa_nil hs) hbase hfew hline hs hplain, fun Oc Ob σ H ρ Q R h => ?_⟩
  refine qo Oc Ob σ H ρ _ R (Res.zR (Res.zV h) (fun dx _ k x H1 s1 vx => ?_) fun _ z => z)
  obtain ⟨ds, ex, k⟩ := Res.vX (Res.zV k)
  obtain rfl := lstD_some ex
  have vx1 := vx.va R.oh
  refine ⟨?_, qa Oc Ob σ H1 ρ _ (R.same s1) (Res.zR (Res.zV k) (fun dy _ k y H2 s2 vy => ?_) fun c z H' s' => z H' (s1.trans s'))⟩
  · obtain ⟨a', ys, rfl, rd, _⟩ := vx1.list
    exact .inl ⟨rfl, ys, .inl rd⟩
  · obtain ⟨d, ed, k⟩ := Res.vX k
    exact hp Oc Ob H2 x y _ dy d Q (vx1.same s2) (vy.va (R.same s1).oh) ed fun v rv => k v H2 (s1.trans s2) rv
def cnDD (ds : List D) (y : D) : Option D := if flD y = true ∧ ds.all flD = true then some (.int ((ds.countP fun z => eqF z y : Nat) : Int)) else none
theorem reps_count {H : Hp} {O O' : Addr → Prop} {x : V} {dx : D} (hx : Rep H O' x dx) (fx : flD dx = true) : ∀ {vs : List V} {ds : List D}, Reps H O vs ds → ds.all flD = true → (vs.countP fun z => eqV z x) = ds.countP fun z => eqF z dx
  | _, _, .nil, _ => rfl
  | _, _, .cons h t, f => by
    rw [List.all_cons, Bool.and_eq_true] at f
    rw [List.countP_cons, List.countP_cons, reps_count hx fx t f.2, rep_eqF h hx f.1 fx]
theorem p1_count {K : PySem.W.Frag} : Pr1 K (rCnt K) (fun x y => (lstD x).bind fun ds => cnDD ds y) := by
  intro Oc Ob H x y dx dy d Q vx vy e k
  obtain ⟨ds, e1, e2⟩ := Option.bind_eq_some_iff.mp e
  clear e
  have e := e2
  clear e2
  obtain rfl := lstD_some e1
  unfold cnDD at e
  split at e
  · rename_i h
    cases e
    obtain ⟨p, ys, rfl, rd, rs⟩ := vx.list
    have ry := va_flat vy h.1
    refine ⟨p, ys, y, rfl, rfl, .inl rd, rep_flat ry h.1, reps_flat rs h.2, ?_⟩
    rw [reps_count ry h.1 rs h.2]
    exact k _ (Rep.int _)
  · cases e
end L2.L3
set_option maxHeartbeats 4000000
namespace L2.L3
open PySem PySem.Spec PyProof.Rows
variable [CN]
def StepOk (i j k : Int) : Prop := k ≠ 0 ∧ k.natAbs.log2 < 9000 ∧ Builtin.Range.small i j k = true ∧ 0 ≤ Builtin.Range.rangeSize i j k
instance (i j k : Int) : Decidable (StepOk i j k) := by unfold StepOk; infer_instance
end L2.L3
namespace L2.L3
open PySem PyProof.Rows
variable [CN]
section
variable {X : Cx}
end
def revT : D → Option D
  | .list ds => some (.tuple ds.reverse)
  | _ => none
def eRevT (m : Ev → Res D) : Ev → Res D := fun ρ => (m ρ).bind fun d => Res.lft (revT d)
theorem zP (m : Ev → Res D) (ρ : Ev) : eRevT m ρ = (m ρ).bind fun d => Res.lft (revT d) := rfl
end L2.L3
namespace L2
open PySem PyProof.Rows
structure CScope2 (sc0 scope : Scope) (N0 : List Str) (xt yt : Str) (fs : List Str) (js : List Nat) : Prop where
  kind : scope.kind = .function
  nocell : ∀ y ∈ scope.names, y.2 ≠ .cell
  names : ∀ y ∈ scope.names, y.2 = .local → scope.names.lookup y.1 = some .local
  tgt : scope.names.lookup xt = some .local
  tgt2 : scope.names.lookup yt = some .local
  frees : ∀ y ∈ scope.names, y.2 = .free → sc0.names.lookup y.1 = some .cell ∨ sc0.names.lookup y.1 = some .free
  len : js.length = fs.length
  slots : ∀ p ∈ fs.zip js, N0[p.2]? = some p.1 ∧ scope.names.lookup p.1 = some .free
  nd : (xt :: yt :: fs).Nodup
def compSt2 (σ : St) (js : List Nat) (v w : Option V) : St := v :: w :: js.map fun j => (σ[j]?).join
section
variable {X : Cx} {pins : List (Addr × Obj)} {σ : St} {H : Hp} {s₂ s₄ : Shared} {sc0 scope : Scope} {N0 : List Str} {xt yt : Str} {fs : List Str} {js : List Nat} {fp : List Addr}
theorem CScope2.cells (S : CScope2 sc0 scope N0 xt yt fs js) (h0 : X.env.scope = sc0) (ok : X.Ok) : ∀ n, (n, NameKind.free) ∈ scope.names → ∃ c, X.env.cells.lookup n = some c := fun n hn => ok.has n (by subst h0; exact S.frees _ hn rfl)
theorem CScope2.sub (S : CScope2 sc0 scope N0 xt yt fs js) (h0 : X.env.scope = sc0) (ok : X.Ok) : ∀ x c, (clos X.env.cells scope.names []).lookup x = some c → X.env.cells.lookup x = some c :=
  clos_sub scope.names [] (S.cells h0 ok) fun x c e => by simp at e
theorem Inv.block2 (S : CScope2 sc0 scope N0 xt yt fs js) (h0 : X.env.scope = sc0) (hN0 : X.N = N0) (I : Inv X pins σ H s₂) (hf : ∀ b ∈ fp, FpOk X pins H b) (hfo : ∀ b ∈ fp, ∃ o, s₂.heap.get? b = some o)
    (hos : s₄.os = s₂.os) (hg : AllBare s₄.gens) (hk : ∀ b o, s₂.heap.get? b = some o → s₄.heap.get? b = some o) {C : Addr} (hC : s₂.heap.objs.size ≤ C) {m : Str → Option Value} (hn : s₄.heap.Ns C m) :
    Inv (cxComp X (xt :: yt :: fs) scope C fp s₂ H) [] (compSt2 σ js none none) H s₄ := by
  have sub := S.sub h0 I.ok
  have blt : ∀ b ∈ fp, b < s₂.heap.objs.size := fun b hb => let ⟨o, e⟩ := hfo b hb; Heap.lt_size e
  have ok : (cxComp X (xt :: yt :: fs) scope C fp s₂ H).Ok := by
    refine ⟨I.ok.mod, S.kind, I.ok.glob, I.ok.blt, hC, fun x y c h1 h2 => I.ok.inj x y c (sub x c h1) (sub y c h2), fun x hx => ?_, fun x c h => (nomatch h), I.ok.hd, I.ok.frames, .inl rfl, fun b hb => ⟨?_, fun x c h => (hf b hb).2.2.2.2.1 x c (sub x c h)⟩, I.bs, Nat.le_trans I.ok.bsz I.sz, fun b o e hb => ?_, fun b hb hs => ?_, I.stack, I.stkFree⟩
    · have hx : (relabel scope X.env).names.lookup x = some .cell ∨ (relabel scope X.env).names.lookup x = some .free := hx
      have hfree : scope.names.lookup x = some .free := by
        rcases hx with hx | hx
        · rcases relabel_back hx with q | ⟨_, q⟩
          · exact absurd rfl (S.nocell _ (PySem.mem_of_lookup q))
          · exact q
        · rcases relabel_back hx with q | ⟨q, _⟩
          · exact q
          · cases q
      exact clos_has scope.names [] x (PySem.mem_of_lookup hfree)
    · exact Nat.ne_of_lt (Nat.lt_of_lt_of_le (blt b hb) hC)
    · rcases (hf b hb).2.2.2.1 with z | z
      · exact I.ok.noex b o e z
      · exact absurd (Nat.lt_of_lt_of_le (Heap.lt_size (I.ok.bs b o e).1) z) (Nat.lt_irrefl _)
    · rcases List.mem_cons.mp (I.stkSub b hs) with z | z
      · exact (hf b hb).2.1 z
      · exact (hf b hb).2.2.1 z
  refine ⟨ok, hos, hg, Un.kept hk, ⟨m, hn, fun i x v e1 e2 e3 => ?_⟩, fun x c e => ?_, I.hok.fresh hC, fun x c e => I.freeC x c (sub x c e), fun p hp => absurd (show p ∈ ([] : List (Addr × Obj)) from hp) (by simp), I.hok.kept hk, ?_⟩
  · cases i with
    | zero => cases e2
    | succ i =>
     cases i with
     | zero => cases e2
     | succ i =>
      have e1 : fs[i]? = some x := e1
      have e2 : (js.map fun j => (σ[j]?).join)[i]? = some (some v) := e2
      rw [List.getElem?_map] at e2
      cases ej : js[i]? with
      | none => rw [ej] at e2; cases e2
      | some j =>
        rw [ej] at e2
        have e2 : (σ[j]?).join = some v := Option.some.inj e2
        obtain ⟨hN, hfr⟩ := S.slots _ (zip_mem e1 ej)
        have hN : X.N[j]? = some x := by rw [hN0]; exact hN
        have hk2 : X.env.kindOf x = some .cell ∨ X.env.kindOf x = some .free := by subst h0; exact S.frees _ (PySem.mem_of_lookup hfr) rfl
        have hs : σ[j]? = some (some v) := by
          cases q : σ[j]? with
          | none => rw [q] at e2; cases e2
          | some z => rw [q] at e2; rw [show z = some v from e2]
        obtain ⟨m0, hn0, hl⟩ := I.loc
        obtain ⟨u, r, l⟩ := hl j x v hN hs (by rcases hk2 with z | z; exact .inr (.inl z); exact .inr (.inr z))
        refine ⟨u, r, ?_⟩
        rcases l with ⟨hloc, _⟩ | ⟨_, c, hc, hcell⟩
        · rcases hk2 with z | z
          · rw [z] at hloc; cases hloc
          · rw [z] at hloc; cases hloc
        · obtain ⟨c', hc'⟩ := clos_has (cells := X.env.cells) scope.names [] x (PySem.mem_of_lookup hfr)
          have : c' = c := Option.some.inj ((sub x c' hc').symm.trans hc)
          subst this
          exact .inr ⟨relabel_free hfr, c', hc', hcell.keeps hk⟩
  · obtain ⟨v, z⟩ := I.cell x c (sub x c e)
    exact ⟨v, z.keeps hk⟩
  · show (compSt2 σ js none none).length = (xt :: yt :: fs).length
    unfold compSt2
    rw [List.length_cons, List.length_cons, List.length_map, List.length_cons, List.length_cons, S.len]
end
def tComp2 (K : PySem.W.Frag) (wi : TI) (tt : Addr → List Addr → Shared → Hp → TT) (te : Addr → List Addr → Shared → Hp → TE) (js : List Nat) : TE := fun σ H Q => wi σ H fun J H1 => ∀ C fp s₂ H₂, ∃ W : Nat → Nat → List V → Hp → Prop, (∃ m, W 0 m [] H1) ∧ ∀ i m acc H, W i m acc H →
  (J.stop i H ∧ ∀ p, H p = none → Q (.ref p) (upd H p (.lst acc))) ∨
  (J.go i H ∧ ∃ N : List V → Hp → Prop, (∀ acc' H', N acc' H' → ∃ m', m' < m ∧ W (i + 1) m' acc' H') ∧
    ∀ x H', J.yld i H x H' → ∃ ta x1 x2, x = .ref ta ∧ SqT K H' ta [x1, x2] ∧ tt C fp s₂ H₂ (compSt2 σ js (some x1) (some x2)) H' fun b H2 => if b = true then te C fp s₂ H₂ (compSt2 σ js (some x1) (some x2)) H2 fun v H3 => acc.length < sizeLine ∧ N (acc ++ [v]) H3 else N acc H2)
theorem pe_comp2 {X : Cx} {elt iter : Expr} {ifs : List Expr} {sc0 scope : Scope} {N0 : List Str} {px py tp pos : Pos} {k1 : Nat} {xt yt : Str} {fs : List Str} {js : List Nat} {wi : TI} {tt : Addr → List Addr → Shared → Hp → TT} {te : Addr → List Addr → Shared → Hp → TE} (S : CScope2 sc0 scope N0 xt yt fs js) (h0 : X.env.scope = sc0) (hN0 : X.N = N0) (hc : X.calm = true)
    (hi : PI X (.Tuple [.Name xt px, .Name yt py] k1 tp) iter wi) (ht : ∀ C fp s₂ H, PTs (cxComp X (xt :: yt :: fs) scope C fp s₂ H) ifs (tt C fp s₂ H)) (he : ∀ C fp s₂ H, PE (cxComp X (xt :: yt :: fs) scope C fp s₂ H) elt (te C fp s₂ H))
    (hs : autoParam (∀ x, foldedSetIterable iter X.env x = pure x) autoK4._auto_1) :
    PE X (.ListComp elt [⟨.Tuple [.Name xt px, .Name yt py] k1 tp, iter, ifs, 0⟩] scope pos) (tComp2 X.K wi tt te js) := by
  intro pins s σ H Q I h
  rw [eval_ListComp]
  refine wpAny_comprehension_free (use := none) rfl hs (closureFor_eq (S.cells h0 I.ok)) S.kind S.names ?_
  refine thn (hi pins s σ H _ I h) fun v s1 h1 => thn h1 fun itv s2 h2 => ?_
  obtain ⟨it, fp, tn, J, H2, e, I2, T, st2, f2, hW⟩ := h2
  subst e
  have fo : ∀ b ∈ fp, ∃ o, s2.heap.get? b = some o := fun b hb => let ⟨o, e, _⟩ := T.obj 0 s2.heap st2 b hb; ⟨o, e⟩
  have blt : ∀ b ∈ fp, b < s2.heap.objs.size := fun b hb => let ⟨o, e⟩ := fo b hb; Heap.lt_size e
  refine block_new S.nocell S.kind fun D C h₁ mC hDle hCle hDC old hacc hns₁ => ?_
  have bC : ∀ b o, s2.heap.get? b = some o → b ≠ C := fun b o q z => Nat.not_lt.mpr hCle (z ▸ Heap.lt_size q)
  have bD : ∀ b o, s2.heap.get? b = some o → b ≠ D := fun b o q z => Nat.not_lt.mpr hDle (z ▸ Heap.lt_size q)
  obtain ⟨W, ⟨m0, w0⟩, turn⟩ := hW C fp s2 H2
  have fpk : ∀ {H' : Hp} (ob : Obj), (∀ b ∈ fp, H' b = none) → ∀ b ∈ fp, FpOk (cxComp X (xt :: yt :: fs) scope C fp s2 H2) [(D, ob)] H' b := fun {H'} ob hn b hb => by
    refine ⟨hn b hb, Nat.ne_of_lt (Nat.lt_of_lt_of_le (blt b hb) hCle), fun z => ?_, .inl hb, fun x c e => (f2 b hb).2.2.2.2.1 x c (S.sub h0 I2.ok x c e), fun p hp => ?_⟩
    · rcases List.mem_cons.mp (I2.stkSub b z) with q | q
      · exact (f2 b hb).2.1 q
      · exact (f2 b hb).2.2.1 q
    · have : p = (D, ob) := by
        have hp : p ∈ [] ++ [(D, ob)] := hp
        simpa using hp
      subst this
      exact Nat.ne_of_gt (Nat.lt_of_lt_of_le (blt b hb) hDle)
  have loop : codeAny (model X.prog X.w) X.A (.compLoop (.ListComp elt [⟨.Tuple [.Name xt px, .Name yt py] k1 tp, iter, ifs, 0⟩] scope pos) 0 (.ref it) (.ref D) (compEnvC scope (clos X.env.cells scope.names []) C X.env))
        (compPost (model X.prog X.w) X.A X.xe none (EP X pins σ Q) (.ref D) C) { s2 with heap := h₁ } := by
    have J0 : Inv (cxComp X (xt :: yt :: fs) scope C fp s2 H2) [] (compSt2 σ js none none) H2 { s2 with heap := h₁ } :=
      Inv.block2 (s₂ := s2) (s₄ := { s2 with heap := h₁ }) S h0 hN0 I2 f2 fo rfl I2.bare old hCle hns₁
    have H2D : H2 D = none := I2.hok.fresh hDle
    have ofD : D ∉ frs X.stack := fun z => by
      rcases List.mem_cons.mp (I2.stkSub D z) with q | q
      · exact absurd I2.lt (by rw [← q]; exact Nat.not_lt.mpr hDle)
      · exact I2.nofs (a := D) hDle q
    refine codeAny_loop rfl (fun n s' => ∃ (i : Nat) (σ' : St) (H' : Hp) (acc : List V) (its : List Value) (k : Nat), (∃ v0 w0, σ' = compSt2 σ js v0 w0) ∧ Inv (cxComp X (xt :: yt :: fs) scope C fp s2 H2) [] σ' H' s' ∧ tn i s'.heap ∧ (∀ b ∈ fp, H' b = none) ∧ H' D = none ∧
        s'.heap.get? D = some { cls := .type "list", data := .seq its.toArray k } ∧ Vals acc its ∧ acc.length ≤ sizeLine ∧ W i n acc H') ?_ m0
      ⟨0, _, H2, [], [], 0, ⟨none, none, rfl⟩, J0, T.keep 0 _ _ st2 fun b hb o e => old b o e, fun b hb => (f2 b hb).1, H2D, hacc, .nil, Nat.zero_le _, w0⟩
    rintro n s3 ⟨i, σ3, H3, acc, its, k, ⟨v0, w0, rfl⟩, I3, st3, fr3, hD3, d3, va, hz, w3⟩
    show wpAny _ X.A ((compTurn (.ListComp elt [⟨.Tuple [.Name xt px, .Name yt py] k1 tp, iter, ifs, 0⟩] scope pos) 0 (.ref it) (.ref D) (compEnvC scope (clos X.env.cells scope.names []) C X.env)).onRaise (fun x => do noteFrame x (compEnvC scope (clos X.env.cells scope.names []) C X.env); theTreesLotGoes x)) _ _ s3
    refine wpAny_noted ?_
    rw [compTurn_list]
    refine wpAny_bind (wpAny_standAt ?_)
    have pinD : Inv (cxComp X (xt :: yt :: fs) scope C fp s2 H2) [(D, { cls := .type "list", data := .seq its.toArray k })] (compSt2 σ js v0 w0) H3 s3 := I3.pins_of fun p hp => by
      have : p = (D, { cls := .type "list", data := .seq its.toArray k }) := by simpa using hp
      subst this
      exact ⟨d3, hD3, hDC, ofD, fun v z => by cases z⟩
    refine wpAny_bind ?_
    rcases turn i n acc H3 w3 with ⟨stop, qn⟩ | ⟨go, N, hN, step⟩
    · refine thn (T.done (cxComp X (xt :: yt :: fs) scope C fp s2 H2) rfl rfl rfl hc i _ s3 _ H3 _ pinD (fpk _ fr3) st3 stop) fun r s4 ⟨hr, I4⟩ => ?_
      subst hr
      refine wpAny_pure ?_
      obtain ⟨m4, hn4, _⟩ := I4.loc
      refine ⟨m4, hn4, fun h' hsb => ⟨.ref D, _, I2.unblock f2 I4 hCle hDle hDC hD3 ((I4.pin (D, { cls := .type "list", data := .seq its.toArray k }) (List.mem_append_right _ List.mem_cons_self)).1) va hz hsb, rfl, qn D hD3⟩⟩
    · refine thn (T.item (cxComp X (xt :: yt :: fs) scope C fp s2 H2) rfl rfl rfl hc i _ s3 _ H3 _ pinD (fpk _ fr3) st3 go) fun r s4 ⟨u, hr, h4⟩ => ?_
      subst hr
      refine wpAny_bind (thn h4 fun _ s5 ⟨x, H5, I5, r5, y5, st5, fr5⟩ => ?_)
      have I5' := I5.pinned (fpk _ fr5) (T.obj _ _ st5)
      obtain ⟨ta, x1, x2, ex, hx, q6⟩ := step x H5 y5
      have g0 : PG (cxComp X (xt :: yt :: fs) scope C fp s2 H2) (.Name xt px) (gName 0) := pg_name S.nd rfl (.inl (lookup_relabel_local S.tgt)) (.inr (lookup_relabel_local S.tgt))
      have g1 : PG (cxComp X (xt :: yt :: fs) scope C fp s2 H2) (.Name yt py) (gName 1) := pg_name S.nd rfl (.inl (lookup_relabel_local S.tgt2)) (.inr (lookup_relabel_local S.tgt2))
      have gok : PG (cxComp X (xt :: yt :: fs) scope C fp s2 H2) (.Tuple [.Name xt px, .Name yt py] k1 tp) (gTup X.K 2 (gCons (gName 0) (gCons (gName 1) gNil))) := pg_tup hc (pgs_cons g0 (pgs_cons g1 pgs_nil))
      have noE : ∀ (a : Value) (s' : Shared), (cxComp X (xt :: yt :: fs) scope C fp s2 H2).xe a s' → notedBy (model X.prog X.w) X.A (compEnvC scope (clos X.env.cells scope.names []) C X.env) (fun e s' => compPost (model X.prog X.w) X.A X.xe none (EP X pins σ Q) (.ref D) C (.error e) s') a s' := fun _ _ z => False.elim z
      refine wpAny_bind (wpAny_mono (gok _ s5 (compSt2 σ js v0 w0) H5 x u (fun σ' H' => σ' = compSt2 σ js (some x1) (some x2) ∧ H' = H5) I5' r5 ⟨ta, [x1, x2], ex, hx, rfl, x1, [x2], rfl, x2, [], rfl, rfl, rfl, rfl⟩) (fun _ s6 ⟨σ6, H6, I6, e6, e6'⟩ => ?_) noE)
      subst e6 e6'
      have fin : ∀ {acc' : List V} {its' : List Value} {k' : Nat} {H7 : Hp} {s7 : Shared}, Inv (cxComp X (xt :: yt :: fs) scope C fp s2 H2) [] (compSt2 σ js (some x1) (some x2)) H7 s7 → tn (i + 1) s7.heap → (∀ b ∈ fp, H7 b = none) → H7 D = none → s7.heap.get? D = some { cls := .type "list", data := .seq its'.toArray k' } → Vals acc' its' → acc'.length ≤ sizeLine → N acc' H7 →
          ∃ m, m < n ∧ ∃ (i : Nat) (σ' : St) (H' : Hp) (acc : List V) (its : List Value) (k : Nat), (∃ v0 w0, σ' = compSt2 σ js v0 w0) ∧ Inv (cxComp X (xt :: yt :: fs) scope C fp s2 H2) [] σ' H' s7 ∧ tn i s7.heap ∧ (∀ b ∈ fp, H' b = none) ∧ H' D = none ∧
            s7.heap.get? D = some { cls := .type "list", data := .seq its.toArray k } ∧ Vals acc its ∧ acc.length ≤ sizeLine ∧ W i m acc H' := fun {acc' its' k' H7 s7} a1 a2 a3 a4 a5 a6 a7 a8 => by
        obtain ⟨m', hm, w7⟩ := hN _ _ a8
        exact ⟨m', hm, i + 1, _, H7, acc', its', k', ⟨_, _, rfl⟩, a1, a2, a3, a4, a5, a6, a7, w7⟩
      have rest : ∀ {H7 : Hp} {s7 : Shared}, Inv (cxComp X (xt :: yt :: fs) scope C fp s2 H2) ([(D, { cls := .type "list", data := .seq its.toArray k })] ++ pinsAt fp s5.heap) (compSt2 σ js (some x1) (some x2)) H7 s7 →
          tn (i + 1) s7.heap ∧ (∀ b ∈ fp, H7 b = none) ∧ H7 D = none ∧ s7.heap.get? D = some { cls := .type "list", data := .seq its.toArray k } := fun {H7 s7} I7 => by
        refine ⟨T.keep _ _ _ st5 fun b hb o e => (I7.pin (b, o) (List.mem_append_right _ (List.mem_append_right _ (mem_pinsAt hb e)))).1, fun b hb => ?_, (I7.pin (D, { cls := .type "list", data := .seq its.toArray k }) (List.mem_append_right _ (List.mem_append_left _ List.mem_cons_self))).2.1, (I7.pin (D, { cls := .type "list", data := .seq its.toArray k }) (List.mem_append_right _ (List.mem_append_left _ List.mem_cons_self))).1⟩
        obtain ⟨o, e, d⟩ := T.obj _ _ st5 b hb
        exact (I7.pin (b, o) (List.mem_append_right _ (List.mem_append_right _ (mem_pinsAt hb e)))).2.1
      have elem : ∀ {H7 : Hp} {s7 : Shared}, Inv (cxComp X (xt :: yt :: fs) scope C fp s2 H2) ([(D, { cls := .type "list", data := .seq its.toArray k })] ++ pinsAt fp s5.heap) (compSt2 σ js (some x1) (some x2)) H7 s7 →
          (te C fp s2 H2 (compSt2 σ js (some x1) (some x2)) H7 fun v H3 => acc.length < sizeLine ∧ N (acc ++ [v]) H3) →
          wpAny (model X.prog X.w) X.A (eval elt (compEnvC scope (clos X.env.cells scope.names []) C X.env)) (fun y s8 => wpAny (model X.prog X.w) X.A (call (.builtin "list.append") [.ref D, y]) (fun _ s9 => ∃ m, m < n ∧ ∃ (i : Nat) (σ' : St) (H' : Hp) (acc : List V) (its : List Value) (k : Nat), (∃ v0 w0, σ' = compSt2 σ js v0 w0) ∧ Inv (cxComp X (xt :: yt :: fs) scope C fp s2 H2) [] σ' H' s9 ∧ tn i s9.heap ∧ (∀ b ∈ fp, H' b = none) ∧ H' D = none ∧
            s9.heap.get? D = some { cls := .type "list", data := .seq its.toArray k } ∧ Vals acc its ∧ acc.length ≤ sizeLine ∧ W i m acc H')
            (fun _ _ => False) s8) (fun _ _ => False) s7 := fun {H7 s7} I7 q7 => by
        refine thn (he C fp s2 H2 _ s7 _ H7 _ I7 q7) fun y s8 ⟨v, H8, I8, r8, hl8, n8⟩ => ?_
        obtain ⟨t8, fr8, hD8, d8⟩ := rest I8
        have hsz := va.length
        refine call_meets F.slot_list_append ⟨_, d8, rfl⟩ F.entry_list_append (F.args_list_append_2 _ _) (PySem.list_append D its.toArray k y (by rw [List.size_toArray]; bv_omega)) ⟨d8, ?_⟩
        have q := PySem.IsL.update d8 (·.push y)
        rw [show (its.toArray.push y) = (its ++ [y]).toArray by simp] at q
        have kk : ∀ b o, b ≠ D → s8.heap.get? b = some o → (s8.heap.update D (Obj.mapSeq (·.push y))).get? b = some o := fun b o hb e => (Heap.get?_update_other s8.heap _ (Ne.symm hb)).trans e
        have I9 : Inv (cxComp X (xt :: yt :: fs) scope C fp s2 H2) [] (compSt2 σ js (some x1) (some x2)) H8 { s8 with heap := s8.heap.update D (Obj.mapSeq (·.push y)) } := by
          refine Inv.turned (it := D) (t' := s8.toks) (I8.pins_of (pins' := []) fun p hp => nomatch hp) kk hD8 hDC (.inr hDle) (fun x c e z => ?_) fun p hp => absurd (show p ∈ ([] : List (Addr × Obj)) from hp) (by simp)
          obtain ⟨v, o, ho, _⟩ := I2.cell x c (S.sub h0 I2.ok x c e)
          exact bD c o ho z
        refine fin I9 (T.keep _ _ _ t8 fun b hb o e => kk b o (Nat.ne_of_lt (Nat.lt_of_lt_of_le (blt b hb) hDle)) e) fr8 hD8 q (va.append (.cons r8 .nil)) ?_ n8
        rw [List.length_append, List.length_singleton]
        bv_omega
      have htt := ht C fp s2 H2
      generalize tt C fp s2 H2 = tt' at htt q6
      cases htt with
      | nil =>
        refine wpAny_bind (wpAny_pure ?_)
        dsimp only [tTrue] at q6
        rw [if_pos rfl] at q6
        refine wpAny_mono (wpAny_bind (wpAny_bind (thn (elem I6 q6) fun y s8 h8 => wpAny_bind (thn h8 fun _ s9 h9 => wpAny_pure (wpAny_pure ⟨rfl, h9⟩))))) (fun _ _ z => z) fun _ _ z => False.elim z
      | one ht1 =>
        refine wpAny_bind (wpAny_tests_one (wpAny_mono (ht1 _ s6 _ H6 _ I6 q6) (fun b s7 ⟨H7, I7, q7⟩ => ?_) noE))
        cases b with
        | false =>
          rw [if_neg Bool.false_ne_true] at q7
          obtain ⟨t8, fr8, hD8, d8⟩ := rest I7
          exact wpAny_pure ⟨rfl, fin (I7.pins_of (pins' := []) fun p hp => nomatch hp) t8 fr8 hD8 d8 va hz q7⟩
        | true =>
          rw [if_pos rfl] at q7
          refine wpAny_mono (wpAny_bind (wpAny_bind (thn (elem I7 q7) fun y s8 h8 => wpAny_bind (thn h8 fun _ s9 h9 => wpAny_pure (wpAny_pure ⟨rfl, h9⟩))))) (fun _ _ z => z) fun _ _ z => False.elim z
  exact codeAny_compStart_list loop (T.self X.A 0 _ _ _ (T.keep 0 _ _ st2 fun b hb o e => old b o e) loop)
end L2
namespace L2.L3
open PySem PyProof.Rows
variable [CN]
def cEnv2 (ρ : Ev) (js : List Nat) (x y : D) : Ev := some x :: some y :: js.map fun j => (ρ[j]?).join
def capt2 (js l : List Nat) : List Nat := ((List.range js.length).filter fun i => l.contains (js.getD i 0)).map (· + 2)
def pr2 {α : Type} (d : D) (f : D → D → Res α) : Res α :=
  match d with
  | .tuple [a, b] => f a b
  | _ => .no
theorem pr2_ok {α : Type} {d : D} {f : D → D → Res α} {r : α} (h : pr2 d f = .ok r) : ∃ a b, d = .tuple [a, b] ∧ f a b = .ok r := by
  unfold pr2 at h
  split at h
  · exact ⟨_, _, rfl, h⟩
  · cases h
def eComp2 (mi : Ev → Res (List D)) (mt : Ev → Res Bool) (me : Ev → Res D) (js : List Nat) : Ev → Res D := fun ρ => (mi ρ).bind fun ds => if ds.length ≤ sizeLine then (compM (fun d => pr2 d fun x y => mt (cEnv2 ρ js x y)) (fun d => pr2 d fun x y => me (cEnv2 ρ js x y)) ds).bind fun out => .ok (.list out) else .no
theorem capt2_mem {js l : List Nat} {i : Nat} (h : i ∈ capt2 js l) : ∃ k, i = k + 2 ∧ k < js.length ∧ js.getD k 0 ∈ l := by
  unfold capt2 at h
  obtain ⟨k, hk, rfl⟩ := List.mem_map.mp h
  obtain ⟨h1, h2⟩ := List.mem_filter.mp hk
  exact ⟨k, rfl, List.mem_range.mp h1, List.contains_iff_mem.mp h2⟩
theorem mem_capt2 {js l : List Nat} {k j : Nat} (h : js[k]? = some j) (hl : j ∈ l) : k + 2 ∈ capt2 js l := by
  unfold capt2
  refine List.mem_map.mpr ⟨k, List.mem_filter.mpr ⟨List.mem_range.mpr ?_, ?_⟩, rfl⟩
  · exact (List.getElem?_eq_some_iff.mp h).1
  · rw [List.getD_eq_getElem?_getD, h]
    exact List.contains_iff_mem.mpr hl
theorem cEnv2_succ {ρ : Ev} {js : List Nat} {x y d : D} {k : Nat} (h : (cEnv2 ρ js x y)[k + 2]? = some (some d)) : ∃ j, js[k]? = some j ∧ ρ[j]? = some (some d) := by
  unfold cEnv2 at h
  rw [List.getElem?_cons_succ, List.getElem?_cons_succ, List.getElem?_map] at h
  cases e : js[k]? with
  | none => rw [e] at h; cases h
  | some j =>
    rw [e] at h
    refine ⟨j, rfl, ?_⟩
    have h : (ρ[j]?).join = some d := Option.some.inj h
    cases q : ρ[j]? with
    | none => rw [q] at h; cases h
    | some z => rw [q] at h; rw [show z = some d from h]
theorem compSt2_succ {σ : St} {js : List Nat} {v0 w0 : Option V} {v : V} {k j : Nat} (h : js[k]? = some j) (e : σ[j]? = some (some v)) : (compSt2 σ js v0 w0)[k + 2]? = some (some v) := by
  unfold compSt2
  rw [List.getElem?_cons_succ, List.getElem?_cons_succ, List.getElem?_map, h]
  show some ((σ[j]?).join) = _
  rw [e]
  rfl
def cW2 (Oc : Wd) (Ob : Addr → Prop) (σ : St) (js : List Nat) : Wd := ⟨Uni Oc Ob, fun i => adr ((compSt2 σ js none none)[i]?)⟩
theorem Rel.comp2 {Oc : Wd} {Ob : Addr → Prop} {om ln : List Nat} {σ : St} {H : Hp} {ρ : Ev} {js : List Nat} {x y : V} {d d2 : D} (R : Rel Oc Ob om ln σ H ρ) (r : Rep H (Uni Oc Ob) x d) (r2 : Rep H (Uni Oc Ob) y d2) : Rel (cW2 Oc Ob σ js) (fun _ => False) [] (capt2 js (om ++ ln)) (compSt2 σ js (some x) (some y)) H (cEnv2 ρ js d d2) where
  len := by unfold compSt2 cEnv2; simp
  val := fun i d' e _ hl => by
    cases i with
    | zero =>
      cases e
      exact ⟨x, rfl, r.less fun b z => z.elim id fun z => z.elim⟩
    | succ k =>
     cases k with
     | zero =>
      cases e
      exact ⟨y, rfl, r2.less fun b z => z.elim id fun z => z.elim⟩
     | succ k =>
      obtain ⟨j, e1, e2⟩ := cEnv2_succ e
      have h1 : j ∉ om := fun z => hl (mem_capt2 e1 (List.mem_append_left _ z))
      have h2 : j ∉ ln := fun z => hl (mem_capt2 e1 (List.mem_append_right _ z))
      obtain ⟨v, q, rv⟩ := R.val j d' e2 h1 h2
      exact ⟨v, compSt2_succ e1 q, rv.less fun b z => z.elim id fun z => z.elim⟩
  own := fun i d' e h => nomatch h
  lnt := fun i d' e _ hl => by
    obtain ⟨k, rfl, hk, hj⟩ := capt2_mem hl
    obtain ⟨j, e1, e2⟩ := cEnv2_succ e
    rw [List.getD_eq_getElem?_getD, e1, Option.getD_some] at hj
    by_cases ho : j ∈ om
    · obtain ⟨v, q, a, ys, ds, z1, z2, z3, z4, z5⟩ := R.own j d' e2 ho
      have ea : (cW2 Oc Ob σ js).la (k + 2) = a := by show adr _ = a; rw [compSt2_succ e1 q, z1]; rfl
      exact ⟨v, compSt2_succ e1 q, ys, ds, by rw [ea]; exact z1, z2, by rw [ea]; exact z3, by rw [ea]; exact .inr z4, z5.less fun b z => z.elim id fun z => z.elim⟩
    · have hl2 : j ∈ ln := (List.mem_append.mp hj).elim (fun z => absurd z ho) id
      obtain ⟨v, q, ys, ds, z1, z2, z3, z4, z5⟩ := R.lnt j d' e2 ho hl2
      have ea : (cW2 Oc Ob σ js).la (k + 2) = Oc.la j := by show adr _ = _; rw [compSt2_succ e1 q, z1]; rfl
      exact ⟨v, compSt2_succ e1 q, ys, ds, by rw [ea]; exact z1, z2, by rw [ea]; exact z3, by rw [ea]; exact .inl z4, z5.less fun b z => z.elim id fun z => z.elim⟩
  inj := fun i j di dj a _ _ h => nomatch h
  oh := fun a z => R.oh a (z.elim id fun z => z.elim)
  ap := fun a z => z.elim
abbrev cC2 (C : Ct) (N : List Str) (scope : Scope) (A : Addr) (fp : List Addr) (s₂ : Shared) (H : Hp) (js : List Nat) : Ct := ⟨cxComp C.X N scope A fp s₂ H, fun _ _ => False, [], capt2 js (C.om ++ C.ln)⟩
theorem rep_pair {K : PySem.W.Frag} {H : Hp} {O : Addr → Prop} {x : V} {a b : D} (r : Rep H O x (.tuple [a, b])) : ∃ ta x1 x2, x = .ref ta ∧ SqT K H ta [x1, x2] ∧ Rep H O x1 a ∧ Rep H O x2 b := by
  cases r with
  | tup r n t =>
    cases t with
    | cons h1 t =>
      cases t with
      | cons h2 t =>
        cases t
        exact ⟨_, _, _, rfl, .inl r, h1, h2⟩
theorem re_comp2 {C : Ct} {elt iter : Expr} {ifs : List Expr} {sc0 scope : Scope} {N0 : List Str} {px py tp pos : Pos} {k1 : Nat} {xt yt : Str} {fs : List Str} {js : List Nat} {mi : Ev → Res (List D)} {mt : Ev → Res Bool} {me : Ev → Res D} (S : CScope2 sc0 scope N0 xt yt fs js) (h0 : C.X.env.scope = sc0) (hN0 : C.X.N = N0) (hc : C.X.calm = true)
    (hi : RIc C (.Tuple [.Name xt px, .Name yt py] k1 tp) iter mi) (ht : ∀ A fp s₂ H, RTs (cC2 C (xt :: yt :: fs) scope A fp s₂ H js) ifs mt) (he : ∀ A fp s₂ H, RE (cC2 C (xt :: yt :: fs) scope A fp s₂ H js) .cl elt me)
    (hs : autoParam (∀ x, foldedSetIterable iter C.X.env x = pure x) autoK4._auto_1) :
    RE C .new (.ListComp elt [⟨.Tuple [.Name xt px, .Name yt py] k1 tp, iter, ifs, 0⟩] scope pos) (eComp2 mi mt me js) := by
  obtain ⟨wi, pi, qi⟩ := hi
  refine ⟨_, pe_comp2 (tt := fun A fp s H => Classical.choose (ht A fp s H)) (te := fun A fp s H => Classical.choose (he A fp s H)) S h0 hN0 hc pi (fun A fp s H => (Classical.choose_spec (ht A fp s H)).1) (fun A fp s H => (Classical.choose_spec (he A fp s H)).1) hs, fun Oc Ob σ H ρ Q R h => ?_⟩
  refine qi Oc Ob σ H ρ _ R (Res.zR (Res.zV h) (fun ds _ k J H1 s1 wk => ?_) fun _ z => z)
  intro A fp s₂ H₂
  have qt := (Classical.choose_spec (ht A fp s₂ H₂)).2
  have qe := (Classical.choose_spec (he A fp s₂ H₂)).2
  have k : (if ds.length ≤ sizeLine then (compM (fun d => pr2 d fun x y => mt (cEnv2 ρ js x y)) (fun d => pr2 d fun x y => me (cEnv2 ρ js x y)) ds).bind fun out => Res.ok (PyData.list out) else .no).post (fun d => ∀ v H', Same H H' → VR .new Oc Ob H H' v d → Q v H') (fun c => ∀ H', Same H H' → C.XE c H') := k
  by_cases hlen : ds.length ≤ sizeLine
  · rw [if_pos hlen] at k
    generalize hT : (fun d => pr2 d fun x y => mt (cEnv2 ρ js x y)) = T at k
    generalize hF : (fun d => pr2 d fun x y => me (cEnv2 ρ js x y)) = F at k
    cases ec : compM T F ds with
    | no => rw [ec] at k; exact k.elim
    | ex c =>
      exfalso
      have nex : ∀ xs c, compM T F xs ≠ .ex c := by
        intro xs
        induction xs with
        | nil => intro c z; cases z
        | cons x xs ih =>
          intro c z
          rw [compM] at z
          cases e1 : noEx (T x) with
          | no => rw [e1] at z; cases z
          | ex c' => cases hx : T x <;> rw [hx] at e1 <;> cases e1
          | ok b =>
            rw [e1, Res.zW] at z
            cases b with
            | false => exact ih c z
            | true =>
              simp only [if_true] at z
              cases e2 : noEx (F x) with
              | no => rw [e2] at z; cases z
              | ex c' => cases hx : F x <;> rw [hx] at e2 <;> cases e2
              | ok y =>
                rw [e2, Res.zW] at z
                cases e3 : compM T F xs with
                | no => rw [e3] at z; cases z
                | ex c' => exact ih c' e3
                | ok ys => rw [e3] at z; cases z
      exact nex ds c ec
    | ok out =>
      rw [ec, Res.zW] at k
      refine ⟨fun i m acc H => m = ds.length - i ∧ i ≤ ds.length ∧ Same H1 H ∧ ∃ done rest, Reps H (Uni Oc Ob) acc done ∧ acc.length ≤ i ∧ compM T F (ds.drop i) = .ok rest ∧ done ++ rest = out, ⟨_, rfl, Nat.zero_le _, Same.refl _, [], out, .nil, Nat.le_refl _, ec, rfl⟩, ?_⟩
      rintro i m acc H2 ⟨rfl, hi, s2, done, rest, ra, la, er, eo⟩
      obtain ⟨w1, w2⟩ := wk H2 s2 i
      have R2 := (R.same s1).same s2
      by_cases hlt : i < ds.length
      · obtain ⟨go, yl⟩ := w1 ds[i] (List.getElem?_eq_getElem hlt)
        have ed : ds.drop i = ds[i] :: ds.drop (i + 1) := List.drop_eq_getElem_cons hlt
        rw [ed, compM] at er
        have nxt : ∀ (acc' : List V) (H3 : Hp) (done' rest' : List D), Same H2 H3 → Reps H3 (Uni Oc Ob) acc' done' → acc'.length ≤ i + 1 → compM T F (ds.drop (i + 1)) = .ok rest' → done' ++ rest' = out →
            ∃ m', m' < ds.length - i ∧ (m' = ds.length - (i + 1) ∧ i + 1 ≤ ds.length ∧ Same H1 H3 ∧ ∃ done rest, Reps H3 (Uni Oc Ob) acc' done ∧ acc'.length ≤ i + 1 ∧ compM T F (ds.drop (i + 1)) = .ok rest ∧ done ++ rest = out) :=
          fun acc' H3 done' rest' s3 r3 l3 c3 o3 => ⟨_, by bv_omega, rfl, hlt, s2.trans s3, done', rest', r3, l3, c3, o3⟩
        refine .inr ⟨go, fun acc' H' => ∃ m', m' < ds.length - i ∧ (m' = ds.length - (i + 1) ∧ i + 1 ≤ ds.length ∧ Same H1 H' ∧ ∃ done rest, Reps H' (Uni Oc Ob) acc' done ∧ acc'.length ≤ i + 1 ∧ compM T F (ds.drop (i + 1)) = .ok rest ∧ done ++ rest = out), fun acc' H' z => z, fun x H3 hy => ?_⟩
        obtain ⟨s3, rx⟩ := yl x H3 hy
        cases e1 : noEx (T ds[i]) with
        | no => rw [e1] at er; cases er
        | ex c => rw [e1] at er; cases er
        | ok b =>
          rw [e1, Res.zW] at er
          have t0 := noEx_ok e1
          rw [← hT] at t0
          obtain ⟨da, db, ed2, t1⟩ := pr2_ok t0
          rw [ed2] at rx
          obtain ⟨ta, x1, x2, rfl, hsq, rx1, rx2⟩ := rep_pair (K := C.X.K) rx
          have R3 := (R2.same s3).comp2 (js := js) rx1 rx2
          refine ⟨ta, x1, x2, rfl, hsq, ?_⟩
          refine qt _ _ _ H3 _ _ R3 ?_
          show (mt (cEnv2 ρ js da db)).post _ _
          rw [t1]
          intro H4 s4
          cases b with
          | false => exact iteF (nxt acc H4 done rest (s3.trans s4) (ra.same (s3.trans s4)) (by bv_omega) er eo)
          | true =>
            refine iteT ?_
            simp only [if_true] at er
            cases e2 : noEx (F ds[i]) with
            | no => rw [e2] at er; cases er
            | ex c => rw [e2] at er; cases er
            | ok y =>
              rw [e2, Res.zW] at er
              have t2 : me (cEnv2 ρ js da db) = .ok y := by
                have t2 := noEx_ok e2
                rw [← hF, ed2] at t2
                exact t2
              refine qe _ _ _ H4 _ _ (R3.same s4) ?_
              show (me (cEnv2 ρ js da db)).post _ _
              rw [t2]
              intro v H5 s5 rv
              refine ⟨by bv_omega, ?_⟩
              obtain ⟨ys, e3⟩ : ∃ ys, compM T F (ds.drop (i + 1)) = .ok ys := by
                cases e3 : compM T F (ds.drop (i + 1)) with
                | no => rw [e3] at er; cases er
                | ex c => rw [e3] at er; cases er
                | ok ys => exact ⟨ys, rfl⟩
              rw [e3, Res.zW] at er
              cases er
              have rv' : Rep H5 (Uni Oc Ob) v y := Rep.less rv fun b z => .inl z
              refine nxt (acc ++ [v]) H5 (done ++ [y]) ys ((s3.trans s4).trans s5) ((ra.same ((s3.trans s4).trans s5)).append (.one rv')) (by rw [List.length_append, List.length_singleton]; bv_omega) e3 ?_
              rw [List.append_assoc]
              exact eo
      · have ei : i = ds.length := by bv_omega
        subst ei
        refine .inl ⟨w2 (Nat.le_refl _), fun p hp => ?_⟩
        rw [List.drop_length] at er
        cases er
        rw [List.append_nil] at eo
        subst eo
        exact k _ _ ((s1.trans s2).trans (Same.new hp)) (new_list (s1.trans s2) hp ra)
  · rw [if_neg hlen] at k
    exact k.elim
end L2.L3
namespace L2.L3
open PySem PyProof.Rows
variable [CN]
theorem RIo.c {C : Ct} {tg iter : Expr} {m : Ev → Res (List D)} (h : RIo C tg iter m) : RIc C tg iter m := by
  obtain ⟨wi, p, q⟩ := h
  exact ⟨wi, p, fun Oc Ob σ H ρ W R h => q Oc Ob σ H ρ W R (Res.zR h (fun ds _ k J H1 s w => k J H1 s fun H2 s2 => w H2 Ob (Same.frm s2) (fun b z => .inl z) (R.same (s.trans s2)).oh) fun _ z => z)⟩
section
variable {X : Cx} {pins : List (Addr × Obj)} {σ : St} {H : Hp} {s : Shared} {h' : Heap}
end
structure Apart5 (z TI TO i1 i2 : Addr) : Prop where
  TIz : TI ≠ z
  TOz : TO ≠ z
  i1z : i1 ≠ z
  i2z : i2 ≠ z
  TITO : TI ≠ TO
  TIi1 : TI ≠ i1
  TIi2 : TI ≠ i2
  TOi1 : TO ≠ i1
  TOi2 : TO ≠ i2
  i12 : i1 ≠ i2
end L2.L3
set_option maxHeartbeats 4000000
namespace L2
open PySem PySem.Spec PyProof.Rows
end L2
namespace L2.L3
open PySem PySem.Spec PyProof.Rows
variable [CN]
end L2.L3
namespace L2.L3
open PySem
variable [CN]
theorem eComp2_ap (mi : Ev → Res (List D)) (mt : Ev → Res Bool) (me : Ev → Res D) (js : List Nat) (ρ : Ev) : eComp2 mi mt me js ρ = (mi ρ).bind fun ds => if ds.length ≤ sizeLine then (compM (fun d => pr2 d fun x y => mt (cEnv2 ρ js x y)) (fun d => pr2 d fun x y => me (cEnv2 ρ js x y)) ds).bind fun out => .ok (.list out) else .no := rfl
theorem eComp2_eq {mi : Ev → Res (List D)} {t : Ev → Res Bool} {me : Ev → Res D} {js : List Nat} {ρ : Ev} {α : Type} (A B : α → D) (p : α → Bool) (q : α → D) (xs : List α) (h : mi ρ = .ok (xs.map fun x => PyData.tuple [A x, B x])) (hl : xs.length ≤ 1000)
    (ht : ∀ x ∈ xs, t (cEnv2 ρ js (A x) (B x)) = .ok (p x)) (hf : ∀ x ∈ xs, p x = true → me (cEnv2 ρ js (A x) (B x)) = .ok (q x)) : eComp2 mi t me js ρ = .ok (.list ((xs.filter p).map q)) := by
  rw [eComp2_ap, h, Res.zW, comp_le (by rw [List.length_map]; exact hl), compM_map (fun x => PyData.tuple [A x, B x]) p q xs (fun x hx => ht x hx) (fun x hx hp => hf x hx hp)]
  rfl
theorem eComp2_all {mi : Ev → Res (List D)} {me : Ev → Res D} {js : List Nat} {ρ : Ev} {α : Type} (A B : α → D) (q : α → D) (xs : List α) (h : mi ρ = .ok (xs.map fun x => PyData.tuple [A x, B x])) (hl : xs.length ≤ 1000)
    (hf : ∀ x ∈ xs, me (cEnv2 ρ js (A x) (B x)) = .ok (q x)) : eComp2 mi tYes me js ρ = .ok (.list (xs.map q)) := by
  rw [eComp2_eq A B (fun _ => true) q xs h hl (fun _ _ => rfl) (fun x hx _ => hf x hx), List.filter_eq_self.mpr fun _ _ => rfl]
end L2.L3
namespace L2.L3
open PySem PyProof.Rows
variable [CN]
section
variable {X : Cx}
end
def revL : D → Option D
  | .list ds => some (.list ds.reverse)
  | _ => none
def eRevL (m : Ev → Res D) : Ev → Res D := fun ρ => (m ρ).bind fun d => Res.lft (revL d)
theorem zO (m : Ev → Res D) (ρ : Ev) : eRevL m ρ = (m ρ).bind fun d => Res.lft (revL d) := rfl
end L2.L3
namespace HT
open PySem PyProof.Rows
section
variable {prog : Program} {w : World} {A : Around} {E : Value → Shared → Prop} {s : Shared}
theorem cat_tup0 {t b : Addr} {ws : List Value} {Q : Value → Shared → Prop} (ht : IsTup s.heap t ([] : List Value).toArray) (hb : IsTup s.heap b ws.toArray) (h : Q (.ref b) s) : wpAny (model prog w) A (binaryOp .Add (.ref t) (.ref b)) Q E s := by
  obtain ⟨⟨cls, dd, data, sl⟩, ho, hc, n, hd⟩ := id ht
  obtain ⟨⟨cls2, dd2, data2, sl2⟩, ho2, hc2, n2, hd2⟩ := id hb
  simp only at hc hd hc2 hd2
  subst hc hd hc2 hd2
  exact concat_meets ⟨_, ho, rfl⟩ ⟨_, ho2, rfl⟩ noFill_tuple_add seq_tuple_add PySem.F.slot_tuple_add PySem.F.entry_tuple_add (PySem.F.args_tuple_add_2 _ _)
    (tuple_addW0 t b ([] : List Value).toArray ws.toArray n n2 dd dd2 sl sl2 (by simp)) ⟨ho, ho2, h⟩
end
end HT
namespace L2.L3
open PySem PyProof.Rows
variable [CN]
section
variable {X : Cx}
def rCatU (K : PySem.W.Frag) : R2 := fun x y H Q => ∃ a b xs ys, x = .ref a ∧ y = .ref b ∧ SqT K H a xs ∧ SqT K H b ys ∧ xs.length + ys.length ≤ sizeLine ∧
  (xs = [] → Q (.ref b) H) ∧ (xs ≠ [] → ys = [] → Q (.ref a) H) ∧ (xs ≠ [] → ys ≠ [] → ∀ p, H p = none → Q (.ref p) (upd H p (.tup (xs ++ ys))))
theorem op_catU : OpR X (binaryOp .Add) (rCatU X.K) := by
  intro pins s σ H x y v u Q I rx ry h
  obtain ⟨a, b, xs, ys, rfl, rfl, ha, hb, hz, q0, q1, q2⟩ := h
  by_cases hx : xs = []
  · cases rx
    cases ry
    obtain ⟨its, r1, p1, _⟩ := I.tuple ha
    obtain ⟨its2, r2, p2, _⟩ := I.tuple hb
    subst hx
    cases r1
    exact HT.cat_tup0 p1 p2 ⟨.ref b, H, I, rfl, q0 rfl⟩
  · exact op_catT pins s σ H _ _ v u Q I rx ry ⟨a, b, xs, ys, rfl, rfl, ha, hb, hx, hz, q1 hx, q2 hx⟩
end
def catT : D → D → Option D
  | .tuple xs, .tuple ys => if xs.length + ys.length ≤ sizeLine then some (.tuple (xs ++ ys)) else none
  | _, _ => none
theorem va_tup {Oc : Wd} {Ob : Addr → Prop} {H : Hp} {v : V} {ds : List D} (h : VA Oc Ob H v (.tuple ds)) : Rep H (Uni Oc Ob) v (.tuple ds) := by
  rcases h with h | ⟨a, ys, ds, rfl, e, e3, e5⟩
  · exact h
  · cases e
theorem pr_catT {K : PySem.W.Frag} : Pr2 (rCatU K) .cl catT := by
  intro Oc Ob H x y dx dy d Q oh vx vy e k
  cases dx with
  | tuple xs =>
    cases dy with
    | tuple ys =>
      obtain ⟨a, vs, rfl, rd, rs⟩ := vx.tuple
      obtain ⟨b, ws, rfl, rd', rs'⟩ := vy.tuple
      unfold catT at e
      simp only at e
      split at e
      · rename_i hl
        cases e
        refine ⟨a, b, vs, ws, rfl, rfl, .inl rd, .inl rd', by rw [rs.length, rs'.length]; exact hl, fun z => ?_, fun z1 z2 => ?_, fun _ _ p hp => k _ _ (Same.new hp) (new_tup oh hp (rs.append rs'))⟩
        · subst z
          cases rs
          exact k _ H (Same.refl H) (va_tup vy)
        · subst z2
          cases rs'
          rw [List.append_nil] at k
          exact k _ H (Same.refl H) (va_tup vx)
      · cases e
    | _ => cases e
  | _ => cases e
theorem catT_tI {xs ys : List Int} (h : xs.length + ys.length ≤ 1000) : catT (tI xs) (tI ys) = some (tI (xs ++ ys)) := by
  show (if (xs.map PyData.int).length + (ys.map PyData.int).length ≤ sizeLine then some (PyData.tuple (xs.map PyData.int ++ ys.map PyData.int)) else none) = _
  rw [if_pos (by rw [List.length_map, List.length_map]; exact Nat.le_trans h (by decide)), ← List.map_append]
end L2.L3
namespace L2.L3
open PySem PyProof.Rows
variable [CN]
end L2.L3
set_option maxHeartbeats 4000000
namespace L2.L3
open PySem PySem.Spec PyProof.Rows
variable [CN]
end L2.L3
set_option maxHeartbeats 4000000
namespace L2.L3
open PySem PySem.Spec PyProof.Rows
variable [CN]
section
variable {X : Cx}
end
end L2.L3
set_option maxHeartbeats 4000000
namespace HT
open PySem PyProof.Rows
section
open PySem.SeqAt
open PySem.AutoSeq1 (wpAny_loadPart')
open PySem.MeetsSeq PySem.MeetsSeq2 PySem.MeetsSeq3
end
section
variable {prog : Program} {w : World} {A : Around} {E : Value → Shared → Prop} {s : Shared}
end
end HT
namespace L2.L3
open PySem PySem.Spec PyProof.Rows
variable [CN]
section
variable {X : Cx}
end
end L2.L3
set_option maxHeartbeats 4000000
namespace L2.L3
open PySem PyProof.Rows
variable [CN]
section
variable {X : Cx}
end
end L2.L3
namespace L2.L3
universe u
theorem ls0 {α : Type u} {P : List α → Prop} (h : P []) : ∀ us : List α, us.length = 0 → P us := fun us e => by
  rw [List.eq_nil_of_length_eq_zero e]
  exact h
theorem lsS {α : Type u} {P : List α → Prop} {n : Nat} (h : ∀ a us, us.length = n → P (a :: us)) : ∀ us : List α, us.length = n + 1 → P us := fun us e => by
  cases us with
  | nil => cases e
  | cons a us => exact h a us (Nat.succ.inj e)
theorem ls1 {α : Type u} {P : List α → Prop} (h : ∀ a, P [a]) : ∀ us : List α, us.length = 1 → P us := lsS fun a => ls0 (h a)
theorem ls2 {α : Type u} {P : List α → Prop} (h : ∀ a b, P [a, b]) : ∀ us : List α, us.length = 2 → P us := lsS fun a => ls1 (h a)
theorem ls3 {α : Type u} {P : List α → Prop} (h : ∀ a b c, P [a, b, c]) : ∀ us : List α, us.length = 3 → P us := lsS fun a => ls2 (h a)
theorem ls4 {α : Type u} {P : List α → Prop} (h : ∀ a b c d, P [a, b, c, d]) : ∀ us : List α, us.length = 4 → P us := lsS fun a => ls3 (h a)
theorem ls5 {α : Type u} {P : List α → Prop} (h : ∀ a b c d e, P [a, b, c, d, e]) : ∀ us : List α, us.length = 5 → P us := lsS fun a => ls4 (h a)
theorem ls6 {α : Type u} {P : List α → Prop} (h : ∀ a b c d e f, P [a, b, c, d, e, f]) : ∀ us : List α, us.length = 6 → P us := lsS fun a => ls5 (h a)
end L2.L3
set_option maxHeartbeats 4000000
namespace L2.L3
open PySem PySem.Spec PyProof.Rows
variable [CN]
def Raw (B : Heap) (e : Addr) (cls a0 : Value) (h : Heap) : Prop :=
  h.TracedW B e cls a0 ∨ ∃ oe vs, h.get? e = some oe ∧ oe.cls = cls ∧ oe.data = .fields vs ∧ vs[1]? = some .none ∧ vs[0]? = some a0
structure Fl (stk : List Env) (h1 : Heap) (H : Hp) (e : Addr) (cls : Value) (B : Heap) (a0 : Value) (h : Heap) : Prop where
  stays : B.StaysIn h
  newB : B.get? e = none
  frm : h.FunFrames B stk
  raw : Raw B e cls a0 h
  cov : ∀ b o, h.get? b = some o → b ∉ frs stk → (h1.get? b ≠ none ∨ H b ≠ none) → B.get? b = some o
def ExcAt (X : Cx) (c : Str) (H : Hp) (e : Value) (s : Shared) : Prop :=
  ∃ (pins : List (Addr × Obj)) (σ : St) (s1 : Shared) (H1 : Hp) (a : Addr) (B : Heap) (a0 : Value), Inv X pins σ H1 s1 ∧ Inv X pins σ H s ∧ Un (frs X.stack) [] H1 H s1.heap s.heap ∧ e = .ref a ∧ s1.heap.get? a = none ∧ H a = none ∧ Fl X.stack s1.heap H a (.ref (CN.ad c)) B a0 s.heap
def CXV (P : Program) (w : World) : CXT := fun outer H s E e s' =>
  ∃ (a : Addr) (cls : Value) (B : Heap) (a0 : Value) (H' : Hp), e = .ref a ∧ s'.os = s.os ∧ AllBare s'.gens ∧ Un (frs outer) [] H H' s.heap s'.heap ∧ HOk P w H' s'.heap ∧ s.heap.get? a = none ∧ H' a = none ∧ Fl outer s.heap H' a cls B a0 s'.heap ∧ E cls none H'
theorem obj_there {P : Program} {w : World} {H : Hp} {h : Heap} {a : Addr} {o : HO} (x : ObjOk P w H h a o) : ∃ u, h.get? a = some u := by
  cases o with
  | lst xs => exact ⟨_, x.2.choose_spec.choose_spec.2⟩
  | tup xs => obtain ⟨_, its, _, ob, e, _⟩ := x; exact ⟨ob, e⟩
  | dK kvs => obtain ⟨_, _, _, _, ob, _, _, e, _⟩ := x; exact ⟨ob, e⟩
  | dT kvs => obtain ⟨_, _, _, _, ob, _, _, e, _⟩ := x; exact ⟨ob, e⟩
  | set S n => obtain ⟨ob, _, _, _, e, _⟩ := x; exact ⟨ob, e⟩
  | ins C dx fs => obtain ⟨_, _, _, e, _⟩ := x; exact ⟨_, e⟩
  | own y => exact x
  | xd fs => obtain ⟨_, ⟨ob, _, _, e, _⟩, _⟩ := x; exact ⟨ob, e⟩
  | rng lo hi => obtain ⟨_, _, _, e⟩ := x; exact ⟨_, e⟩
  | frz ob u => exact ⟨ob, x.1⟩
  | tbl ps => exact ⟨_, x⟩
  | met f y => exact ⟨_, x⟩
  | ext φ => exact x.2.1
theorem hok_there {P : Program} {w : World} {H : Hp} {h : Heap} {a : Addr} (x : HOk P w H h) (n : H a ≠ none) : ∃ u, h.get? a = some u := by
  cases e : H a with
  | none => exact absurd e n
  | some o => exact obj_there (x a o e)
theorem ne_some {α : Type} {o : Option α} (h : o ≠ none) : ∃ x, o = some x := by
  cases o with
  | none => exact absurd rfl h
  | some x => exact ⟨x, rfl⟩
theorem some_ne {α : Type} {o : Option α} {x : α} (h : o = some x) : o ≠ none := by
  rw [h]; exact fun z => nomatch z
theorem exc_leave {X : Cx} {c : Str} {H : Hp} {e : Value} {s : Shared} {E : XK} {E2 : Value → Shared → Prop} (x : ExcAt X c H e s) (hst : X.stack = X.env :: X.outer) (hfr : X.env.frame = some X.env.locals) (hex : X.ex = []) (hE : E (.ref (CN.ad c)) none H) :
    wpAny (model X.prog X.w) X.A (leaving X.env e) (fun _ s'' => CXV X.prog X.w X.outer X.H₀ X.s₀ E e s'') E2 s := by
  obtain ⟨pins, σ, s1, H1, a, B, a0, I1, I, un, rfl, n1, n2, f⟩ := x
  have noex : ∀ b : Addr, b ∉ X.ex := fun b z => by rw [hex] at z; cases z
  have hfs : frs X.stack = X.env.locals :: X.fs := by
    rw [hst]
    show List.filterMap _ _ = _
    rw [List.filterMap_cons, hfr]
    rfl
  have hfrm : s.heap.FunFrames B (X.env :: X.outer) := by rw [← hst]; exact f.frm
  have hA : X.A.frames = some (X.env :: X.outer) := by rw [← hst]; exact I.ok.frames
  have oldL : ∀ b o, X.s₀.heap.get? b = some o → b ≠ X.env.locals := fun b o q z => by
    subst z
    exact absurd (Heap.lt_size q) (Nat.not_lt.mpr I.ok.above)
  have old1 : ∀ b o, X.s₀.heap.get? b = some o → s1.heap.get? b ≠ none := fun b o q => let ⟨_, e⟩ := I1.base.there b o q (noex b); some_ne e
  have key : ∀ h', Heap.LeftW B (X.env :: X.outer) a (.ref (CN.ad c)) a0 s.heap h' → CXV X.prog X.w X.outer X.H₀ X.s₀ E (.ref a) { s with heap := h' } := by
    rintro h' ⟨k1, k2, k3, k4⟩
    have kp : ∀ b o, s.heap.get? b = some o → b ∉ frs X.stack → (s1.heap.get? b ≠ none ∨ H b ≠ none) → h'.get? b = some o := fun b o q n z => k1 b o (f.cov b o q n z)
    have out : ∀ b, b ∉ X.fs → b ≠ X.env.locals → b ∉ frs X.stack := fun b n1 n2 z => by
      rw [hfs] at z
      rcases List.mem_cons.mp z with z | z
      · exact n2 z
      · exact n1 z
    have trk : ∀ b, H b ≠ none → b ∉ frs X.stack := fun b n z => n (I.stkFree b z)
    refine ⟨a, _, B, a0, H, rfl, I.os, I.bare, ⟨fun b o q n hb hx => ?_, fun b o q n hb hx => ?_, fun b o q n hx => I.base.free b o q n (noex b), fun b o q hx => ?_, I.base.tups, I.base.frzs, I.base.tbls⟩, fun b o q => ?_, ?_, n2, ⟨k1, f.newB, k2.2.2, .inl k3, fun b o q n z => ?_⟩, hE⟩
    · exact kp b o (I.base.keep b o q n hb (noex b)) (out b hb (oldL b o q)) (.inl (old1 b o q))
    · obtain ⟨sl, e⟩ := I.base.slot b o q n hb (noex b)
      obtain ⟨_, o', e', nf⟩ := f.frm.mem (b := b) (by show b ∈ frs X.stack; rw [hfs]; exact List.mem_cons_of_mem _ hb)
      rw [e] at e'
      cases e'
      obtain ⟨sl', e2⟩ := k4 b _ e nf
      exact ⟨sl', e2⟩
    · by_cases hb : b ∈ frs X.stack
      · obtain ⟨_, o', e', _⟩ := k2.mem (b := b) (by rw [hst] at hb; exact hb)
        exact ⟨o', e'⟩
      · obtain ⟨o', e'⟩ := I.base.there b o q (noex b)
        exact ⟨o', kp b o' e' hb (.inl (old1 b o q))⟩
    · refine (I.hok b o q).stay (fun b' u hb' e => ?_) (fun _ z => z) fun _ _ z => z
      have n : H b' ≠ none := by
        rcases hb' with rfl | hb'
        · exact some_ne q
        · exact some_ne hb'
      exact kp b' u e (trk b' n) (.inr n)
    · cases q : X.s₀.heap.get? a with
      | none => rfl
      | some o => exact absurd n1 (old1 a o q)
    · have nL : b ≠ X.env.locals := by
        rcases z with z | z
        · obtain ⟨o', q'⟩ := ne_some z
          exact oldL b o' q'
        · intro y
          subst y
          exact z I.free
      have ns : b ∉ frs X.stack := out b n nL
      obtain ⟨o2, q2⟩ : ∃ o2, s.heap.get? b = some o2 := by
        rcases z with z | z
        · obtain ⟨o', q'⟩ := ne_some z
          exact I.base.there b o' q' (noex b)
        · exact hok_there I.hok z
      have z' : s1.heap.get? b ≠ none ∨ H b ≠ none := by
        rcases z with z | z
        · obtain ⟨o', q'⟩ := ne_some z
          exact .inl (old1 b o' q')
        · exact .inr z
      have hB := f.cov b o2 q2 ns z'
      have q3 := k1 b o2 hB
      have q4 : h'.get? b = some o := q
      rw [q3] at q4
      cases q4
      exact hB
  rcases f.raw with t | ⟨oe, vs, he, hc, hd, h1, h0⟩
  · exact wpAny_leaving_nextW hA hfrm hfr t f.stays f.newB key
  · rw [← hc] at key
    exact wpAny_leaving_firstW hA hfrm hfr he f.stays f.newB hd h1 h0 key
def Br (C : Ct) : Prop := ∀ (c : Str) (H : Hp) (e : Value) (s : Shared), ExcAt C.X c H e s → C.XE c H → C.X.xe e s
theorem br_no {C : Ct} (h : ∀ c H, C.XE c H → False) : Br C := fun c H _ _ _ z => (h c H z).elim
def wX (C : Ct) : XK := fun v _ H => ∃ c, v = .ref (CN.ad c) ∧ C.XE c H
theorem passX {C : Ct} (hb : Br C) : Passes (CXV C.X.prog C.X.w) C.X (wX C) := by
  intro pins σ H s e s' I h
  obtain ⟨a, cls, B, a0, H', rfl, os, bare, un, hok, n1, n2, f, c, rfl, z⟩ := h
  exact hb c H' _ s' ⟨pins, σ, s, H, a, B, a0, I, I.call' os un hok bare (fun b z => by cases z), un, rfl, n1, n2, f⟩ z
def spX (fr : Bool) (F : List D → Res D) : Sp := fun vs H Q E => ∃ (ds : List D) (O : Addr → Prop), (∀ a, O a → H a ≠ none) ∧ Reps H O vs ds ∧ (F ds).post (fun d => ∀ v H', Same H H' → CallOk fr O H H' v d → Q v H') (fun c => ∀ H', Same H H' → E (.ref (CN.ad c)) none H')
section
variable {P : Program} {w : World} {K : PySem.W.Frag} {mg : Str → Option Value} {base : Heap}
abbrev bodyX (P : Program) (w : World) (K : PySem.W.Frag) (mg : Str → Option Value) (base : Heap) (N : List Str) (x : Str) (sc : Scope) (f : Addr) (cdv : Value) (A : Around) (outer : List Env) (s : Shared) (H : Hp) (E : XK) (om : List Nat) : Ct :=
  ⟨cxOf (CXV P w) P w K mg base N x sc f cdv A outer s H E, fun c H' => E (.ref (CN.ad c)) none H', om, []⟩
theorem br_body {N : List Str} {x : Str} {sc : Scope} {f : Addr} {cdv : Value} {A : Around} {outer : List Env} {s : Shared} {H : Hp} {E : XK} {om : List Nat} : Br (bodyX P w K mg base N x sc f cdv A outer s H E om) :=
  fun c H' e s' x h => exc_leave x rfl rfl rfl h
theorem fnX_ok {x : Str} {st : Stmt} {f : Addr} {fd : FuncData} {N ps : List Str} {k : Nat} {m : Ev → Res Out} {fr : Bool} (om : List Nat) (F : Fun K x x st f fd) (S : vW N ps (zS st))
    (hbody : ∀ (cdv : Value) (A : Around) (outer : List Env) (s : Shared) (H : Hp) (E : XK), Room k (A.deeper (envOfC x (zS st) s.heap.objs.size f cdv)) → RSs (bodyX P w K mg base N x (zS st) f cdv A outer s H E om) fr (defBody st) m)
    (hom : autoParam (om.all (fun i => decide (ps.length ≤ i)) = true) zX._auto_1) :
    FnOk P w K mg base (CXV P w) (k + 1) f fd ps (spX fr (runF fr ps.length N.length m)) := by
  have len : ∀ (vs : List V) (H : Hp) (Q : VK) (E : XK), spX fr (runF fr ps.length N.length m) vs H Q E → vs.length = ps.length := fun vs H Q E h => by
    obtain ⟨ds, O, oh, r, k⟩ := h
    unfold runF at k
    split at k
    · rename_i hl
      rw [r.length]; exact hl
    · exact k.elim
  obtain ⟨oc, od, kV, doc, pm, an, cdv, ct, osl, rfl, lk, hcd⟩ := F.ex
  refine fn_of lk hcd S len fun A outer s H vs Q E hr h => ?_
  have hvl := len vs H Q E h
  obtain ⟨ds, O, oh, r, k⟩ := h
  have hl : ds.length = ps.length := by rw [← r.length]; exact hvl
  unfold runF at k
  rw [if_pos hl] at k
  obtain ⟨t, p, q⟩ := hbody cdv A outer s H E hr
  refine ⟨t, p, q ⟨O, fun _ => 0⟩ (fun _ => False) _ H (ds.map some ++ List.replicate (N.length - ps.length) none) _ ?_ ?_⟩
  · refine ⟨?_, fun i d e _ _ => ?_, fun i d e ho => ?_, fun i d e _ hl => (nomatch hl), fun i j di dj a ei _ ho _ _ _ => ?_, fun a z => oh a (z.elim id fun z => z.elim), fun a z => z.elim⟩
    · unfold start
      rw [List.length_append, List.length_append, List.length_map, List.length_map, List.length_replicate, List.length_replicate, hvl, hl]
    · obtain ⟨v, ev, rv⟩ := r.get (start_get e)
      exact ⟨v, start_of ev, rv.less fun b z => z.elim id fun z => z.elim⟩
    · have h1 := (List.getElem?_eq_some_iff.mp (start_get e)).1
      have h2 : ps.length ≤ i := of_decide_eq_true (List.all_eq_true.mp hom i ho)
      bv_omega
    · have h1 := (List.getElem?_eq_some_iff.mp (start_get ei)).1
      have h2 : ps.length ≤ i := of_decide_eq_true (List.all_eq_true.mp hom i ho)
      bv_omega
  · have same : ∀ {H' : Hp}, Frm (fun _ => False) H H' → Same H H' := fun f b o e => f b o e fun z => z
    refine Res.zR (Res.zV k) (fun o _ k => ?_) fun c z H' f => z H' (same f)
    cases o with
    | rt d =>
      intro v H' f rt
      refine k v H' (same f) ?_
      cases fr with
      | false => exact rt
      | true =>
        obtain ⟨a, ys, ds, e1, e2, e3, e4, e5, e6⟩ := rt
        exact ⟨a, ys, ds, e1, e2, e3.elim id fun z => z.elim, e5, e6⟩
    | nx ρ' =>
      cases fr with
      | true => exact k.elim
      | false => exact fun σ' H' Ob' R f s => k .non H' (same f) Rep.non
theorem fnX_no {fr : Bool} {k : Nat} {f : Addr} {fd : FuncData} {ps : List Str} : FnOk P w K mg base (CXV P w) k f fd ps (spX fr fun _ => .no) :=
  ⟨fun _ _ _ _ ⟨_, _, _, _, k⟩ => k.elim, fun _ _ _ _ _ _ _ _ _ _ _ _ _ ⟨_, _, _, _, k⟩ => k.elim⟩
end
theorem reX_call {C : Ct} {k : Nat} {f : Addr} {fd : FuncData} {ps : List Str} {fr : Bool} {F : List D → Res D} {x : Str} {p pos : Pos} {e : Expr} {es : List Expr} {ms : Ev → Res (List D)} {st : Stmt} (G : FnOk C.X.prog C.X.w C.X.K C.X.mg C.X.base (CXV C.X.prog C.X.w) k f fd ps (spX fr F)) (hh : Has C.X.K C.X.mg x st f fd ps) (hr : Room k C.X.A)
    (hb : Br C) (ha : RArg C true (e :: es) ms) (hg : autoParam (Gl C.X x) zX._auto_1) (hdb : autoParam ((x == ("__debug__" : Str)) = false) vY._auto_1) (he : autoParam (starEach (e :: es) C.X.env = (false, eval e C.X.env) :: starEach es C.X.env) zX._auto_1) (hpl : autoParam ((backTo pos (starEach es C.X.env)).any (·.1) = false) zX._auto_1) :
    RE C (mdF fr) (.Call (.Name x p) (e :: es) [] pos) (eF F ms) := by
  obtain ⟨t, pa, q⟩ := ha
  refine ⟨_, pe_call G hr hg hh.m hh.F.kp hh.b .nil (passX hb) pa hdb he hpl, fun Oc Ob σ H ρ Q R h => ?_⟩
  refine q Oc Ob σ H ρ _ R (Res.zR (Res.zV h) (fun ds _ k vs H1 s1 r => ?_) fun c z => z)
  show spX fr F (vs ++ []) H1 Q (wX C)
  rw [List.append_nil]
  refine ⟨ds, Uni Oc Ob, (R.same s1).oh, r, Res.zR k (fun d _ k v H' s2 rv => ?_) fun c z H' s2 => ⟨c, rfl, z H' (s1.trans s2)⟩⟩
  refine k v H' (s1.trans s2) ?_
  cases fr with
  | false => exact rv
  | true =>
    obtain ⟨a, ys, ds, e1, e2, e3, e4, e5⟩ := rv
    exact ⟨a, ys, ds, e1, e2, s1.free e3, e4, e5⟩
section
variable {C : Ct} {k : Nat} {f : Addr} {fd : FuncData} {ps : List Str} {F : List D → Res D} {x : Str} {p pos : Pos} {e : Expr} {es : List Expr} {ms : Ev → Res (List D)} {st : Stmt}
theorem reX_callC (G : FnOk C.X.prog C.X.w C.X.K C.X.mg C.X.base (CXV C.X.prog C.X.w) k f fd ps (spX false F)) (hh : Has C.X.K C.X.mg x st f fd ps) (hr : Room k C.X.A)
    (hb : Br C) (ha : RArg C true (e :: es) ms) (hg : autoParam (Gl C.X x) zX._auto_1) (hdb : autoParam ((x == ("__debug__" : Str)) = false) vY._auto_1) (he : autoParam (starEach (e :: es) C.X.env = (false, eval e C.X.env) :: starEach es C.X.env) zX._auto_1) (hpl : autoParam ((backTo pos (starEach es C.X.env)).any (·.1) = false) zX._auto_1) :
    RE C .cl (.Call (.Name x p) (e :: es) [] pos) (eF F ms) := reX_call (fr := false) G hh hr hb ha hg hdb he hpl
theorem reX_callN (G : FnOk C.X.prog C.X.w C.X.K C.X.mg C.X.base (CXV C.X.prog C.X.w) k f fd ps (spX true F)) (hh : Has C.X.K C.X.mg x st f fd ps) (hr : Room k C.X.A)
    (hb : Br C) (ha : RArg C true (e :: es) ms) (hg : autoParam (Gl C.X x) zX._auto_1) (hdb : autoParam ((x == ("__debug__" : Str)) = false) vY._auto_1) (he : autoParam (starEach (e :: es) C.X.env = (false, eval e C.X.env) :: starEach es C.X.env) zX._auto_1) (hpl : autoParam ((backTo pos (starEach es C.X.env)).any (·.1) = false) zX._auto_1) :
    RE C .new (.Call (.Name x p) (e :: es) [] pos) (eF F ms) := reX_call (fr := true) G hh hr hb ha hg hdb he hpl
end
end L2.L3
set_option maxHeartbeats 4000000
namespace L2
open PySem PySem.Spec PyProof.Rows
section
variable {X : Cx} {pins : List (Addr × Obj)} {σ : St} {H : Hp} {s : Shared}
theorem unbind_ok {M : Model} {A : Around} {E : Value → Shared → Prop} {i : Nat} {x : Str} {v : V} {Q : Unit → Shared → Prop} (I : Inv X pins σ H s) (hN : X.N.Nodup) (hi : X.N[i]? = some x) (hk : X.env.scope.names.lookup x = some .local) (hv : σ[i]? = some (some v))
    (h : ∀ s', Inv X pins (σ.set i none) H s' → Q () s') : wpAny M A (unbindName X.env x) Q E s := by
  obtain ⟨m, hn, hl⟩ := id I.loc
  have hcls : (X.env.scope.kind == .class || (X.env.scope.kind == .module && X.env.locals != X.env.globals)) = false := by rw [I.ok.kind]; rfl
  have hiσ : i < σ.length := by rw [I.len]; exact (List.getElem?_eq_some_iff.mp hi).1
  obtain ⟨u, r, l⟩ := hl i x v hi hv (.inl hk)
  have mx : m x = some u := by
    rcases l with ⟨_, e⟩ | ⟨k, _⟩
    · exact e
    · have k' : X.env.scope.names.lookup x = some .cell ∨ X.env.scope.names.lookup x = some .free := k
      rw [hk] at k'
      rcases k' with k' | k' <;> cases k'
  refine wpAny_unbindName_local hk hn mx hcls fun h' u' hn' hs => ?_
  obtain ⟨oL, _, _, hoL, _⟩ := id hn
  have old : ∀ b o, X.s₀.heap.get? b = some o → h'.get? b = s.heap.get? b := fun b o e => hs.2 b (Nat.ne_of_lt (Nat.lt_of_lt_of_le (Heap.lt_size e) I.ok.above))
  refine h _ ⟨I.ok, I.os, I.bare, ⟨fun b o e n hb hx => ?_, fun b o e n hb hx => ?_, I.base.free, fun b o e hx => ?_, I.base.tups, I.base.frzs, I.base.tbls⟩, ⟨_, hn', fun j y v' e1 e2 e3 => ?_⟩, fun y c e => ?_, I.free, I.freeC, fun p hp => ?_, fun b ob e => ?_, by simpa using I.len⟩
  · exact (old b o e).trans (I.base.keep b o e n hb hx)
  · obtain ⟨sl, e1⟩ := I.base.slot b o e n hb hx
    exact ⟨sl, (old b o e).trans e1⟩
  · obtain ⟨o', e1⟩ := I.base.there b o e hx
    exact ⟨o', (old b o e).trans e1⟩
  · by_cases hj : j = i
    · subst hj
      rw [List.getElem?_set_self hiσ] at e2
      cases e2
    · rw [List.getElem?_set_ne (Ne.symm hj)] at e2
      obtain ⟨w', r', q⟩ := hl j y v' e1 e2 e3
      refine ⟨w', r', ?_⟩
      rcases q with ⟨k, e⟩ | ⟨k, c, e, z⟩
      · refine .inl ⟨k, ?_⟩
        have : y ≠ x := fun e => hj (nodup_ix hN e1 (e ▸ hi))
        simp [this, e]
      · exact .inr ⟨k, c, e, z.sameBut hs (I.cne y c e)⟩
  · obtain ⟨w', z⟩ := I.cell y c e
    exact ⟨w', z.sameBut hs (I.cne y c e)⟩
  · obtain ⟨e, n, ne, nf, d⟩ := I.pin p hp
    exact ⟨(hs.2 p.1 ne).trans e, n, ne, nf, d⟩
  · refine (I.hok b ob e).stay (fun c w' hc q => (hs.2 c ?_).trans q) (fun _ q => q) fun _ _ q => q
    rintro rfl
    rcases hc with rfl | hc
    · rw [I.free] at e; cases e
    · rw [I.free] at hc; cases hc
theorem Inv.track {a : Addr} {o : HO} (I : Inv X pins σ H s) (n : H a = none) (n0 : X.s₀.heap.get? a = none) (nL : a ≠ X.env.locals) (nC : ∀ x c, X.env.cells.lookup x = some c → c ≠ a) (nP : ∀ p ∈ X.pn ++ pins, p.1 ≠ a) (new : ObjOk X.prog X.w (upd H a o) s.heap a o) : Inv X pins σ (upd H a o) s := by
  have ne : ∀ b u, H b = some u → b ≠ a := fun b u e z => by subst z; rw [n] at e; cases e
  have up : ∀ b u, H b = some u → upd H a o b = some u := fun b u e => by rw [yA (ne b u e)]; exact e
  refine ⟨I.ok, I.os, I.bare, ⟨I.base.keep, I.base.slot, fun b u q z hx => ?_, I.base.there, fun b xs q => up _ _ (I.base.tups b xs q), fun b u v q => up _ _ (I.base.frzs b u v q), fun b ps q => ?_⟩, I.loc, I.cell, ?_, fun x c e => ?_, fun p hp => ?_, fun b u e => ?_, I.len⟩
  · have : b ≠ a := fun y => by subst y; rw [n0] at q; cases q
    rw [yA this]
    exact I.base.free b u q z hx
  · obtain ⟨more, e⟩ := I.base.tbls b ps q
    exact ⟨more, up _ _ e⟩
  · rw [yA (Ne.symm nL)]
    exact I.free
  · rw [yA (nC x c e)]
    exact I.freeC x c e
  · obtain ⟨e, m, x1, x2, x3⟩ := I.pin p hp
    exact ⟨e, by rw [yA (nP p hp)]; exact m, x1, x2, x3⟩
  · by_cases h : b = a
    · subst h
      rw [wL] at e
      cases e
      exact new
    · rw [yA h] at e
      exact (I.hok b u e).stay (fun _ _ _ q => q) (fun c q => up _ _ q) fun c xs q => up _ _ q
end
end L2
namespace L2.L3
open PySem PySem.Spec PyProof.Rows
variable [CN]
abbrev bmV : List Value := [.type "ValueError", .type "Exception", .type "BaseException", .type "object"]
def OwnX (K : PySem.W.Frag) (x : Str) : Prop := PySem.W.excIn K (CN.ad x) bmV "ValueError.__new__" = true
theorem own_obj {K : PySem.W.Frag} {h : Heap} {A : Addr} {bmB : List Value} {nid : String} (X : K.In h) (q : PySem.W.excIn K A bmB nid = true) :
    ∃ (tl : List Value) (N : Addr) (nm qn : Str) (bs : List Value) (hd : Bool) (sn : List Str) (sb : List Value) (ab : Bool) (co : Option Bool) (dd : Option Addr) (k0 k1 k2 k3 k5 : Option Value) (mN : Str → Option Value),
      h.get? A = some (excClassObj nm qn A N bs tl hd sn sb ab co dd k0 k1 k2 k3 k5 nid) ∧ h.Ns N mN ∧ mN "__init__" = none ∧ OwnTail h bmB tl := by
  revert q
  rw [PySem.W.excIn]
  split
  case h_2 => exact fun q => nomatch q
  case h_1 dd cd sl lk =>
    split
    case h_2 => exact fun q => nomatch q
    case h_1 A' tl j0 j1 j2 j3 nn j5 em es =>
      intro q
      rw [Bool.and_eq_true, Bool.and_eq_true, Bool.and_eq_true, Bool.and_eq_true, Bool.and_eq_true] at q
      have q6 := q.2
      have q5 := q.1.2
      have q4 := q.1.1.2
      have q3 := q.1.1.1.2
      have q2 := eq_of_beq q.1.1.1.1.2
      have q1 := eq_of_beq q.1.1.1.1.1
      cases cd
      cases sl
      simp only at em es q3 q5 q6
      subst em es q1 q2
      simp only [Bool.not_eq_true'] at q3
      subst q3
      exact ⟨_, _, _, _, _, _, _, _, _, _, _, _, _, _, _, _, _, X _ _ lk, .of_isNs (PySem.W.isNs_of_in X q5), PySem.W.nsMap_none_of_in X q5 (eq_of_beq q6), PySem.W.tail_of_in X q4⟩
theorem exc_made {X : Cx} {pins : List (Addr × Obj)} {σ : St} {H : Hp} {s : Shared} {c : Str} {h' : Heap} {e : Addr} {args : List Value} (I : Inv X pins σ H s) (m : Heap.MadeExcOf s.heap h' e (.ref (CN.ad c)) args) : ExcAt X c H (.ref e) { s with heap := h' } := by
  obtain ⟨t, he, _, _⟩ := m.there
  have I2 : Inv X pins σ H { s with heap := h', toks := s.toks } := I.kept m.keeps
  have n : H e = none := by
    cases q : H e with
    | none => rfl
    | some o =>
      obtain ⟨u, z⟩ := obj_there (I.hok e o q)
      rw [m.new] at z
      cases z
  refine ⟨pins, σ, s, H, e, PySem.W.hideAll h' (e :: frs X.stack), .ref t, I, I2, Un.kept m.keeps, rfl, m.new, n, fun b o q => PySem.W.of_hideAll _ q, PySem.W.hideAll_none _ (.head _), PySem.W.funFrames_hide I2.stack fun env he a ha => List.mem_cons_of_mem _ (List.mem_filterMap.mpr ⟨env, he, ha⟩), .inr ⟨_, _, he, rfl, rfl, rfl, rfl⟩, fun b o q nb z => PySem.W.hideAll_get _ q fun hb => ?_⟩
  rcases List.mem_cons.mp hb with rfl | hb
  · rcases z with z | z
    · exact z m.new
    · exact z n
  · exact nb hb
def sRa (c : Str) (m : Ev → Res (List D)) : Ev → Res Out := fun ρ => (m ρ).bind fun ds => if ds.length ≤ sizeLine then .ex c else .no
theorem rs_raise {C : Ct} {fr : Bool} {x : Str} {np cpos pos : Pos} {e : Expr} {es : List Expr} {ms : Ev → Res (List D)} (hb : Br C) (ho : OwnX C.X.K x) (hm : C.X.mg x = some (.ref (CN.ad x))) (ha : RArg C false (e :: es) ms) (hc : autoParam (C.X.calm = true) zX._auto_1) (hg : autoParam (Gl C.X x) zX._auto_1) (hdb : autoParam ((x == ("__debug__" : Str)) = false) vY._auto_1)
    (he : autoParam (starEach (e :: es) C.X.env = (false, eval e C.X.env) :: starEach es C.X.env) zX._auto_1) (hpl : autoParam ((backTo cpos (starEach es C.X.env)).any (·.1) = false) zX._auto_1) :
    RS C fr (.Raise (some (.Call (.Name x np) (e :: es) [] cpos)) none pos) (sRa x ms) := by
  obtain ⟨t, pa, q⟩ := ha
  refine ⟨fun _ σ H => t σ H fun vs H1 => vs.length ≤ sizeLine ∧ C.XE x H1, fun pins s σ H D I h => ?_, fun Oc Ob σ H ρ E R h => q Oc Ob σ H ρ _ R (Res.zR (Res.zV h) (fun ds _ k vs H' s r => ?_) fun c z H' s => z H' (Same.frm s))⟩
  · obtain ⟨tl, N, nm, qn, bs, hd, sn, sb, ab, co, dd, k0, k1, k2, k3, k5, mN, hC, hN, hni, T⟩ := own_obj I.mod.kin ho
    refine wpAny_Raise_call_subT (C := CN.ad x) (nm := nm) (q := qn) (N := N) (bs := bs) (bm := tl) (hdct := hd) (sn := sn) (sub := sb) (ab := ab) (col := co) (dd := dd) (k0 := k0) (k1 := k1) (k2 := k2) (k3 := k3) (k5 := k5) PySem.F.excBase_ValueError (mN := mN) (T.hasType PySem.F.excBase_ValueError.hasBase) (I.ok.hd hc)
      (by rw [he]; show (false || (backTo cpos (starEach es C.X.env)).any (·.1)) = false; rw [hpl]; rfl) hni (ld_glob I hg hm ⟨rfl, ?_⟩ hdb)
    have h2 := pa cpos pins s σ H _ I h
    rw [he] at h2 ⊢
    refine Calls.evalArgs_plain (wpAny_mono h2 (fun us s2 ⟨vs, H2, I2, r, hl, z⟩ => ?_) fun _ _ y => y)
    exact ⟨rfl, by rw [← r.length]; exact hl, I2.bk _ _ hC, hN.keeps I2.bk, T.keeps I2.bk, fun h' a m => hb x H2 _ _ (exc_made I2 m) z⟩
  · by_cases hl : ds.length ≤ sizeLine
    · rw [if_pos hl] at k
      exact ⟨by rw [(VAs.rep r).length]; exact hl, k H' (Same.frm s)⟩
    · rw [if_neg hl] at k
      exact k.elim
end L2.L3
set_option maxHeartbeats 4000000
namespace PySem
section
variable {prog : Program} {w : World} {A : Around} {E : Value → Shared → Prop} {h : Heap} {g : Array GenState} {d : Drawn} {t : Nat} {os : OsState} {a C : Addr} {o : Obj} {K : PySem.W.Frag}
structure ExK (K : PySem.W.Frag) (C : Addr) : Prop where
  ga : PySem.W.findIn K (.ref C) "__getattribute__" = some (some (.builtin "BaseException.__getattribute__"))
  gn : PySem.W.findIn K (.ref C) "__getattr__" = some none
  cl : PySem.W.findIn K (.ref C) "__class__" = some (some (.builtin "object.__class__"))
  sb : PySem.W.subIn K (.ref C) (.type "BaseException") = some true
  so : PySem.W.subIn K (.ref C) (.type "object") = some true
  ci : (PySem.W.clsIn K C).isSome = true
theorem exc_own {M : Model} {nm : Str} {v : Option Value} {P : Option Value → Shared → Prop} (X : K.In h) (e : PySem.W.findIn K (.ref C) nm = some v) (q : P v ⟨h, g, d, t, os⟩) : wpAny M A (typeLookup (.ref C) nm) P E ⟨h, g, d, t, os⟩ := (PySem.W.looks_findIn X e).at q
theorem exc_under {M : Model} {T : String} {P : Bool → Shared → Prop} {x : Shared} (X : K.In x.heap) (e : PySem.W.subIn K (.ref C) (.type T) = some true) (q : P true x) : wpAny M A (isSubtype (.ref C) (.type T)) P E x := (PySem.W.looks_subIn X e).at q
variable {dd : Option Addr} {dt : Data} {sl : Array (Option Value)} {x : Shared}
theorem exc_get {R : Result → Shared → Prop} (X : K.In x.heap) (k : ExK K C) (hx : x.heap.get? a = some ⟨.ref C, dd, dt, sl⟩) (q : R (.ok (.ret (.ref C))) x) : codeAny (model prog w) A (.call (.builtin "getset_descriptor.__get__") ⟨[.builtin "object.__class__", .ref a, .ref C], []⟩) R x := by
  have ow := F.owner_object_class
  have s1 : ∀ P : Bool → Shared → Prop, ∀ B : Around, ∀ E' : Value → Shared → Prop, P true x → wpAny (model prog w) B (isSubtype (.ref C) (.type (".".intercalate ("object.__class__".cutAt '.').dropLast))) P E' x := fun P B E' z => by rw [ow]; exact exc_under X k.so z
  have ty : x.TypeIs (.builtin "object.__class__") "getset_descriptor" := F.typeOf_object_class
  have ok := F.args_gs_get (.builtin "object.__class__") (.ref a) (.ref C)
  refine codeAny_call_builtin F.slot_gs_get.plain F.entry_gs_get ?_
  refine F.slot_gs_get.check _ _ _ _ _ _ _ _ ty ok ?_
  repeat' first | assumption | ((with_reducible apply wpAny_loadPart_at hx) <;> try dsimp only) | ((with_reducible apply s1) <;> try dsimp only) | wp_step
  exact ⟨Code.quiet_builtin _ (by decide +kernel), codeAny_builtin F.entry_object_class (by repeat' first | assumption | ((with_reducible apply wpAny_loadPart_at hx) <;> try dsimp only) | wp_step)⟩
theorem exc_ga {tk : Tok} {P : Fin → Shared → Prop} (X : K.In x.heap) (k : ExK K C) (hx : x.heap.get? a = some ⟨.ref C, dd, dt, sl⟩) (q : P (.done (.ret (.ref C))) x) : wpAny (model prog w) A (Builtin.«object.__getattribute__» ⟨[.ref a, .str "__class__" tk], []⟩) P E x := by
  have g1 := F.typeOf_object_class
  have g2 := F.slot_gs_get.lookup
  have g3 := F.slot_gs_set.lookup
  have ty : x.TypeIs (.builtin "object.__class__") "getset_descriptor" := g1
  repeat' first | assumption | ((with_reducible apply wpAny_loadPart_at hx) <;> try dsimp only) | ((with_reducible apply exc_own X k.cl) <;> try dsimp only) | ((with_reducible apply exc_get X k hx) <;> try dsimp only) | wp_step
theorem exc_let {nv : Value} {M : Model} {P : Unit → Shared → Prop} (X : K.In x.heap) (k : ExK K C) (hx : x.heap.get? a = some ⟨.ref C, dd, dt, sl⟩) (q : P () x) : wpAny M A (checkBuiltinCall "BaseException.__getattribute__" ⟨[.ref a, nv], []⟩) P E x := by
  have g1 : builtinKind "BaseException.__getattribute__" = some .slot := by decide +kernel
  have g2 : splitId "BaseException.__getattribute__" = some ("BaseException", "__getattribute__") := by decide +kernel
  have g3 := F.args_bexc_ga (.ref a) nv
  unfold checkBuiltinCall isInstance
  simp only [g1, g2]
  repeat' first | assumption | ((with_reducible apply wpAny_loadPart_at hx) <;> try dsimp only) | ((with_reducible apply exc_under X k.sb) <;> try dsimp only) | wp_step
theorem exc_cls {P : Option Value → Shared → Prop} (X : K.In x.heap) (k : ExK K C) (hx : x.heap.get? a = some ⟨.ref C, dd, dt, sl⟩) (q : P (some (.ref C)) { x with toks := x.toks + 1 }) : wpAny (model prog w) A (getAttr? (.ref a) "__class__") P E x := by
  have g1 := F.attrBase_ValueError.ga.bind (.ref a)
  have g2 : (Value.builtin "BaseException.__getattribute__" == Value.builtin "object.__getattribute__") = false := by decide +kernel
  have g3 : (onTheHeap (Value.ref C) && Value.builtin "BaseException.__getattribute__" == Value.builtin "object.__getattribute__") = false := by rw [g2, Bool.and_false]
  have g4 : (false && onTheHeap (Value.builtin "BaseException.__getattribute__")) = false := rfl
  obtain ⟨h, g, d, t, os⟩ := x
  unfold getAttr? getAttrBy?
  repeat' first | assumption | ((with_reducible apply wpAny_loadPart_at hx) <;> try dsimp only) | ((with_reducible apply exc_own X k.ga) <;> try dsimp only) | ((with_reducible apply exc_own X k.gn) <;> try dsimp only) | wp_step
  have X' : K.In (Shared.mk h g d (t + 1) os).heap := X
  have hx' : (Shared.mk h g d (t + 1) os).heap.get? a = some ⟨.ref C, dd, dt, sl⟩ := hx
  refine codeAny_call_builtin F.attrBase_ValueError.ga.plain F.entry_bexc_ga (exc_let X' k hx' (exc_ga X' k hx' ?_))
  repeat' first | assumption | ((with_reducible apply hx') <;> try dsimp only) | wp_step
end
theorem kitx_exc {K : PySem.W.Frag} {a C : Addr} (k : ExK K C) : PySem.W.KitX K (.ref a) (.ref C) (fun h => ∃ o, h.get? a = some o ∧ o.cls = .ref C) where
  ty := fun M h _ ⟨o, h1, h2⟩ => h2 ▸ (PySem.W.Looks.ld h1).andThen .now
  it := fun M h X _ => by
    have z := k.ci
    unfold PySem.W.clsIn at z
    split at z
    · rename_i ho
      intro A' Q' E' s' kk q
      unfold isType loadHead
      exact wpAny_bind (wpAny_loadPart (kk _ _ (X _ _ ho)) (wpAny_pure q))
    · cases z
  ne := fun h tp dd its n sl X htp => beq_eq_false_iff_ne.mpr fun q => by
    cases q
    have z := k.ci
    unfold PySem.W.clsIn at z
    split at z
    · rename_i ho
      cases (X _ _ ho).symm.trans htp
    · cases z
  ca := fun {_ _ _ _ _ s} X p q => by
    obtain ⟨⟨c, dd, dt, sl⟩, h1, h2⟩ := p
    cases h2
    exact exc_cls X k h1 q
theorem exc_match {K : PySem.W.Frag} {M : Model} {A : Around} {E : Value → Shared → Prop} {Q : Bool → Shared → Prop} {s : Shared} {a c x : Addr} {o : Obj} (X : K.In s.heap) (he : s.heap.get? a = some o) (hc : o.cls = .ref c) (hk : PySem.W.kitCls K (.ref c) (.ref x) = some true)
    (hb : PySem.W.subIn K (.ref x) (.type "BaseException") = some true) (hq : Q true s) : wpAny M A (excMatches (.ref a) (.ref x)) Q E s := by
  obtain ⟨hh, g, d, t, os⟩ := s
  obtain ⟨L1, L2, L3⟩ := PySem.W.kit_cls (M := M) X hk
  have L4 := PySem.W.looks_subIn (M := M) X hb
  have f := tc_notTuple
  unfold excMatches isExcClass
  repeat (first | (with_reducible refine wpAny_loadPart_at he ?_; rw [hc]) | (with_reducible refine L1.at ?_) | (with_reducible refine L2.at ?_) | (with_reducible refine L3.at ?_) | (with_reducible refine L4.at ?_) | wp_step)
  exact hq
end PySem
set_option maxHeartbeats 4000000
namespace L2.L3
open PySem PySem.Spec PyProof.Rows
variable [CN]
theorem fl_on {X : Cx} {pins : List (Addr × Obj)} {σ : St} {H H1 : Hp} {s s1 : Shared} {a : Addr} {cls : Value} {B : Heap} {a0 : Value} {h' : Heap} (I1 : Inv X pins σ H1 s1) (I : Inv X pins σ H s) (un : Un (frs X.stack) [] H1 H s1.heap s.heap) (f : Fl X.stack s1.heap H a cls B a0 s.heap)
    (k1 : B.StaysIn h') (k2 : h'.FunFrames B X.stack) (k4 : s.heap.UpToSlots h') : Inv X pins σ H { s with heap := h' } ∧ Un (frs X.stack) [] H1 H s1.heap h' ∧ ∀ b o, h'.get? b = some o → b ∉ frs X.stack → (s1.heap.get? b ≠ none ∨ H b ≠ none) → B.get? b = some o := by
  have kp : ∀ b o, s.heap.get? b = some o → b ∉ frs X.stack → (s1.heap.get? b ≠ none ∨ H b ≠ none) → h'.get? b = some o := fun b o q n z => k1 b o (f.cov b o q n z)
  have un' : Un (frs X.stack) [] H1 H s1.heap h' := by
    refine ⟨fun b o q n hb hx => kp b o (un.keep b o q n hb hx) hb (.inl (some_ne q)), fun b o q n hb hx => ?_, un.free, fun b o q hx => ?_, un.tups, un.frzs, un.tbls⟩
    · obtain ⟨sl, e⟩ := un.slot b o q n hb hx
      obtain ⟨_, o', e', nf⟩ := f.frm.mem (b := b) hb
      rw [e] at e'
      cases e'
      obtain ⟨sl', e2⟩ := k4 b _ e nf
      exact ⟨sl', e2⟩
    · by_cases hb : b ∈ frs X.stack
      · obtain ⟨_, o', e', _⟩ := k2.mem (b := b) hb
        exact ⟨o', e'⟩
      · obtain ⟨o', e'⟩ := un.there b o q hx
        exact ⟨o', kp b o' e' hb (.inl (some_ne q))⟩
  have hok : HOk X.prog X.w H h' := fun b o q => by
    refine (I.hok b o q).stay (fun b' u hb' e => ?_) (fun _ z => z) fun _ _ z => z
    have n : H b' ≠ none := by
      rcases hb' with rfl | hb'
      · exact some_ne q
      · exact some_ne hb'
    exact kp b' u e (fun z => n (I.stkFree b' z)) (.inr n)
  refine ⟨I1.call' (s' := { s with heap := h' }) (I.os.trans I1.os.symm) un' hok I.bare (fun b z => by cases z), un', fun b o q n z => ?_⟩
  obtain ⟨o2, q2⟩ : ∃ o2, s.heap.get? b = some o2 := by
    rcases z with z | z
    · obtain ⟨o', q'⟩ := ne_some z
      exact un.there b o' q' (by simp)
    · exact hok_there I.hok z
  have hB := f.cov b o2 q2 n z
  have q3 := k1 b o2 hB
  rw [q] at q3
  cases q3
  exact hB
theorem exc_lands {X : Cx} {c : Str} {H : Hp} {e : Value} {s : Shared} {E2 : Value → Shared → Prop} {Q : Shared → Prop} (x : ExcAt X c H e s) (hst : X.stack = X.env :: X.outer) (hfr : X.env.frame = some X.env.locals)
    (hQ : ∀ (pins : List (Addr × Obj)) (σ : St) (s1 : Shared) (H1 : Hp) (a : Addr) (B : Heap) (a0 : Value) (s' : Shared), Inv X pins σ H1 s1 → Inv X pins σ H s' → Un (frs X.stack) [] H1 H s1.heap s'.heap → e = .ref a → s1.heap.get? a = none → H a = none → Fl X.stack s1.heap H a (.ref (CN.ad c)) B a0 s'.heap → s'.heap.TracedW B a (.ref (CN.ad c)) a0 → Q s') :
    wpAny (model X.prog X.w) X.A (noteFrame e X.env) (fun _ s₂ => wpAny (model X.prog X.w) X.A (setFlight e none) (fun _ s₃ => Q s₃) E2 s₂) E2 s := by
  obtain ⟨pins, σ, s1, H1, a, B, a0, I1, I, un, rfl, n1, n2, f⟩ := x
  have hfrm : s.heap.FunFrames B (X.env :: X.outer) := by rw [← hst]; exact f.frm
  have hA : X.A.frames = some (X.env :: X.outer) := by rw [← hst]; exact I.ok.frames
  have key : ∀ h', Heap.NotedW B (X.env :: X.outer) a (.ref (CN.ad c)) a0 (rawInt X.env.locals) s.heap h' → wpAny (model X.prog X.w) X.A (setFlight (.ref a) none) (fun _ s₃ => Q s₃) E2 { s with heap := h' } := by
    rintro h' ⟨k1, k2, k3, k4⟩
    rw [← hst] at k2
    refine wpAny_landsW (s := { s with heap := h' }) (base := B) (l := X.stack) (L := X.env.locals) (cls := .ref (CN.ad c)) (a0 := a0) ⟨k1, f.newB, k2, k3⟩ fun h2 fly ups => ?_
    have ups2 : s.heap.UpToSlots h2 := Heap.UpToSlots.trans k4 ups
    obtain ⟨J, un2, cov⟩ := fl_on I1 I un f fly.1 fly.2.2.1 ups2
    exact hQ pins σ s1 H1 a B a0 _ I1 J un2 rfl n1 n2 ⟨fly.1, f.newB, fly.2.2.1, .inl fly.2.2.2, cov⟩ fly.2.2.2
  rcases f.raw with t | ⟨oe, vs, he, hc, hd, h1, h0⟩
  · exact wpAny_noteFrame_onW hA hfrm hfr t f.stays f.newB key
  · rw [← hc] at key
    unfold noteFrame
    simp only [hfr]
    refine wpAny_bind (wpAny_field he hd h1 ?_)
    rw [if_neg (by decide)]
    exact wpAny_entryW hA hfrm hfr he f.stays f.newB hd (Array.getElem?_eq_some_iff.mp h1).1 h0 key
abbrev inTry (X : Cx) (pn : List (Addr × Obj)) (xe : Value → Shared → Prop) : Cx := { X with pn := pn, xe := xe }
abbrev inSuite (X : Cx) (e : Value) : Cx := { X with A := X.A.mark (some e), calm := false, xe := fun _ _ => False }
theorem Inv.toTry {X : Cx} {pins : List (Addr × Obj)} {σ : St} {H : Hp} {s : Shared} (I : Inv X pins σ H s) (xe : Value → Shared → Prop) : Inv (inTry X (X.pn ++ pins) xe) [] σ H s :=
  ⟨⟨I.ok.mod, I.ok.kind, I.ok.glob, I.ok.blt, I.ok.above, I.ok.inj, I.ok.has, I.ok.cab, I.ok.hd, I.ok.frames, I.ok.stk, I.ok.exf, I.ok.bs, I.ok.bsz, I.ok.noex, I.ok.exfs, I.ok.funs, I.ok.frf⟩, I.os, I.bare, I.base, I.loc, I.cell, I.free, I.freeC, fun p hp => I.pin p (by simpa using hp), I.hok, I.len⟩
theorem Inv.ofTry {X : Cx} {pins pins' : List (Addr × Obj)} {σ : St} {H : Hp} {s : Shared} {xe : Value → Shared → Prop} (I : Inv (inTry X (X.pn ++ pins) xe) pins' σ H s) : Inv X pins σ H s :=
  ⟨⟨I.ok.mod, I.ok.kind, I.ok.glob, I.ok.blt, I.ok.above, I.ok.inj, I.ok.has, I.ok.cab, I.ok.hd, I.ok.frames, I.ok.stk, I.ok.exf, I.ok.bs, I.ok.bsz, I.ok.noex, I.ok.exfs, I.ok.funs, I.ok.frf⟩, I.os, I.bare, I.base, I.loc, I.cell, I.free, I.freeC, fun p hp => I.pin p (List.mem_append_left _ hp), I.hok, I.len⟩
theorem Inv.toSuite {X : Cx} {pins : List (Addr × Obj)} {σ : St} {H : Hp} {s : Shared} (I : Inv X pins σ H s) (e : Value) : Inv (inSuite X e) pins σ H s :=
  ⟨⟨I.ok.mod, I.ok.kind, I.ok.glob, I.ok.blt, I.ok.above, I.ok.inj, I.ok.has, I.ok.cab, (fun z => nomatch z), I.ok.frames, I.ok.stk, I.ok.exf, I.ok.bs, I.ok.bsz, I.ok.noex, I.ok.exfs, I.ok.funs, I.ok.frf⟩, I.os, I.bare, I.base, I.loc, I.cell, I.free, I.freeC, I.pin, I.hok, I.len⟩
theorem Inv.ofSuite {X : Cx} {pins : List (Addr × Obj)} {σ : St} {H : Hp} {s : Shared} {e : Value} (ok : X.Ok) (I : Inv (inSuite X e) pins σ H s) : Inv X pins σ H s :=
  ⟨ok, I.os, I.bare, I.base, I.loc, I.cell, I.free, I.freeC, I.pin, I.hok, I.len⟩
theorem SP.ofTry {X : Cx} {pins pins' : List (Addr × Obj)} {xe : Value → Shared → Prop} {D : Ends} {f : Flow} {s' : Shared} (h : SP (inTry X (X.pn ++ pins) xe) pins' D f s') : SP X pins D f s' := by
  cases f with
  | next => obtain ⟨σ', H', I, q⟩ := h; exact ⟨σ', H', Inv.ofTry I, q⟩
  | brk => obtain ⟨σ', H', I, q⟩ := h; exact ⟨σ', H', Inv.ofTry I, q⟩
  | cont => obtain ⟨σ', H', I, q⟩ := h; exact ⟨σ', H', Inv.ofTry I, q⟩
  | ret u => obtain ⟨v, σ', H', I, r, q⟩ := h; exact ⟨v, σ', H', Inv.ofTry I, r, q⟩
theorem Rel.unset {Oc : Wd} {Ob : Addr → Prop} {om ln : List Nat} {σ : St} {H : Hp} {ρ : Ev} (R : Rel Oc Ob om ln σ H ρ) (j : Nat) : Rel Oc Ob om ln (σ.set j none) H (ρ.set j none) := by
  have st : ∀ i v, i ≠ j → σ[i]? = some v → (σ.set j none)[i]? = some v := fun i v n e => by rw [List.getElem?_set_ne (Ne.symm n)]; exact e
  refine ⟨by rw [List.length_set, List.length_set]; exact R.len, fun i d e h1 h2 => ?_, fun i d e h1 => ?_, fun i d e h1 h2 => ?_, fun i k di dk a ei ek hi hk qi qk => ?_, R.oh, R.ap⟩
  · obtain ⟨n, e⟩ := set_none e
    obtain ⟨v, q, r⟩ := R.val i d e h1 h2
    exact ⟨v, st i _ n q, r⟩
  · obtain ⟨n, e⟩ := set_none e
    obtain ⟨v, q, r⟩ := R.own i d e h1
    exact ⟨v, st i _ n q, r⟩
  · obtain ⟨n, e⟩ := set_none e
    obtain ⟨v, q, r⟩ := R.lnt i d e h1 h2
    exact ⟨v, st i _ n q, r⟩
  · obtain ⟨n1, e1⟩ := set_none ei
    obtain ⟨n2, e2⟩ := set_none ek
    rw [List.getElem?_set_ne (Ne.symm n1)] at qi
    rw [List.getElem?_set_ne (Ne.symm n2)] at qk
    exact R.inj i k di dk a e1 e2 hi hk qi qk
def unn (j : Nat) : Out → Res Out
  | .nx ρ => .ok (.nx (ρ.set j none))
  | .rt d => .ok (.rt d)
def sTry (j : Nat) (caught : List Str) (mb ms : Ev → Res Out) : Ev → Res Out := fun ρ => match mb ρ with
  | .ok o => .ok o
  | .no => .no
  | .ex c => if caught.contains c then (noEx (ms ((List.replicate ρ.length none).set j (some (excD c))))).bind (unn j) else .no
theorem noEx_post {α : Type} {r : Res α} {Q : α → Prop} {E : Str → Prop} (h : (noEx r).post Q E) : r.post Q (fun _ => False) := by
  cases r with
  | ok a => exact h
  | ex c => exact h.elim
  | no => exact h
theorem rs_try {C : Ct} {fr : Bool} {x n : Str} {np hpos pos : Pos} {body suite : List Stmt} {b₀ : Stmt} {mb ms : Ev → Res Out} (j : Nat) (caught : List Str) (nd : C.X.N.Nodup)
    (hbody : ∀ (pn : List (Addr × Obj)) (xe : Value → Shared → Prop) (XE : Str → Hp → Prop), Br ⟨inTry C.X pn xe, XE, C.om, C.ln⟩ → RSs ⟨inTry C.X pn xe, XE, C.om, C.ln⟩ fr body mb)
    (hsuite : ∀ e : Value, RSs ⟨inSuite C.X e, fun _ _ => False, C.om, C.ln⟩ fr (b₀ :: suite) ms)
    (hcx : ∀ c, caught.contains c = true → PySem.W.kitCls C.X.K (.ref (CN.ad c)) (.ref (CN.ad x)) = some true) (hcb : PySem.W.subIn C.X.K (.ref (CN.ad x)) (.type "BaseException") = some true) (hm : C.X.mg x = some (.ref (CN.ad x)))
    (hst : autoParam (C.X.stack = C.X.env :: C.X.outer) zX._auto_1) (hfr : autoParam (C.X.env.frame = some C.X.env.locals) zX._auto_1) (hex : autoParam (C.X.ex = []) zX._auto_1) (hj : autoParam (C.X.N[j]? = some n) zX._auto_1) (oj : autoParam (C.om.contains j = false) zX._auto_1) (lj : autoParam (C.ln.contains j = false) zX._auto_1) (hk : autoParam (C.X.env.scope.names.lookup n = some .local) zX._auto_1) (hg : autoParam (Gl C.X x) zX._auto_1) (hdb : autoParam ((x == ("__debug__" : Str)) = false) vY._auto_1) :
    RS C fr (.Try body [.ExceptHandler (some (.Name x np)) (some n) (b₀ :: suite) hpos] [] [] pos) (sTry j caught mb ms) := by
  refine ⟨fun D σ H => ∀ pins s, Inv C.X pins σ H s → wpAny (model C.X.prog C.X.w) C.X.A (exec (.Try body [.ExceptHandler (some (.Name x np)) (some n) (b₀ :: suite) hpos] [] [] pos) C.X.env) (SP C.X pins D) C.X.xe s, fun pins s σ H D I h => h pins s I, fun Oc Ob σ H ρ E R hp pins s I => ?_⟩
  refine wpAny_Try_except ?_
  generalize hxe : (fun (e : Value) (s₁ : Shared) => wpAny (model C.X.prog C.X.w) C.X.A (noteFrame e C.X.env) (fun _ s₂ => wpAny (model C.X.prog C.X.w) C.X.A (setFlight e none) (fun _ s₃ => wpAny (model C.X.prog C.X.w) C.X.A (handleBy e C.X.env [.ExceptHandler (some (.Name x np)) (some n) (b₀ :: suite) hpos]) (SP C.X pins E) C.X.xe s₃) C.X.xe s₂) C.X.xe s₁) = xe'
  have hln : σ.length = ρ.length := R.len
  have br : Br ⟨inTry C.X (C.X.pn ++ pins) xe', fun c H' => Frm Ob H H' ∧ caught.contains c = true ∧ SPost C fr Oc (fun _ => False) H' E ((noEx (ms ((List.replicate ρ.length none).set j (some (excD c))))).bind (unn j)), C.om, C.ln⟩ := by
    intro c H' e s' xx ⟨f1, hc, hsp⟩
    subst hxe
    refine exc_lands (X := inTry C.X (C.X.pn ++ pins) _) xx hst hfr fun pins' σ' s1 H1 a B a0 s3 J1 J un ea n1 n2 fl tr => ?_
    subst ea
    have K3 : Inv C.X pins σ' H' s3 := Inv.ofTry J
    have Km := Inv.toSuite K3 (.ref a)
    refine wpAny_handleBy_cons (codeAny_handlers_test ?_) (by intro q; cases q)
    refine ld_glob (X := inSuite C.X (.ref a)) Km hg hm ?_ hdb
    obtain ⟨oe, _, _, _, _, he, ⟨hcl, _⟩, _⟩ := id tr
    refine exc_match K3.kIn he hcl (hcx c hc) hcb ?_
    refine codeAny_handlers_suite_as ?_
    refine lands_againW (base := B) (l := C.X.stack) (cls := .ref (CN.ad c)) (a0 := a0) ⟨fl.stays, fl.newB, fl.frm, tr⟩ fun h4 fly ups => ?_
    obtain ⟨I4, _, _⟩ := fl_on J1 J un fl fly.1 fly.2.2.1 ups
    have K4 : Inv C.X pins σ' H' { s3 with heap := h4 } := Inv.ofTry I4
    have L1 : Inv C.X pins σ' H1 s1 := Inv.ofTry J1
    obtain ⟨oe4, _, _, _, _, he4, ⟨hcl4, _⟩, _⟩ := id fly.2.2.2
    have hne : ∀ b o, s1.heap.get? b = some o → b ≠ a := fun b o q z => by subst z; rw [n1] at q; cases q
    have T4 : Inv C.X pins σ' (upd H' a (.ext (excP a c))) { s3 with heap := h4 } := by
      refine K4.track n2 ?_ ?_ (fun y z q => ?_) (fun p hp => ?_) ⟨⟨oe4, he4, hcl4⟩, ⟨oe4, he4⟩, fun h1 h2 ⟨o, q1, q2⟩ kk => ⟨o, kk o q1, q2⟩⟩
      · cases q : C.X.s₀.heap.get? a with
        | none => rfl
        | some o =>
          obtain ⟨o', q'⟩ := L1.base.there a o q (by rw [hex]; simp)
          rw [n1] at q'
          cases q'
      · obtain ⟨m, ⟨o, _, _, q, _⟩, _⟩ := L1.loc
        exact Ne.symm (hne _ o q)
      · obtain ⟨v, o, q', _⟩ := L1.cell y z q
        exact hne _ o q'
      · exact hne _ _ (L1.pin p hp).1
    refine store_ok (X := inSuite C.X (.ref a)) (v := .ref a) (Inv.toSuite T4 (.ref a)) nd hj (.inl hk) rfl (fun s5 I5 => ?_) (.inr hk)
    obtain ⟨ts, ps, qs⟩ := hsuite (.ref a)
    have hOc : ∀ b, Oc b → H' b ≠ none := fun b z => by
      obtain ⟨o, q⟩ := ne_some (R.oh b (.inl z))
      exact some_ne (f1 b o q fun y => R.ap b y z)
    have R5 : Rel Oc (fun _ => False) C.om C.ln (σ'.set j (some (.ref a))) (upd H' a (.ext (excP a c))) ((List.replicate ρ.length none).set j (some (excD c))) := by
      have one : ∀ i d, ((List.replicate ρ.length (none : Option D)).set j (some (excD c)))[i]? = some (some d) → i = j ∧ d = excD c := fun i d e => by
        rcases set_get e with ⟨z, y⟩ | ⟨z, y⟩
        · exact ⟨z.symm ▸ rfl, y.symm ▸ rfl⟩
        · rw [List.getElem?_replicate] at y
          split at y <;> cases y
      have hls : σ'.length = ρ.length := by rw [K3.len, ← I.len, hln]
      refine ⟨by rw [List.length_set, List.length_set, List.length_replicate, hls], fun i d e h1 h2 => ?_, fun i d e h1 => ?_, fun i d e h1 h2 => ?_, fun i k di dk b ei ek hi hk' _ _ => ?_, fun b z => ?_, fun b z => z.elim⟩
      · have hi := set_lt e
        obtain ⟨rfl, rfl⟩ := one i d e
        refine ⟨.ref a, by rw [List.getElem?_set_self (by rw [hls]; simpa using hi)], .exc wL fun z => ?_⟩
        exact hOc a (z.elim id fun z => z.elim) n2
      · obtain ⟨rfl, _⟩ := one i d e
        exact absurd h1 (not_mem_of oj)
      · obtain ⟨rfl, _⟩ := one i d e
        exact absurd h2 (not_mem_of lj)
      · obtain ⟨rfl, _⟩ := one i di ei
        exact absurd hi (not_mem_of oj)
      · exact Same.ne (Same.new n2) (hOc b (z.elim id fun z => z.elim))
    have sp5 := SPost.same (Same.new n2 (o := .ext (excP a c))) hsp
    refine wpAny_mono (ps pins s5 _ _ { nx := fun σ6 H6 => E.nx (σ6.set j none) H6, rt := E.rt, bk := fun σ6 H6 => E.bk (σ6.set j none) H6, ct := fun σ6 H6 => E.ct (σ6.set j none) H6 } I5 (qs Oc (fun _ => False) _ _ _ _ R5 ?_)) (fun f s6 h6 => ?_) fun _ _ z => z.elim
    · refine Res.zR (noEx_post (Res.zV sp5)) (fun o _ k => ?_) fun _ z => z.elim
      cases o with
      | nx ρ' => exact fun σ6 H6 Ob6 R6 f6 s6 => k (σ6.set j none) H6 Ob6 (R6.unset j) f6 s6
      | rt d => exact k
    · have go : ∀ {σ6 : St} {H6 : Hp}, Inv (inSuite C.X (.ref a)) pins σ6 H6 s6 → (∀ s8, Inv C.X pins (σ6.set j none) H6 s8 → SP C.X pins E f s8) → wpAny (model C.X.prog C.X.w) C.X.A (do bindName C.X.env n .none; unbindBehindTheSuite C.X.env n hpos) (fun _ s₃ => SP C.X pins E f s₃) C.X.xe s6 := fun {σ6 H6} I6 kk => by
        have I6' := Inv.ofSuite K3.ok I6
        refine wpAny_bind (wpAny_bindName (store_ok (v := .non) I6' nd hj (.inl hk) rfl (fun s7 I7 => ?_) (.inr hk)))
        have hlt : j < σ6.length := by rw [I6'.len]; exact (List.getElem?_eq_some_iff.mp hj).1
        unfold unbindBehindTheSuite
        refine wpAny_onRaise (unbind_ok I7 nd hj hk (List.getElem?_set_self hlt) fun s8 I8 => ?_)
        rw [List.set_set] at I8
        exact kk s8 I8
      cases f with
      | next => obtain ⟨σ6, H6, I6, q6⟩ := h6; exact go I6 fun s8 I8 => ⟨_, _, I8, q6⟩
      | brk => obtain ⟨σ6, H6, I6, q6⟩ := h6; exact go I6 fun s8 I8 => ⟨_, _, I8, q6⟩
      | cont => obtain ⟨σ6, H6, I6, q6⟩ := h6; exact go I6 fun s8 I8 => ⟨_, _, I8, q6⟩
      | ret u => obtain ⟨v, σ6, H6, I6, r6, q6⟩ := h6; exact go I6 fun s8 I8 => ⟨v, _, _, I8, r6, q6⟩
  obtain ⟨tb, pb, qb⟩ := hbody _ _ _ br
  refine wpAny_mono (pb [] s σ H E (Inv.toTry I _) (qb Oc Ob σ H ρ E R ?_)) (fun f s₁ hs => ?_) fun e s₁ z => z
  · unfold sTry at hp
    cases em : mb ρ with
    | ok o => rw [em] at hp; exact hp
    | no => rw [em] at hp; exact hp
    | ex c =>
      rw [em] at hp
      intro H' f1
      by_cases hc : caught.contains c = true
      · simp only [hc, if_true] at hp
        exact ⟨f1, hc, SPost.step f1 (fun b z => z.elim) hp⟩
      · simp only [hc] at hp
        exact hp.elim
  · cases f with
    | next => exact wpAny_execs_nil (SP.ofTry hs)
    | brk => exact SP.ofTry (f := .brk) hs
    | cont => exact SP.ofTry (f := .cont) hs
    | ret u => exact SP.ofTry (f := .ret u) hs
def isiX (cls sup : List Str) : D → Option D
  | .none => some (.bool false)
  | .dict [(.list [], .str c)] => if cls.contains c then some (.bool (sup.contains c)) else none
  | _ => none
def IsK (K : PySem.W.Frag) (cls sup : List Str) (u : Value) : Prop :=
  PySem.W.kitOne K (.type "NoneType") u = some false ∧ ∀ c, cls.contains c = true → ExK K (CN.ad c) ∧ PySem.W.kitOne K (.ref (CN.ad c)) u = some (sup.contains c)
def TyX (K : PySem.W.Frag) (H : Hp) (x : V) (t : Value) : Prop :=
  (x = .non ∧ t = .type "NoneType") ∨ ∃ a c, x = .ref a ∧ H a = some (.ext (excP a c)) ∧ t = .ref (CN.ad c) ∧ ExK K (CN.ad c)
theorem call_isiX {X : Cx} : CallR X (.builtin "isinstance") (fun vs H Q => ∃ x c cv t b, vs = [x, c] ∧ clsV c = some cv ∧ TyX X.K H x t ∧ PySem.W.kitOne X.K t cv = some b ∧ Q (.bl b) H) := by
  intro pins s σ H xs us Q I r h
  obtain ⟨x, c, cv, t, b, rfl, ec, ty, k, q⟩ := h
  obtain ⟨u, w', rfl, ru, rw'⟩ := vals2 r
  obtain rfl := clsV_rel rw' ec
  rcases ty with ⟨rfl, rfl⟩ | ⟨a, c', rfl, ha, rfl, ek⟩
  · cases (show u = Value.none from ru)
    exact PySem.W.kia_one PySem.W.kitx_none I.kIn True.intro k (fun z => nomatch z) fun tk => ⟨.bl b, H, I.tok tk, rfl, q⟩
  · cases ru
    obtain ⟨p, _⟩ := I.hok a _ ha
    exact PySem.W.kia_one (kitx_exc ek) I.kIn p k (fun z => nomatch z) fun tk => ⟨.bl b, H, I.tok tk, rfl, q⟩
theorem isX_ty {K : PySem.W.Frag} {cls sup : List Str} {Oc : Wd} {Ob : Addr → Prop} {H : Hp} {v : V} {d r : D} (h : VA Oc Ob H v d) (e : isiX cls sup d = some r) (hk : ∀ c, cls.contains c = true → ExK K (CN.ad c)) :
    ∃ t, TyX K H v t ∧ ((t = .type "NoneType" ∧ r = .bool false) ∨ ∃ c, cls.contains c = true ∧ t = .ref (CN.ad c) ∧ r = .bool (sup.contains c)) := by
  rcases h with h | ⟨a, ys, ds, rfl, rfl, e3, e5⟩
  · cases h with
    | non => cases e; exact ⟨_, .inl ⟨rfl, rfl⟩, .inl ⟨rfl, rfl⟩⟩
    | @exc a c q n =>
      unfold isiX at e
      by_cases hc : cls.contains c = true
      · simp only [hc, if_true] at e
        cases e
        exact ⟨_, .inr ⟨a, c, rfl, q, rfl, hk c hc⟩, .inr ⟨c, hc, rfl, rfl⟩⟩
      · simp only [hc] at e
        cases e
    | _ => cases e
  · cases e
section
variable {C : Ct} {e : Expr} {x : Str} {p p2 p3 pos : Pos} {md : Md} {me : Ev → Res D}
theorem re_isiX (cls sup : List Str) (hk : IsK C.X.K cls sup (.ref (CN.ad x))) (hm : C.X.mg "isinstance" = none) (hx : C.X.mg x = some (.ref (CN.ad x))) (he : RE C md e me) (hg : autoParam (Gl C.X "isinstance") zX._auto_1) (hgx : autoParam (Gl C.X x) zX._auto_1) (hdb : autoParam ((x == ("__debug__" : Str)) = false) vY._auto_1)
    (hs1 : autoParam (starEach [e, .Name x p2] C.X.env = (false, eval e C.X.env) :: starEach [.Name x p2] C.X.env) zX._auto_1) (hs2 : autoParam (starEach [.Name x p2] C.X.env = (false, eval (.Name x p2) C.X.env) :: starEach [] C.X.env) zX._auto_1) (hpl : autoParam ((backTo pos (starEach [.Name x p2] C.X.env)).any (·.1) = false) zX._auto_1) :
    RE C .cl (.Call (.Name "isinstance" p) [e, .Name x p2] [] pos) (e1 (isiX cls sup) me) := by
  obtain ⟨t, pe, q⟩ := he
  refine ⟨_, pe_callB call_isiX hg hm PyProof.Rows.boot_isinstance (yB pe (yB (pe_glob (v := .ref (CN.ad x)) hgx hx rfl hdb) pa_nil hs2) hs1) (by decide) (by decide) hs1 hpl, fun Oc Ob σ H ρ Q R h => q Oc Ob σ H ρ _ R (Res.zR (Res.zV h) (fun d _ kk v H' s r => ?_) fun _ z => z)⟩
  obtain ⟨dd, ed, kk⟩ := Res.vX kk
  obtain ⟨tt, ty, hh⟩ := isX_ty (r.va R.oh) ed fun c hc => (hk.2 c hc).1
  rcases hh with ⟨rfl, rfl⟩ | ⟨c, hc, rfl, rfl⟩
  · exact ⟨v, .ref (CN.ad x), .ref (CN.ad x), _, _, rfl, rfl, ty, hk.1, kk _ H' s (Rep.bl _)⟩
  · exact ⟨v, .ref (CN.ad x), .ref (CN.ad x), _, _, rfl, rfl, ty, (hk.2 c hc).2, kk _ H' s (Rep.bl _)⟩
theorem re_isiXB {T : String} (cls sup : List Str) (hk : IsK C.X.K cls sup (.type T)) (hm : C.X.mg "isinstance" = none) (hx : C.X.mg x = none) (hv : bootBuiltins x = some (.type T)) (he : RE C md e me) (hg : autoParam (Gl C.X "isinstance") zX._auto_1) (hgx : autoParam (Gl C.X x) zX._auto_1) (hn : autoParam (x ≠ "__name__") vY._auto_1) (hdb : autoParam ((x == ("__debug__" : Str)) = false) vY._auto_1)
    (hs1 : autoParam (starEach [e, .Name x p2] C.X.env = (false, eval e C.X.env) :: starEach [.Name x p2] C.X.env) zX._auto_1) (hs2 : autoParam (starEach [.Name x p2] C.X.env = (false, eval (.Name x p2) C.X.env) :: starEach [] C.X.env) zX._auto_1) (hpl : autoParam ((backTo pos (starEach [.Name x p2] C.X.env)).any (·.1) = false) zX._auto_1) :
    RE C .cl (.Call (.Name "isinstance" p) [e, .Name x p2] [] pos) (e1 (isiX cls sup) me) := by
  obtain ⟨t, pe, q⟩ := he
  refine ⟨_, pe_callB call_isiX hg hm PyProof.Rows.boot_isinstance (yB pe (yB (pe_bltn (v := .ty T) hgx hx hv rfl hn hdb) pa_nil hs2) hs1) (by decide) (by decide) hs1 hpl, fun Oc Ob σ H ρ Q R h => q Oc Ob σ H ρ _ R (Res.zR (Res.zV h) (fun d _ kk v H' s r => ?_) fun _ z => z)⟩
  obtain ⟨dd, ed, kk⟩ := Res.vX kk
  obtain ⟨tt, ty, hh⟩ := isX_ty (r.va R.oh) ed fun c hc => (hk.2 c hc).1
  rcases hh with ⟨rfl, rfl⟩ | ⟨c, hc, rfl, rfl⟩
  · exact ⟨v, .ty T, .type T, _, _, rfl, rfl, ty, hk.1, kk _ H' s (Rep.bl _)⟩
  · exact ⟨v, .ty T, .type T, _, _, rfl, rfl, ty, (hk.2 c hc).2, kk _ H' s (Rep.bl _)⟩
end
omit [CN] in
theorem sRa_ap (c : Str) (m : Ev → Res (List D)) (ρ : Ev) : sRa c m ρ = (m ρ).bind fun ds => if ds.length ≤ sizeLine then .ex c else .no := rfl
omit [CN] in
theorem sTry_ex {j : Nat} {cs : List Str} {mb ms : Ev → Res Out} {ρ : Ev} {c : Str} (h : mb ρ = .ex c) (hc : cs.contains c = true) : sTry j cs mb ms ρ = (noEx (ms ((List.replicate ρ.length none).set j (some (excD c))))).bind (unn j) := by
  unfold sTry
  rw [h]
  exact if_pos hc
omit [CN] in
theorem isiX_x (cls sup : List Str) (c : Str) : isiX cls sup (excD c) = if cls.contains c then some (.bool (sup.contains c)) else none := rfl
theorem kx_of {K : PySem.W.Frag} {cls : List Str} {u : Value} (h : ∀ c ∈ cls, PySem.W.kitCls K (.ref (CN.ad c)) u = some true) : ∀ c, cls.contains c = true → PySem.W.kitCls K (.ref (CN.ad c)) u = some true :=
  fun c hc => h c (List.contains_iff_mem.mp hc)
theorem isK_of {K : PySem.W.Frag} {cls sup : List Str} {u : Value} (h0 : PySem.W.kitOne K (.type "NoneType") u = some false) (h : ∀ c ∈ cls, ExK K (CN.ad c) ∧ PySem.W.kitOne K (.ref (CN.ad c)) u = some (sup.contains c)) : IsK K cls sup u :=
  ⟨h0, fun c hc => h c (List.contains_iff_mem.mp hc)⟩
end L2.L3
namespace L2.L3
open PySem PySem.Spec PyProof.Rows
theorem kitCls_of {K : PySem.W.Frag} {t c : Value} {v : Bool} (h : PySem.W.kitOne K t c = some v) (n : (t == c) = false) : PySem.W.kitCls K t c = some v := by
  rw [PySem.W.kitOne, if_neg (by rw [n]; decide)] at h
  exact h
theorem subT_of {K : PySem.W.Frag} {A : Addr} {T : String} {v : Bool} (h : PySem.W.kitOne K (.ref A) (.type T) = some v) : PySem.W.subIn K (.ref A) (.type T) = some v := by
  have h2 := kitCls_of h rfl
  rw [PySem.W.kitCls] at h2
  split at h2
  · exact h2
  · cases h2
def cnOf (K : PySem.W.Frag) : CN := ⟨fun x => match PySem.W.nsIn K mainGlobals x with | some (some (.ref a)) => a | _ => 0⟩
theorem cn_ad {K : PySem.W.Frag} {x : Str} {a : Addr} (h : PySem.W.nsIn K mainGlobals x = some (some (.ref a))) : (cnOf K).ad x = a := by
  show (match PySem.W.nsIn K mainGlobals x with | some (some (.ref a)) => a | _ => 0) = a
  rw [h]
theorem walk_valX {F : List D → Res D} {k : Nat} {l : PySem.W.OpenLaw} {q : Program} {loose : List Str} {XP : (Str → Option Value) → Heap → Prop} {YP : World → Heap → Prop} {d : DefRec} {K : Params → PySem.W.Frag} (hT : ∀ ns : List Int, ns.length ≤ 63 → F [.list (ns.map PyData.int)] = .ok (.bool true)) (hr : Room k callerA) (hn : l.most = some 63) (hdf : d.params.defaults = [])
    (hY : ∀ (w : World) (h : Heap), YP w h → (K w.params).In h) (hL : ∀ w : World, noLst (K w.params) = true)
    (hF : ∀ (w : World) (mg : Str → Option Value) (fa : Addr) (h : Heap), (K w.params).In h → h.Ns mainGlobals mg → mg d.name = some (.ref fa) →
      ∃ fd : FuncData, (∀ (s : Shared) (u : Value), BindsTo s fd ⟨[u], []⟩ [("script", u)]) ∧ ∀ base : Heap, (K w.params).In base → base.Ns mainGlobals mg → FnOk l.prog w (K w.params) mg base (CXV l.prog w) k fa fd ["script"] (@spX (cnOf (K w.params)) false F)) :
    PySem.W.WalkO q loose XP YP l.row.toRowW d [] (fun f vs => PySem.call f vs) := by
  refine L2.walk_of (n := 63) (k := k) (x := "script") (CX := fun w => CXV l.prog w) (sp := fun w => @spX (cnOf (K w.params)) false F) hn (by decide) hdf hr hY hF (fun w H a ns hl hO hS => ?_) fun w H s e s' z => ?_
  · letI := cnOf (K w.params)
    refine ⟨[.list (ns.map PyData.int)], fun _ => False, fun a z => z.elim, .cons (.lst (rd_of (hL w) hS) (fun z => z) (reps_ints ns)) .nil, ?_⟩
    rw [hT ns hl]
    intro v H' _ r
    cases (show Rep H' (fun _ => False) v (.bool true) from r)
    rfl
  · obtain ⟨_, _, _, _, _, _, _, _, _, _, _, _, _, z⟩ := z
    exact z
end L2.L3
namespace MR
theorem pigeon : ∀ (n : Nat) (f : Nat → Nat), (∀ i, i ≤ n → f i < n) → ∃ i j, i < j ∧ j ≤ n ∧ f i = f j
  | 0, f, h => absurd (h 0 (Nat.le_refl _)) (by bv_omega)
  | n + 1, f, h => by
    by_cases c : ∃ i, i ≤ n ∧ f i = f (n + 1)
    · obtain ⟨i, hi, e⟩ := c
      exact ⟨i, n + 1, by bv_omega, Nat.le_refl _, e⟩
    · have ne : ∀ i, i ≤ n → f i ≠ f (n + 1) := fun i hi e => c ⟨i, hi, e⟩
      obtain ⟨i, j, h1, h2, e⟩ := pigeon n (fun i => if f (n + 1) < f i then f i - 1 else f i) fun i hi => by
        have a := h i (by bv_omega)
        have b := h (n + 1) (Nat.le_refl _)
        have d := ne i hi
        show (if f (n + 1) < f i then f i - 1 else f i) < n
        split <;> bv_omega
      refine ⟨i, j, h1, by bv_omega, ?_⟩
      have di := ne i (by bv_omega)
      have dj := ne j h2
      have e : (if f (n + 1) < f i then f i - 1 else f i) = (if f (n + 1) < f j then f j - 1 else f j) := e
      split at e <;> split at e <;> bv_omega
structure Ord (n : Nat) (xs : List Int) : Prop where
  len : xs.length = n
  bd : ∀ i, i < n → 0 ≤ xs.getD i 0 ∧ xs.getD i 0 < n
  inj : ∀ i j, i < n → j < n → xs.getD i 0 = xs.getD j 0 → i = j
def nxt (xs : List Int) (b : Nat) : Nat := (xs.getD b 0).toNat
def it (xs : List Int) : Nat → Nat → Nat
  | 0, b => b
  | k + 1, b => nxt xs (it xs k b)
section
variable {n : Nat} {xs : List Int}
theorem Ord.nxt_lt (o : Ord n xs) {b : Nat} (h : b < n) : nxt xs b < n := by
  have := o.bd b h
  unfold nxt; bv_omega
theorem Ord.nxt_int (o : Ord n xs) {b : Nat} (h : b < n) : xs.getD b 0 = (nxt xs b : Int) := by
  have := o.bd b h
  unfold nxt; bv_omega
theorem Ord.nxt_inj (o : Ord n xs) {b c : Nat} (h : b < n) (h' : c < n) (e : nxt xs b = nxt xs c) : b = c :=
  o.inj b c h h' (by rw [o.nxt_int h, o.nxt_int h', e])
def perGo (xs : List Int) (b : Nat) : Nat → Nat → Nat
  | 0, k => k
  | fuel + 1, k => if it xs k b = b then k else perGo xs b fuel (k + 1)
def per (n : Nat) (xs : List Int) (b : Nat) : Nat := perGo xs b (n - 1) 1
def In (n : Nat) (xs : List Int) (b c : Nat) : Prop := ∃ i, i < per n xs b ∧ it xs i b = c
def ring (n : Nat) (xs : List Int) (b : Nat) : List Nat := (List.range (per n xs b)).map fun i => it xs i b
def has (rs : List (List Nat)) (b : Nat) : Bool := rs.any fun r => r.contains b
structure Rgs (n : Nat) (xs : List Int) (m : Nat) (rs : List (List Nat)) : Prop where
  each : ∀ r ∈ rs, ∃ b, b < m ∧ r = ring n xs b ∧ ∀ c, In n xs b c → b ≤ c
  cover : ∀ c, c < m → ∃ r ∈ rs, c ∈ r
  nodup : rs.flatten.Nodup
  rise : rs.Pairwise fun r r' => ∀ x ∈ r.head?, ∀ y ∈ r'.head?, x < y
end
end MR
set_option maxHeartbeats 4000000
namespace L2.L3
open PySem PySem.Spec PyProof.Rows MR
variable [CN]
def pwD (m p : Int) : Nat → Int
  | 0 => p
  | i + 1 => pwD m p i / m
def digD (m p : Int) (n : Nat) : List Int := (List.range n).map fun i => pwD m p i % m
def Pot (a : Addr) (H H' : Hp) : Prop := ∀ b o, H b = some o → b ≠ a → H' b = some o
theorem Pot.upd {a : Addr} {H : Hp} {o : HO} : Pot a H (upd H a o) := fun b u e n => by rw [yA n]; exact e
theorem Pot.trans {a : Addr} {H H1 H2 : Hp} (h : Pot a H H1) (g : Pot a H1 H2) : Pot a H H2 := fun b o e n => g b o (h b o e n) n
theorem Pot.refl (a : Addr) (H : Hp) : Pot a H H := fun _ _ e _ => e
theorem Pot.new {a b : Addr} {H H1 : Hp} {o : HO} (h : Pot a H H1) (hb : H1 b = none) : Pot a H (L2.upd H1 b o) := fun c u e n => by
  rw [yA (fun z => by rw [z] at e; rw [z] at n; rw [h b u e n] at hb; cases hb)]
  exact h c u e n
def spTake : Sp := fun vs H Q _ => ∃ (a : Addr) (p m : Int), vs = [.ref a, .int m] ∧ H a = some (.lst [.int p]) ∧ DivOk m ∧ Q (.int (p % m)) (upd H a (.lst [.int (p / m)]))
def tTake (K : PySem.W.Frag) : TS := tSeq (tAsg (tOp (rI (fun _ j => 0 < j) fun i j => .int (i % j)) (tOp (rIxL K) (tVar 0) (tC (.int 0))) (tVar 1)) (gName 2)) (tSeq (tAsg (tOp (rI (fun _ j => DivOk j) fun i j => .int (i / j)) (tOp (rIxL K) (tVar 0) (tC (.int 0))) (tVar 1)) (gSub (tVar 0) (tC (.int 0)) rSetL)) (tRet (tVar 2)))
theorem take_read {K : PySem.W.Frag} {a : Addr} {p m : Int} {H : Hp} {E : Ends} (h : H a = some (.lst [.int p])) (hm : DivOk m) (k : E.rt (.int (p % m)) (upd H a (.lst [.int (p / m)]))) : tTake K E [some (.ref a), some (.int m), none] H := by
  refine ⟨_, rfl, a, _, 0, _, rfl, rfl, SqL.of h, rfl, _, rfl, _, _, rfl, rfl, hm.1, ?_⟩
  refine ⟨_, rfl, a, _, 0, _, rfl, rfl, SqL.of h, rfl, _, rfl, _, _, rfl, rfl, hm, ?_⟩
  exact ⟨_, rfl, a, _, 0, 0, rfl, rfl, h, rfl, _, rfl, k⟩
section
variable {P : Program} {w : World} {K : PySem.W.Frag} {mg : Str → Option Value} {base : Heap}
theorem fn_take {x : Str} {st : Stmt} {f : Addr} {fd : FuncData} {N ps : List Str} {k : Nat} (F : Fun K x x st f fd) (S : vW N ps (zS st)) (hp : ps.length = 2) (hN : N.length = 3)
    (hbody : ∀ (cdv : Value) (A : Around) (outer : List Env) (s : Shared) (H : Hp) (E : XK), Room k (A.deeper (envOfC x (zS st) s.heap.objs.size f cdv)) → PSs (cxOf CX0 P w K mg base N x (zS st) f cdv A outer s H E).nox (defBody st) (tTake K)) :
    FnOk P w K mg base CX0 (k + 1) f fd ps spTake := by
  refine F.ok S (fun vs H Q E ⟨a, p, m, e, _⟩ => by rw [e, hp]; rfl) fun cdv A outer s H vs Q E hr h => ?_
  obtain ⟨a, p, m, rfl, ha, hm, q⟩ := h
  refine ⟨_, hbody cdv A outer s H E hr, ?_⟩
  have st : start N [V.ref a, V.int m] = [some (.ref a), some (.int m), none] := by
    unfold start
    rw [hN]
    rfl
  rw [st]
  exact take_read ha hm q
end
def rTup (K : PySem.W.Frag) : List V → Hp → VK → Prop := fun xs H Q => ∃ p ys, xs = [.ref p] ∧ ((SqL K H p ys ∧ ∀ l, H l = none → Q (.ref l) (upd H l (.tup ys))) ∨ (SqT K H p ys ∧ Q (.ref p) H))
def rAdd : R2 := rI0 fun i j => .int (i + j)
def DigTo (a : Addr) (m p : Int) (n : Nat) (H : Hp) (Q : VK) : Prop := ∀ b H', H b = none → H' b = some (.tup ((digD m p n).map V.int)) → H' a = some (.lst [.int (pwD m p n)]) → Pot a H H' → Q (.ref b) H'
theorem dig_succ (m p : Int) (n : Nat) : digD m p (n + 1) = digD m p n ++ [pwD m p n % m] := by
  unfold digD
  rw [List.range_succ, List.map_append]
  rfl
theorem dig_read {K : PySem.W.Frag} {σ : St} {js : List Nat} {a : Addr} {m p : Int} {n : Nat} {H : Hp} {Q : VK} {te : Addr → List Addr → Shared → Hp → TE} {wi : TI} (ha : H a = some (.lst [.int p])) (hn : n ≤ 1000)
    (hw : ∀ (H : Hp) (R : It → Hp → Prop), R (Itr 0 n) H → wi σ H R)
    (he : ∀ C fp s₂ H₂ (i : Nat) (q : Int) (H : Hp) (Q : VK), H a = some (.lst [.int q]) → Q (.int (q % m)) (upd H a (.lst [.int (q / m)])) → te C fp s₂ H₂ (compSt σ js (some (.int (0 + (i : Int))))) H Q)
    (k : DigTo a m p n H Q) : tCB (rTup K) (vZ (tComp wi (fun _ _ _ _ => tTrue) te js) tNil) σ H Q := by
  refine hw H _ fun C fp s₂ H₂ => ?_
  refine comp_range (lo := 0) (n := n) (tt := tTrue) (te := te C fp s₂ H₂) (js := js) (σ := σ) (Q := fun x H1 => rTup K [x] H1 Q) (fun i acc H1 => acc = (digD m p i).map V.int ∧ H1 a = some (.lst [.int (pwD m p i)]) ∧ Pot a H H1) ⟨rfl, ha, Pot.refl a H⟩ ?_ ?_
  · rintro i acc H1 hi ⟨rfl, h1, po⟩
    unfold tTrue
    simp only [if_true]
    refine he C fp s₂ H₂ i _ H1 _ h1 ⟨by rw [List.length_map, digD, List.length_map, List.length_range]; exact small1000 (by bv_omega), ?_, wL, po.trans Pot.upd⟩
    rw [dig_succ, List.map_append]
    rfl
  · rintro acc H1 ⟨rfl, h1, po⟩ l hl
    have al : a ≠ l := fun z => by rw [← z, h1] at hl; cases hl
    refine ⟨l, _, rfl, .inl ⟨SqL.of wL, fun b hb => ?_⟩⟩
    have bl : b ≠ l := fun z => by rw [z, wL] at hb; cases hb
    have ba : b ≠ a := fun z => by rw [z, yA al, h1] at hb; cases hb
    have hb1 : H1 b = none := by rw [yA bl] at hb; exact hb
    have hb0 : H b = none := by
      cases e : H b with
      | none => rfl
      | some o => rw [po b o e ba] at hb1; cases hb1
    refine k b _ hb0 wL ?_ ((po.new hl).new hb)
    rw [yA (fun z => ba z.symm), yA al]
    exact h1
def tOpn (K : PySem.W.Frag) : TS := tRet (tCB (rTup K) (vZ (tComp (iRng1 (vZ (tVar 1) tNil)) (fun _ _ _ _ => tTrue) (fun _ _ _ _ => tCall spTake [] E0 (vZ (tVar 1) (vZ (tOp rAdd (tVar 2) (tC (.int 1))) tNil))) [0, 1]) tNil))
def spOpn : Sp := fun vs H Q _ => ∃ (a : Addr) (p : Int) (n : Nat), vs = [.ref a, .int (n : Int)] ∧ H a = some (.lst [.int p]) ∧ n ≤ 1000 ∧ DigTo a ((n : Int) + 1) p n H Q
theorem opn_read {K : PySem.W.Frag} {a : Addr} {p : Int} {n : Nat} {H : Hp} {E : Ends} (h : H a = some (.lst [.int p])) (hn : n ≤ 1000) (k : DigTo a ((n : Int) + 1) p n H E.rt) : tOpn K E [some (.ref a), some (.int (n : Int))] H := by
  refine dig_read (K := K) (m := (n : Int) + 1) h hn (fun H' R r => ⟨_, rfl, (n : Int), rfl, by bv_omega, by bv_omega, by rw [Int.toNat_natCast]; exact r⟩) (fun C fp s₂ H₂ i q H' Q' h' k' => ?_) k
  exact ⟨_, rfl, _, rfl, _, _, rfl, rfl, a, q, _, rfl, h', DivOk.small (by bv_omega) (by bv_omega), k'⟩
section
variable {P : Program} {w : World} {K : PySem.W.Frag} {mg : Str → Option Value} {base : Heap}
theorem fn_opn {x : Str} {st : Stmt} {f : Addr} {fd : FuncData} {N ps : List Str} {k : Nat} (F : Fun K x x st f fd) (S : vW N ps (zS st)) (hp : ps.length = 2) (hN : N.length = 2)
    (hbody : ∀ (cdv : Value) (A : Around) (outer : List Env) (s : Shared) (H : Hp) (E : XK), Room k (A.deeper (envOfC x (zS st) s.heap.objs.size f cdv)) → PSs (cxOf CX0 P w K mg base N x (zS st) f cdv A outer s H E).nox (defBody st) (tOpn K)) :
    FnOk P w K mg base CX0 (k + 1) f fd ps spOpn := by
  refine F.ok S (fun vs H Q E ⟨a, p, n, e, _⟩ => by rw [e, hp]; rfl) fun cdv A outer s H vs Q E hr h => ?_
  obtain ⟨a, p, n, rfl, ha, hn, q⟩ := h
  refine ⟨_, hbody cdv A outer s H E hr, ?_⟩
  have st : start N [V.ref a, V.int (n : Int)] = [some (.ref a), some (.int (n : Int))] := by
    unfold start
    rw [hN]
    rfl
  rw [st]
  exact opn_read ha hn q
end
def rLnS (K : PySem.W.Frag) : List V → Hp → VK → Prop := fun xs H Q => ∃ p ys, xs = [.ref p] ∧ (SqL K H p ys ∨ SqT K H p ys) ∧ Q (.int ys.length) H
section
variable {P : Program} {w : World} {K : PySem.W.Frag} {mg : Str → Option Value} {base : Heap}
end
end L2.L3
set_option maxHeartbeats 4000000
namespace L2.L3
open PySem PySem.Spec PyProof.Rows MR
variable [CN]
def grD (A B C p : Int) : D :=
  if pwD (1 + p % A + 1) (p / A) (1 + p % A).toNat % 8 = 5 then .tuple [.int B, tI (digD C (pwD (1 + p % A + 1) (p / A) (1 + p % A).toNat / 8) B.toNat)]
  else .tuple [.int (1 + p % A), tI (digD (1 + p % A + 1) (p / A) (1 + p % A).toNat)]
def grF (A B C : Int) (Fc : List D → Res D) : List D → Res D
  | [d] => match Fc [d, .int 0] with
    | .ok (.int p) => .ok (grD A B C p)
    | _ => .no
  | _ => .no
theorem grF_eq {A B C : Int} {Fc : List D → Res D} {d : D} {p : Int} (h : Fc [d, .int 0] = .ok (.int p)) : grF A B C Fc [d] = .ok (grD A B C p) := by
  unfold grF
  simp only [h]
theorem grF_no {A B C : Int} {Fc : List D → Res D} {ds : List D} {c : Str} : grF A B C Fc ds ≠ .ex c := by
  unfold grF
  split
  · split <;> exact fun z => nomatch z
  · exact fun z => nomatch z
def tGrT (K : PySem.W.Frag) (B C : Int) : TS :=
  tSeq (tAsg (tCall spOpn [] E0 (vZ (tVar 1) (vZ (tVar 2) tNil))) (gName 3))
  (tSeq (tIfS (tTest (tOp (rEqD K false) (tCall spTake [] E0 (vZ (tVar 1) (vZ (tC (.int 8)) tNil))) (tC (.int 5))))
    (tSeq (tAsg (tC (.int B)) (gName 2)) (tAsg (tCB (rTup K) (vZ (tComp (iRng1 (vZ (tVar 2) tNil)) (fun _ _ _ _ => tTrue) (fun _ _ _ _ => tCall spTake [] E0 (vZ (tVar 1) (vZ (tC (.int C)) tNil))) [1]) tNil)) (gName 3))) tNext)
  (tRet (tTup (vZ (tVar 2) (vZ (tVar 3) tNil)))))
def tGr (K : PySem.W.Frag) (A B C : Int) (Fc : List D → Res D) : TS :=
  tSeq (tAsg (tLst (vZ (tCall (spF false Fc) [] E0 (vZ (tVar 0) (vZ (tC (.int 0)) tNil))) tNil)) (gName 1))
  (tSeq (tAsg (tOp rAdd (tC (.int 1)) (tCall spTake [] E0 (vZ (tVar 1) (vZ (tC (.int A)) tNil)))) (gName 2)) (tGrT K B C))
theorem gr_end {O : Addr → Prop} {H0 H : Hp} {x0 : V} {a b : Addr} {n : Int} {xs : List Int} {E : Ends} (oh : ∀ a, O a → H0 a ≠ none) (fa : H0 a = none) (fb : H0 b = none) (hb : H b = some (.tup (xs.map V.int))) (po : Pot a H0 H)
    (k : ∀ v H', Same H0 H' → CallOk false O H0 H' v (.tuple [.int n, tI xs]) → E.rt v H') : tRet (tTup (vZ (tVar 2) (vZ (tVar 3) tNil))) E [some x0, some (.ref a), some (.int n), some (.ref b)] H := by
  have sm : Same H0 H := fun c o e => po c o e fun z => by rw [z, fa] at e; cases e
  refine ⟨_, rfl, _, rfl, by show 2 ≤ sizeLine; decide, fun t ht => ?_⟩
  have tb : b ≠ t := fun z => by rw [← z, hb] at ht; cases ht
  have t0 : H0 t = none := by
    cases e : H0 t with
    | none => rfl
    | some o => rw [sm t o e] at ht; cases ht
  refine k _ _ (sm.trans (Same.new ht)) (.tup (.inl wL) (fun z => oh t z t0) (.cons (.int n) (.cons (.tup (.inl ?_) (fun z => oh b z fb) (reps_ints xs)) .nil)))
  rw [yA tb]
  exact hb
theorem gr_read {K : PySem.W.Frag} {A B C : Int} {Fc : List D → Res D} {O : Addr → Prop} {H0 : Hp} {x0 : V} {d0 : D} {p : Int} {E : Ends} (hA : 0 < A) (hA2 : A ≤ 60) (hB : 0 ≤ B) (hB2 : B ≤ 60) (hC : 0 < C) (hC2 : C ≤ 60) (oh : ∀ a, O a → H0 a ≠ none) (r0 : Rep H0 O x0 d0) (hc : Fc [d0, .int 0] = .ok (.int p))
    (k : ∀ v H', Same H0 H' → CallOk false O H0 H' v (grD A B C p) → E.rt v H') : tGr K A B C Fc E [some x0, none, none, none] H0 := by
  have e0 := Int.emod_nonneg p (Int.ne_of_gt hA)
  have e1 := Int.emod_lt_of_pos p hA
  obtain ⟨n, hn⟩ : ∃ n : Nat, 1 + p % A = (n : Int) := ⟨(1 + p % A).toNat, by bv_omega⟩
  have n2 : n ≤ 1000 := by bv_omega
  refine ⟨_, rfl, [d0, .int 0], O, oh, .cons r0 (.cons (.int 0) .nil), ?_⟩
  rw [hc]
  intro v H1 s1 cv
  cases cv
  refine ⟨by show 1 ≤ sizeLine; decide, fun a ha => ?_⟩
  have fa : H0 a = none := s1.free ha
  have po1 : Pot a H0 (upd H1 a (.lst [.int p])) := fun b o e n => by rw [yA n]; exact s1 b o e
  suffices h : tGrT K B C E [some x0, some (.ref a), some (.int (n : Int)), none] (upd H1 a (.lst [.int (p / A)])) by
    rw [← hn] at h
    refine ⟨_, rfl, a, p, A, rfl, wL, DivOk.small hA (by bv_omega), _, _, rfl, rfl, ?_⟩
    rw [upd_upd]
    exact h
  have po2 : Pot a H0 (upd H1 a (.lst [.int (p / A)])) := fun b o e n => by rw [yA n]; exact s1 b o e
  refine ⟨_, rfl, _, rfl, a, p / A, n, rfl, wL, n2, fun b H2 fb hb hp po => ?_⟩
  have fb0 : H0 b = none := by
    cases e : H0 b with
    | none => rfl
    | some o =>
      have ba : b ≠ a := fun z => by rw [z, fa] at e; cases e
      rw [po2 b o e ba] at fb; cases fb
  have po3 := po2.trans po
  have ba : b ≠ a := fun z => by rw [z, hp] at hb; cases hb
  have ev : ∀ x : Int, V.bl (if false = true then !PyData.eqv (.int x) (.int 5) else PyData.eqv (.int x) (.int 5)) = .bl (decide (x = 5)) := fun x => by rw [if_neg (by decide), eqv_int]
  refine ⟨_, rfl, a, _, 8, rfl, hp, DivOk.small (by decide) (by decide), .int _, .int 5, .int _, .int _, rfl, rfl, _, ev _, ?_⟩
  have po4 := po3.trans (Pot.upd (o := .lst [.int (pwD ((n : Int) + 1) (p / A) n / 8)]))
  have hb4 : (upd H2 a (.lst [.int (pwD ((n : Int) + 1) (p / A) n / 8)])) b = some (.tup ((digD ((n : Int) + 1) (p / A) n).map V.int)) := by rw [yA ba]; exact hb
  by_cases q : pwD ((n : Int) + 1) (p / A) n % 8 = 5
  · have gd : grD A B C p = .tuple [.int B, tI (digD C (pwD ((n : Int) + 1) (p / A) n / 8) B.toNat)] := by
      unfold grD
      rw [hn, Int.toNat_natCast, if_pos q]
    rw [gd] at k
    rw [decide_eq_true q]
    simp only [if_true]
    obtain ⟨m, hm⟩ : ∃ m : Nat, B = (m : Int) := ⟨B.toNat, by bv_omega⟩
    subst hm
    rw [Int.toNat_natCast] at k
    show tCB (rTup K) (vZ (tComp (iRng1 (vZ (tVar 2) tNil)) (fun _ _ _ _ => tTrue) (fun _ _ _ _ => tCall spTake [] E0 (vZ (tVar 1) (vZ (tC (.int C)) tNil))) [1]) tNil) [some x0, some (.ref a), some (.int (m : Int)), some (.ref b)] (upd H2 a (.lst [.int (pwD ((n : Int) + 1) (p / A) n / 8)])) fun v H' => tRet (tTup (vZ (tVar 2) (vZ (tVar 3) tNil))) E [some x0, some (.ref a), some (.int (m : Int)), some v] H'
    refine dig_read (K := K) (σ := [some x0, some (.ref a), some (.int (m : Int)), some (.ref b)]) (js := [1]) (m := C) (n := m) wL (by bv_omega) (fun H' R r => ⟨_, rfl, (m : Int), rfl, by bv_omega, by bv_omega, by rw [Int.toNat_natCast]; exact r⟩) (fun C' fp s₂ H₂ i q H' Q' h' k' => ⟨_, rfl, a, q, C, rfl, h', DivOk.small hC (by bv_omega), k'⟩) fun b' H3 fb' hb' hp' po' => ?_
    have fb0' : H0 b' = none := by
      cases e : H0 b' with
      | none => rfl
      | some o =>
        have ba' : b' ≠ a := fun z => by rw [z, fa] at e; cases e
        rw [po4 b' o e ba'] at fb'; cases fb'
    exact gr_end oh fa fb0' hb' (po4.trans po') k
  · have gd : grD A B C p = .tuple [.int (n : Int), tI (digD ((n : Int) + 1) (p / A) n)] := by
      unfold grD
      rw [hn, Int.toNat_natCast, if_neg q]
    rw [gd] at k
    rw [decide_eq_false q]
    simp only [Bool.false_eq_true, if_false]
    exact gr_end oh fa fb0 hb4 po4 k
theorem grF_ok {A B C : Int} {Fc : List D → Res D} {ds : List D} {Q : D → Prop} {R : Str → Prop} (h : (grF A B C Fc ds).post Q R) : ∃ d p, ds = [d] ∧ Fc [d, .int 0] = .ok (.int p) ∧ Q (grD A B C p) := by
  unfold grF at h
  split at h
  · split at h
    · rename_i d _ p e
      exact ⟨d, p, rfl, e, h⟩
    · exact h.elim
  · exact h.elim
section
variable {P : Program} {w : World} {K : PySem.W.Frag} {mg : Str → Option Value} {base : Heap}
theorem fn_gr (A B C : Int) (Fc : List D → Res D) (hA : 0 < A ∧ A ≤ 60) (hB : 0 ≤ B ∧ B ≤ 60) (hC : 0 < C ∧ C ≤ 60) {x : Str} {st : Stmt} {f : Addr} {fd : FuncData} {N ps : List Str} {k : Nat} (F : Fun K x x st f fd) (S : vW N ps (zS st)) (hp : ps.length = 1) (hN : N.length = 4)
    (hbody : ∀ (cdv : Value) (A' : Around) (outer : List Env) (s : Shared) (H : Hp) (E : XK), Room k (A'.deeper (envOfC x (zS st) s.heap.objs.size f cdv)) → PSs (cxOf CX0 P w K mg base N x (zS st) f cdv A' outer s H E).nox (defBody st) (tGr K A B C Fc)) :
    FnOk P w K mg base CX0 (k + 1) f fd ps (spF false (grF A B C Fc)) := by
  refine F.ok S (fun vs H Q E ⟨ds, O, oh, r, q⟩ => ?_) fun cdv A' outer s H vs Q E hr h => ?_
  · obtain ⟨d, p, rfl, _⟩ := grF_ok q
    rw [r.length, hp]
    rfl
  · obtain ⟨ds, O, oh, r, q⟩ := h
    obtain ⟨d, p, rfl, hc, q⟩ := grF_ok q
    refine ⟨_, hbody cdv A' outer s H E hr, ?_⟩
    cases r with
    | @cons v _ _ _ r1 r2 =>
      cases r2
      have st : start N [v] = [some v, none, none, none] := by
        unfold start
        rw [hN]
        rfl
      rw [st]
      exact gr_read hA.1 hA.2 hB.1 hB.2 hC.1 hC.2 oh r1 hc q
end
end L2.L3
set_option maxHeartbeats 4000000
namespace L2.L3
open PySem PySem.Spec PyProof.Rows MR
variable [CN]
theorem inV_int (x : Int) (ns : List Int) : inV (.int x) (ns.map V.int) = ns.contains x := by
  unfold inV
  rw [List.any_map, List.contains_eq_any_beq]
  refine congrArg (fun f => ns.any f) (funext fun y => ?_)
  show eqV (.int y) (.int x) = (x == y)
  unfold eqV
  rw [Bool.eq_iff_iff]
  simp
  exact eq_comm
theorem flat_ints (ns : List Int) : (ns.map V.int).all flatV = true := by
  rw [List.all_map]
  exact List.all_eq_true.mpr fun _ _ => rfl
def clN (n : Nat) (bs : List Int) : List Int := ((List.range n).filter fun (i : Nat) => !bs.contains (i : Int)).map fun (i : Nat) => (i : Int)
theorem clN_succ (i : Nat) (bs : List Int) : clN (i + 1) bs = clN i bs ++ (if bs.contains (i : Int) then [] else [(i : Int)]) := by
  unfold clN
  rw [List.range_succ, List.filter_append, List.map_append]
  congr 1
  cases h : bs.contains (i : Int) <;> simp only [List.filter_cons, List.filter_nil, h, Bool.not_true, Bool.not_false, if_true, if_false, Bool.false_eq_true, List.map_cons, List.map_nil]
theorem clN_len (n : Nat) (bs : List Int) : (clN n bs).length ≤ n := by
  unfold clN
  rw [List.length_map]
  exact Nat.le_trans (List.length_filter_le _ _) (by rw [List.length_range]; exact Nat.le_refl n)
theorem sub_le : ∀ (xs l : List Int), xs.Nodup → (∀ x ∈ xs, x ∈ l) → xs.length ≤ l.length
  | [], _, _, _ => Nat.zero_le _
  | x :: xs, l, nd, h => by
    have hx := h x (List.mem_cons_self ..)
    have := sub_le xs (l.erase x) (List.nodup_cons.mp nd).2 fun y hy => (List.mem_erase_of_ne (fun z : y = x => (List.nodup_cons.mp nd).1 (by rw [← z]; exact hy))).mpr (h y (List.mem_cons_of_mem _ hy))
    rw [List.length_erase_of_mem hx] at this
    have := List.length_pos_of_mem hx
    rw [List.length_cons]
    bv_omega
theorem clN_pos (n : Nat) (bs : List Int) (h : bs.length < n) : 0 < (clN n bs).length := by
  rcases Nat.eq_zero_or_pos (clN n bs).length with z | z
  · exfalso
    have all : ∀ i, i < n → (i : Int) ∈ bs := fun i hi => by
      have e := List.length_eq_zero_iff.mp z
      unfold clN at e
      rw [List.map_eq_nil_iff, List.filter_eq_nil_iff] at e
      have := e i (List.mem_range.mpr hi)
      simpa using this
    have nd : ((List.range n).map fun (i : Nat) => (i : Int)).Nodup := List.Pairwise.map (fun (i : Nat) => (i : Int)) (fun a b h e => h (Int.ofNat.inj e)) List.nodup_range
    have := sub_le _ bs nd (fun x hx => by
      obtain ⟨i, hi, rfl⟩ := List.mem_map.mp hx
      exact all i (List.mem_range.mp hi))
    rw [List.length_map, List.length_range] at this
    bv_omega
  · exact z
def runG (g : Nat → Int → D × Int) : Nat → Int → List D × Int
  | 0, p => ([], p)
  | k + 1, p => ((runG g k p).1 ++ [(g k (runG g k p).2).1], (g k (runG g k p).2).2)
def trG (n : Nat) (thin : Bool) : Nat → List Int → List Int → Int → D × Int
  | 0, _, _, p => (.none, p)
  | l + 1, bs, ns, p =>
    if thin = true ∧ p % 4 = 3 then (.none, p / 4)
    else (fun (p1 : Int) => (fun (b : Int) => (fun r : List D × Int => (PyData.tuple [.int b, .tuple r.1], r.2))
      (runG (fun i q => if ns.contains (i : Int) then (.none, q) else trG n thin l (bs ++ [b]) (ns ++ [(i : Int)]) q) n (p1 / ((clN n bs).length : Int))))
      ((clN n bs).getD (p1 % ((clN n bs).length : Int)).toNat 0)) (if thin = true then p / 4 else p)
def nxG (n : Nat) (thin : Bool) (l : Nat) (bs ns : List Int) (b : Int) : Nat → Int → D × Int := fun i q => if ns.contains (i : Int) then (.none, q) else trG n thin l (bs ++ [b]) (ns ++ [(i : Int)]) q
theorem trG_out {n l : Nat} {thin : Bool} {bs ns : List Int} {p : Int} (h : thin = true ∧ p % 4 = 3) : trG n thin (l + 1) bs ns p = (.none, p / 4) := by rw [trG, if_pos h]
theorem trG_in {n l : Nat} {thin : Bool} {bs ns : List Int} {p p1 b : Int} (h : ¬ (thin = true ∧ p % 4 = 3)) (e1 : (if thin = true then p / 4 else p) = p1) (e2 : (clN n bs).getD (p1 % ((clN n bs).length : Int)).toNat 0 = b) :
    trG n thin (l + 1) bs ns p = (.tuple [.int b, .tuple (runG (nxG n thin l bs ns b) n (p1 / ((clN n bs).length : Int))).1], (runG (nxG n thin l bs ns b) n (p1 / ((clN n bs).length : Int))).2) := by
  subst e1 e2
  rw [trG, if_neg h]
  rfl
def spTree (k : Nat) : Sp := fun vs H Q _ => ∃ (O : Addr → Prop) (a ab an : Addr) (p : Int) (n l : Nat) (bs ns : List Int) (thin : Bool), (∀ x, O x → H x ≠ none) ∧ O a ∧ H a = some (.lst [.int p]) ∧ vs = [.ref a, .int (n : Int), .int (l : Int), .ref ab, .ref an, .bl thin] ∧
  Rd H ab (.lst (bs.map V.int)) ∧ ab ≠ a ∧ Rd H an (.lst (ns.map V.int)) ∧ an ≠ a ∧ l < k ∧ n ≤ 100 ∧ bs.length + l ≤ n ∧ ns.length + l ≤ 200 ∧
  ∀ v H', Pot a H H' → H' a = some (.lst [.int (trG n thin l bs ns p).2]) → Rep H' O v (trG n thin l bs ns p).1 → Q v H'
def rSub : R2 := rI0 fun i j => .int (i - j)
def tAppV (K : PySem.W.Frag) (i : Nat) (t : TE) : TS := tDrop (tBM K "list" rAppend (tVar i) (vZ t tNil))
def tTrF (K : PySem.W.Frag) (sp : Sp) : TS := tFor (iRng1 (vZ (tVar 1) tNil)) (gName 9) (tIfS (tTest (tOp (rIn K false) (tVar 9) (tVar 4))) (tAppV K 8 (tC .non))
  (tAppV K 8 (tCall sp [] E0 (vZ (tVar 0) (vZ (tVar 1) (vZ (tOp rSub (tVar 2) (tC (.int 1))) (vZ (tOp rCatR (tVar 3) (tLst (vZ (tVar 7) tNil))) (vZ (tOp rCatR (tVar 4) (tLst (vZ (tVar 9) tNil))) (vZ (tVar 5) tNil)))))))))
def tTrE (K : PySem.W.Frag) : TS := tRet (tTup (vZ (tVar 7) (vZ (tCB (rTup K) (vZ (tVar 8) tNil)) tNil)))
def tTrS (K : PySem.W.Frag) (sp : Sp) : TS :=
  tSeq (tAsg (tOp (rIxL K) (tVar 6) (tCall spTake [] E0 (vZ (tVar 0) (vZ (tCB (rLnS K) (vZ (tVar 6) tNil)) tNil)))) (gName 7))
  (tSeq (tAsg (tLst tNil) (gName 8)) (tSeq (tTrF K sp) (tTrE K)))
def tTrR (K : PySem.W.Frag) (sp : Sp) : TS :=
  tSeq (tAsg (tComp (iRng1 (vZ (tVar 1) tNil)) (fun _ _ _ _ => tTest (tOp (rIn K true) (tVar 0) (tVar 1))) (fun _ _ _ _ => tVar 0) [3]) (gName 6)) (tTrS K sp)
def tTr (K : PySem.W.Frag) (sp : Sp) : TS :=
  tSeq (tIfS (tOr (tTest (tOp (rEqD K false) (tVar 2) (tC (.int 0)))) (tAnd (tB (tVar 5)) (tTest (tOp (rEqD K false) (tCall spTake [] E0 (vZ (tVar 0) (vZ (tC (.int 4)) tNil))) (tC (.int 3)))))) (tRet (tC .non)) tNext) (tTrR K sp)
theorem evI (x y : Int) : V.bl (if false = true then !PyData.eqv (.int x) (.int y) else PyData.eqv (.int x) (.int y)) = .bl (decide (x = y)) := by rw [if_neg (by decide), eqv_int]
theorem rd_pot {a b : Addr} {u : HO} {H H' : Hp} (r : Rd H b u) (po : Pot a H H') (n : b ≠ a) : Rd H' b u := rd_keep r fun o e => po b o e n
theorem Pot.none {a b : Addr} {H H' : Hp} (po : Pot a H H') (n : b ≠ a) (h : H' b = none) : H b = none := by
  cases e : H b with
  | none => rfl
  | some o => rw [po b o e n] at h; cases h
theorem trE_read {K : PySem.W.Frag} {O : Addr → Prop} {H0 H : Hp} {a la : Addr} {v1 v2 v3 v4 v5 v6 v9 : Option V} {b q : Int} {vs : List V} {ds : List D} {E : Ends} (oh : ∀ x, O x → H0 x ≠ none) (po : Pot a H0 H) (ha : H a = some (.lst [.int q])) (fl : H0 la = none) (al : la ≠ a) (hl : H la = some (.lst vs)) (rs : Reps H (fun x => O x ∨ x = la) vs ds)
    (k : ∀ v H', Pot a H0 H' → H' a = some (.lst [.int q]) → Rep H' O v (.tuple [.int b, .tuple ds]) → E.rt v H') : tTrE K E [some (.ref a), v1, v2, v3, v4, v5, v6, some (.int b), some (.ref la), v9] H := by
  refine ⟨_, rfl, _, rfl, la, _, rfl, .inl ⟨SqL.of hl, fun t ht => ⟨by show 2 ≤ sizeLine; decide, fun r hr => ?_⟩⟩⟩
  have ta : t ≠ a := fun z => by rw [z, ha] at ht; cases ht
  have tr : t ≠ r := fun z => by rw [← z, wL] at hr; cases hr
  have hr1 : H r = none := by rw [yA (fun z => tr z.symm)] at hr; exact hr
  have ra : r ≠ a := fun z => by rw [z, ha] at hr1; cases hr1
  have po1 := (po.new (o := .tup vs) ht).new (o := .tup [.int b, .ref t]) hr
  refine k _ _ po1 ?_ (.tup (.inl wL) (fun z => oh r z (po.none ra hr1)) (.cons (.int b) (.cons (.tup (xs := vs) (.inl ?_) (fun z => oh t z (po.none ta ht)) ?_) .nil)))
  · rw [yA (fun z => ra z.symm), yA (fun z => ta z.symm)]
    exact ha
  · rw [yA tr]
    exact wL
  · refine rs.keep (fun x o e _ => ?_) fun x _ z => .inl z
    have xt : x ≠ t := fun z => by rw [z, ht] at e; cases e
    have xr : x ≠ r := fun z => by rw [z, hr1] at e; cases e
    rw [yA xr, yA xt]
    exact e
theorem trF_read {K : PySem.W.Frag} {k n l : Nat} {thin : Bool} {bs ns : List Int} {b p2 : Int} {O : Addr → Prop} {H0 : Hp} {a ab an ac la : Addr} {E : Ends} (oh : ∀ x, O x → H0 x ≠ none) (oa : O a) (rb : Rd H0 ab (.lst (bs.map V.int))) (nb : ab ≠ a) (rn : Rd H0 an (.lst (ns.map V.int))) (nn : an ≠ a) (fl : H0 la = none) (al : la ≠ a) (hk : l < k) (hn : n ≤ 100) (hb : (bs ++ [b]).length + l ≤ n) (hs : ns.length + (l + 1) ≤ 200)
    (kk : ∀ v9 vs H, Pot a H0 H → H a = some (.lst [.int (runG (nxG n thin l bs ns b) n p2).2]) → H la = some (.lst vs) → Reps H (fun x => O x ∨ x = la) vs (runG (nxG n thin l bs ns b) n p2).1 →
      E.nx [some (.ref a), some (.int (n : Int)), some (.int ((l + 1 : Nat) : Int)), some (.ref ab), some (.ref an), some (.bl thin), some (.ref ac), some (.int b), some (.ref la), v9] H)
    {H : Hp} (po : Pot a H0 H) (ha : H a = some (.lst [.int p2])) (hl : H la = some (.lst [])) :
    tTrF K (spTree k) E [some (.ref a), some (.int (n : Int)), some (.int ((l + 1 : Nat) : Int)), some (.ref ab), some (.ref an), some (.bl thin), some (.ref ac), some (.int b), some (.ref la), none] H := by
  refine ⟨_, rfl, (n : Int), rfl, by bv_omega, by bv_omega, ?_⟩
  rw [Int.toNat_natCast]
  have keepL : ∀ {H' : Hp} {o : HO}, Pot a H0 H' → Pot a H0 (upd H' la o) := fun {H' o} h c u e n => by
    rw [yA (fun z => by rw [z, fl] at e; cases e)]
    exact h c u e n
  refine for_range (fun i σ H => ∃ v9 vs, σ = [some (.ref a), some (.int (n : Int)), some (.int ((l + 1 : Nat) : Int)), some (.ref ab), some (.ref an), some (.bl thin), some (.ref ac), some (.int b), some (.ref la), v9] ∧ Pot a H0 H ∧ H a = some (.lst [.int (runG (nxG n thin l bs ns b) i p2).2]) ∧ H la = some (.lst vs) ∧ vs.length = i ∧ Reps H (fun x => O x ∨ x = la) vs (runG (nxG n thin l bs ns b) i p2).1) ⟨none, [], rfl, po, ha, hl, rfl, .nil⟩ ?_ ?_
  · clear po ha hl H
    rintro i σ H hi ⟨v9, vs, rfl, po, ha, hl, lv, rs⟩
    rw [Int.zero_add]
    have rn' := rd_pot rn po nn
    have rb' := rd_pot rb po nb
    have fin : ∀ {H' : Hp} {v : V} {d : D} {q : Int}, Pot a H0 H' → H' a = some (.lst [.int q]) → H' la = some (.lst vs) → Reps H' (fun x => O x ∨ x = la) vs (runG (nxG n thin l bs ns b) i p2).1 → Rep H' (fun x => O x ∨ x = la) v d → nxG n thin l bs ns b i (runG (nxG n thin l bs ns b) i p2).2 = (d, q) →
        ∃ v9 vs', [some (V.ref a), some (.int (n : Int)), some (.int ((l + 1 : Nat) : Int)), some (.ref ab), some (.ref an), some (.bl thin), some (.ref ac), some (.int b), some (.ref la), some (.int (i : Int))] = [some (.ref a), some (.int (n : Int)), some (.int ((l + 1 : Nat) : Int)), some (.ref ab), some (.ref an), some (.bl thin), some (.ref ac), some (.int b), some (.ref la), v9] ∧ Pot a H0 (upd H' la (.lst (vs ++ [v]))) ∧ (upd H' la (.lst (vs ++ [v]))) a = some (.lst [.int (runG (nxG n thin l bs ns b) (i + 1) p2).2]) ∧ (upd H' la (.lst (vs ++ [v]))) la = some (.lst vs') ∧ vs'.length = i + 1 ∧ Reps (upd H' la (.lst (vs ++ [v]))) (fun x => O x ∨ x = la) vs' (runG (nxG n thin l bs ns b) (i + 1) p2).1 := by
      intro H' v d q po' ha' hl' rs' rv e
      have kp : ∀ c o, H' c = some o → ¬ (O c ∨ c = la) → (upd H' la (.lst (vs ++ [v]))) c = some o := fun c o e n => by rw [yA (fun z => n (.inr z))]; exact e
      refine ⟨_, vs ++ [v], rfl, keepL po', ?_, wL, by rw [List.length_append, lv]; rfl, ?_⟩
      · rw [yA (fun z => al z.symm), ha', runG, e]
      · rw [runG, e]
        exact (rs'.keep kp fun _ _ z => z).append (.one (rv.keep kp fun _ _ z => z))
    refine ⟨_, rfl, _, rfl, an, _, rfl, .inl (.inl rn'), rfl, flat_ints ns, _, rfl, ?_⟩
    rw [inV_int]
    simp only [Bool.false_eq_true, if_false]
    by_cases c : ns.contains (i : Int) = true
    · rw [c]
      simp only [if_true]
      refine ⟨_, rfl, .inl ⟨rfl, _, SqL.of hl⟩, la, vs, .non, rfl, rfl, hl, by rw [lv]; exact small1000 (by bv_omega), ?_⟩
      exact fin po ha hl rs .non (by unfold nxG; rw [if_pos c])
    · rw [Bool.not_eq_true] at c
      rw [c]
      simp only [Bool.false_eq_true, if_false]
      refine ⟨_, rfl, .inl ⟨rfl, _, SqL.of hl⟩, _, rfl, _, rfl, _, rfl, _, _, rfl, rfl, _, rfl, _, rfl, by show 1 ≤ sizeLine; decide, fun t1 h1 => ?_⟩
      have S1 := Same.new (H := H) (o := .lst [.int b]) h1
      refine ⟨ab, t1, bs.map V.int, [.int b], rfl, rfl, rd_keep rb' fun o e => S1 _ o e, .inl wL, by rw [List.length_map]; exact Nat.le_of_lt (small1000 (by simp at hb ⊢; bv_omega)), fun q1 h1' => ?_⟩
      have S2 := Same.new (o := .lst (bs.map V.int ++ [.int b])) h1'
      refine ⟨_, rfl, _, rfl, by show 1 ≤ sizeLine; decide, fun t2 h2 => ?_⟩
      have S3 := Same.new (o := .lst [.int (i : Int)]) h2
      have S123 := (S1.trans S2).trans S3
      refine ⟨an, t2, ns.map V.int, [.int (i : Int)], rfl, rfl, rd_keep rn' fun o e => S123 _ o e, .inl wL, by rw [List.length_map]; exact Nat.le_of_lt (small1000 (by simp; bv_omega)), fun q2 h2' => ⟨_, rfl, ?_⟩⟩
      have S4 := Same.new (o := .lst (ns.map V.int ++ [.int (i : Int)])) h2'
      have S := S123.trans S4
      have qa : q1 ≠ a := fun z => by rw [z, S1 _ _ ha] at h1'; cases h1'
      have qa2 : q2 ≠ a := fun z => by rw [z, S123 _ _ ha] at h2'; cases h2'
      refine ⟨fun x => O x ∨ x = la, a, q1, q2, _, n, l, bs ++ [b], ns ++ [(i : Int)], thin, ?_, .inl oa, S _ _ ha, ?_, .inl ?_, qa, .inl ?_, qa2, hk, hn, hb, by simp; bv_omega, fun v H' po' ha' rv => ?_⟩
      · intro x hx
        rcases hx with hx | hx
        · by_cases z : x = a
          · rw [z, S _ _ ha]; exact fun z => nomatch z
          · cases e : H0 x with
            | none => exact absurd e (oh x hx)
            | some o => rw [S _ _ (po x o e z)]; exact fun z => nomatch z
        · rw [hx, S _ _ hl]; exact fun z => nomatch z
      · show [V.ref a, V.int (n : Int), V.int (((l + 1 : Nat) : Int) - 1), V.ref q1, V.ref q2, V.bl thin] = _
        rw [show ((l + 1 : Nat) : Int) - 1 = (l : Int) by bv_omega]
      · rw [(S3.trans S4) _ _ (wL (H := upd H t1 (.lst [.int b])) (a := q1) (o := .lst (bs.map V.int ++ [.int b]))), List.map_append]; rfl
      · rw [wL, List.map_append]; rfl
      · have pH : Pot a H H' := fun c o e n => po' c o (S c o e) n
        have kp : ∀ c o, H c = some o → ¬ (O c ∨ c = la) → H' c = some o := fun c o e n => pH c o e fun z => n (.inl (by rw [z]; exact oa))
        have hl' := pH la _ hl al
        refine ⟨la, vs, v, rfl, rfl, hl', by rw [lv]; exact small1000 (by bv_omega), ?_⟩
        exact fin (po.trans pH) ha' hl' (rs.keep kp fun _ _ z => z) rv (by unfold nxG; rw [c, if_neg Bool.false_ne_true])
  · rintro σ H ⟨v9, vs, rfl, po, ha, hl, _, rs⟩
    exact kk v9 vs H po ha hl rs
theorem trR_read {K : PySem.W.Frag} {k n l : Nat} {thin : Bool} {bs ns : List Int} {b p1 : Int} {O : Addr → Prop} {H0 : Hp} {a ab an : Addr} {E : Ends} (oh : ∀ x, O x → H0 x ≠ none) (oa : O a) (rb : Rd H0 ab (.lst (bs.map V.int))) (nb : ab ≠ a) (rn : Rd H0 an (.lst (ns.map V.int))) (nn : an ≠ a) (hk : l < k) (hn : n ≤ 100) (hb : bs.length + (l + 1) ≤ n) (hs : ns.length + (l + 1) ≤ 200)
    (eb : (clN n bs).getD (p1 % ((clN n bs).length : Int)).toNat 0 = b)
    (kk : ∀ v H', Pot a H0 H' → H' a = some (.lst [.int (runG (nxG n thin l bs ns b) n (p1 / ((clN n bs).length : Int))).2]) → Rep H' O v (.tuple [.int b, .tuple (runG (nxG n thin l bs ns b) n (p1 / ((clN n bs).length : Int))).1]) → E.rt v H')
    {H : Hp} (po : Pot a H0 H) (ha : H a = some (.lst [.int p1])) :
    tTrR K (spTree k) E [some (.ref a), some (.int (n : Int)), some (.int ((l + 1 : Nat) : Int)), some (.ref ab), some (.ref an), some (.bl thin), none, none, none, none] H := by
  have rb' := rd_pot rb po nb
  have lm : ((clN n bs).map V.int).length = (clN n bs).length := List.length_map ..
  have cp := clN_pos n bs (by bv_omega)
  have cl := clN_len n bs
  refine ⟨_, rfl, (n : Int), rfl, by bv_omega, by bv_omega, ?_⟩
  rw [Int.toNat_natCast]
  intro C fp s₂ H₂
  refine comp_range (lo := 0) (n := n) (tt := tTest (tOp (rIn K true) (tVar 0) (tVar 1))) (te := tVar 0) (js := [3]) (σ := [some (.ref a), some (.int (n : Int)), some (.int ((l + 1 : Nat) : Int)), some (.ref ab), some (.ref an), some (.bl thin), none, none, none, none]) (Q := fun v H' => tTrS K (spTree k) E [some (.ref a), some (.int (n : Int)), some (.int ((l + 1 : Nat) : Int)), some (.ref ab), some (.ref an), some (.bl thin), some v, none, none, none] H') (fun i acc H' => acc = (clN i bs).map V.int ∧ H' = H) ⟨rfl, rfl⟩ ?_ ?_
  · rintro i acc H' hi ⟨rfl, rfl⟩
    refine ⟨_, rfl, _, rfl, ab, _, rfl, .inl (.inl rb'), rfl, flat_ints bs, _, rfl, ?_⟩
    rw [inV_int, Int.zero_add]
    simp only [if_true]
    cases c : bs.contains (i : Int) with
    | false =>
      simp only [Bool.not_false, if_true]
      refine ⟨_, rfl, by rw [List.length_map]; exact small1000 (by have := clN_len i bs; bv_omega), ?_, rfl⟩
      rw [clN_succ, c, if_neg Bool.false_ne_true, List.map_append]
      rfl
    | true =>
      simp only [Bool.not_true, Bool.false_eq_true, if_false]
      refine ⟨?_, trivial⟩
      rw [clN_succ, c, if_pos rfl, List.append_nil]
  · rintro acc H' ⟨rfl, rfl⟩ ac hac
    have aca : ac ≠ a := fun z => by rw [z, ha] at hac; cases hac
    have h0 := Int.emod_nonneg p1 (show ((clN n bs).length : Int) ≠ 0 by bv_omega)
    have h1 := Int.emod_lt_of_pos p1 (show (0 : Int) < ((clN n bs).length : Int) by bv_omega)
    refine ⟨_, rfl, _, rfl, _, rfl, ac, _, rfl, .inl (SqL.of wL), a, p1, _, rfl, by rw [yA (fun z => aca z.symm)]; exact ha, ?_⟩
    rw [lm]
    have at1 : atI ((clN n bs).map V.int) (p1 % ((clN n bs).length : Int)) = some (.int b) := by
      obtain ⟨j, hj⟩ : ∃ j : Nat, p1 % ((clN n bs).length : Int) = (j : Int) := ⟨(p1 % ((clN n bs).length : Int)).toNat, by bv_omega⟩
      rw [hj, Int.toNat_natCast] at eb
      rw [hj, atI_map, atI_getD (by bv_omega), eb]
      rfl
    refine ⟨DivOk.small (by bv_omega) (by bv_omega), ac, _, _, .int b, rfl, rfl, SqL.of (by rw [yA aca, wL]), at1, Nat.zero_le _, fun la hla => ?_⟩
    have la1 : la ≠ a := fun z => by rw [z, wL] at hla; cases hla
    have lac : la ≠ ac := fun z => by rw [z, yA aca, wL] at hla; cases hla
    have hla0 : H' la = none := by rw [yA la1, yA lac] at hla; exact hla
    refine trF_read (E := { E with nx := tTrE K E }) oh oa rb nb rn nn (po.none la1 hla0) la1 hk hn (by simp; bv_omega) hs (fun v9 vs H2 po2 ha2 hl2 rs2 => trE_read oh po2 ha2 (po.none la1 hla0) la1 hl2 rs2 kk) ?_ ?_ wL
    · exact ((po.new hac).trans Pot.upd).new hla
    · rw [yA (fun z => la1 z.symm), wL]
theorem tree_read {K : PySem.W.Frag} {k n l : Nat} {thin : Bool} {bs ns : List Int} {p : Int} {O : Addr → Prop} {H : Hp} {a ab an : Addr} {E : Ends} (oh : ∀ x, O x → H x ≠ none) (oa : O a) (ha : H a = some (.lst [.int p])) (rb : Rd H ab (.lst (bs.map V.int))) (nb : ab ≠ a) (rn : Rd H an (.lst (ns.map V.int))) (nn : an ≠ a) (hk : l < k + 1) (hn : n ≤ 100) (hb : bs.length + l ≤ n) (hs : ns.length + l ≤ 200)
    (kk : ∀ v H', Pot a H H' → H' a = some (.lst [.int (trG n thin l bs ns p).2]) → Rep H' O v (trG n thin l bs ns p).1 → E.rt v H') :
    tTr K (spTree k) E [some (.ref a), some (.int (n : Int)), some (.int (l : Int)), some (.ref ab), some (.ref an), some (.bl thin), none, none, none, none] H := by
  refine ⟨_, rfl, .int _, .int 0, .int _, .int _, rfl, rfl, _, evI _ _, ?_⟩
  cases l with
  | zero =>
    rw [decide_eq_true (show ((0 : Nat) : Int) = 0 from rfl)]
    simp only [if_true]
    exact kk _ _ (Pot.refl a H) ha .non
  | succ l =>
    rw [decide_eq_false (show ¬ ((l + 1 : Nat) : Int) = 0 by bv_omega)]
    simp only [Bool.false_eq_true, if_false]
    refine ⟨_, rfl, thin, rfl, ?_⟩
    cases thin with
    | false =>
      simp only [Bool.false_eq_true, if_false]
      have e := trG_in (n := n) (l := l) (thin := false) (bs := bs) (ns := ns) (p := p) (fun z => Bool.false_ne_true z.1) rfl rfl
      rw [e] at kk
      exact trR_read oh oa rb nb rn nn (by bv_omega) hn hb hs rfl kk (Pot.refl a H) ha
    | true =>
      simp only [if_true]
      refine ⟨_, rfl, a, p, 4, rfl, ha, DivOk.small (by decide) (by decide), .int _, .int 3, .int _, .int _, rfl, rfl, _, evI _ _, ?_⟩
      by_cases q : p % 4 = 3
      · rw [decide_eq_true q]
        simp only [if_true]
        rw [trG_out ⟨rfl, q⟩] at kk
        exact kk _ _ Pot.upd wL .non
      · rw [decide_eq_false q]
        simp only [Bool.false_eq_true, if_false]
        have e := trG_in (n := n) (l := l) (thin := true) (bs := bs) (ns := ns) (p := p) (fun z => q z.2) rfl rfl
        rw [e] at kk
        exact trR_read oh oa rb nb rn nn (by bv_omega) hn hb hs rfl kk Pot.upd wL
section
variable {P : Program} {w : World} {K : PySem.W.Frag} {mg : Str → Option Value} {base : Heap}
theorem fn_tree {x : Str} {st : Stmt} {f : Addr} {fd : FuncData} {N ps : List Str} {j k : Nat} (F : Fun K x x st f fd) (S : vW N ps (zS st)) (hp : ps.length = 6) (hN : N.length = 10)
    (hbody : ∀ (cdv : Value) (A : Around) (outer : List Env) (s : Shared) (H : Hp) (E : XK), Room j (A.deeper (envOfC x (zS st) s.heap.objs.size f cdv)) → PSs (cxOf CX0 P w K mg base N x (zS st) f cdv A outer s H E).nox (defBody st) (tTr K (spTree k))) :
    FnOk P w K mg base CX0 (j + 1) f fd ps (spTree (k + 1)) := by
  refine F.ok S (fun vs H Q E ⟨O, a, ab, an, p, n, l, bs, ns, thin, _, _, _, e, _⟩ => by rw [e, hp]; rfl) fun cdv A outer s H vs Q E hr h => ?_
  obtain ⟨O, a, ab, an, p, n, l, bs, ns, thin, oh, oa, ha, rfl, rb, nb, rn, nn, hk, hn, hb, hs, kk⟩ := h
  refine ⟨_, hbody cdv A outer s H E hr, ?_⟩
  have st : start N [V.ref a, .int (n : Int), .int (l : Int), .ref ab, .ref an, .bl thin] = [some (.ref a), some (.int (n : Int)), some (.int (l : Int)), some (.ref ab), some (.ref an), some (.bl thin), none, none, none, none] := by
    unfold start
    rw [hN]
    rfl
  rw [st]
  exact tree_read oh oa ha rb nb rn nn hk hn hb hs kk
end
end L2.L3
set_option maxHeartbeats 4000000
namespace L2.L3
open PySem PySem.Spec PyProof.Rows MR
variable [CN]
def tr1 (n : Nat) (ops ms : List Int) (i : Nat) : D := (trG n (decide (ms.getD i 0 % 3 = 2)) (ops.getD i 0).toNat [] [(i : Int)] (ms.getD i 0 / 3)).1
def plD (n : Nat) (ops ms : List Int) : D := .tuple ((List.range n).map fun (i : Nat) => tr1 n ops ms i)
def plOk (n : Int) (ops ms : List Int) : Prop := 0 ≤ n ∧ n ≤ 7 ∧ ops.length = n.toNat ∧ ms.length = n.toNat ∧ ∀ o ∈ ops, 0 ≤ o ∧ o ≤ n
open Classical in
def plF (Fs : List D → Res D) : List D → Res D
  | [d, .int n, .tuple es] => match intsOf es, Fs [d, .int 3, .int n] with
    | some ops, .ok (.list cs) => match intsOf cs with
      | some ms => if plOk n ops ms then .ok (plD n.toNat ops ms) else .no
      | _ => .no
    | _, _ => .no
  | _ => .no
theorem plF_no {Fs : List D → Res D} {ds : List D} {c : Str} : plF Fs ds ≠ .ex c := by
  unfold plF
  split
  · split
    · split
      · split <;> exact fun z => nomatch z
      · exact fun z => nomatch z
    · exact fun z => nomatch z
  · exact fun z => nomatch z
theorem plF_ok {Fs : List D → Res D} {ds : List D} {Q : D → Prop} {R : Str → Prop} (h : (plF Fs ds).post Q R) : ∃ (d : D) (n : Nat) (ops ms : List Int), ds = [d, .int (n : Int), tI ops] ∧ Fs [d, .int 3, .int (n : Int)] = .ok (lI ms) ∧ n ≤ 7 ∧ ops.length = n ∧ ms.length = n ∧ (∀ o ∈ ops, 0 ≤ o ∧ o ≤ (n : Int)) ∧ Q (plD n ops ms) := by
  unfold plF at h
  split at h
  · split at h
    · rename_i d n es _ _ ops cs e1 e
      split at h
      · rename_i ms e2
        obtain rfl := intsOf_some e1
        obtain rfl := intsOf_some e2
        split at h
        · rename_i c
          obtain ⟨c1, c2, c3, c4, c5⟩ := c
          obtain ⟨m, rfl⟩ : ∃ m : Nat, n = (m : Int) := ⟨n.toNat, by bv_omega⟩
          rw [Int.toNat_natCast] at c3 c4 h
          exact ⟨d, m, ops, ms, rfl, e, by bv_omega, c3, c4, c5, h⟩
        · exact h.elim
      · exact h.elim
    · exact h.elim
  · exact h.elim
theorem plF_eq {Fs : List D → Res D} {d : D} {n : Nat} {ops ms : List Int} (e : Fs [d, .int 3, .int (n : Int)] = .ok (lI ms)) (hn : n ≤ 7) (h1 : ops.length = n) (h2 : ms.length = n) (h3 : ∀ o ∈ ops, 0 ≤ o ∧ o ≤ (n : Int)) : plF Fs [d, .int (n : Int), tI ops] = .ok (plD n ops ms) := by
  unfold plF tI
  simp only [intsOf_map, e, lI]
  rw [if_pos ⟨by bv_omega, by bv_omega, by rw [Int.toNat_natCast]; exact h1, by rw [Int.toNat_natCast]; exact h2, h3⟩, Int.toNat_natCast]
def tPlB (K : PySem.W.Frag) (k : Nat) : TS := tSeq (tAsg (tLst (vZ (tOp (rIxL K) (tVar 4) (tVar 5)) tNil)) (gName 6)) (tSeq (tAsg (tOp (rEqD K false) (tCall spTake [] E0 (vZ (tVar 6) (vZ (tC (.int 3)) tNil))) (tC (.int 2))) (gName 7))
  (tAppV K 3 (tCall (spTree k) [] E0 (vZ (tVar 6) (vZ (tVar 1) (vZ (tOp (rIxT K) (tVar 2) (tVar 5)) (vZ (tLst tNil) (vZ (tLst (vZ (tVar 5) tNil)) (vZ (tVar 7) tNil)))))))))
def tPl (K : PySem.W.Frag) (k : Nat) (Fs : List D → Res D) : TS := tSeq (tAsg (tLst tNil) (gName 3)) (tSeq (tAsg (tCall (spF true Fs) [] E0 (vZ (tVar 0) (vZ (tC (.int 3)) (vZ (tVar 1) tNil)))) (gName 4))
  (tSeq (tFor (iRng1 (vZ (tVar 1) tNil)) (gName 5) (tPlB K k)) (tRet (tCB (rTup K) (vZ (tVar 3) tNil)))))
theorem pl_read {K : PySem.W.Frag} {k : Nat} {Fs : List D → Res D} {O : Addr → Prop} {H0 : Hp} {x0 : V} {d0 : D} {ao : Addr} {n : Nat} {ops ms : List Int} {E : Ends} (oh : ∀ a, O a → H0 a ≠ none) (r0 : Rep H0 O x0 d0) (ro : Rd H0 ao (.tup (ops.map V.int))) (hs : Fs [d0, .int 3, .int (n : Int)] = .ok (lI ms)) (hn : n ≤ 7) (hk : 8 ≤ k) (lo : ops.length = n) (lm : ms.length = n) (ho : ∀ o ∈ ops, 0 ≤ o ∧ o ≤ (n : Int))
    (kk : ∀ v H', Same H0 H' → CallOk false O H0 H' v (plD n ops ms) → E.rt v H') : tPl K k Fs E [some x0, some (.int (n : Int)), some (.ref ao), none, none, none, none, none] H0 := by
  refine ⟨Nat.zero_le _, fun lt hlt => ?_⟩
  have S1 := Same.new (o := .lst []) hlt
  refine ⟨_, rfl, _, rfl, [d0, .int 3, .int (n : Int)], fun x => O x ∨ x = lt, fun x hx => ?_, .cons (r0.keep (fun b o e _ => S1 b o e) fun b hb z => ?_) (.cons (.int 3) (.cons (.int (n : Int)) .nil)), ?_⟩
  · rcases hx with hx | hx
    · exact Same.ne S1 (oh x hx)
    · rw [hx, wL]; exact fun z => nomatch z
  · rcases z with z | z
    · exact z
    · exact absurd hlt (by rw [z] at hb; exact hb)
  rw [hs]
  rintro v H1 s1 ⟨lc, ys, ds, rfl, e, hlc, hlc1, rc⟩
  cases e
  obtain rfl := rc.ints
  have S01 : Same H0 H1 := S1.trans s1
  have hlt1 : H1 lt = some (.lst []) := s1 _ _ wL
  have ltc : lt ≠ lc := fun z => by rw [← z, wL] at hlc; cases hlc
  have flc : H0 lc = none := by rw [yA (fun z => ltc z.symm)] at hlc; exact hlc
  refine ⟨_, rfl, (n : Int), rfl, by bv_omega, by bv_omega, ?_⟩
  rw [Int.toNat_natCast]
  refine for_range (fun i σ H => ∃ v5 v6 v7 vs, σ = [some x0, some (.int (n : Int)), some (.ref ao), some (.ref lt), some (.ref lc), v5, v6, v7] ∧ Same H0 H ∧ H lc = some (.lst (ms.map V.int)) ∧ H lt = some (.lst vs) ∧ vs.length = i ∧ Reps H (fun x => O x ∨ x = lt) vs ((List.range i).map fun (i : Nat) => tr1 n ops ms i)) ⟨none, none, none, [], rfl, S01, hlc1, hlt1, rfl, .nil⟩ ?_ ?_
  · rintro i σ H hi ⟨v5, v6, v7, vs, rfl, S, hc, hl, lv, rs⟩
    rw [Int.zero_add]
    have at1 : atI (ms.map V.int) (i : Int) = some (.int (ms.getD i 0)) := by rw [atI_map, atI_getD (by bv_omega)]; rfl
    have at2 : atI (ops.map V.int) (i : Int) = some (.int (ops.getD i 0)) := by rw [atI_map, atI_getD (by bv_omega)]; rfl
    have bo := ho (ops.getD i 0) (by rw [List.getD, List.getElem?_eq_getElem (by bv_omega), Option.getD_some]; exact List.getElem_mem _)
    refine ⟨_, rfl, _, rfl, lc, _, _, _, rfl, rfl, SqL.of hc, at1, by show 1 ≤ sizeLine; decide, fun a ha => ?_⟩
    have la : lt ≠ a := fun z => by rw [← z, hl] at ha; cases ha
    have fa : H0 a = none := S.free ha
    refine ⟨_, rfl, a, _, 3, rfl, wL, DivOk.small (by decide) (by decide), .int _, .int 2, .int _, .int _, rfl, rfl, ?_⟩
    rw [evI, upd_upd]
    have Sa := Same.new (o := .lst [.int (ms.getD i 0 / 3)]) ha
    have hl1 : (upd H a (.lst [.int (ms.getD i 0 / 3)])) lt = some (.lst vs) := Sa _ _ hl
    refine ⟨_, rfl, .inl ⟨rfl, _, SqL.of hl1⟩, _, rfl, _, rfl, _, rfl, _, rfl, ao, _, _, _, rfl, rfl, .inl (rd_keep ro fun o e => Sa _ o (S _ o e)), at2, Nat.zero_le _, fun t1 h1 => ?_⟩
    have St1 := Same.new (o := .lst []) h1
    refine ⟨_, rfl, by show 1 ≤ sizeLine; decide, fun t2 h2 => ⟨_, rfl, ?_⟩⟩
    have St2 := Same.new (o := .lst [.int (i : Int)]) h2
    have Sn := St1.trans St2
    have SH := Sa.trans Sn
    have ta1 : t1 ≠ a := fun z => by rw [z, wL] at h1; cases h1
    have ta2 : t2 ≠ a := fun z => by rw [z, yA (fun z => ta1 z.symm), wL] at h2; cases h2
    refine ⟨fun x => O x ∨ x = lt ∨ x = a, a, t1, t2, ms.getD i 0 / 3, n, (ops.getD i 0).toNat, [], [(i : Int)], decide (ms.getD i 0 % 3 = 2), fun x hx => ?_, .inr (.inr rfl), Sn _ _ wL, by rw [Int.toNat_of_nonneg bo.1]; rfl, .inl (St2 _ _ wL), ta1, .inl wL, ta2, by bv_omega, by bv_omega, by show 0 + _ ≤ n; bv_omega, by show 1 + _ ≤ 200; bv_omega, fun v H' po hp rv => ?_⟩
    · rcases hx with hx | hx | hx
      · exact Same.ne SH (Same.ne S (oh x hx))
      · rw [hx, Sn _ _ hl1]; exact fun z => nomatch z
      · rw [hx, Sn _ _ wL]; exact fun z => nomatch z
    · have pH : ∀ c o, H c = some o → H' c = some o := fun c o e => po c o (SH c o e) fun z => by rw [z, ha] at e; cases e
      have hl' := pH _ _ hl
      refine ⟨lt, vs, v, rfl, rfl, hl', by rw [lv]; exact small1000 (by bv_omega), ?_⟩
      have kp : ∀ c o, H' c = some o → ¬ (O c ∨ c = lt) → (upd H' lt (.lst (vs ++ [v]))) c = some o := fun c o e n => by rw [yA (fun z => n (.inr z))]; exact e
      refine ⟨_, _, _, vs ++ [v], rfl, fun c o e => ?_, ?_, wL, by rw [List.length_append, lv]; rfl, ?_⟩
      · rw [yA (fun z => by rw [z, hlt] at e; cases e)]
        exact pH _ _ (S _ _ e)
      · rw [yA (fun z => ltc z.symm)]
        exact pH _ _ hc
      · rw [List.range_succ, List.map_append]
        refine ((rs.keep (fun c o e _ => pH c o e) fun _ _ z => z).keep kp fun _ _ z => z).append (.one ?_)
        exact (rv.less fun x hx => hx.elim .inl fun z => .inr (.inl z)).keep kp fun _ _ z => z
  · rintro σ H ⟨v5, v6, v7, vs, rfl, S, hc, hl, _, rs⟩
    refine ⟨_, rfl, lt, _, rfl, .inl ⟨SqL.of hl, fun t ht => kk _ _ (S.trans (Same.new ht)) (.tup (xs := vs) (.inl wL) (fun z => oh t z (S.free ht)) ?_)⟩⟩
    refine rs.keep (fun c o e _ => ?_) fun _ _ z => .inl z
    rw [yA (fun z => by rw [z, ht] at e; cases e)]
    exact e
section
variable {P : Program} {w : World} {K : PySem.W.Frag} {mg : Str → Option Value} {base : Heap}
theorem tree_no {f : Addr} {fd : FuncData} {ps : List Str} {k : Nat} : FnOk P w K mg base CX0 k f fd ps (spTree 0) := by
  have no : ∀ {vs : List V} {H : Hp} {Q : VK} {E : XK}, spTree 0 vs H Q E → False := by
    rintro vs H Q E ⟨O, a, ab, an, p, n, l, bs, ns, thin, _, _, _, _, _, _, _, _, hl, _⟩
    bv_omega
  exact ⟨fun vs H Q E h => (no h).elim, fun A outer s H args us vs Q E hr e b v h => (no h).elim⟩
theorem fn_plan (Fs : List D → Res D) {x : Str} {st : Stmt} {f : Addr} {fd : FuncData} {N ps : List Str} {j k : Nat} (hk : 8 ≤ k) (F : Fun K x x st f fd) (S : vW N ps (zS st)) (hp : ps.length = 3) (hN : N.length = 8)
    (hbody : ∀ (cdv : Value) (A' : Around) (outer : List Env) (s : Shared) (H : Hp) (E : XK), Room j (A'.deeper (envOfC x (zS st) s.heap.objs.size f cdv)) → PSs (cxOf CX0 P w K mg base N x (zS st) f cdv A' outer s H E).nox (defBody st) (tPl K k Fs)) :
    FnOk P w K mg base CX0 (j + 1) f fd ps (spF false (plF Fs)) := by
  refine F.ok S (fun vs H Q E ⟨ds, O, oh, r, q⟩ => ?_) fun cdv A' outer s H vs Q E hr h => ?_
  · obtain ⟨d, n, ops, ms, rfl, _⟩ := plF_ok q
    rw [r.length, hp]
    rfl
  · obtain ⟨ds, O, oh, r, q⟩ := h
    obtain ⟨d, n, ops, ms, rfl, hc, hn, lo, lm, ho, q⟩ := plF_ok q
    refine ⟨_, hbody cdv A' outer s H E hr, ?_⟩
    cases r with
    | @cons v _ _ _ r1 r2 =>
      cases r2 with
      | cons r2 r3 =>
        cases r2
        cases r3 with
        | cons r3 r4 =>
          cases r4
          cases r3 with
          | @tup a _ _ rd no rs =>
            obtain rfl := rs.ints
            have st : start N [v, V.int (n : Int), V.ref a] = [some v, some (.int (n : Int)), some (.ref a), none, none, none, none, none] := by
              unfold start
              rw [hN]
              rfl
            rw [st]
            exact pl_read oh r1 rd hc hn hk lo lm ho q
end
end L2.L3
set_option maxHeartbeats 4000000
namespace L2.L3
open PySem PySem.Spec PyProof.Rows MR
variable [CN]
section
variable {P : Program} {w : World} {K : PySem.W.Frag} {mg : Str → Option Value} {base : Heap} {CX : CXT} {k : Nat} {f : Addr} {fd : FuncData} {ps : List Str}
theorem fn_up {sp : Sp} (F : FnOk P w K mg base CX0 k f fd ps sp) : FnOk P w K mg base CX k f fd ps sp :=
  ⟨F.len, fun A outer s H args us vs Q E hr he hb hv hs => codeAny_mono (F.run A outer s H args us vs Q E hr he hb hv hs) fun r s' h => by
    cases r with
    | ok fl =>
      cases fl with
      | ret u => exact h
      | _ => exact h
    | error e => exact h.elim⟩
theorem fn_upX {F : List D → Res D} {fr : Bool} (no : ∀ ds c, F ds ≠ .ex c) (G : FnOk P w K mg base CX0 k f fd ps (spF fr F)) : FnOk P w K mg base CX k f fd ps (spX fr F) :=
  (fn_up G).imp fun vs H Q E h => by
    obtain ⟨ds, O, oh, r, q⟩ := h
    refine ⟨ds, O, oh, r, ?_⟩
    cases e : F ds with
    | ok d => rw [e] at q; exact q
    | no => rw [e] at q; exact q
    | ex c => exact absurd e (no ds c)
end
end L2.L3
set_option maxHeartbeats 4000000
namespace PySem
open PyProof.Rows
theorem block_newC {M : Model} {A : Around} {E : Value → Shared → Prop} {s : Shared} {scope : Scope} {g bi : Addr} {cl : List (Str × Addr)} {qual : Str} {cd : Value} {outer : Env} {xt : Str} {P : Value → Env → Shared → Prop} (cells1 : ∀ (n : Nat) (cl : List (Str × Addr)), cellsFrom n scope.names cl = (xt, n) :: cl) (push1 : ∀ h : Heap, pushCells h scope.names = h.push { cls := .type "cell", data := .cell none })
    (k : ∀ (D C : Addr) (hp : Heap) (m : Str → Option Value), s.heap.objs.size ≤ D → s.heap.objs.size ≤ C → D ≠ C → D ≠ C + 1 → (∀ b o, s.heap.get? b = some o → hp.get? b = some o) → hp.get? D = some { cls := .type "list", data := .seq #[] } → hp.Ns C m → hp.IsCell (C + 1) none → P (.ref D) (newEnv scope C g ((xt, C + 1) :: cl) qual none cd (some outer) bi) { s with heap := hp }) :
    wpAny M A (newList []) (fun acc x => wpAny M A (newFunctionEnv scope g cl [] qual none cd (some outer) bi) (fun e y => P acc e y) E x) E s := by
  unfold newList
  refine wpAny_newObj_type ?_
  unfold newFunctionEnv
  dsimp only [Option.isSome]
  apply wpAny_bind
  apply wpAny_alloc
  apply wpAny_bind
  apply wpAny_layCells
  · intro nm kd cs
    by_cases c : kd = NameKind.cell
    · subst c; rfl
    · have c' : (kd == NameKind.cell) = false := beq_false_of_ne c
      rw [c']
  rw [cells1, push1]
  apply wpAny_bind
  rw [List.forIn_nil]
  refine wpAny_pure (wpAny_pure ?_)
  have z : (s.heap.push { cls := .type "list", data := .seq #[] }).objs.size = s.heap.objs.size + 1 := Heap.size_push ..
  have z2 : ((s.heap.push { cls := .type "list", data := .seq #[] }).push { cls := .type "dict", data := .dict #[] }).objs.size = s.heap.objs.size + 2 := by rw [Heap.size_push, z]
  have up : ∀ b o, (s.heap.push { cls := .type "list", data := .seq #[] }).get? b = some o → (((s.heap.push { cls := .type "list", data := .seq #[] }).push { cls := .type "dict", data := .dict #[] }).push { cls := .type "cell", data := .cell none }).get? b = some o := fun b o q => Heap.get?_push_of_some _ (Heap.get?_push_of_some _ q)
  have kk := k s.heap.objs.size (s.heap.push { cls := .type "list", data := .seq #[] }).objs.size (((s.heap.push { cls := .type "list", data := .seq #[] }).push { cls := .type "dict", data := .dict #[] }).push { cls := .type "cell", data := .cell none }) _ (Nat.le_refl _) (by rw [z]; exact Nat.le_succ _) (by rw [z]; exact Nat.ne_of_lt (Nat.lt_succ_self _)) (by rw [z]; exact Nat.ne_of_lt (Nat.lt_succ_of_lt (Nat.lt_succ_self _)))
    (fun b o q => up b o (Heap.get?_push_of_some _ q)) (up _ _ (Heap.get?_push_size _ rfl)) ((Heap.Ns.new _ (.type "dict")).keeps fun b o q => Heap.get?_push_of_some _ q) ⟨_, by rw [z, ← z2]; exact Heap.get?_push_size _ rfl, rfl⟩
  have e1 : ((s.heap.push { cls := .type "list", data := .seq #[] }).push { cls := .type "dict", data := .dict #[] }).objs.size = (s.heap.push { cls := .type "list", data := .seq #[] }).objs.size + 1 := Heap.size_push ..
  rw [← e1] at kk
  exact kk
end PySem
namespace L2
open PySem PyProof.Rows
structure CompScopeC (sc0 scope : Scope) (N0 : List Str) (xt : Str) (fs : List Str) (js : List Nat) : Prop where
  kind : scope.kind = .function
  cells1 : ∀ (n : Nat) (cl : List (Str × Addr)), cellsFrom n scope.names cl = (xt, n) :: cl
  push1 : ∀ h : Heap, pushCells h scope.names = h.push { cls := .type "cell", data := .cell none }
  only : ∀ y ∈ scope.names, y.2 = .cell → y.1 = xt
  names : ∀ y ∈ scope.names, y.2 = .local → scope.names.lookup y.1 = some .local
  tgt : scope.names.lookup xt = some .cell
  frees : ∀ y ∈ scope.names, y.2 = .free → sc0.names.lookup y.1 = some .cell ∨ sc0.names.lookup y.1 = some .free
  len : js.length = fs.length
  slots : ∀ p ∈ fs.zip js, N0[p.2]? = some p.1 ∧ scope.names.lookup p.1 = some .free
  nd : (xt :: fs).Nodup
def cxCompC (X : Cx) (xt : Str) (N : List Str) (scope : Scope) (C : Addr) (fp : List Addr) (s₂ : Shared) (H : Hp) : Cx :=
  { cxComp X N scope C fp s₂ H with env := compEnvC scope ((xt, C + 1) :: clos X.env.cells scope.names []) C X.env, fn := fun y => decide (y = xt) }
theorem relabel_cell {sc : Scope} {env : Env} {x : Str} (h : sc.names.lookup x = some .cell) : (relabel sc env).names.lookup x = some .cell := by
  rcases relabel_look sc env x with e | ⟨e, _⟩
  · exact e.trans h
  · rw [h] at e; cases e
theorem two_look {xt x : Str} {a c : Addr} {l l' : List (Str × Addr)} (h : ∀ c, l.lookup x = some c → l'.lookup x = some c) (e : List.lookup x ((xt, a) :: l) = some c) : (x = xt ∧ c = a) ∨ (x ≠ xt ∧ l'.lookup x = some c) := by
  rw [List.lookup_cons] at e
  by_cases q : x = xt
  · subst q
    rw [beq_self_eq_true] at e
    cases e
    exact .inl ⟨rfl, rfl⟩
  · rw [beq_false_of_ne q] at e
    exact .inr ⟨q, h c e⟩
section
variable {X : Cx} {pins : List (Addr × Obj)} {σ : St} {H : Hp} {s₂ s₄ : Shared} {sc0 scope : Scope} {N0 : List Str} {xt : Str} {fs : List Str} {js : List Nat} {fp : List Addr}
theorem CompScopeC.cells (S : CompScopeC sc0 scope N0 xt fs js) (h0 : X.env.scope = sc0) (ok : X.Ok) : ∀ n, (n, NameKind.free) ∈ scope.names → ∃ c, X.env.cells.lookup n = some c := fun n hn => ok.has n (by subst h0; exact S.frees _ hn rfl)
theorem CompScopeC.sub (S : CompScopeC sc0 scope N0 xt fs js) (h0 : X.env.scope = sc0) (ok : X.Ok) : ∀ x c, (clos X.env.cells scope.names []).lookup x = some c → X.env.cells.lookup x = some c :=
  clos_sub scope.names [] (S.cells h0 ok) fun x c e => by simp at e
theorem Inv.blockC (S : CompScopeC sc0 scope N0 xt fs js) (h0 : X.env.scope = sc0) (hN0 : X.N = N0) (I : Inv X pins σ H s₂) (hf : ∀ b ∈ fp, FpOk X pins H b) (hfo : ∀ b ∈ fp, ∃ o, s₂.heap.get? b = some o)
    (hos : s₄.os = s₂.os) (hg : AllBare s₄.gens) (hk : ∀ b o, s₂.heap.get? b = some o → s₄.heap.get? b = some o) {C : Addr} (hC : s₂.heap.objs.size ≤ C) {m : Str → Option Value} (hn : s₄.heap.Ns C m) (hcl : s₄.heap.IsCell (C + 1) none) :
    Inv (cxCompC X xt (xt :: fs) scope C fp s₂ H) [] (compSt σ js none) H s₄ := by
  have sub := S.sub h0 I.ok
  have two : ∀ x c, ((xt, C + 1) :: clos X.env.cells scope.names []).lookup x = some c → (x = xt ∧ c = C + 1) ∨ (x ≠ xt ∧ X.env.cells.lookup x = some c) := fun x c h => two_look (fun c h => sub x c h) h
  have far : ∀ x c, X.env.cells.lookup x = some c → c ≠ C + 1 := fun x c h z => by
    obtain ⟨v, o, ho, _⟩ := I.cell x c h
    subst z
    exact Nat.not_lt.mpr hC (Nat.lt_of_succ_lt (Heap.lt_size ho))
  have blt : ∀ b ∈ fp, b < s₂.heap.objs.size := fun b hb => let ⟨o, e⟩ := hfo b hb; Heap.lt_size e
  have ok : (cxCompC X xt (xt :: fs) scope C fp s₂ H).Ok := by
    refine ⟨I.ok.mod, S.kind, I.ok.glob, I.ok.blt, hC, fun x y c h1 h2 => by
      rcases two x c h1 with ⟨rfl, rfl⟩ | ⟨_, q1⟩
      · rcases two y _ h2 with ⟨rfl, _⟩ | ⟨_, q2⟩
        · rfl
        · exact absurd rfl (far y _ q2)
      · rcases two y c h2 with ⟨_, rfl⟩ | ⟨_, q2⟩
        · exact absurd rfl (far x _ q1)
        · exact I.ok.inj x y c q1 q2, fun x hx => ?_, fun x c h1 h2 => by
      have h1 : x = xt := of_decide_eq_true h1
      subst h1
      rcases two x c h2 with ⟨_, rfl⟩ | ⟨z, _⟩
      · exact Nat.le_trans hC (Nat.le_succ C)
      · exact absurd rfl z, I.ok.hd, I.ok.frames, .inl rfl, fun b hb => ⟨?_, fun x c h => by
      rcases two x c h with ⟨_, rfl⟩ | ⟨_, q⟩
      · exact fun z => by
          have q := blt b hb
          rw [← z] at q
          exact Nat.not_lt.mpr hC (Nat.lt_of_succ_lt q)
      · exact (hf b hb).2.2.2.2.1 x c q⟩, I.bs, Nat.le_trans I.ok.bsz I.sz, fun b o e hb => ?_, fun b hb hs => ?_, I.stack, I.stkFree⟩
    · have hx : (relabel scope X.env).names.lookup x = some .cell ∨ (relabel scope X.env).names.lookup x = some .free := hx
      by_cases hxt : x = xt
      · subst hxt
        exact ⟨C + 1, by show List.lookup x ((x, C + 1) :: _) = _; rw [List.lookup_cons, beq_self_eq_true]⟩
      · have hfree : scope.names.lookup x = some .free := by
          rcases hx with hx | hx
          · rcases relabel_back hx with q | ⟨_, q⟩
            · exact absurd (S.only _ (PySem.mem_of_lookup q) rfl) hxt
            · exact q
          · rcases relabel_back hx with q | ⟨q, _⟩
            · exact q
            · cases q
        obtain ⟨c, hc⟩ := clos_has (cells := X.env.cells) scope.names [] x (PySem.mem_of_lookup hfree)
        exact ⟨c, by show List.lookup x ((xt, C + 1) :: _) = _; rw [List.lookup_cons, beq_false_of_ne hxt]; exact hc⟩
    · exact Nat.ne_of_lt (Nat.lt_of_lt_of_le (blt b hb) hC)
    · rcases (hf b hb).2.2.2.1 with z | z
      · exact I.ok.noex b o e z
      · exact absurd (Nat.lt_of_lt_of_le (Heap.lt_size (I.ok.bs b o e).1) z) (Nat.lt_irrefl _)
    · rcases List.mem_cons.mp (I.stkSub b hs) with z | z
      · exact (hf b hb).2.1 z
      · exact (hf b hb).2.2.1 z
  refine ⟨ok, hos, hg, Un.kept hk, ⟨m, hn, fun i x v e1 e2 e3 => ?_⟩, fun x c e => ?_, I.hok.fresh hC, fun x c e => by
      rcases two x c e with ⟨_, rfl⟩ | ⟨_, q⟩
      · exact I.hok.fresh (Nat.le_trans hC (Nat.le_succ C))
      · exact I.freeC x c q, fun p hp => absurd (show p ∈ ([] : List (Addr × Obj)) from hp) (by simp), I.hok.kept hk, ?_⟩
  · cases i with
    | zero => cases e2
    | succ i =>
      have e1 : fs[i]? = some x := e1
      have e2 : (js.map fun j => (σ[j]?).join)[i]? = some (some v) := e2
      rw [List.getElem?_map] at e2
      cases ej : js[i]? with
      | none => rw [ej] at e2; cases e2
      | some j =>
        rw [ej] at e2
        have e2 : (σ[j]?).join = some v := Option.some.inj e2
        obtain ⟨hN, hfr⟩ := S.slots _ (zip_mem e1 ej)
        have hN : X.N[j]? = some x := by rw [hN0]; exact hN
        have hk2 : X.env.kindOf x = some .cell ∨ X.env.kindOf x = some .free := by subst h0; exact S.frees _ (PySem.mem_of_lookup hfr) rfl
        have hs : σ[j]? = some (some v) := by
          cases q : σ[j]? with
          | none => rw [q] at e2; cases e2
          | some z => rw [q] at e2; rw [show z = some v from e2]
        obtain ⟨m0, hn0, hl⟩ := I.loc
        obtain ⟨u, r, l⟩ := hl j x v hN hs (by rcases hk2 with z | z; exact .inr (.inl z); exact .inr (.inr z))
        refine ⟨u, r, ?_⟩
        rcases l with ⟨hloc, _⟩ | ⟨_, c, hc, hcell⟩
        · rcases hk2 with z | z
          · rw [z] at hloc; cases hloc
          · rw [z] at hloc; cases hloc
        · obtain ⟨c', hc'⟩ := clos_has (cells := X.env.cells) scope.names [] x (PySem.mem_of_lookup hfr)
          have : c' = c := Option.some.inj ((sub x c' hc').symm.trans hc)
          subst this
          have hne : x ≠ xt := fun z => by
            subst z
            exact (List.nodup_cons.mp S.nd).1 (List.mem_of_getElem? e1)
          exact .inr ⟨relabel_free hfr, c', by show List.lookup x ((xt, C + 1) :: _) = _; rw [List.lookup_cons, beq_false_of_ne hne]; exact hc', hcell.keeps hk⟩
  · rcases two x c e with ⟨_, rfl⟩ | ⟨_, q⟩
    · exact ⟨none, hcl⟩
    · obtain ⟨v, z⟩ := I.cell x c q
      exact ⟨v, z.keeps hk⟩
  · show (compSt σ js none).length = (xt :: fs).length
    unfold compSt
    rw [List.length_cons, List.length_map, List.length_cons, S.len]
theorem Inv.unblockC {pins' : List (Addr × Obj)} {σ' : St} {H' : Hp} {s' : Shared} {h'' : Heap} {C D : Addr} {its : List Value} {n : Nat} {acc : List V} {N : List Str} (I : Inv X pins σ H s₂) (hf : ∀ b ∈ fp, FpOk X pins H b)
    (J : Inv (cxCompC X xt N scope C fp s₂ H) pins' σ' H' s') (hC : s₂.heap.objs.size ≤ C) (hD : s₂.heap.objs.size ≤ D) (hDC : D ≠ C) (hHD : H' D = none)
    (hd : s'.heap.get? D = some { cls := .type "list", data := .seq its.toArray n }) (hv : Vals acc its) (hz : acc.length ≤ sizeLine) (hsb : Heap.SameBut C s'.heap h'') :
    Inv X pins σ (upd H' D (.lst acc)) { s' with heap := h'' } := by
  have hd2 : h''.get? D = some { cls := .type "list", data := .seq its.toArray n } := (hsb.2 D hDC).trans hd
  have keep : ∀ b o, b < s₂.heap.objs.size → s'.heap.get? b = some o → h''.get? b = some o := fun b o hb e => (hsb.2 b (Nat.ne_of_lt (Nat.lt_of_lt_of_le hb hC))).trans e
  have hHC : H' C = none := J.free
  have ok1 : HOk X.prog X.w H' h'' := fun b o e => (J.hok b o e).stay (fun c v hc q => (hsb.2 c (by
      rcases hc with z | z
      · rw [z]; exact fun w => by rw [w, hHC] at e; cases e
      · exact fun w => by rw [w, hHC] at z; cases z)).trans q) (fun _ q => q) fun _ _ q => q
  have ok2 : HOk X.prog X.w (upd H' D (.lst acc)) h'' := ok1.track hHD ⟨hz, its, n, hv, hd2⟩
  have un : Un (frs X.stack) fp H (upd H' D (.lst acc)) s₂.heap h'' := by
    have u := J.base
    refine ⟨fun b o e nb h1 h2 => keep b o (Heap.lt_size e) (u.keep b o e nb h1 h2), fun b o e nb h1 h2 => ?_, fun b o e nb h2 => ?_, fun b o e h2 => ?_, fun b xs e => ?_, fun b o v e => ?_, fun b ps e => ?_⟩
    · obtain ⟨sl, q⟩ := u.slot b o e nb h1 h2
      exact ⟨sl, keep b _ (Heap.lt_size e) q⟩
    · rw [yA (Nat.ne_of_lt (Nat.lt_of_lt_of_le (Heap.lt_size e) hD))]
      exact u.free b o e nb h2
    · obtain ⟨o', q⟩ := u.there b o e h2
      exact ⟨o', keep b _ (Heap.lt_size e) q⟩
    · have q := u.tups b xs e
      rw [yA (ne_of_none q hHD)]; exact q
    · have q := u.frzs b o v e
      rw [yA (ne_of_none q hHD)]; exact q
    · obtain ⟨more, q⟩ := u.tbls b ps e
      exact ⟨more, by rw [yA (ne_of_none q hHD)]; exact q⟩
  obtain ⟨hh, g, d, t, os'⟩ := s'
  obtain rfl : os' = s₂.os := J.os
  exact Inv.call (s := s₂) I (h' := h'') (g' := g) (d' := d) (t' := t) (ch := fp) un ok2 J.bare fun b hb => ⟨(hf b hb).2.2.2.1, (hf b hb).2.1, (hf b hb).2.2.2.2.1, (hf b hb).2.2.2.2.2⟩
end
theorem comp_coreC {X : Cx} {elt iter : Expr} {ifs : List Expr} {sc0 scope : Scope} {N0 : List Str} {px pos : Pos} {xt : Str} {fs : List Str} {js : List Nat} {wi : TI} {tt : Addr → List Addr → Shared → Hp → TT} {te : Addr → List Addr → Shared → Hp → TE} (S : CompScopeC sc0 scope N0 xt fs js) (h0 : X.env.scope = sc0) (hN0 : X.N = N0) (hc : X.calm = true)
    (hi : PI X (.Name xt px) iter wi) (ht : ∀ C fp s₂ H, PTs (cxCompC X xt (xt :: fs) scope C fp s₂ H) ifs (tt C fp s₂ H)) (he : ∀ C fp s₂ H, PE (cxCompC X xt (xt :: fs) scope C fp s₂ H) elt (te C fp s₂ H))
    (hs : autoParam (∀ x, foldedSetIterable iter X.env x = pure x) autoK4._auto_1)
    {pins : List (Addr × Obj)} {cpos : Pos} {s : Shared} {σ : St} {H : Hp} {Q : VK} {use : Option (Value → Sem Unit)} {Qv : Value → Shared → Prop} (I : Inv X pins σ H s) (h : tComp wi tt te js σ H Q)
    (hfin : ∀ (s' : Shared) (C D : Addr) (Ha : Hp) (fl : Flow), (∀ h'', Heap.SameBut C s'.heap h'' → Inv X pins σ Ha { s' with heap := h'' }) → (∃ m, s'.heap.Ns C m) → FpOk X pins Ha C → Q (.ref D) Ha → compPost (model X.prog X.w) X.A X.xe use Qv (.ref D) C (.ok fl) s') :
    wpAny (model X.prog X.w) X.A (comprehension (.ListComp elt [⟨.Name xt px, iter, ifs, 0⟩] scope pos) scope X.env cpos (newList []) false (eval iter X.env) use) Qv X.xe s := by
  refine wpAny_comprehension_free (use := use) rfl hs (closureFor_eq (S.cells h0 I.ok)) S.kind S.names ?_
  refine thn (hi pins s σ H _ I h) fun v s1 h1 => thn h1 fun itv s2 h2 => ?_
  obtain ⟨it, fp, tn, J, H2, e, I2, T, st2, f2, hW⟩ := h2
  subst e
  have fo : ∀ b ∈ fp, ∃ o, s2.heap.get? b = some o := fun b hb => let ⟨o, e, _⟩ := T.obj 0 s2.heap st2 b hb; ⟨o, e⟩
  have blt : ∀ b ∈ fp, b < s2.heap.objs.size := fun b hb => let ⟨o, e⟩ := fo b hb; Heap.lt_size e
  refine block_newC S.cells1 S.push1 fun D C h₁ mC hDle hCle hDC hDc old hacc hns₁ hcl₁ => ?_
  have bC : ∀ b o, s2.heap.get? b = some o → b ≠ C := fun b o q z => Nat.not_lt.mpr hCle (z ▸ Heap.lt_size q)
  have bD : ∀ b o, s2.heap.get? b = some o → b ≠ D := fun b o q z => Nat.not_lt.mpr hDle (z ▸ Heap.lt_size q)
  obtain ⟨W, ⟨m0, w0⟩, turn⟩ := hW C fp s2 H2
  have fpk : ∀ {H' : Hp} (ob : Obj), (∀ b ∈ fp, H' b = none) → ∀ b ∈ fp, FpOk (cxCompC X xt (xt :: fs) scope C fp s2 H2) [(D, ob)] H' b := fun {H'} ob hn b hb => by
    refine ⟨hn b hb, Nat.ne_of_lt (Nat.lt_of_lt_of_le (blt b hb) hCle), fun z => ?_, .inl hb, fun x c e => by
      rcases two_look (fun c h => S.sub h0 I2.ok x c h) e with ⟨_, rfl⟩ | ⟨_, q⟩
      · exact fun z => by
          have q := blt b hb
          rw [← z] at q
          exact Nat.not_lt.mpr hCle (Nat.lt_of_succ_lt q)
      · exact (f2 b hb).2.2.2.2.1 x c q, fun p hp => ?_⟩
    · rcases List.mem_cons.mp (I2.stkSub b z) with q | q
      · exact (f2 b hb).2.1 q
      · exact (f2 b hb).2.2.1 q
    · have : p = (D, ob) := by
        have hp : p ∈ [] ++ [(D, ob)] := hp
        simpa using hp
      subst this
      exact Nat.ne_of_gt (Nat.lt_of_lt_of_le (blt b hb) hDle)
  have loop : codeAny (model X.prog X.w) X.A (.compLoop (.ListComp elt [⟨.Name xt px, iter, ifs, 0⟩] scope pos) 0 (.ref it) (.ref D) (compEnvC scope ((xt, C + 1) :: clos X.env.cells scope.names []) C X.env))
        (compPost (model X.prog X.w) X.A X.xe use Qv (.ref D) C) { s2 with heap := h₁ } := by
    have J0 : Inv (cxCompC X xt (xt :: fs) scope C fp s2 H2) [] (compSt σ js none) H2 { s2 with heap := h₁ } :=
      Inv.blockC (s₂ := s2) (s₄ := { s2 with heap := h₁ }) S h0 hN0 I2 f2 fo rfl I2.bare old hCle hns₁ hcl₁
    have H2D : H2 D = none := I2.hok.fresh hDle
    have ofD : D ∉ frs X.stack := fun z => by
      rcases List.mem_cons.mp (I2.stkSub D z) with q | q
      · exact absurd I2.lt (by rw [← q]; exact Nat.not_lt.mpr hDle)
      · exact I2.nofs (a := D) hDle q
    refine codeAny_loop rfl (fun n s' => ∃ (i : Nat) (σ' : St) (H' : Hp) (acc : List V) (its : List Value) (k : Nat), (∃ v0, σ' = compSt σ js v0) ∧ Inv (cxCompC X xt (xt :: fs) scope C fp s2 H2) [] σ' H' s' ∧ tn i s'.heap ∧ (∀ b ∈ fp, H' b = none) ∧ H' D = none ∧
        s'.heap.get? D = some { cls := .type "list", data := .seq its.toArray k } ∧ Vals acc its ∧ acc.length ≤ sizeLine ∧ W i n acc H') ?_ m0
      ⟨0, _, H2, [], [], 0, ⟨none, rfl⟩, J0, T.keep 0 _ _ st2 fun b hb o e => old b o e, fun b hb => (f2 b hb).1, H2D, hacc, .nil, Nat.zero_le _, w0⟩
    rintro n s3 ⟨i, σ3, H3, acc, its, k, ⟨v0, rfl⟩, I3, st3, fr3, hD3, d3, va, hz, w3⟩
    show wpAny _ X.A ((compTurn (.ListComp elt [⟨.Name xt px, iter, ifs, 0⟩] scope pos) 0 (.ref it) (.ref D) (compEnvC scope ((xt, C + 1) :: clos X.env.cells scope.names []) C X.env)).onRaise (fun x => do noteFrame x (compEnvC scope ((xt, C + 1) :: clos X.env.cells scope.names []) C X.env); theTreesLotGoes x)) _ _ s3
    refine wpAny_noted ?_
    rw [compTurn_list]
    refine wpAny_bind (wpAny_standAt ?_)
    have pinD : Inv (cxCompC X xt (xt :: fs) scope C fp s2 H2) [(D, { cls := .type "list", data := .seq its.toArray k })] (compSt σ js v0) H3 s3 := I3.pins_of fun p hp => by
      have : p = (D, { cls := .type "list", data := .seq its.toArray k }) := by simpa using hp
      subst this
      exact ⟨d3, hD3, hDC, ofD, fun v z => by cases z⟩
    refine wpAny_bind ?_
    rcases turn i n acc H3 w3 with ⟨stop, qn⟩ | ⟨go, N, hN, step⟩
    · refine thn (T.done (cxCompC X xt (xt :: fs) scope C fp s2 H2) rfl rfl rfl hc i _ s3 _ H3 _ pinD (fpk _ fr3) st3 stop) fun r s4 ⟨hr, I4⟩ => ?_
      subst hr
      refine wpAny_pure ?_
      obtain ⟨m4, hn4, _⟩ := I4.loc
      have hHC : H3 C = none := I4.free
      refine hfin s4 C D (upd H3 D (.lst acc)) _ (fun h'' hsb => I2.unblockC f2 I4 hCle hDle hDC hD3 ((I4.pin (D, { cls := .type "list", data := .seq its.toArray k }) (List.mem_append_right _ List.mem_cons_self)).1) va hz hsb) ⟨m4, hn4⟩ (I2.fpOk hCle (by rw [yA (Ne.symm hDC)]; exact hHC)) (qn D hD3)
    · refine thn (T.item (cxCompC X xt (xt :: fs) scope C fp s2 H2) rfl rfl rfl hc i _ s3 _ H3 _ pinD (fpk _ fr3) st3 go) fun r s4 ⟨u, hr, h4⟩ => ?_
      subst hr
      refine wpAny_bind (thn h4 fun _ s5 ⟨x, H5, I5, r5, y5, st5, fr5⟩ => ?_)
      have I5' := I5.pinned (fpk _ fr5) (T.obj _ _ st5)
      have gok : PG (cxCompC X xt (xt :: fs) scope C fp s2 H2) (.Name xt px) (gName 0) := pg_name S.nd rfl (.inr (relabel_cell S.tgt)) (.inl (decide_eq_true rfl))
      have noE : ∀ (a : Value) (s' : Shared), (cxCompC X xt (xt :: fs) scope C fp s2 H2).xe a s' → notedBy (model X.prog X.w) X.A (compEnvC scope ((xt, C + 1) :: clos X.env.cells scope.names []) C X.env) (fun e s' => compPost (model X.prog X.w) X.A X.xe use Qv (.ref D) C (.error e) s') a s' := fun _ _ z => False.elim z
      refine wpAny_bind (wpAny_mono (gok _ s5 (compSt σ js v0) H5 x u (fun σ' H' => σ' = compSt σ js (some x) ∧ H' = H5) I5' r5 ⟨rfl, rfl⟩) (fun _ s6 ⟨σ6, H6, I6, e6, e6'⟩ => ?_) noE)
      subst e6 e6'
      have fin : ∀ {acc' : List V} {its' : List Value} {k' : Nat} {H7 : Hp} {s7 : Shared}, Inv (cxCompC X xt (xt :: fs) scope C fp s2 H2) [] (compSt σ js (some x)) H7 s7 → tn (i + 1) s7.heap → (∀ b ∈ fp, H7 b = none) → H7 D = none → s7.heap.get? D = some { cls := .type "list", data := .seq its'.toArray k' } → Vals acc' its' → acc'.length ≤ sizeLine → N acc' H7 →
          ∃ m, m < n ∧ ∃ (i : Nat) (σ' : St) (H' : Hp) (acc : List V) (its : List Value) (k : Nat), (∃ v0, σ' = compSt σ js v0) ∧ Inv (cxCompC X xt (xt :: fs) scope C fp s2 H2) [] σ' H' s7 ∧ tn i s7.heap ∧ (∀ b ∈ fp, H' b = none) ∧ H' D = none ∧
            s7.heap.get? D = some { cls := .type "list", data := .seq its.toArray k } ∧ Vals acc its ∧ acc.length ≤ sizeLine ∧ W i m acc H' := fun {acc' its' k' H7 s7} a1 a2 a3 a4 a5 a6 a7 a8 => by
        obtain ⟨m', hm, w7⟩ := hN _ _ a8
        exact ⟨m', hm, i + 1, _, H7, acc', its', k', ⟨_, rfl⟩, a1, a2, a3, a4, a5, a6, a7, w7⟩
      have rest : ∀ {H7 : Hp} {s7 : Shared}, Inv (cxCompC X xt (xt :: fs) scope C fp s2 H2) ([(D, { cls := .type "list", data := .seq its.toArray k })] ++ pinsAt fp s5.heap) (compSt σ js (some x)) H7 s7 →
          tn (i + 1) s7.heap ∧ (∀ b ∈ fp, H7 b = none) ∧ H7 D = none ∧ s7.heap.get? D = some { cls := .type "list", data := .seq its.toArray k } := fun {H7 s7} I7 => by
        refine ⟨T.keep _ _ _ st5 fun b hb o e => (I7.pin (b, o) (List.mem_append_right _ (List.mem_append_right _ (mem_pinsAt hb e)))).1, fun b hb => ?_, (I7.pin (D, { cls := .type "list", data := .seq its.toArray k }) (List.mem_append_right _ (List.mem_append_left _ List.mem_cons_self))).2.1, (I7.pin (D, { cls := .type "list", data := .seq its.toArray k }) (List.mem_append_right _ (List.mem_append_left _ List.mem_cons_self))).1⟩
        obtain ⟨o, e, d⟩ := T.obj _ _ st5 b hb
        exact (I7.pin (b, o) (List.mem_append_right _ (List.mem_append_right _ (mem_pinsAt hb e)))).2.1
      have elem : ∀ {H7 : Hp} {s7 : Shared}, Inv (cxCompC X xt (xt :: fs) scope C fp s2 H2) ([(D, { cls := .type "list", data := .seq its.toArray k })] ++ pinsAt fp s5.heap) (compSt σ js (some x)) H7 s7 →
          (te C fp s2 H2 (compSt σ js (some x)) H7 fun v H3 => acc.length < sizeLine ∧ N (acc ++ [v]) H3) →
          wpAny (model X.prog X.w) X.A (eval elt (compEnvC scope ((xt, C + 1) :: clos X.env.cells scope.names []) C X.env)) (fun y s8 => wpAny (model X.prog X.w) X.A (call (.builtin "list.append") [.ref D, y]) (fun _ s9 => ∃ m, m < n ∧ ∃ (i : Nat) (σ' : St) (H' : Hp) (acc : List V) (its : List Value) (k : Nat), (∃ v0, σ' = compSt σ js v0) ∧ Inv (cxCompC X xt (xt :: fs) scope C fp s2 H2) [] σ' H' s9 ∧ tn i s9.heap ∧ (∀ b ∈ fp, H' b = none) ∧ H' D = none ∧
            s9.heap.get? D = some { cls := .type "list", data := .seq its.toArray k } ∧ Vals acc its ∧ acc.length ≤ sizeLine ∧ W i m acc H')
            (fun _ _ => False) s8) (fun _ _ => False) s7 := fun {H7 s7} I7 q7 => by
        refine thn (he C fp s2 H2 _ s7 _ H7 _ I7 q7) fun y s8 ⟨v, H8, I8, r8, hl8, n8⟩ => ?_
        obtain ⟨t8, fr8, hD8, d8⟩ := rest I8
        have hsz := va.length
        refine call_meets F.slot_list_append ⟨_, d8, rfl⟩ F.entry_list_append (F.args_list_append_2 _ _) (PySem.list_append D its.toArray k y (by rw [List.size_toArray]; bv_omega)) ⟨d8, ?_⟩
        have q := PySem.IsL.update d8 (·.push y)
        rw [show (its.toArray.push y) = (its ++ [y]).toArray by simp] at q
        have kk : ∀ b o, b ≠ D → s8.heap.get? b = some o → (s8.heap.update D (Obj.mapSeq (·.push y))).get? b = some o := fun b o hb e => (Heap.get?_update_other s8.heap _ (Ne.symm hb)).trans e
        have I9 : Inv (cxCompC X xt (xt :: fs) scope C fp s2 H2) [] (compSt σ js (some x)) H8 { s8 with heap := s8.heap.update D (Obj.mapSeq (·.push y)) } := by
          refine Inv.turned (it := D) (t' := s8.toks) (I8.pins_of (pins' := []) fun p hp => nomatch hp) kk hD8 hDC (.inr hDle) (fun x c e z => ?_) fun p hp => absurd (show p ∈ ([] : List (Addr × Obj)) from hp) (by simp)
          rcases two_look (fun c h => S.sub h0 I2.ok x c h) e with ⟨_, rfl⟩ | ⟨_, q⟩
          · exact hDc z.symm
          · obtain ⟨v, o, ho, _⟩ := I2.cell x c q
            exact bD c o ho z
        refine fin I9 (T.keep _ _ _ t8 fun b hb o e => kk b o (Nat.ne_of_lt (Nat.lt_of_lt_of_le (blt b hb) hDle)) e) fr8 hD8 q (va.append (.cons r8 .nil)) ?_ n8
        rw [List.length_append, List.length_singleton]
        bv_omega
      have q6 := step x H6 y5
      have htt := ht C fp s2 H2
      generalize tt C fp s2 H2 = tt' at htt q6
      cases htt with
      | nil =>
        refine wpAny_bind (wpAny_pure ?_)
        dsimp only [tTrue] at q6
        rw [if_pos rfl] at q6
        refine wpAny_mono (wpAny_bind (wpAny_bind (thn (elem I6 q6) fun y s8 h8 => wpAny_bind (thn h8 fun _ s9 h9 => wpAny_pure (wpAny_pure ⟨rfl, h9⟩))))) (fun _ _ z => z) fun _ _ z => False.elim z
      | one ht1 =>
        refine wpAny_bind (wpAny_tests_one (wpAny_mono (ht1 _ s6 _ H6 _ I6 q6) (fun b s7 ⟨H7, I7, q7⟩ => ?_) noE))
        cases b with
        | false =>
          rw [if_neg Bool.false_ne_true] at q7
          obtain ⟨t8, fr8, hD8, d8⟩ := rest I7
          exact wpAny_pure ⟨rfl, fin (I7.pins_of (pins' := []) fun p hp => nomatch hp) t8 fr8 hD8 d8 va hz q7⟩
        | true =>
          rw [if_pos rfl] at q7
          refine wpAny_mono (wpAny_bind (wpAny_bind (thn (elem I7 q7) fun y s8 h8 => wpAny_bind (thn h8 fun _ s9 h9 => wpAny_pure (wpAny_pure ⟨rfl, h9⟩))))) (fun _ _ z => z) fun _ _ z => False.elim z
  exact codeAny_compStart_list loop (T.self X.A 0 _ _ _ (T.keep 0 _ _ st2 fun b hb o e => old b o e) loop)
theorem ps_compC {X : Cx} {elt iter : Expr} {ifs : List Expr} {sc0 scope : Scope} {N0 : List Str} {px py pos spos : Pos} {xt y : Str} {fs : List Str} {js : List Nat} {i : Nat} {wi : TI} {tt : Addr → List Addr → Shared → Hp → TT} {te : Addr → List Addr → Shared → Hp → TE} (S : CompScopeC sc0 scope N0 xt fs js) (h0 : X.env.scope = sc0) (hN0 : X.N = N0) (hc : X.calm = true)
    (hi : PI X (.Name xt px) iter wi) (ht : ∀ C fp s₂ H, PTs (cxCompC X xt (xt :: fs) scope C fp s₂ H) ifs (tt C fp s₂ H)) (he : ∀ C fp s₂ H, PE (cxCompC X xt (xt :: fs) scope C fp s₂ H) elt (te C fp s₂ H))
    (nd : X.N.Nodup) (hy : X.N[i]? = some y) (hl : Loc X.env.scope y) (hsw : swapsWith (.ListComp elt [⟨.Name xt px, iter, ifs, 0⟩] scope pos) (some (.Name y py)) spos.line X.env = pure true)
    (hs : autoParam (∀ x, foldedSetIterable iter X.env x = pure x) autoK4._auto_1) (hf : autoParam (X.fn y = true ∨ X.env.scope.names.lookup y = some .local) autoK1._auto_1) :
    PS X (.Assign [.Name y py] (.ListComp elt [⟨.Name xt px, iter, ifs, 0⟩] scope pos) spos) (tAsg (tComp wi tt te js) (gName i)) := by
  intro pins s σ H E I h
  rw [exec_Assign_Name_used _ _ _ _ hsw]
  refine wpAny_bind (wpAny_standAt (wpAny_bind ?_))
  show wpAny _ X.A (do let _ ← comprehension (.ListComp elt [⟨.Name xt px, iter, ifs, 0⟩] scope pos) scope X.env _ (newList []) false (eval iter X.env) (some (assign (.Name y py) X.env))) _ _ s
  refine wpAny_bind (thn (comp_coreC S h0 hN0 hc hi ht he hs (use := some (assign (.Name y py) X.env)) (Qv := fun _ s' => SP X pins E .next s') I h fun s' C D Ha fl hI hns hC q => ?_) fun _ s' hq => wpAny_pure (wpAny_pure hq))
  show wpAny (model X.prog X.w) X.A (assign (.Name y py) X.env (.ref D)) (fun _ s'' => ∃ m, s''.heap.Ns C m ∧ ∀ h', Heap.SameBut C s''.heap h' → SP X pins E .next { s'' with heap := h' }) X.xe s'
  obtain ⟨m, oC, es, ep, hgC, hdC, hrC⟩ := hns
  have I1 : Inv X pins σ Ha s' := hI s'.heap ⟨rfl, fun b _ => rfl⟩
  have I2 : Inv X (pins ++ [(C, oC)]) σ Ha s' := I1.pins_of fun p hp => by
    rcases List.mem_append.mp hp with z | z
    · exact I1.pin p (List.mem_append_right _ z)
    · have : p = (C, oC) := by simpa using z
      subst this
      exact ⟨hgC, hC.1, hC.2.1, hC.2.2.1, fun v z => by rw [hdC] at z; cases z⟩
  refine wpAny_assign_Name (store_ok I2 nd hy hl (show RelV (.ref D) (.ref D) from rfl) (fun s'' I3 => ?_) hf)
  have hgC' := (I3.pin (C, oC) (List.mem_append_right _ (List.mem_append_right _ List.mem_cons_self))).1
  refine ⟨m, ⟨oC, es, ep, hgC', hdC, hrC⟩, fun h' hsb => ?_⟩
  have I4 : Inv X pins (σ.set i (some (.ref D))) Ha s'' := I3.pins_of fun p hp => I3.pin p (List.mem_append_right _ (List.mem_append_left _ hp))
  exact ⟨_, Ha, Inv.turned (it := C) (t' := s''.toks) I4 (fun b o hb e => (hsb.2 b hb).trans e) hC.1 hC.2.1 hC.2.2.2.1 hC.2.2.2.2.1 hC.2.2.2.2.2, q⟩
end L2
namespace L2.L3
open PySem PySem.Spec PyProof.Rows
variable [CN]
abbrev cCC (C : Ct) (xt : Str) (N : List Str) (scope : Scope) (A : Addr) (fp : List Addr) (s₂ : Shared) (H : Hp) (js : List Nat) : Ct := ⟨cxCompC C.X xt N scope A fp s₂ H, fun _ _ => False, [], capt js (C.om ++ C.ln)⟩
theorem comp_readC {C : Ct} {elt : Expr} {ifs : List Expr} {scope : Scope} {xt : Str} {N : List Str} {js : List Nat} {mi : Ev → Res (List D)} {mt : Ev → Res Bool} {me : Ev → Res D} {wi : TI}
    (qi : ∀ (Oc : Wd) (Ob : Addr → Prop) (σ : St) (H : Hp) (ρ : Ev) (R : It → Hp → Prop), Rel Oc Ob C.om C.ln σ H ρ → (mi ρ).post (fun ds => ∀ J H1, Same H H1 → WalksS Oc Ob J H1 ds → R J H1) (fun c => ∀ H', Same H H' → C.XE c H') → wi σ H R)
    (ht : ∀ A fp s₂ H, RTs (cCC C xt N scope A fp s₂ H js) ifs mt) (he : ∀ A fp s₂ H, RE (cCC C xt N scope A fp s₂ H js) .cl elt me)
    {Oc : Wd} {Ob : Addr → Prop} {σ : St} {H : Hp} {ρ : Ev} {Q : VK} (R : Rel Oc Ob C.om C.ln σ H ρ) (h : (eComp mi mt me js ρ).post (fun d => ∀ v H', Same H H' → VR .new Oc Ob H H' v d → Q v H') (fun c => ∀ H', Same H H' → C.XE c H')) :
    tComp wi (fun A fp s H => Classical.choose (ht A fp s H)) (fun A fp s H => Classical.choose (he A fp s H)) js σ H Q := by
  refine qi Oc Ob σ H ρ _ R (Res.zR (Res.zV h) (fun ds _ k J H1 s1 wk => ?_) fun _ z => z)
  intro A fp s₂ H₂
  have qt := (Classical.choose_spec (ht A fp s₂ H₂)).2
  have qe := (Classical.choose_spec (he A fp s₂ H₂)).2
  have k : (if ds.length ≤ sizeLine then (compM (fun x => mt (cEnv ρ js x)) (fun x => me (cEnv ρ js x)) ds).bind fun out => Res.ok (PyData.list out) else .no).post (fun d => ∀ v H', Same H H' → VR .new Oc Ob H H' v d → Q v H') (fun c => ∀ H', Same H H' → C.XE c H') := k
  by_cases hlen : ds.length ≤ sizeLine
  · rw [if_pos hlen] at k
    generalize hT : (fun x => mt (cEnv ρ js x)) = T at k
    generalize hF : (fun x => me (cEnv ρ js x)) = F at k
    cases ec : compM T F ds with
    | no => rw [ec] at k; exact k.elim
    | ex c =>
      exfalso
      have nex : ∀ xs c, compM T F xs ≠ .ex c := by
        intro xs
        induction xs with
        | nil => intro c z; cases z
        | cons x xs ih =>
          intro c z
          rw [compM] at z
          cases e1 : noEx (T x) with
          | no => rw [e1] at z; cases z
          | ex c' => cases hx : T x <;> rw [hx] at e1 <;> cases e1
          | ok b =>
            rw [e1, Res.zW] at z
            cases b with
            | false => exact ih c z
            | true =>
              simp only [if_true] at z
              cases e2 : noEx (F x) with
              | no => rw [e2] at z; cases z
              | ex c' => cases hx : F x <;> rw [hx] at e2 <;> cases e2
              | ok y =>
                rw [e2, Res.zW] at z
                cases e3 : compM T F xs with
                | no => rw [e3] at z; cases z
                | ex c' => exact ih c' e3
                | ok ys => rw [e3] at z; cases z
      exact nex ds c ec
    | ok out =>
      rw [ec, Res.zW] at k
      refine ⟨fun i m acc H => m = ds.length - i ∧ i ≤ ds.length ∧ Same H1 H ∧ ∃ done rest, Reps H (Uni Oc Ob) acc done ∧ acc.length ≤ i ∧ compM T F (ds.drop i) = .ok rest ∧ done ++ rest = out, ⟨_, rfl, Nat.zero_le _, Same.refl _, [], out, .nil, Nat.le_refl _, ec, rfl⟩, ?_⟩
      rintro i m acc H2 ⟨rfl, hi, s2, done, rest, ra, la, er, eo⟩
      obtain ⟨w1, w2⟩ := wk H2 s2 i
      have R2 := (R.same s1).same s2
      by_cases hlt : i < ds.length
      · obtain ⟨go, yl⟩ := w1 ds[i] (List.getElem?_eq_getElem hlt)
        have ed : ds.drop i = ds[i] :: ds.drop (i + 1) := List.drop_eq_getElem_cons hlt
        rw [ed, compM] at er
        have nxt : ∀ (acc' : List V) (H3 : Hp) (done' rest' : List D), Same H2 H3 → Reps H3 (Uni Oc Ob) acc' done' → acc'.length ≤ i + 1 → compM T F (ds.drop (i + 1)) = .ok rest' → done' ++ rest' = out →
            ∃ m', m' < ds.length - i ∧ (m' = ds.length - (i + 1) ∧ i + 1 ≤ ds.length ∧ Same H1 H3 ∧ ∃ done rest, Reps H3 (Uni Oc Ob) acc' done ∧ acc'.length ≤ i + 1 ∧ compM T F (ds.drop (i + 1)) = .ok rest ∧ done ++ rest = out) :=
          fun acc' H3 done' rest' s3 r3 l3 c3 o3 => ⟨_, by bv_omega, rfl, hlt, s2.trans s3, done', rest', r3, l3, c3, o3⟩
        refine .inr ⟨go, fun acc' H' => ∃ m', m' < ds.length - i ∧ (m' = ds.length - (i + 1) ∧ i + 1 ≤ ds.length ∧ Same H1 H' ∧ ∃ done rest, Reps H' (Uni Oc Ob) acc' done ∧ acc'.length ≤ i + 1 ∧ compM T F (ds.drop (i + 1)) = .ok rest ∧ done ++ rest = out), fun acc' H' z => z, fun x H3 hy => ?_⟩
        obtain ⟨s3, rx⟩ := yl x H3 hy
        have R3 := (R2.same s3).comp (js := js) rx
        cases e1 : noEx (T ds[i]) with
        | no => rw [e1] at er; cases er
        | ex c => rw [e1] at er; cases er
        | ok b =>
          rw [e1, Res.zW] at er
          have t1 : mt (cEnv ρ js ds[i]) = .ok b := by
            have t1 := noEx_ok e1
            rw [← hT] at t1
            exact t1
          refine qt _ _ _ H3 _ _ R3 ?_
          show (mt (cEnv ρ js ds[i])).post _ _
          rw [t1]
          intro H4 s4
          cases b with
          | false => exact iteF (nxt acc H4 done rest (s3.trans s4) (ra.same (s3.trans s4)) (by bv_omega) er eo)
          | true =>
            refine iteT ?_
            simp only [if_true] at er
            cases e2 : noEx (F ds[i]) with
            | no => rw [e2] at er; cases er
            | ex c => rw [e2] at er; cases er
            | ok y =>
              rw [e2, Res.zW] at er
              have t2 : me (cEnv ρ js ds[i]) = .ok y := by
                have t2 := noEx_ok e2
                rw [← hF] at t2
                exact t2
              refine qe _ _ _ H4 _ _ (R3.same s4) ?_
              show (me (cEnv ρ js ds[i])).post _ _
              rw [t2]
              intro v H5 s5 rv
              refine ⟨by bv_omega, ?_⟩
              obtain ⟨ys, e3⟩ : ∃ ys, compM T F (ds.drop (i + 1)) = .ok ys := by
                cases e3 : compM T F (ds.drop (i + 1)) with
                | no => rw [e3] at er; cases er
                | ex c => rw [e3] at er; cases er
                | ok ys => exact ⟨ys, rfl⟩
              rw [e3, Res.zW] at er
              cases er
              have rv' : Rep H5 (Uni Oc Ob) v y := Rep.less rv fun b z => .inl z
              refine nxt (acc ++ [v]) H5 (done ++ [y]) ys ((s3.trans s4).trans s5) ((ra.same ((s3.trans s4).trans s5)).append (.one rv')) (by rw [List.length_append, List.length_singleton]; bv_omega) e3 ?_
              rw [List.append_assoc]
              exact eo
      · have ei : i = ds.length := by bv_omega
        subst ei
        refine .inl ⟨w2 (Nat.le_refl _), fun p hp => ?_⟩
        rw [List.drop_length] at er
        cases er
        rw [List.append_nil] at eo
        subst eo
        exact k _ _ ((s1.trans s2).trans (Same.new hp)) (new_list (s1.trans s2) hp ra)
  · rw [if_neg hlen] at k
    exact k.elim
theorem rs_compC {C : Ct} {fr : Bool} (i : Nat) {elt iter : Expr} {ifs : List Expr} {sc0 scope : Scope} {N0 : List Str} {px py pos spos : Pos} {xt y : Str} {fs : List Str} {js : List Nat} {mi : Ev → Res (List D)} {mt : Ev → Res Bool} {me : Ev → Res D} (nd : C.X.N.Nodup) (S : CompScopeC sc0 scope N0 xt fs js) (h0 : C.X.env.scope = sc0) (hN0 : C.X.N = N0) (hc : C.X.calm = true)
    (hi : RIc C (.Name xt px) iter mi) (ht : ∀ A fp s₂ H, RTs (cCC C xt (xt :: fs) scope A fp s₂ H js) ifs mt) (he : ∀ A fp s₂ H, RE (cCC C xt (xt :: fs) scope A fp s₂ H js) .cl elt me)
    (hy : autoParam (C.X.N[i]? = some y) zX._auto_1) (ho : autoParam (C.om.contains i = false) zX._auto_1) (hln : autoParam (C.ln.contains i = false) zX._auto_1) (hl : autoParam (Loc C.X.env.scope y) autoK11._auto_1)
    (hsw : autoParam (swapsWith (.ListComp elt [⟨.Name xt px, iter, ifs, 0⟩] scope pos) (some (.Name y py)) spos.line C.X.env = pure true) zX._auto_1) (hs : autoParam (∀ x, foldedSetIterable iter C.X.env x = pure x) autoK4._auto_1) (hf : autoParam (C.X.fn y = true ∨ C.X.env.scope.names.lookup y = some .local) autoK12._auto_1) :
    RS C fr (.Assign [.Name y py] (.ListComp elt [⟨.Name xt px, iter, ifs, 0⟩] scope pos) spos) (sS i (eComp mi mt me js)) := by
  obtain ⟨wi, pi, qi⟩ := hi
  refine ⟨_, ps_compC (tt := fun A fp s H => Classical.choose (ht A fp s H)) (te := fun A fp s H => Classical.choose (he A fp s H)) S h0 hN0 hc pi (fun A fp s H => (Classical.choose_spec (ht A fp s H)).1) (fun A fp s H => (Classical.choose_spec (he A fp s H)).1) nd hy hl hsw hs hf, fun Oc Ob σ H ρ E R h => ?_⟩
  refine comp_readC qi ht he R (Res.zR (Res.zV h) (fun d _ k v H' s r => ?_) fun c z H' s => z H' (Same.frm s))
  exact k _ H' Ob ((R.same s).set (not_mem_of ho) (not_mem_of hln) (VR.clean r R.oh)) (Same.frm s) fun b z => .inl z
end L2.L3
namespace MR
def rg (n : Nat) : List Int := (List.range n).map fun (i : Nat) => (i : Int)
theorem rg_length (n : Nat) : (rg n).length = n := by unfold rg; simp
theorem mem_rg {n : Nat} {a : Int} : a ∈ rg n ↔ 0 ≤ a ∧ a < n := by
  unfold rg
  simp only [List.mem_map, List.mem_range]
  constructor
  · rintro ⟨i, hi, rfl⟩; bv_omega
  · intro h; exact ⟨a.toNat, by bv_omega, by bv_omega⟩
theorem rg_lt (n : Nat) : (rg n).Pairwise (· < ·) := by
  unfold rg
  rw [List.pairwise_map]
  exact List.Pairwise.imp (fun h => by bv_omega) (List.pairwise_lt_range (n := n))
theorem rg_nodup (n : Nat) : (rg n).Nodup := (rg_lt n).imp fun h => by bv_omega
theorem nodup_getD {xs : List Int} (h : xs.Nodup) {i j : Nat} (hi : i < xs.length) (hj : j < xs.length) (e : xs.getD i 0 = xs.getD j 0) : i = j := by
  rw [List.getD_eq_getElem?_getD, List.getElem?_eq_getElem hi, List.getD_eq_getElem?_getD, List.getElem?_eq_getElem hj] at e
  have e : xs[i] = xs[j] := e
  rcases Nat.lt_trichotomy i j with q | q | q
  · exact absurd e (List.pairwise_iff_getElem.mp h i j hi hj q)
  · exact q
  · exact absurd e.symm (List.pairwise_iff_getElem.mp h j i hj hi q)
theorem getD_mem {xs : List Int} {i : Nat} (h : i < xs.length) : xs.getD i 0 ∈ xs := by
  rw [List.getD, List.getElem?_eq_getElem h]
  exact List.getElem_mem h
theorem ord_of_perm {n : Nat} {xs : List Int} (p : xs.Perm (rg n)) : Ord n xs := by
  have hl : xs.length = n := by rw [p.length_eq, rg_length]
  have nd : xs.Nodup := p.nodup_iff.mpr (rg_nodup n)
  exact ⟨hl, fun i hi => mem_rg.mp (p.mem_iff.mp (getD_mem (by bv_omega))), fun i j hi hj e => nodup_getD nd (by bv_omega) (by bv_omega) e⟩
theorem onto {n : Nat} {f : Nat → Nat} (h : ∀ i, i < n → f i < n) (hi : ∀ i j, i < n → j < n → f i = f j → i = j) {c : Nat} (hc : c < n) : ∃ i, i < n ∧ f i = c := by
  refine Classical.byContradiction fun no => ?_
  obtain ⟨i, j, h1, h2, e⟩ := pigeon n (fun i => if i = n then c else f i) fun i hi' => by
    show (if i = n then c else f i) < n
    split
    · exact hc
    · exact h i (by bv_omega)
  have e : (if i = n then c else f i) = (if j = n then c else f j) := e
  rw [if_neg (show i ≠ n by bv_omega)] at e
  by_cases q : j = n
  · rw [if_pos q] at e
    exact no ⟨i, by bv_omega, e⟩
  · rw [if_neg q] at e
    have := hi i j (by bv_omega) (by bv_omega) e
    bv_omega
def insAt (xs : List Int) (i : Nat) (v : Int) : List Int := xs.take i ++ v :: xs.drop i
theorem insAt_perm (xs : List Int) (i : Nat) (v : Int) : (insAt xs i v).Perm (v :: xs) := by
  unfold insAt
  have := List.perm_middle (a := v) (l₁ := xs.take i) (l₂ := xs.drop i)
  rwa [List.take_append_drop] at this
def lawOrd (cell : Int) : Nat → List Int × Int
  | 0 => ([], cell)
  | k + 1 => (insAt (lawOrd cell k).1 ((lawOrd cell k).2 % ((k : Int) + 1)).toNat k, (lawOrd cell k).2 / ((k : Int) + 1))
theorem rg_succ (n : Nat) : rg (n + 1) = rg n ++ [(n : Int)] := by unfold rg; rw [List.range_succ, List.map_append]; rfl
theorem lawOrd_perm (cell : Int) : ∀ k, (lawOrd cell k).1.Perm (rg k)
  | 0 => List.Perm.refl _
  | k + 1 => by
    rw [rg_succ]
    refine (insAt_perm _ _ _).trans ?_
    refine ((lawOrd_perm cell k).cons _).trans ?_
    exact (List.perm_append_singleton _ _).symm
theorem lawOrd_ord (cell : Int) (n : Nat) : Ord n (lawOrd cell n).1 := ord_of_perm (lawOrd_perm cell n)
end MR
namespace MR
def ofN (n : Nat) (f : Nat → Nat) : List Int := (List.range n).map fun (b : Nat) => ((f b : Nat) : Int)
theorem ofN_length (n : Nat) (f : Nat → Nat) : (ofN n f).length = n := by unfold ofN; simp
theorem ofN_get {n : Nat} {f : Nat → Nat} {b : Nat} (h : b < n) : (ofN n f).getD b 0 = (f b : Int) := by
  unfold ofN
  simp [List.getD, h]
theorem ofN_nxt {n : Nat} {f : Nat → Nat} {b : Nat} (h : b < n) : nxt (ofN n f) b = f b := by
  unfold nxt
  rw [ofN_get h]
  bv_omega
theorem ofN_ext {n : Nat} {f g : Nat → Nat} (h : ∀ b, b < n → f b = g b) : ofN n f = ofN n g := by
  unfold ofN
  refine List.map_congr_left fun b hb => ?_
  rw [h b (List.mem_range.mp hb)]
theorem ofN_ord {n : Nat} {f : Nat → Nat} (h : ∀ b, b < n → f b < n) (i : ∀ b c, b < n → c < n → f b = f c → b = c) : Ord n (ofN n f) := by
  refine ord_of_perm ?_
  have nd : (ofN n f).Nodup := by
    unfold ofN
    rw [List.nodup_iff_pairwise_ne, List.pairwise_map]
    refine List.Pairwise.imp_of_mem ?_ (List.nodup_range (n := n))
    intro a b ha hb ne e
    exact ne (i a b (List.mem_range.mp ha) (List.mem_range.mp hb) (by bv_omega))
  rw [List.perm_ext_iff_of_nodup nd (rg_nodup n)]
  intro a
  rw [mem_rg]
  unfold ofN
  rw [List.mem_map]
  constructor
  · rintro ⟨b, hb, rfl⟩
    have := h b (List.mem_range.mp hb)
    bv_omega
  · rintro ⟨h1, h2⟩
    obtain ⟨b, hb, e⟩ := onto (n := n) (f := f) h i (c := a.toNat) (by bv_omega)
    exact ⟨b, List.mem_range.mpr hb, by bv_omega⟩
theorem ofN_same {n : Nat} {xs : List Int} (o : Ord n xs) : ofN n (nxt xs) = xs := by
  refine List.ext_getElem (by rw [ofN_length, o.len]) fun b h1 h2 => ?_
  rw [ofN_length] at h1
  have e := ofN_get (f := nxt xs) h1
  rw [← o.nxt_int h1] at e
  rw [List.getD_eq_getElem?_getD, List.getD_eq_getElem?_getD, List.getElem?_eq_getElem (by rw [ofN_length]; exact h1), List.getElem?_eq_getElem h2] at e
  exact e
theorem Ord.ext {n : Nat} {xs ys : List Int} (o : Ord n xs) (o' : Ord n ys) (h : ∀ b, b < n → nxt xs b = nxt ys b) : xs = ys := by
  rw [← ofN_same o, ← ofN_same o', ofN_ext h]
def cmpO (n : Nat) (xs ys : List Int) : List Int := ofN n fun b => nxt ys (nxt xs b)
theorem cmpO_nxt {n : Nat} {xs ys : List Int} {b : Nat} (h : b < n) : nxt (cmpO n xs ys) b = nxt ys (nxt xs b) := ofN_nxt h
theorem cmpO_ord {n : Nat} {xs ys : List Int} (o : Ord n xs) (o' : Ord n ys) : Ord n (cmpO n xs ys) :=
  ofN_ord (fun b h => o'.nxt_lt (o.nxt_lt h)) fun b c h h' e => o.nxt_inj h h' (o'.nxt_inj (o.nxt_lt h) (o.nxt_lt h') e)
end MR
namespace MR
section
variable {n : Nat} {xs : List Int}
end
end MR
namespace MR
section
variable {n : Nat} {xs : List Int}
def lc : Nat → Nat
  | 0 => 1
  | n + 1 => (n + 1) * lc n
end
end MR
namespace M12
def ff (n : Int) : Nat → Int
  | 0 => 1
  | j + 1 => ff n j * (n - j)
def tot (least : Int) (many : List Int) : Nat → Int
  | 0 => 0
  | j + 1 => if least ≤ (j : Int) + 1 then tot least many j + ff ((many.length : Int) - 1) j * many.getD (many.length - (j + 1)) 0 else tot least many j
def mbl (least most : Int) : Nat → List Int
  | 0 => [1]
  | n + 1 => mbl least most n ++ [tot least (mbl least most n) (min most ((n : Int) + 1)).toNat]
def G (least most : Int) (n : Nat) : Int := (mbl least most n).getD n 0
def B : Int := 2 ^ 400
end M12
namespace M12
end M12
namespace M12
def sumN (F : Nat → Int) : Nat → Int
  | 0 => 0
  | n + 1 => sumN F n + F n
def bin : Nat → Nat → Int
  | _, 0 => 1
  | 0, _ + 1 => 0
  | n + 1, m + 1 => bin n m + bin n (m + 1)
def term (g b : Nat → Int) (n m : Nat) : Int := bin n m * g m * b (n - m)
def fac : Nat → Int
  | 0 => 1
  | n + 1 => fac n * ((n : Int) + 1)
end M12
namespace M12
def tells (g b : List Int) (n : Nat) : Nat → List Int
  | 0 => []
  | m + 1 => tells g b n m ++ [bin n m * g.getD m 0 * b.getD (n - m) 0]
end M12
namespace M12
def e0 (i : Nat) : Int := if i = 0 then 1 else 0
end M12
namespace M12
section
variable (g b : Nat → Int)
def TT (l s : Nat) : Int := sumN (fun c => term g b l c * ff (c : Int) s) (l + 1)
variable {g b}
end
end M12
namespace M12
end M12
namespace M12
section
variable (g b : Nat → Int)
variable {g b}
end
end M12
namespace MR
def stepI (n : Nat) (rs : List (List Int)) : List (List Int) := rs.flatMap fun r => ((List.range n).filter fun (x : Nat) => !r.contains (x : Int)).map fun (x : Nat) => r ++ [(x : Int)]
def ordsI (n : Nat) : Nat → List (List Int)
  | 0 => [[]]
  | i + 1 => stepI n (ordsI n i)
def H1 : List (Nat × Nat) := [(57, 1)]
def H2 : List (Nat × Nat) := [(449, 1), (751, 1)]
def H3 : List (Nat × Nat) := [(3487, 1), (5601, 1), (5553, 1), (7717, 2), (5595, 1)]
def H4 : List (Nat × Nat) := [(26811, 1), (41609, 1), (41273, 1), (56421, 2), (41567, 1), (41225, 1), (39216, 3), (55737, 2), (71229, 6), (56325, 2), (41267, 1), (56409, 2), (41561, 1)]
def H5 : List (Nat × Nat) := [(204485, 1), (308071, 1), (305719, 1), (411755, 2), (307777, 1), (305383, 1), (291320, 3), (406967, 2), (515411, 6), (411083, 2), (305677, 1), (411671, 2), (307735, 1), (305335, 1), (291272, 3), (288920, 3), (394956, 2), (290978, 3), (406283, 2), (392220, 2), (508211, 6), (619057, 24), (514385, 6), (406871, 2), (515267, 6), (392514, 2), (410987, 2), (394572, 2), (305377, 1), (291314, 3), (406955, 2), (515393, 6), (411071, 2), (394914, 2), (394614, 2), (392556, 2), (305671, 1), (411659, 2), (394908, 2), (394620, 2), (307729, 1), (392562, 2)]
def H6 : List (Nat × Nat) := [(1549045, 1), (2274147, 1), (2257683, 1), (2999935, 2), (2272089, 1), (2255331, 1), (2156890, 3), (2966419, 2), (3725527, 6), (2995231, 2), (2257389, 1), (2999347, 2), (2271795, 1), (2254995, 1), (2156554, 3), (2140090, 3), (2882342, 2), (2154496, 3), (2961631, 2), (2863190, 2), (3675127, 6), (4451049, 24), (3718345, 6), (2965747, 2), (3724519, 6), (2865248, 2), (2994559, 2), (2879654, 2), (2255289, 1), (2156848, 3), (2966335, 2), (3725401, 6), (2995147, 2), (2882048, 2), (2879948, 2), (2865542, 2), (2257347, 1), (2999263, 2), (2882006, 2), (2879990, 2), (2271753, 1), (2865584, 2), (2254947, 1), (2156506, 3), (2140042, 3), (2882294, 2), (2154448, 3), (2137690, 3), (2039249, 15), (2848778, 2), (3607886, 6), (2877590, 2), (2139748, 3), (2881706, 2), (2154154, 3), (2960947, 2), (2862506, 2), (2846042, 2), (2764751, 40), (2860448, 2), (3667927, 6), (3569486, 6), (4383825, 24), (5176555, 120), (4441449, 24), (3674101, 6), (4449681, 24), (3573602, 6), (3717319, 6), (3602414, 6), (2961535, 2), (2863094, 2), (3674983, 6), (4450857, 24), (3718201, 6), (2846336, 2), (3603002, 6), (2860742, 2), (3574190, 6), (2965651, 2), (3724375, 6), (2865152, 2), (2848394, 2), (3607118, 6), (2864858, 2), (2994463, 2), (2879558, 2), (2877206, 2), (2879264, 2), (2254989, 1), (2156548, 3), (2140084, 3), (2882336, 2), (2154490, 3), (2961619, 2), (2863178, 2), (3675109, 6), (4451025, 24), (3718327, 6), (2965735, 2), (3724501, 6), (2865236, 2), (2994547, 2), (2879642, 2), (2848736, 2), (3607802, 6), (2877548, 2), (2848436, 2), (3607202, 6), (2877248, 2), (2881664, 2), (2846378, 2), (3603086, 6), (2879306, 2), (2860784, 2), (3574274, 6), (2864900, 2), (2255283, 1), (2156842, 3), (2966323, 2), (3725383, 6), (2995135, 2), (2882042, 2), (2879936, 2), (2865530, 2), (2848730, 2), (3607790, 6), (2877542, 2), (2848442, 2), (3607214, 6), (2877254, 2), (2881958, 2), (2879894, 2), (2865488, 2), (2257341, 1), (2999251, 2), (2881994, 2), (2879984, 2), (2881658, 2), (2846384, 2), (3603098, 6), (2879312, 2), (2881952, 2), (2879900, 2), (2271747, 1), (2865578, 2), (2860790, 2), (3574286, 6), (2864906, 2), (2865494, 2)]
def H (n : Nat) : List (Nat × Nat) := match n with | 1 => H1 | 2 => H2 | 3 => H3 | 4 => H4 | 5 => H5 | _ => H6
def ins (c : Nat) : List (Nat × Nat) → List (Nat × Nat)
  | [] => [(c, 1)]
  | q :: r => if Nat.beq q.1 c then (q.1, q.2 + 1) :: r else q :: ins c r
def tl (n k : Nat) : List Int := M12.tells (M12.mbl 1 (k : Int) n) (M12.mbl ((k : Int) + 1) n n) n (n + 1)
def sub : Nat → Nat → List (List Nat)
  | _, 0 => [[]]
  | a, m + 1 => sub (a + 1) m ++ (sub (a + 1) m).map (a :: ·)
end MR
namespace MR
end MR
namespace MR
section
variable {n : Nat} {xs : List Int}
def cl {α : Type} (n : Nat) (f : α → Nat) (l : List α) : List Int := (List.range (n + 1)).map fun j => ((l.countP fun x => Nat.beq (f x) j : Nat) : Int)
end
end MR
namespace MR
def ups : Nat → Nat → Nat → List (List Nat)
  | _, _, 0 => [[]]
  | a, n, m + 1 => (List.range (n + 1 - a)).flatMap fun d => (ups (a + d) n m).map ((a + d) :: ·)
theorem fin_len : ∀ n, n < 7 → 1 ≤ n → ((ordsI n n).length : Int) = M12.fac n := by decide +kernel
end MR
namespace MR
end MR
namespace MR
def fc : Nat → Nat
  | 0 => 1
  | n + 1 => (n + 1) * fc n
theorem fc_fac : ∀ n, M12.fac n = ((fc n : Nat) : Int)
  | 0 => rfl
  | n + 1 => by
    rw [M12.fac, fc_fac n, fc]
    push_cast
    rw [Int.mul_comm]
def rk : List Int → List Int → Nat
  | _, [] => 0
  | l, x :: xs => l.idxOf x * fc (l.length - 1) + rk (l.erase x) xs
end MR
namespace MR
theorem perm_of_full {α : Type} [BEq α] [LawfulBEq α] : ∀ (l m : List α), l.Nodup → (∀ x ∈ l, x ∈ m) → m.length ≤ l.length → l.Perm m
  | [], m, _, _, h => by
    have : m = [] := List.eq_nil_of_length_eq_zero (by simpa using h)
    subst this
    exact List.Perm.refl _
  | x :: l, m, nd, sub, h => by
    have mx := sub x (List.mem_cons_self ..)
    have nd' := List.nodup_cons.mp nd
    have le : (m.erase x).length = m.length - 1 := List.length_erase_of_mem mx
    have ih := perm_of_full l (m.erase x) nd'.2 (fun y hy => (List.mem_erase_of_ne (fun e => nd'.1 (by rw [← e]; exact hy))).mpr (sub y (List.mem_cons_of_mem _ hy))) (by rw [le]; simp at h; bv_omega)
    exact (ih.cons x).trans (List.perm_cons_erase mx).symm
theorem ins_inj {v : Int} : ∀ (p q : Nat) (A B : List Int), v ∉ A → v ∉ B → p ≤ A.length → q ≤ B.length → insAt A p v = insAt B q v → p = q ∧ A = B
  | 0, 0, A, B, _, _, _, _, e => ⟨rfl, by simpa [insAt] using e⟩
  | 0, q + 1, A, [], _, _, _, h, _ => by simp at h
  | 0, q + 1, A, b :: B, _, hb, _, _, e => by
    simp only [insAt, List.take_zero, List.drop_zero, List.nil_append, List.take_succ_cons, List.drop_succ_cons, List.cons_append] at e
    exact absurd (List.mem_cons_self ..) (by rw [← (List.cons.inj e).1] at hb; exact hb)
  | p + 1, _, [], B, _, _, h, _, _ => by simp at h
  | p + 1, 0, a :: A, B, ha, _, _, _, e => by
    simp only [insAt, List.take_zero, List.drop_zero, List.nil_append, List.take_succ_cons, List.drop_succ_cons, List.cons_append] at e
    exact absurd (List.mem_cons_self ..) (by rw [(List.cons.inj e).1] at ha; exact ha)
  | p + 1, q + 1, a :: A, [], _, _, _, h, _ => by simp at h
  | p + 1, q + 1, a :: A, b :: B, ha, hb, h, h', e => by
    simp only [insAt, List.take_succ_cons, List.drop_succ_cons, List.cons_append] at e
    obtain ⟨e1, e2⟩ := List.cons.inj e
    obtain ⟨i1, i2⟩ := ins_inj p q A B (fun z => ha (List.mem_cons_of_mem _ z)) (fun z => hb (List.mem_cons_of_mem _ z)) (by simpa using h) (by simpa using h') e2
    exact ⟨by bv_omega, by rw [e1, i2]⟩
theorem law_rest (c : Nat) : ∀ k, (lawOrd (c : Int) k).2 = ((c / fc k : Nat) : Int)
  | 0 => by simp [lawOrd, fc]
  | k + 1 => by
    rw [lawOrd, law_rest c k, fc, show ((k : Int) + 1) = ((k + 1 : Nat) : Int) by bv_omega, Nat.mul_comm, ← Nat.div_div_eq_div_mul]
    rfl
theorem law_inj (c d : Nat) : ∀ k, (lawOrd (c : Int) k).1 = (lawOrd (d : Int) k).1 → c % fc k = d % fc k
  | 0, _ => by rw [fc, Nat.mod_one, Nat.mod_one]
  | k + 1, e => by
    have nk : ∀ c : Int, (k : Int) ∉ (lawOrd c k).1 := fun c h => by
      have := mem_rg.mp ((lawOrd_perm c k).mem_iff.mp h)
      bv_omega
    have le : ∀ c : Nat, ((lawOrd (c : Int) k).2 % ((k : Int) + 1)).toNat = c / fc k % (k + 1) := fun c => by
      rw [law_rest, show ((k : Int) + 1) = ((k + 1 : Nat) : Int) by bv_omega]
      rfl
    have ln : ∀ c : Int, (lawOrd c k).1.length = k := fun c => (lawOrd_ord c k).len
    rw [lawOrd, lawOrd] at e
    simp only at e
    rw [le, le] at e
    have a1 := Nat.mod_lt (c / fc k) (show k + 1 > 0 by bv_omega)
    have a2 := Nat.mod_lt (d / fc k) (show k + 1 > 0 by bv_omega)
    obtain ⟨p, q⟩ := ins_inj _ _ _ _ (nk c) (nk d) (by rw [ln]; bv_omega) (by rw [ln]; bv_omega) e
    have ih := law_inj c d k q
    rw [fc, Nat.mul_comm, Nat.mod_mul, Nat.mod_mul, ih, p]
theorem ords_has {n : Nat} {xs : List Int} (o : Ord n xs) : ∀ i, i ≤ n → xs.take i ∈ ordsI n i
  | 0, _ => by simp [ordsI]
  | i + 1, h => by
    have ih := ords_has o i (by bv_omega)
    have hl := o.len
    have hi : i < xs.length := by bv_omega
    have e : xs.take (i + 1) = xs.take i ++ [((nxt xs i : Nat) : Int)] := by
      rw [List.take_succ, List.getElem?_eq_getElem hi, ← o.nxt_int (by bv_omega)]
      simp [List.getD, hi]
    rw [ordsI, stepI, List.mem_flatMap]
    refine ⟨_, ih, List.mem_map.mpr ⟨nxt xs i, List.mem_filter.mpr ⟨List.mem_range.mpr (o.nxt_lt (by bv_omega)), ?_⟩, e.symm⟩⟩
    rw [Bool.not_eq_true', ← Bool.not_eq_true, List.contains_iff_mem]
    intro z
    obtain ⟨j, hj, ej⟩ := List.mem_iff_getElem.mp z
    rw [List.length_take] at hj
    rw [List.getElem_take] at ej
    have : xs.getD j 0 = xs.getD i 0 := by
      rw [o.nxt_int (show i < n by bv_omega), ← ej]
      simp [List.getD, show j < xs.length by bv_omega]
    have := o.inj j i (by bv_omega) (by bv_omega) this
    bv_omega
theorem ords_mem {n : Nat} {xs : List Int} (o : Ord n xs) : xs ∈ ordsI n n := by
  have := ords_has o n (Nat.le_refl n)
  rwa [List.take_of_length_le (by rw [o.len]; exact Nat.le_refl n)] at this
theorem dealt_perm {n : Nat} (h1 : 1 ≤ n) (h2 : n < 7) {xs : List Int} (o : Ord n xs) : ((List.range (fc n)).map fun (i : Nat) => cmpO n (lawOrd (i : Int) n).1 xs).Perm (ordsI n n) := by
  have L := fin_len n h2 h1
  rw [fc_fac] at L
  refine perm_of_full _ _ ?_ (fun y hy => ?_) (by rw [List.length_map, List.length_range]; bv_omega)
  · unfold List.Nodup
    rw [List.pairwise_map]
    refine List.Pairwise.imp_of_mem ?_ (List.pairwise_lt_range (n := fc n))
    intro i j hi hj lt e
    have oi := lawOrd_ord (i : Int) n
    have oj := lawOrd_ord (j : Int) n
    have q : (lawOrd (i : Int) n).1 = (lawOrd (j : Int) n).1 := Ord.ext oi oj fun b hb => by
      have := congrArg (fun l => nxt l b) e
      simp only [cmpO_nxt hb] at this
      exact o.nxt_inj (oi.nxt_lt hb) (oj.nxt_lt hb) this
    have m := law_inj i j n q
    rw [Nat.mod_eq_of_lt (List.mem_range.mp hi), Nat.mod_eq_of_lt (List.mem_range.mp hj)] at m
    bv_omega
  · obtain ⟨i, _, rfl⟩ := List.mem_map.mp hy
    exact ords_mem (cmpO_ord (lawOrd_ord _ n) o)
end MR
namespace MR
def allO : Nat → List (List Int)
  | 0 => [[]]
  | k + 1 => (allO k).flatMap fun r => (List.range (r.length + 1)).map fun j => insAt r j (k : Int)
def fac : Nat → Nat
  | 0 => 1
  | k + 1 => (k + 1) * fac k
theorem all_perm' : ∀ n, ∀ xs ∈ allO n, xs.Perm (rg n)
  | 0, xs, h => by
    have : xs = [] := by simpa [allO] using h
    rw [this]
    exact List.Perm.nil
  | k + 1, xs, h => by
    rw [allO] at h
    obtain ⟨r, hr, h⟩ := List.mem_flatMap.mp h
    obtain ⟨j, _, rfl⟩ := List.mem_map.mp h
    have p := all_perm' k r hr
    refine (insAt_perm r j (k : Int)).trans ((p.cons _).trans ?_)
    have e : rg (k + 1) = rg k ++ [(k : Int)] := by
      unfold rg
      rw [List.range_succ, List.map_append]
      rfl
    rw [e]
    exact (List.perm_append_singleton _ _).symm
theorem all_ord {n : Nat} {xs : List Int} (h : xs ∈ allO n) : Ord n xs := ord_of_perm (all_perm' n xs h)
theorem sum_const (c : Nat) : ∀ l : List Nat, (∀ x ∈ l, x = c) → l.sum = l.length * c
  | [], _ => by simp
  | x :: l, h => by
    rw [List.sum_cons, sum_const c l fun y hy => h y (List.mem_cons_of_mem _ hy), h x (List.mem_cons_self ..), List.length_cons, Nat.add_mul, Nat.one_mul, Nat.add_comm]
theorem all_len : ∀ n, (allO n).length = fac n
  | 0 => rfl
  | k + 1 => by
    rw [allO, List.length_flatMap, sum_const (k + 1), List.length_map, all_len k, fac, Nat.mul_comm]
    intro x hx
    obtain ⟨r, hr, rfl⟩ := List.mem_map.mp hx
    rw [List.length_map, List.length_range, (all_ord hr).len]
theorem all_nodup : ∀ n, (allO n).Nodup
  | 0 => by simp [allO]
  | k + 1 => by
    have no : ∀ r ∈ allO k, (k : Int) ∉ r := fun r hr h => by
      have := (all_perm' k r hr).mem_iff.mp h
      unfold rg at this
      obtain ⟨i, hi, e⟩ := List.mem_map.mp this
      have := List.mem_range.mp hi
      bv_omega
    rw [allO]
    refine List.pairwise_flatMap.mpr ⟨fun r hr => ?_, ?_⟩
    · refine List.pairwise_map.mpr (List.Pairwise.imp_of_mem (fun {i j} hi hj h e => h ?_) List.nodup_range)
      have := List.mem_range.mp hi
      have := List.mem_range.mp hj
      exact (ins_inj i j r r (no r hr) (no r hr) (by bv_omega) (by bv_omega) e).1
    · refine List.Pairwise.imp_of_mem (fun {r s} hr hs h => ?_) (all_nodup k)
      intro x hx y hy exy
      subst exy
      obtain ⟨i, hi, e1⟩ := List.mem_map.mp hx
      obtain ⟨j, hj, e2⟩ := List.mem_map.mp hy
      have := List.mem_range.mp hi
      have := List.mem_range.mp hj
      exact h (ins_inj i j r s (no r hr) (no s hs) (by bv_omega) (by bv_omega) (e1.trans e2.symm)).2
structure AllOrd (n : Nat) (L : List (List Int)) : Prop where
  nd : L.Nodup
  mem : ∀ xs, xs ∈ L ↔ Ord n xs
  len : L.length = fac n
theorem all_all {n : Nat} (h1 : 1 ≤ n) (h2 : n < 7) : AllOrd n (allO n) := by
  have fcf : ∀ k, fc k = fac k := fun k => by
    induction k with
    | zero => rfl
    | succ k ih => rw [fac, fc, ih, Nat.mul_comm]
  have le : (ordsI n n).length = fac n := by
    have := (dealt_perm h1 h2 (lawOrd_ord 0 n)).length_eq
    rw [List.length_map, List.length_range, fcf] at this
    exact this.symm
  have p := perm_of_full (allO n) (ordsI n n) (all_nodup n) (fun x hx => ords_mem (all_ord hx)) (by rw [all_len, le]; exact Nat.le_refl _)
  exact ⟨all_nodup n, fun xs => ⟨all_ord, fun o => p.mem_iff.mpr (ords_mem o)⟩, all_len n⟩
def cns (q : List (Nat × Nat)) (xs : List Int) : Bool := q.all fun z => nxt xs z.1 == z.2
theorem count_split {α : Type} (P : α → Bool) (g : α → Nat) (n : Nat) : ∀ L : List α, (∀ x ∈ L, g x < n) → L.countP P = ((List.range n).map fun m => L.countP fun x => P x && g x == m).sum
  | [], _ => by
    have : ∀ n, ((List.range n).map fun _ => 0).sum = 0 := fun n => by
      induction n with
      | zero => rfl
      | succ n ih => rw [List.range_succ, List.map_append, List.sum_append, ih]; rfl
    exact (this n).symm
  | x :: L, h => by
    have ih := count_split P g n L fun y hy => h y (List.mem_cons_of_mem _ hy)
    have hx := h x (List.mem_cons_self ..)
    have add : ∀ (f k : Nat → Nat) (m : Nat), ((List.range m).map fun i => f i + k i).sum = ((List.range m).map f).sum + ((List.range m).map k).sum := fun f k m => by
      induction m with
      | zero => rfl
      | succ m ih => rw [List.range_succ, List.map_append, List.map_append, List.map_append, List.sum_append, List.sum_append, List.sum_append, ih]; simp; bv_omega
    have one : ∀ (c m : Nat), ((List.range m).map fun i => if g x = i then c else 0).sum = if g x < m then c else 0 := fun c m => by
      induction m with
      | zero => rfl
      | succ m ih =>
        rw [List.range_succ, List.map_append, List.sum_append, ih]
        simp only [List.map_cons, List.map_nil, List.sum_cons, List.sum_nil, Nat.add_zero]
        rcases Nat.lt_trichotomy (g x) m with z | z | z
        · rw [if_pos z, if_neg (by bv_omega), if_pos (by bv_omega), Nat.add_zero]
        · rw [if_neg (by bv_omega), if_pos z, if_pos (by bv_omega), Nat.zero_add]
        · rw [if_neg (by bv_omega), if_neg (by bv_omega), if_neg (by bv_omega)]
    rw [List.countP_cons, ih]
    have e : ((List.range n).map fun m => (x :: L).countP fun x => P x && g x == m) = (List.range n).map fun m => (L.countP fun x => P x && g x == m) + (if g x = m then (if P x = true then 1 else 0) else 0) := List.map_congr_left fun m _ => by
      rw [List.countP_cons]
      congr 1
      by_cases z : g x = m
      · rw [if_pos z]
        simp [z]
      · rw [if_neg z]
        simp [z]
    rw [e, add, one, if_pos hx]
def swN (a b v : Nat) : Nat := if v = a then b else if v = b then a else v
def swX (a b : Nat) (xs : List Int) : List Int := xs.map fun v => if v = (a : Int) then (b : Int) else if v = (b : Int) then (a : Int) else v
theorem swX_back (a b : Nat) (xs : List Int) : swX a b (swX a b xs) = xs := by
  unfold swX
  rw [List.map_map]
  refine (List.map_congr_left fun v _ => ?_).trans (List.map_id xs)
  show (if (if v = (a : Int) then (b : Int) else if v = (b : Int) then (a : Int) else v) = (a : Int) then (b : Int) else if (if v = (a : Int) then (b : Int) else if v = (b : Int) then (a : Int) else v) = (b : Int) then (a : Int) else (if v = (a : Int) then (b : Int) else if v = (b : Int) then (a : Int) else v)) = v
  by_cases h1 : v = (a : Int)
  · rw [if_pos h1]
    by_cases h3 : (b : Int) = (a : Int)
    · rw [if_pos h3, h1, h3]
    · rw [if_neg h3, if_pos rfl, h1]
  · rw [if_neg h1]
    by_cases h2 : v = (b : Int)
    · rw [if_pos h2, if_pos rfl, h2]
    · rw [if_neg h2, if_neg h1, if_neg h2]
theorem swX_nxt {n a b c : Nat} {xs : List Int} (o : Ord n xs) (h : c < n) : nxt (swX a b xs) c = swN a b (nxt xs c) := by
  have g := o.nxt_int h
  have e : (swX a b xs).getD c 0 = if xs.getD c 0 = (a : Int) then (b : Int) else if xs.getD c 0 = (b : Int) then (a : Int) else xs.getD c 0 := by
    unfold swX
    rw [List.getD, List.getElem?_map, List.getD, List.getElem?_eq_getElem (by rw [o.len]; exact h)]
    rfl
  show ((swX a b xs).getD c 0).toNat = _
  rw [e, g]
  unfold swN
  by_cases h1 : nxt xs c = a
  · rw [if_pos h1, if_pos (by rw [h1]), Int.toNat_natCast]
  · rw [if_neg h1, if_neg (fun z => h1 (Int.ofNat_inj.mp z))]
    by_cases h2 : nxt xs c = b
    · rw [if_pos h2, if_pos (by rw [h2]), Int.toNat_natCast]
    · rw [if_neg h2, if_neg (fun z => h2 (Int.ofNat_inj.mp z)), Int.toNat_natCast]
theorem swN_lt {n a b v : Nat} (ha : a < n) (hb : b < n) (hv : v < n) : swN a b v < n := by
  unfold swN
  split
  · exact hb
  · split
    · exact ha
    · exact hv
theorem swX_ord {n a b : Nat} {xs : List Int} (ha : a < n) (hb : b < n) (o : Ord n xs) : Ord n (swX a b xs) := by
  have ln : (swX a b xs).length = n := by unfold swX; rw [List.length_map, o.len]
  have nn : ∀ i, i < n → (swX a b xs).getD i 0 = ((swN a b (nxt xs i) : Nat) : Int) := fun i hi => by
    have e := swX_nxt (a := a) (b := b) o hi
    have m : (swX a b xs).getD i 0 ∈ swX a b xs := by
      rw [List.getD, List.getElem?_eq_getElem (by rw [ln]; exact hi), Option.getD_some]
      exact List.getElem_mem _
    have p : 0 ≤ (swX a b xs).getD i 0 := by
      unfold swX at m
      obtain ⟨v, hv, ev⟩ := List.mem_map.mp m
      obtain ⟨j, hj, ej⟩ := List.mem_iff_getElem.mp hv
      have bj := o.bd j (by rw [← o.len]; exact hj)
      rw [List.getD, List.getElem?_eq_getElem hj, Option.getD_some, ej] at bj
      have ev' : (if v = (a : Int) then (b : Int) else if v = (b : Int) then (a : Int) else v) = (swX a b xs).getD i 0 := ev
      rw [← ev']
      split
      · bv_omega
      · split <;> bv_omega
    rw [← e]
    exact (Int.toNat_of_nonneg p).symm
  refine ⟨ln, fun i hi => ?_, fun i j hi hj e => ?_⟩
  · rw [nn i hi]
    have := swN_lt ha hb (o.nxt_lt hi)
    exact ⟨by bv_omega, by bv_omega⟩
  · rw [nn i hi, nn j hj] at e
    refine o.nxt_inj hi hj ?_
    have e := Int.ofNat_inj.mp e
    have back : ∀ v, swN a b (swN a b v) = v := fun v => by
      unfold swN
      by_cases h1 : v = a
      · rw [if_pos h1]
        by_cases h3 : b = a
        · rw [if_pos h3, h1, h3]
        · rw [if_neg h3, if_pos rfl, h1]
      · rw [if_neg h1]
        by_cases h2 : v = b
        · rw [if_pos h2, if_pos rfl, h2]
        · rw [if_neg h2, if_neg h1, if_neg h2]
    rw [← back (nxt xs i), e, back]
theorem count_sw {n a b : Nat} {L : List (List Int)} (A : AllOrd n L) (ha : a < n) (hb : b < n) (P : List Int → Bool) : L.countP (fun xs => P (swX a b xs)) = L.countP P := by
  have nd : (L.map (swX a b)).Nodup := List.pairwise_map.mpr (A.nd.imp fun {x y} h e => h (by rw [← swX_back a b x, e, swX_back]))
  have p := perm_of_full (L.map (swX a b)) L nd (fun x hx => by
    obtain ⟨y, hy, rfl⟩ := List.mem_map.mp hx
    exact (A.mem _).mpr (swX_ord ha hb ((A.mem y).mp hy))) (by rw [List.length_map]; exact Nat.le_refl _)
  rw [← p.countP_eq P, List.countP_map]
  rfl
theorem free_len {n : Nat} {ms : List Nat} (nd : ms.Nodup) (h : ∀ m ∈ ms, m < n) : ((List.range n).filter fun m => !ms.contains m).length + ms.length = n := by
  have p : (((List.range n).filter fun m => !ms.contains m) ++ ms).Perm (List.range n) := by
    refine (List.perm_ext_iff_of_nodup (List.nodup_append.mpr ⟨List.nodup_range.sublist List.filter_sublist, nd, fun x hx y hy e => ?_⟩) List.nodup_range).mpr fun x => ?_
    · have := (List.mem_filter.mp hx).2
      rw [e] at this
      simp at this
      exact this hy
    · rw [List.mem_append, List.mem_filter, List.mem_range]
      constructor
      · rintro (z | z)
        · exact z.1
        · exact h x z
      · intro hx
        by_cases z : x ∈ ms
        · exact .inr z
        · exact .inl ⟨hx, by simpa using z⟩
  have := p.length_eq
  rw [List.length_append, List.length_range] at this
  exact this
theorem sum_if (S : Nat → Bool) (c : Nat) : ∀ l : List Nat, (l.map fun m => if S m = true then c else 0).sum = (l.filter S).length * c
  | [] => by simp
  | x :: l => by
    rw [List.map_cons, List.sum_cons, sum_if S c l, List.filter_cons]
    by_cases h : S x = true
    · rw [if_pos h, if_pos h, List.length_cons, Nat.add_mul, Nat.one_mul, Nat.add_comm]
    · rw [if_neg h, if_neg h, Nat.zero_add]
theorem cns_count {n : Nat} {L : List (List Int)} (A : AllOrd n L) : ∀ q : List (Nat × Nat), (q.map (·.1)).Nodup → (q.map (·.2)).Nodup → (∀ z ∈ q, z.1 < n ∧ z.2 < n) → L.countP (cns q) = fac (n - q.length)
  | [], _, _, _ => by
    rw [show cns [] = fun _ => true from rfl, List.countP_true, A.len]
    rfl
  | (b, m) :: q, n1, n2, h => by
    rw [List.map_cons, List.nodup_cons] at n1 n2
    have ih := cns_count A q n1.2 n2.2 fun z hz => h z (List.mem_cons_of_mem _ hz)
    obtain ⟨hb, hm⟩ := h (b, m) (List.mem_cons_self ..)
    have sp := count_split (cns q) (fun xs => nxt xs b) n L fun xs hx => ((A.mem xs).mp hx).nxt_lt hb
    have ev : ∀ m', m' < n → (L.countP fun xs => cns q xs && nxt xs b == m') = if (!(q.map (·.2)).contains m') = true then L.countP (cns ((b, m) :: q)) else 0 := fun m' hm' => by
      by_cases c : m' ∈ q.map (·.2)
      · rw [if_neg (by simpa using c), List.countP_eq_zero]
        intro xs hx e
        have o := (A.mem xs).mp hx
        rw [Bool.and_eq_true] at e
        obtain ⟨z, hz, ez⟩ := List.mem_map.mp c
        have e1 := List.all_eq_true.mp e.1 z hz
        have e1 : nxt xs z.1 = z.2 := by simpa using e1
        have e2 : nxt xs b = m' := by simpa using e.2
        have := o.nxt_inj (h z (List.mem_cons_of_mem _ hz)).1 hb (by rw [e1, ez, e2])
        exact n1.1 (List.mem_map.mpr ⟨z, hz, this⟩)
      · rw [if_pos (by simpa using c), ← count_sw A hm hm' (cns ((b, m) :: q))]
        refine List.countP_congr fun xs hx => ?_
        have o := (A.mem xs).mp hx
        have e1 : cns q (swX m m' xs) = cns q xs := by
          unfold cns
          rw [Bool.eq_iff_iff, List.all_eq_true, List.all_eq_true]
          refine forall_congr' fun z => forall_congr' fun hz => ?_
          have hz1 := (h z (List.mem_cons_of_mem _ hz)).1
          rw [swX_nxt o hz1]
          have z1 : z.2 ≠ m := fun e => n2.1 (List.mem_map.mpr ⟨z, hz, e⟩)
          have z2 : z.2 ≠ m' := fun e => c (List.mem_map.mpr ⟨z, hz, e⟩)
          simp only [beq_iff_eq]
          unfold swN
          by_cases y1 : nxt xs z.1 = m
          · rw [if_pos y1]
            exact ⟨fun e => absurd e.symm z2, fun e => absurd (y1 ▸ e).symm z1⟩
          · rw [if_neg y1]
            by_cases y2 : nxt xs z.1 = m'
            · rw [if_pos y2]
              exact ⟨fun e => absurd e.symm z1, fun e => absurd (y2 ▸ e).symm z2⟩
            · rw [if_neg y2]
        have e2 : (nxt (swX m m' xs) b == m) = (nxt xs b == m') := by
          rw [swX_nxt o hb, Bool.eq_iff_iff, beq_iff_eq, beq_iff_eq]
          unfold swN
          by_cases y1 : nxt xs b = m
          · rw [if_pos y1]
            exact ⟨fun e => by rw [y1, e], fun e => by rw [← e, y1]⟩
          · rw [if_neg y1]
            by_cases y2 : nxt xs b = m'
            · rw [if_pos y2]
              exact ⟨fun _ => y2, fun _ => rfl⟩
            · rw [if_neg y2]
              exact ⟨fun e => absurd e y1, fun e => absurd e y2⟩
        have e3 : cns ((b, m) :: q) (swX m m' xs) = ((nxt (swX m m' xs) b == m) && cns q (swX m m' xs)) := rfl
        rw [e3, e1, e2, Bool.and_comm]
    have e4 : ((List.range n).map fun m' => L.countP fun xs => cns q xs && nxt xs b == m') = (List.range n).map fun m' => if (!(q.map (·.2)).contains m') = true then L.countP (cns ((b, m) :: q)) else 0 := List.map_congr_left fun m' hm' => ev m' (List.mem_range.mp hm')
    have fl := free_len n2.2 (n := n) fun x hx => by
      obtain ⟨z, hz, rfl⟩ := List.mem_map.mp hx
      exact (h z (List.mem_cons_of_mem _ hz)).2
    rw [List.length_map] at fl
    rw [e4, sum_if (fun m' => !(q.map (·.2)).contains m'), ih] at sp
    have m1 : ((List.range n).filter fun m' => !(q.map (·.2)).contains m').length = n - q.length := by bv_omega
    have pos : 0 < n - q.length := by
      have : m ∈ (List.range n).filter fun m' => !(q.map (·.2)).contains m' := List.mem_filter.mpr ⟨List.mem_range.mpr hm, by simpa using n2.1⟩
      rw [← m1]
      exact List.length_pos_of_mem this
    rw [m1] at sp
    obtain ⟨k, hk⟩ : ∃ k, n - q.length = k + 1 := ⟨n - q.length - 1, by bv_omega⟩
    rw [hk, fac] at sp
    rw [List.length_cons, show n - (q.length + 1) = k by bv_omega]
    exact (Nat.eq_of_mul_eq_mul_left (Nat.succ_pos k) sp).symm
end MR
set_option maxHeartbeats 4000000
namespace K26
open PySem L2 L2.L3
def top (i : Nat) : Stmt := PySem.Challenge.pw_ownboxes_k26_full_plans_and_shares.main.body.getD i (.Pass ⟨0, 0, 0, 0⟩)
abbrev s_many_orders : Stmt := top 7
abbrev s_made_openings : Stmt := top 9
abbrev s_check_person : Stmt := top 10
abbrev s_openings_of_a_plan : Stmt := top 13
abbrev s_following_tree : Stmt := top 14
abbrev s_following_plan : Stmt := top 15
abbrev s_is_full_tree : Stmt := top 16
abbrev s_is_full : Stmt := top 17
abbrev s_many_found_down : Stmt := top 18
abbrev s_finds_in : Stmt := top 19
abbrev s_l_cell_at : Stmt := top 21
abbrev s_l_sums : Stmt := top 22
abbrev s_l_take : Stmt := top 23
abbrev s_l_openings : Stmt := top 24
abbrev s_l_tree : Stmt := top 25
abbrev s_l_plan : Stmt := top 26
abbrev s_l_ground : Stmt := top 27
abbrev s_l_whole : Stmt := top 28
abbrev s_l_down : Stmt := top 29
abbrev s_l_all_orders : Stmt := top 30
abbrev s_l_is_full : Stmt := top 31
abbrev s_l_odd_openings : Stmt := top 32
abbrev s_l_refused : Stmt := top 33
abbrev s_l_counts : Stmt := top 34
abbrev s_law : Stmt := top 35
abbrev CLS : List Str := ["BadOpenings", "NoPerson"]
def B_many_orders : Ev → Res Out := (sQ (sS 1 (eC (.int 1))) (sQ (sF (iR rng2 (aC (eC (.int 2)) (aC (e2 addI (eV 0) (eC (.int 1))) aN))) (gN 2) (sS 1 (e2 mulI (eV 1) (eV 2)))) (sR (eV 1))))
def F_many_orders : List D → Res D := runF false 1 3 B_many_orders
def B_made_openings : Ev → Res Out := (sQ (sIf (tNt (b3 leI leI (eC (.int 1)) (eV 0) (eC (.int 60)))) (sRa "BadOpenings" (aC (eC (.str "openings are for 1 to 60 people")) aN)) sN) (sQ (sIf (b2 neD (eB lenD (aC (eV 1) aN)) (eV 0)) (sRa "BadOpenings" (aC (eC (.str "each person has its openings")) aN)) sN) (sQ (sIf (tO (b2 ltI (eB min1D (aC (eV 1) aN)) (eC (.int 0))) (b2 gtI (eB max1D (aC (eV 1) aN)) (eV 0))) (sRa "BadOpenings" (aC (eC (.str "openings are from 0 to as many as there are boxes")) aN)) sN) (sR (eB tupD (aC (eV 1) aN))))))
def F_made_openings : List D → Res D := runF false 2 2 B_made_openings
def B_check_person : Ev → Res Out := (sIf (tNt (b3 leI ltI (eC (.int 0)) (eV 1) (eV 0))) (sRa "NoPerson" (aC (eC (.str "there is no such person")) aN)) sN)
def F_check_person : List D → Res D := runF false 2 2 B_check_person
def B_openings_of_a_plan : Ev → Res Out := (sQ (sIf (b2 gtI (eB lenD (aC (eV 0) aN)) (eC (.int 6))) (sRa "BadOpenings" (aC (eC (.str "plans are for 1 to 6 people")) aN)) sN) (sR (eF F_made_openings (aC (eB lenD (aC (eV 0) aN)) (aC (eV 0) aN)))))
def F_openings_of_a_plan : List D → Res D := runF false 1 1 B_openings_of_a_plan
def B_following_tree (Fself : List D → Res D) : Ev → Res Out := (sQ (sIf (b2 eqD (eV 2) (eC (.int 0))) (sR (eC .none)) sN) (sQ (sS 4 (e2 repL (eB mkL (aC (eC .none) aN)) (eV 1))) (sQ (sF (iR rng1 (aC (eV 1) aN)) (gN 5) (sIf (b2 (inD true) (eV 5) (eV 3)) (sI 4 (eV 5) (eF Fself (aC (eV 5) (aC (eV 1) (aC (e2 subI (eV 2) (eC (.int 1))) (aC (e2 catL (eV 3) (eB mkL (aC (eV 5) aN))) aN)))))) sN)) (sR (eB mkT (aC (eV 0) (aC (eB tupD (aC (eV 4) aN)) aN)))))))
def R_following_tree : Nat → List D → Res D
  | 0 => fun _ => .no
  | n + 1 => runF false 4 6 (B_following_tree (R_following_tree n))
def F_following_tree : List D → Res D := R_following_tree 8
def B_following_plan : Ev → Res Out := (sQ (sS 1 (eF F_openings_of_a_plan (aC (eV 0) aN))) (sQ (sS 2 (eB lenD (aC (eV 1) aN))) (sR (eB tupD (aC (eComp2 (i_enumerate (eV 1)) tYes (eF F_following_tree (aC (eV 0) (aC (eV 2) (aC (eV 1) (aC (eB mkL (aC (eV 0) aN)) aN))))) [2]) aN)))))
def F_following_plan : List D → Res D := runF false 1 3 B_following_plan
def B_is_full_tree (Fself : List D → Res D) : Ev → Res Out := (sQ (sIf (tO (b2 (isND false) (eV 0) (eC .none)) (b2 eqD (eV 1) (eC (.int 0)))) (sR (vAn (e2 (fun x y => bD ((isND false) x y)) (eV 0) (eC .none)) (e2 (fun x y => bD (eqD x y)) (eV 1) (eC (.int 0))))) sN) (sR (eB allD (aC (eComp2 (i_enumerate (e2 ixD (eV 0) (eC (.int 1)))) (b2 (inD true) (eV 0) (eV 3)) (eF Fself (aC (eV 1) (aC (e2 subI (eV 2) (eC (.int 1))) (aC (e2 catL (eV 3) (eB mkL (aC (eV 0) aN))) aN)))) [1, 2]) aN))))
def R_is_full_tree : Nat → List D → Res D
  | 0 => fun _ => .no
  | n + 1 => runF false 3 3 (B_is_full_tree (R_is_full_tree n))
def F_is_full_tree : List D → Res D := R_is_full_tree 8
def B_is_full : Ev → Res Out := (sQ (sE (eF F_made_openings (aC (eB lenD (aC (eV 0) aN)) (aC (eV 1) aN)))) (sR (eB allD (aC (eComp2 (i_enumerate (eV 0)) tYes (eF F_is_full_tree (aC (eV 1) (aC (e2 ixD (eV 2) (eV 0)) (aC (eB mkL (aC (eV 0) aN)) aN)))) [1]) aN))))
def F_is_full : List D → Res D := runF false 2 2 B_is_full
def B_many_found_down (Fself : List D → Res D) : Ev → Res Out := (sQ (sIf (b2 (isND false) (eV 0) (eC .none)) (sR (eC (.int 0))) sN) (sR (e2 addI (eF F_many_orders (aC (e2 subI (eV 1) (eC (.int 1))) aN)) (eB sumD (aC (eComp (iS (e2 ixD (eV 0) (eC (.int 1)))) tYes (eF Fself (aC (eV 0) (aC (e2 subI (eV 1) (eC (.int 1))) aN))) [1]) aN)))))
def R_many_found_down : Nat → List D → Res D
  | 0 => fun _ => .no
  | n + 1 => runF false 2 2 (B_many_found_down (R_many_found_down n))
def F_many_found_down : List D → Res D := R_many_found_down 8
def B_finds_in : Ev → Res Out := (sQ (sE (eF F_check_person (aC (eB lenD (aC (eV 0) aN)) (aC (eV 1) aN)))) (sR (eF F_many_found_down (aC (e2 ixD (eV 0) (eV 1)) (aC (eB lenD (aC (eV 0) aN)) aN)))))
def F_finds_in : List D → Res D := runF false 2 2 B_finds_in
def B_l_cell_at : Ev → Res Out := (sQ (sIf (b2 ltI (eV 1) (eB lenD (aC (eV 0) aN))) (sR (e2 ixD (eV 0) (eV 1))) sN) (sR (eC (.int 0))))
def F_l_cell_at : List D → Res D := runF false 2 2 B_l_cell_at
def B_l_sums : Ev → Res Out := (sR (eComp (iR rng1 (aC (eV 2) aN)) tYes (eB sumD (aC (eS3 (eV 1) (oS (e2 addI (eV 2) (eV 0))) oN (oS (eV 3))) aN)) [0, 1, 2]))
def F_l_sums : List D → Res D := runF true 3 3 B_l_sums
def F_l_plan : List D → Res D := plF F_l_sums
def F_l_ground : List D → Res D := grF 4 5 4 F_l_cell_at
def B_l_whole : Ev → Res Out := (sR (vAn (e1 (isiD "int") (eV 0)) (vNt (e1 (isiD "bool") (eV 0)))))
def F_l_whole : List D → Res D := runF false 1 1 B_l_whole
def B_l_down : Ev → Res Out := (sQ (sS 2 (eB mkL aN)) (sQ (sW 1000000 (b2 (isND true) (eV 0) (eC .none)) (sQ (sA (eV 0) (gT 2 (gsC (gN 3) (gsC (gN 4) gsN)))) (sQ (sM 2 appD (aC (eV 3) aN)) (sS 0 (e2 ixD (eV 4) (e2 ixD (eV 1) (eV 3))))))) (sR (eV 2))))
def F_l_down : List D → Res D := runF true 2 5 B_l_down
def B_l_all_orders : Ev → Res Out := (sQ (sS 1 (eB mkL (aC (eB mkT aN) aN))) (sQ (sF (iR rng1 (aC (eV 0) aN)) (gN 2) (sQ (sS 3 (eB mkL aN)) (sQ (sF (iS (eV 1)) (gN 4) (sM 3 extD (aC (eComp (iR rng1 (aC (e2 addI (eB lenD (aC (eV 4) aN)) (eC (.int 1))) aN)) tYes (e2 catT (e2 catT (eS slD (eV 1) oN (oS (eV 0))) (eB mkT (aC (eV 2) aN))) (eS slD (eV 1) (oS (eV 0)) oN)) [4, 2]) aN))) (sV 1 3)))) (sR (eV 1))))
def F_l_all_orders : List D → Res D := runF false 1 5 B_l_all_orders
def B_l_is_full (Fself : List D → Res D) : Ev → Res Out := (sQ (sIf (tO (b2 (isND false) (eV 0) (eC .none)) (b2 eqD (eV 2) (eC (.int 0)))) (sR (vAn (e2 (fun x y => bD ((isND false) x y)) (eV 0) (eC .none)) (e2 (fun x y => bD (eqD x y)) (eV 2) (eC (.int 0))))) sN) (sQ (sS 3 (eC (.bool true))) (sQ (sF (iR rng1 (aC (eB lenD (aC (e2 ixD (eV 0) (eC (.int 1))) aN)) aN)) (gN 4) (sIf (b2 (inD true) (eV 4) (eV 1)) (sS 3 (vAn (eV 3) (eF Fself (aC (e2 ixD (e2 ixD (eV 0) (eC (.int 1))) (eV 4)) (aC (e2 catL (eV 1) (eB mkL (aC (eV 4) aN))) (aC (e2 subI (eV 2) (eC (.int 1))) aN)))))) sN)) (sR (eV 3)))))
def R_l_is_full : Nat → List D → Res D
  | 0 => fun _ => .no
  | n + 1 => runF false 3 5 (B_l_is_full (R_l_is_full n))
def F_l_is_full : List D → Res D := R_l_is_full 8
def B_l_odd_openings : Ev → Res Out := (sQ (sS 2 (eC (.bool false))) (sQ (sTry 3 CLS (sE (eF F_is_full (aC (eV 0) (aC (eV 1) aN)))) (sS 2 (vAn (e1 (isiX CLS ["BadOpenings"]) (eV 3)) (vAn (e1 (isiX CLS CLS) (eV 3)) (vNt (e1 (isiX CLS ["NoPerson"]) (eV 3))))))) (sR (eV 2))))
def F_l_odd_openings : List D → Res D := runF false 2 4 B_l_odd_openings
def B_l_refused : Ev → Res Out := (sQ (sS 2 (eC (.bool false))) (sQ (sTry 3 CLS (sE (eF F_finds_in (aC (eV 0) (aC (eV 1) aN)))) (sS 2 (vAn (e1 (isiX CLS ["NoPerson"]) (eV 3)) (vAn (e1 (isiX CLS CLS) (eV 3)) (vNt (e1 (isiX CLS ["BadOrder"]) (eV 3))))))) (sR (eV 2))))
def F_l_refused : List D → Res D := runF false 2 4 B_l_refused
def B_l_counts : Ev → Res Out := (sQ (sS 2 (eB mkL aN)) (sQ (sF (iR rng1 (aC (eB lenD (aC (eV 0) aN)) aN)) (gN 3) (sQ (sS 4 (eComp (iS (eV 1)) tYes (e2 (fun x y => bD ((inD false) x y)) (eV 1) (eComp (iS (eF F_l_down (aC (e2 ixD (eV 2) (eV 1)) (aC (eV 0) aN)))) tYes (e2 ixD (eV 1) (eV 0)) [0])) [3, 0])) (sM 2 appD (aC (eM1 cnDD (eV 4) (eC (.bool true))) aN)))) (sR (eV 2))))
def F_l_counts : List D → Res D := runF true 2 5 B_l_counts
def B_law : Ev → Res Out := (sQ (sA (eF F_l_ground (aC (eV 0) aN)) (gT 2 (gsC (gN 1) (gsC (gN 2) gsN)))) (sQ (sS 3 (eF F_l_plan (aC (eV 0) (aC (eV 1) (aC (eV 2) aN))))) (sQ (sS 4 (eF F_l_all_orders (aC (eV 1) aN))) (sQ (sS 5 (eF F_l_counts (aC (eV 3) (aC (eV 4) aN)))) (sQ (sS 6 (eComp (iR rng1 (aC (eV 1) aN)) tYes (eF F_l_is_full (aC (e2 ixD (eV 1) (eV 0)) (aC (eB mkL (aC (eV 0) aN)) (aC (e2 ixD (eV 2) (eV 0)) aN)))) [3, 2])) (sQ (sS 7 (eF F_is_full (aC (eV 3) (aC (eV 2) aN)))) (sQ (sIf (tO (tNt (tV (e1 (isiD "bool") (eV 7)))) (b2 neD (eV 7) (eB allD (aC (eV 6) aN)))) (sR (eC (.bool false))) sN) (sQ (sS 8 (eF F_following_plan (aC (eV 2) aN))) (sQ (sF (iR rng1 (aC (eV 1) aN)) (gN 9) (sQ (sS 10 (eF F_finds_in (aC (eV 3) (aC (eV 9) aN)))) (sQ (sS 11 (e2 fdivI (e2 mulI (e2 ixD (eV 2) (eV 9)) (eB lenD (aC (eV 4) aN))) (eV 1))) (sQ (sIf (tO (tNt (tV (eF F_l_whole (aC (eV 10) aN)))) (tO (b2 neD (eV 10) (e2 ixD (eV 5) (eV 9))) (b2 gtI (eV 10) (eV 11)))) (sR (eC (.bool false))) sN) (sQ (sIf (tAn (tV (e2 ixD (eV 6) (eV 9))) (b2 neD (eV 10) (eV 11))) (sR (eC (.bool false))) sN) (sIf (b2 neD (eF F_finds_in (aC (eV 8) (aC (eV 9) aN))) (eV 11)) (sR (eC (.bool false))) sN)))))) (sQ (sS 12 (e2 addI (eC (.int 1)) (e2 modI (eB sumD (aC (eV 0) aN)) (e2 powI (eC (.int 10)) (eC (.int 40)))))) (sQ (sF (iS (eB mkL (aC (e2 catT (eV 2) (eB mkT (aC (eC (.int 0)) aN))) (aC (eS slD (eV 2) (oS (eC (.int 1))) oN) (aC (e2 catT (eS slD (eV 2) (oS (eC (.int 1))) oN) (eB mkT (aC (e1 negD (eV 12)) aN))) (aC (e2 catT (eS slD (eV 2) (oS (eC (.int 1))) oN) (eB mkT (aC (e2 addI (eV 1) (eV 12)) aN))) aN)))))) (gN 13) (sIf (tNt (tV (eF F_l_odd_openings (aC (eV 3) (aC (eV 13) aN))))) (sR (eC (.bool false))) sN)) (sQ (sS 14 (eB tupD (aC (e2 repL (eB mkL (aC (e2 modI (eV 12) (e2 addI (eV 1) (eC (.int 1)))) aN)) (eV 1)) aN))) (sQ (sIf (b2 neD (eF F_is_full (aC (eV 3) (aC (eV 14) aN))) (eB allD (aC (eComp (iR rng1 (aC (eV 1) aN)) tYes (eF F_l_is_full (aC (e2 ixD (eV 1) (eV 0)) (aC (eB mkL (aC (eV 0) aN)) (aC (e2 ixD (eV 2) (eV 0)) aN)))) [3, 14]) aN))) (sR (eC (.bool false))) sN) (sR (vAn (eF F_l_refused (aC (eV 3) (aC (eV 1) aN))) (vAn (eF F_l_refused (aC (eV 3) (aC (e1 negD (eC (.int 1))) aN))) (eF F_l_refused (aC (eV 3) (aC (e2 addI (eV 1) (eV 12)) aN)))))))))))))))))))
def F_law : List D → Res D := runF false 1 15 B_law
structure Txt [CN] (K : PySem.W.Frag) (mg : Str → Option Value) : Prop where
  g_ValueError : mg "ValueError" = none
  g_all : mg "all" = none
  g_bool : mg "bool" = none
  g_enumerate : mg "enumerate" = none
  g_int : mg "int" = none
  g_isinstance : mg "isinstance" = none
  g_len : mg "len" = none
  g_max : mg "max" = none
  g_min : mg "min" = none
  g_range : mg "range" = none
  g_sum : mg "sum" = none
  g_tuple : mg "tuple" = none
  c_MOST_IN_A_PLAN : ∃ u, mg "MOST_IN_A_PLAN" = some u ∧ RelV (.int 6) u
  c_MOST_PEOPLE : ∃ u, mg "MOST_PEOPLE" = some u ∧ RelV (.int 60) u
  k_bool : Kit K "bool"
  k_int : Kit K "int"
  d_many_orders : ∃ f fd, Has K mg "many_orders" s_many_orders f fd ["people"]
  d_made_openings : ∃ f fd, Has K mg "made_openings" s_made_openings f fd ["people", "numbers"]
  d_check_person : ∃ f fd, Has K mg "check_person" s_check_person f fd ["people", "person"]
  d_openings_of_a_plan : ∃ f fd, Has K mg "openings_of_a_plan" s_openings_of_a_plan f fd ["openings"]
  d_following_tree : ∃ f fd, Has K mg "following_tree" s_following_tree f fd ["box", "people", "left", "names"]
  d_following_plan : ∃ f fd, Has K mg "following_plan" s_following_plan f fd ["openings"]
  d_is_full_tree : ∃ f fd, Has K mg "is_full_tree" s_is_full_tree f fd ["tree", "left", "names"]
  d_is_full : ∃ f fd, Has K mg "is_full" s_is_full f fd ["plan", "openings"]
  d_many_found_down : ∃ f fd, Has K mg "many_found_down" s_many_found_down f fd ["tree", "closed"]
  d_finds_in : ∃ f fd, Has K mg "finds_in" s_finds_in f fd ["plan", "person"]
  d_l_cell_at : ∃ f fd, Has K mg "_law_cell_at" s_l_cell_at f fd ["script", "k"]
  d_l_sums : ∃ f fd, Has K mg "_law_sums" s_l_sums f fd ["script", "start", "many"]
  d_l_take : ∃ f fd, Has K mg "_law_take" s_l_take f fd ["pot", "many"]
  d_l_openings : ∃ f fd, Has K mg "_law_openings" s_l_openings f fd ["pot", "people"]
  d_l_tree : ∃ f fd, Has K mg "_law_tree" s_l_tree f fd ["pot", "people", "left", "boxes", "names", "thin"]
  d_l_plan : ∃ f fd, Has K mg "_law_plan" s_l_plan f fd ["script", "people", "openings"]
  d_l_ground : ∃ f fd, Has K mg "_law_ground" s_l_ground f fd ["script"]
  d_l_whole : ∃ f fd, Has K mg "_law_whole" s_l_whole f fd ["found"]
  d_l_down : ∃ f fd, Has K mg "_law_down" s_l_down f fd ["tree", "order"]
  d_l_all_orders : ∃ f fd, Has K mg "_law_all_orders" s_l_all_orders f fd ["people"]
  d_l_is_full : ∃ f fd, Has K mg "_law_is_full" s_l_is_full f fd ["tree", "names", "left"]
  d_l_odd_openings : ∃ f fd, Has K mg "_law_odd_openings" s_l_odd_openings f fd ["plan", "openings"]
  d_l_refused : ∃ f fd, Has K mg "_law_refused" s_l_refused f fd ["plan", "person"]
  d_l_counts : ∃ f fd, Has K mg "_law_counts" s_l_counts f fd ["plan", "orders"]
  d_law : ∃ f fd, Has K mg "law" s_law f fd ["script"]
  x_BadOpenings : mg "BadOpenings" = some (.ref (CN.ad "BadOpenings"))
  x_BadOrder : mg "BadOrder" = some (.ref (CN.ad "BadOrder"))
  x_BoxError : mg "BoxError" = some (.ref (CN.ad "BoxError"))
  x_NoPerson : mg "NoPerson" = some (.ref (CN.ad "NoPerson"))
  ox_BadOpenings : OwnX K "BadOpenings"
  ox_NoPerson : OwnX K "NoPerson"
  kx_BadOpenings : IsK K CLS ["BadOpenings"] (.ref (CN.ad "BadOpenings"))
  kx_BadOrder : IsK K CLS ["BadOrder"] (.ref (CN.ad "BadOrder"))
  kx_NoPerson : IsK K CLS ["NoPerson"] (.ref (CN.ad "NoPerson"))
  kv_ValueError : IsK K CLS CLS (.type "ValueError")
  tx_BoxError : ∀ c : Str, CLS.contains c = true → PySem.W.kitCls K (.ref (CN.ad c)) (.ref (CN.ad "BoxError")) = some true
  tb_BoxError : PySem.W.subIn K (.ref (CN.ad "BoxError")) (.type "BaseException") = some true
section
variable [CN] {P : Program} {w : World} {K : PySem.W.Frag} {mg : Str → Option Value} {base : Heap}
theorem sc_many_orders : vW ["people", "many", "factor"] ["people"] (zS s_many_orders) := ⟨rfl, rfl, rfl, by decide +kernel, rfl, by decide +kernel, by decide +kernel⟩
theorem ok_many_orders (T : Txt K mg) {f : Addr} {fd : FuncData} (h : Has K mg "many_orders" s_many_orders f fd ["people"]) : FnOk P w K mg base (CXV P w) 1 f fd ["people"] (spX false F_many_orders) := by
  refine fnX_ok [] h.F sc_many_orders fun cdv A outer s H E hr => ?_
  have nd := sc_many_orders.nd
  have hu64 := hr.units
  have br := br_body (P := P) (w := w) (K := K) (mg := mg) (base := base) (N := ["people", "many", "factor"]) (x := "many_orders") (sc := zS s_many_orders) (f := f) (cdv := cdv) (A := A) (outer := outer) (s := s) (H := H) (E := E) (om := [])
  exact (xP (vM 1 nd vU) (xP (rs_for (ri_range2 T.g_range (wJ vU (wJ (vQ vE pr_add (zZ 0) vU) zI))) (rg_name 2 nd) (wK (rs_aug 1 nd iop_mulA pr_mul (zZ 2))) PassesOwn.leaving) (wK (vR (zZ 1)))))
theorem sc_made_openings : vW ["people", "numbers"] ["people", "numbers"] (zS s_made_openings) := ⟨rfl, rfl, rfl, by decide +kernel, rfl, by decide +kernel, by decide +kernel⟩
theorem ok_made_openings (T : Txt K mg) {f : Addr} {fd : FuncData} (h : Has K mg "made_openings" s_made_openings f fd ["people", "numbers"]) : FnOk P w K mg base (CXV P w) 1 f fd ["people", "numbers"] (spX false F_made_openings) := by
  refine fnX_ok [] h.F sc_made_openings fun cdv A outer s H E hr => ?_
  have nd := sc_made_openings.nd
  have hu64 := hr.units
  have br := br_body (P := P) (w := w) (K := K) (mg := mg) (base := base) (N := ["people", "numbers"]) (x := "made_openings") (sc := zS s_made_openings) (f := f) (cdv := cdv) (A := A) (outer := outer) (s := s) (H := H) (E := E) (om := [])
  exact (xP (vI (rt_not (rt_chain op_le op_le pb_le pb_le vU (zZ 0) (re_globI T.c_MOST_PEOPLE.choose_spec.1 T.c_MOST_PEOPLE.choose_spec.2))) (wK (rs_raise br T.ox_BadOpenings T.x_BadOpenings (wJ re_str zI))) vP) (xP (vI (vN (op_neD hu64) pb_ne (vS call_len_seq pc_len T.g_len PySem.boot_len (wJ (zZ 1) zI)) (zZ 0)) (wK (rs_raise br T.ox_BadOpenings T.x_BadOpenings (wJ re_str zI))) vP) (xP (vI (RW.rt (rw_or (vN op_lt pb_lt (vS (call_min1 rfl) pc_min1 T.g_min PyProof.Rows.boot_min (wJ (zZ 1) zI)) vU) (rw_or1 (vN op_gt pb_gt (vS (call_max1 rfl) pc_max1 T.g_max PyProof.Rows.boot_max (wJ (zZ 1) zI)) (zZ 0))))) (wK (rs_raise br T.ox_BadOpenings T.x_BadOpenings (wJ re_str zI))) vP) (wK (vR (re_callTy call_tuple_of pc_tup T.g_tuple (by rfl) (wJ (zZ 1) zI)))))))
theorem sc_check_person : vW ["people", "person"] ["people", "person"] (zS s_check_person) := ⟨rfl, rfl, rfl, by decide +kernel, rfl, by decide +kernel, by decide +kernel⟩
theorem ok_check_person (T : Txt K mg) {f : Addr} {fd : FuncData} (h : Has K mg "check_person" s_check_person f fd ["people", "person"]) : FnOk P w K mg base (CXV P w) 1 f fd ["people", "person"] (spX false F_check_person) := by
  refine fnX_ok [] h.F sc_check_person fun cdv A outer s H E hr => ?_
  have nd := sc_check_person.nd
  have hu64 := hr.units
  have br := br_body (P := P) (w := w) (K := K) (mg := mg) (base := base) (N := ["people", "person"]) (x := "check_person") (sc := zS s_check_person) (f := f) (cdv := cdv) (A := A) (outer := outer) (s := s) (H := H) (E := E) (om := [])
  exact (wK (vI (rt_not (rt_chain op_le op_lt pb_le pb_lt vU (zZ 1) (zZ 0))) (wK (rs_raise br T.ox_NoPerson T.x_NoPerson (wJ re_str zI))) vP))
theorem sc_openings_of_a_plan : vW ["openings"] ["openings"] (zS s_openings_of_a_plan) := ⟨rfl, rfl, rfl, by decide +kernel, rfl, by decide +kernel, by decide +kernel⟩
theorem ok_openings_of_a_plan (T : Txt K mg) {f : Addr} {fd : FuncData} (h : Has K mg "openings_of_a_plan" s_openings_of_a_plan f fd ["openings"]) : FnOk P w K mg base (CXV P w) 2 f fd ["openings"] (spX false F_openings_of_a_plan) := by
  obtain ⟨f_made_openings, fd_made_openings, H_made_openings⟩ := T.d_made_openings
  have G_made_openings : FnOk P w K mg base (CXV P w) 1 f_made_openings fd_made_openings ["people", "numbers"] (spX false F_made_openings) := ok_made_openings T H_made_openings
  refine fnX_ok [] h.F sc_openings_of_a_plan fun cdv A outer s H E hr => ?_
  have nd := sc_openings_of_a_plan.nd
  have hu64 := hr.units
  have br := br_body (P := P) (w := w) (K := K) (mg := mg) (base := base) (N := ["openings"]) (x := "openings_of_a_plan") (sc := zS s_openings_of_a_plan) (f := f) (cdv := cdv) (A := A) (outer := outer) (s := s) (H := H) (E := E) (om := [])
  exact (xP (vI (vN op_gt pb_gt (vS call_len_seq pc_len T.g_len PySem.boot_len (wJ (zZ 0) zI)) (re_globI T.c_MOST_IN_A_PLAN.choose_spec.1 T.c_MOST_IN_A_PLAN.choose_spec.2)) (wK (rs_raise br T.ox_BadOpenings T.x_BadOpenings (wJ re_str zI))) vP) (wK (vR (reX_callC G_made_openings H_made_openings (hr.mono (by decide)) br (zM (vS call_len_seq pc_len T.g_len PySem.boot_len (wJ (zZ 0) zI)) (zM (zZ 0) zI))))))
theorem sc_following_tree : vW ["box", "people", "left", "names", "nexts", "name"] ["box", "people", "left", "names"] (zS s_following_tree) := ⟨rfl, rfl, rfl, by decide +kernel, rfl, by decide +kernel, by decide +kernel⟩
theorem okR_following_tree (T : Txt K mg) {f : Addr} {fd : FuncData} (h : Has K mg "following_tree" s_following_tree f fd ["box", "people", "left", "names"]) : ∀ n, FnOk P w K mg base (CXV P w) (1 + n) f fd ["box", "people", "left", "names"] (spX false (R_following_tree n)) := by
  intro n
  induction n with
  | zero => exact fnX_no
  | succ n G_following_tree =>
  have H_following_tree := h
  refine fnX_ok [4] h.F sc_following_tree fun cdv A outer s H E hr => ?_
  have nd := sc_following_tree.nd
  have hu64 := hr.units
  have br := br_body (P := P) (w := w) (K := K) (mg := mg) (base := base) (N := ["box", "people", "left", "names", "nexts", "name"]) (x := "following_tree") (sc := zS s_following_tree) (f := f) (cdv := cdv) (A := A) (outer := outer) (s := s) (H := H) (E := E) (om := [4])
  exact (xP (vI (vN (vD hu64) pb_eq (zZ 2) vU) (wK (vR re_non)) vP) (xP (rs_setO 4 nd (vQ op_repR pr_rep (vL (zM re_non zI)) (zZ 1))) (xP (rs_for (vH T.g_range (wJ (zZ 1) zI)) (rg_name 5 nd) (wK (vI (vN op_notIn_seq pb_in (zZ 5) (zZ 3)) (wK (rs_item 4 (reX_callC G_following_tree H_following_tree hr br (zM (zZ 5) (zM (zZ 1) (zM (vQ op_sub pr_sub (zZ 2) vU) (zM (RE.cl (vQ op_catR pr_cat (zZ 3) (vL (zM (zZ 5) zI)))) zI))))) (zZ 5))) vP)) PassesOwn.leaving) (wK (vR (re_tup (zM (zZ 0) (zM (re_callTy call_tuple_of pc_tup T.g_tuple (by rfl) (wJ (re_own 4) zI)) zI))))))))
theorem ok_following_tree (T : Txt K mg) {f : Addr} {fd : FuncData} (h : Has K mg "following_tree" s_following_tree f fd ["box", "people", "left", "names"]) : FnOk P w K mg base (CXV P w) 9 f fd ["box", "people", "left", "names"] (spX false F_following_tree) := okR_following_tree T h 8
theorem sc_following_plan : vW ["openings", "numbers", "people"] ["openings"] (zS s_following_plan) := ⟨rfl, rfl, rfl, by decide +kernel, rfl, by decide +kernel, by decide +kernel⟩
theorem ok_following_plan (T : Txt K mg) {f : Addr} {fd : FuncData} (h : Has K mg "following_plan" s_following_plan f fd ["openings"]) : FnOk P w K mg base (CXV P w) 10 f fd ["openings"] (spX false F_following_plan) := by
  obtain ⟨f_openings_of_a_plan, fd_openings_of_a_plan, H_openings_of_a_plan⟩ := T.d_openings_of_a_plan
  have G_openings_of_a_plan : FnOk P w K mg base (CXV P w) 2 f_openings_of_a_plan fd_openings_of_a_plan ["openings"] (spX false F_openings_of_a_plan) := ok_openings_of_a_plan T H_openings_of_a_plan
  obtain ⟨f_following_tree, fd_following_tree, H_following_tree⟩ := T.d_following_tree
  have G_following_tree : FnOk P w K mg base (CXV P w) 9 f_following_tree fd_following_tree ["box", "people", "left", "names"] (spX false F_following_tree) := ok_following_tree T H_following_tree
  refine fnX_ok [] h.F sc_following_plan fun cdv A outer s H E hr => ?_
  have nd := sc_following_plan.nd
  have hu64 := hr.units
  have br := br_body (P := P) (w := w) (K := K) (mg := mg) (base := base) (N := ["openings", "numbers", "people"]) (x := "following_plan") (sc := zS s_following_plan) (f := f) (cdv := cdv) (A := A) (outer := outer) (s := s) (H := H) (E := E) (om := [])
  exact (xP (vM 1 nd (reX_callC G_openings_of_a_plan H_openings_of_a_plan (hr.mono (by decide)) br (zM (zZ 0) zI))) (xP (vM 2 nd (vS call_len_seq pc_len T.g_len PySem.boot_len (wJ (zZ 1) zI))) (wK (vR (re_callTy call_tuple_of pc_tup T.g_tuple (by rfl) (wJ (re_comp2 (sc0 := zS s_following_plan) (N0 := ["openings", "numbers", "people"]) (fs := ["people"]) (js := [2]) (by exact ⟨rfl, by decide +kernel, by decide +kernel, by decide +kernel, by decide +kernel, by decide +kernel, rfl, by decide +kernel, by decide +kernel⟩) rfl rfl rfl (RIo.c (ri_enumerate T.g_enumerate (RE.rd (zZ 1)))) (fun _ _ _ _ => vG) (fun _ _ _ _ => (reX_callC G_following_tree H_following_tree (hr.mono (by decide)) (br_no fun _ _ h => h) (zM (zZ 0) (zM (zZ 2) (zM (zZ 1) (zM (RE.cl (vL (zM (zZ 0) zI))) zI))))))) zI))))))
theorem sc_is_full_tree : vW ["tree", "left", "names"] ["tree", "left", "names"] (zS s_is_full_tree) := ⟨rfl, rfl, rfl, by decide +kernel, rfl, by decide +kernel, by decide +kernel⟩
theorem okR_is_full_tree (T : Txt K mg) {f : Addr} {fd : FuncData} (h : Has K mg "is_full_tree" s_is_full_tree f fd ["tree", "left", "names"]) : ∀ n, FnOk P w K mg base (CXV P w) (1 + n) f fd ["tree", "left", "names"] (spX false (R_is_full_tree n)) := by
  intro n
  induction n with
  | zero => exact fnX_no
  | succ n G_is_full_tree =>
  have H_is_full_tree := h
  refine fnX_ok [] h.F sc_is_full_tree fun cdv A outer s H E hr => ?_
  have nd := sc_is_full_tree.nd
  have hu64 := hr.units
  have br := br_body (P := P) (w := w) (K := K) (mg := mg) (base := base) (N := ["tree", "left", "names"]) (x := "is_full_tree") (sc := zS s_is_full_tree) (f := f) (cdv := cdv) (A := A) (outer := outer) (s := s) (H := H) (E := E) (om := [])
  exact (xP (vI (RW.rt (rw_or (vN op_isN pb_is (zZ 0) re_non) (rw_or1 (vN (vD hu64) pb_eq (zZ 1) vU)))) (wK (vR (vF (re_cmp op_isN pb_is (zZ 0) re_non) (re_one (re_cmp (vD hu64) pb_eq (zZ 1) vU))))) vP) (wK (vR (vS (call_allB rfl) pc_all T.g_all (by rfl) (wJ (re_comp2 (sc0 := zS s_is_full_tree) (N0 := ["tree", "left", "names"]) (fs := ["left", "names"]) (js := [1, 2]) (by exact ⟨rfl, by decide +kernel, by decide +kernel, by decide +kernel, by decide +kernel, by decide +kernel, rfl, by decide +kernel, by decide +kernel⟩) rfl rfl rfl (RIo.c (ri_enumerate T.g_enumerate (RE.rd (vK ix_seq vJ (zZ 0) vU)))) (fun _ _ _ _ => (rts_one (vN op_notIn_seq pb_in (zZ 0) (zZ 3)))) (fun _ _ _ _ => (reX_callC G_is_full_tree H_is_full_tree hr (br_no fun _ _ h => h) (zM (zZ 1) (zM (vQ op_sub pr_sub (zZ 2) vU) (zM (RE.cl (vQ op_catR pr_cat (zZ 3) (vL (zM (zZ 0) zI)))) zI)))))) zI)))))
theorem ok_is_full_tree (T : Txt K mg) {f : Addr} {fd : FuncData} (h : Has K mg "is_full_tree" s_is_full_tree f fd ["tree", "left", "names"]) : FnOk P w K mg base (CXV P w) 9 f fd ["tree", "left", "names"] (spX false F_is_full_tree) := okR_is_full_tree T h 8
theorem sc_is_full : vW ["plan", "openings"] ["plan", "openings"] (zS s_is_full) := ⟨rfl, rfl, rfl, by decide +kernel, rfl, by decide +kernel, by decide +kernel⟩
theorem ok_is_full (T : Txt K mg) {f : Addr} {fd : FuncData} (h : Has K mg "is_full" s_is_full f fd ["plan", "openings"]) : FnOk P w K mg base (CXV P w) 10 f fd ["plan", "openings"] (spX false F_is_full) := by
  obtain ⟨f_made_openings, fd_made_openings, H_made_openings⟩ := T.d_made_openings
  have G_made_openings : FnOk P w K mg base (CXV P w) 1 f_made_openings fd_made_openings ["people", "numbers"] (spX false F_made_openings) := ok_made_openings T H_made_openings
  obtain ⟨f_is_full_tree, fd_is_full_tree, H_is_full_tree⟩ := T.d_is_full_tree
  have G_is_full_tree : FnOk P w K mg base (CXV P w) 9 f_is_full_tree fd_is_full_tree ["tree", "left", "names"] (spX false F_is_full_tree) := ok_is_full_tree T H_is_full_tree
  refine fnX_ok [] h.F sc_is_full fun cdv A outer s H E hr => ?_
  have nd := sc_is_full.nd
  have hu64 := hr.units
  have br := br_body (P := P) (w := w) (K := K) (mg := mg) (base := base) (N := ["plan", "openings"]) (x := "is_full") (sc := zS s_is_full) (f := f) (cdv := cdv) (A := A) (outer := outer) (s := s) (H := H) (E := E) (om := [])
  exact (xP (rs_expr (reX_callC G_made_openings H_made_openings (hr.mono (by decide)) br (zM (vS call_len_seq pc_len T.g_len PySem.boot_len (wJ (zZ 0) zI)) (zM (zZ 1) zI)))) (wK (vR (vS (call_allB rfl) pc_all T.g_all (by rfl) (wJ (re_comp2 (sc0 := zS s_is_full) (N0 := ["plan", "openings"]) (fs := ["openings"]) (js := [1]) (by exact ⟨rfl, by decide +kernel, by decide +kernel, by decide +kernel, by decide +kernel, by decide +kernel, rfl, by decide +kernel, by decide +kernel⟩) rfl rfl rfl (RIo.c (ri_enumerate T.g_enumerate (RE.rd (zZ 0)))) (fun _ _ _ _ => vG) (fun _ _ _ _ => (reX_callC G_is_full_tree H_is_full_tree (hr.mono (by decide)) (br_no fun _ _ h => h) (zM (zZ 1) (zM (vK ix_seq vJ (zZ 2) (zZ 0)) (zM (RE.cl (vL (zM (zZ 0) zI))) zI)))))) zI)))))
theorem sc_many_found_down : vW ["tree", "closed"] ["tree", "closed"] (zS s_many_found_down) := ⟨rfl, rfl, rfl, by decide +kernel, rfl, by decide +kernel, by decide +kernel⟩
theorem okR_many_found_down (T : Txt K mg) {f : Addr} {fd : FuncData} (h : Has K mg "many_found_down" s_many_found_down f fd ["tree", "closed"]) : ∀ n, FnOk P w K mg base (CXV P w) (2 + n) f fd ["tree", "closed"] (spX false (R_many_found_down n)) := by
  intro n
  induction n with
  | zero => exact fnX_no
  | succ n G_many_found_down =>
  have H_many_found_down := h
  obtain ⟨f_many_orders, fd_many_orders, H_many_orders⟩ := T.d_many_orders
  have G_many_orders : FnOk P w K mg base (CXV P w) 1 f_many_orders fd_many_orders ["people"] (spX false F_many_orders) := ok_many_orders T H_many_orders
  refine fnX_ok [] h.F sc_many_found_down fun cdv A outer s H E hr => ?_
  have nd := sc_many_found_down.nd
  have hu64 := hr.units
  have br := br_body (P := P) (w := w) (K := K) (mg := mg) (base := base) (N := ["tree", "closed"]) (x := "many_found_down") (sc := zS s_many_found_down) (f := f) (cdv := cdv) (A := A) (outer := outer) (s := s) (H := H) (E := E) (om := [])
  exact (xP (vI (vN op_isN pb_is (zZ 0) re_non) (wK (vR vU)) vP) (wK (vR (vQ vE pr_add (reX_callC G_many_orders H_many_orders (hr.mono (Nat.le_trans (by decide) (Nat.le_add_right _ _))) br (zM (vQ op_sub pr_sub (zZ 1) vU) zI)) (vS (call_sumI rfl) pc_sum T.g_sum PyProof.Rows.boot_sum (wJ (re_comp (sc0 := zS s_many_found_down) (N0 := ["tree", "closed"]) (fs := ["closed"]) (js := [1]) (by exact ⟨rfl, by decide +kernel, by decide +kernel, by decide +kernel, by decide +kernel, rfl, by decide +kernel, by decide +kernel⟩) rfl rfl rfl (RI.c (ri_seq (RE.rd (vK ix_seq vJ (zZ 0) vU)))) (fun _ _ _ _ => vG) (fun _ _ _ _ => (reX_callC G_many_found_down H_many_found_down hr (br_no fun _ _ h => h) (zM (zZ 0) (zM (vQ op_sub pr_sub (zZ 1) vU) zI))))) zI))))))
theorem ok_many_found_down (T : Txt K mg) {f : Addr} {fd : FuncData} (h : Has K mg "many_found_down" s_many_found_down f fd ["tree", "closed"]) : FnOk P w K mg base (CXV P w) 10 f fd ["tree", "closed"] (spX false F_many_found_down) := okR_many_found_down T h 8
theorem sc_finds_in : vW ["plan", "person"] ["plan", "person"] (zS s_finds_in) := ⟨rfl, rfl, rfl, by decide +kernel, rfl, by decide +kernel, by decide +kernel⟩
theorem ok_finds_in (T : Txt K mg) {f : Addr} {fd : FuncData} (h : Has K mg "finds_in" s_finds_in f fd ["plan", "person"]) : FnOk P w K mg base (CXV P w) 11 f fd ["plan", "person"] (spX false F_finds_in) := by
  obtain ⟨f_check_person, fd_check_person, H_check_person⟩ := T.d_check_person
  have G_check_person : FnOk P w K mg base (CXV P w) 1 f_check_person fd_check_person ["people", "person"] (spX false F_check_person) := ok_check_person T H_check_person
  obtain ⟨f_many_found_down, fd_many_found_down, H_many_found_down⟩ := T.d_many_found_down
  have G_many_found_down : FnOk P w K mg base (CXV P w) 10 f_many_found_down fd_many_found_down ["tree", "closed"] (spX false F_many_found_down) := ok_many_found_down T H_many_found_down
  refine fnX_ok [] h.F sc_finds_in fun cdv A outer s H E hr => ?_
  have nd := sc_finds_in.nd
  have hu64 := hr.units
  have br := br_body (P := P) (w := w) (K := K) (mg := mg) (base := base) (N := ["plan", "person"]) (x := "finds_in") (sc := zS s_finds_in) (f := f) (cdv := cdv) (A := A) (outer := outer) (s := s) (H := H) (E := E) (om := [])
  exact (xP (rs_expr (reX_callC G_check_person H_check_person (hr.mono (by decide)) br (zM (vS call_len_seq pc_len T.g_len PySem.boot_len (wJ (zZ 0) zI)) (zM (zZ 1) zI)))) (wK (vR (reX_callC G_many_found_down H_many_found_down (hr.mono (by decide)) br (zM (vK ix_seq vJ (zZ 0) (zZ 1)) (zM (vS call_len_seq pc_len T.g_len PySem.boot_len (wJ (zZ 0) zI)) zI))))))
theorem sc_l_cell_at : vW ["script", "k"] ["script", "k"] (zS s_l_cell_at) := ⟨rfl, rfl, rfl, by decide +kernel, rfl, by decide +kernel, by decide +kernel⟩
theorem ok0_l_cell_at (T : Txt K mg) {f : Addr} {fd : FuncData} (h : Has K mg "_law_cell_at" s_l_cell_at f fd ["script", "k"]) : FnOk P w K mg base CX0 1 f fd ["script", "k"] (spF false F_l_cell_at) := by
  refine fn_ok [] h.F sc_l_cell_at fun cdv A outer s H E hr => ?_
  have nd := sc_l_cell_at.nd
  have hu64 := hr.units
  exact (xP (vI (vN op_lt pb_lt (zZ 1) (vS call_len_seq pc_len T.g_len PySem.boot_len (wJ (zZ 0) zI))) (wK (vR (vK ix_seq vJ (zZ 0) (zZ 1)))) vP) (wK (vR vU)))
theorem sc_l_sums : vW ["script", "start", "many"] ["script", "start", "many"] (zS s_l_sums) := ⟨rfl, rfl, rfl, by decide +kernel, rfl, by decide +kernel, by decide +kernel⟩
theorem ok0_l_sums (T : Txt K mg) {f : Addr} {fd : FuncData} (h : Has K mg "_law_sums" s_l_sums f fd ["script", "start", "many"]) : FnOk P w K mg base CX0 1 f fd ["script", "start", "many"] (spF true F_l_sums) := by
  refine fn_ok [] h.F sc_l_sums fun cdv A outer s H E hr => ?_
  have nd := sc_l_sums.nd
  have hu64 := hr.units
  exact (wK (rs_retW (re_comp (sc0 := zS s_l_sums) (N0 := ["script", "start", "many"]) (fs := ["script", "start", "many"]) (js := [0, 1, 2]) (by exact ⟨rfl, by decide +kernel, by decide +kernel, by decide +kernel, by decide +kernel, rfl, by decide +kernel, by decide +kernel⟩) rfl rfl rfl (RI.c (vH T.g_range (wJ (zZ 2) zI))) (fun _ _ _ _ => vG) (fun _ _ _ _ => (vS (call_sumI rfl) pc_sum T.g_sum PyProof.Rows.boot_sum (wJ (re_slice3 (zZ 1) (ro_some (vQ vE pr_add (zZ 2) (zZ 0))) ro_none (ro_some (zZ 3))) zI))))))
theorem sc_l_take : vW ["pot", "many", "digit"] ["pot", "many"] (zS s_l_take) := ⟨rfl, rfl, rfl, by decide +kernel, rfl, by decide +kernel, by decide +kernel⟩
theorem ok0_l_take (T : Txt K mg) {f : Addr} {fd : FuncData} (h : Has K mg "_law_take" s_l_take f fd ["pot", "many"]) : FnOk P w K mg base CX0 1 f fd ["pot", "many"] spTake := by
  refine fn_take h.F sc_l_take rfl rfl fun cdv A outer s H E hr => ?_
  have nd := sc_l_take.nd
  exact (pss_cons (ps_set (i := 2) nd rfl (by first | exact Or.inl rfl | exact Or.inr rfl) (pe_op op_mod (pe_ix ix_list (pv 0) pe_int (fun _ _ => rfl)) (pv 1))) (pss_cons (ps_asg (pe_op op_fdivA (pe_ix ix_list (pv 0) pe_int (fun _ _ => rfl)) (pv 1)) (pg_sub (pv 0) pe_int set_list)) (pss_one (ps_ret (pv 2)))))
theorem sc_l_openings : vW ["pot", "people"] ["pot", "people"] (zS s_l_openings) := ⟨rfl, rfl, rfl, by decide +kernel, rfl, by decide +kernel, by decide +kernel⟩
theorem ok0_l_openings (T : Txt K mg) {f : Addr} {fd : FuncData} (h : Has K mg "_law_openings" s_l_openings f fd ["pot", "people"]) : FnOk P w K mg base CX0 2 f fd ["pot", "people"] spOpn := by
  obtain ⟨f_l_take, fd_l_take, H_l_take⟩ := T.d_l_take
  have G_l_take : FnOk P w K mg base CX0 1 f_l_take fd_l_take ["pot", "many"] spTake := ok0_l_take T H_l_take
  refine fn_opn h.F sc_l_openings rfl rfl fun cdv A outer s H E hr => ?_
  have nd := sc_l_openings.nd
  exact (pss_one (ps_ret (pe_callTy call_tuple_of rfl T.g_tuple (by rfl) (yB (pe_comp (sc0 := zS s_l_openings) (N0 := ["pot", "people"]) (fs := ["pot", "people"]) (js := [0, 1]) (by exact ⟨rfl, by decide +kernel, by decide +kernel, by decide +kernel, by decide +kernel, rfl, by decide +kernel, by decide +kernel⟩) rfl rfl rfl (pi_range1 rfl T.g_range (yB (pv 1) pa_nil)) (fun _ _ _ _ => .nil) (fun _ _ _ _ => (pe_call G_l_take (hr.mono (by decide)) rfl H_l_take.m H_l_take.F.kp H_l_take.b .nil pass0 (yB (pv 1) (yB (pe_op vE (pv 2) pe_int) pa_nil))))) pa_nil))))
theorem sc_l_tree : vW ["pot", "people", "left", "boxes", "names", "thin", "closed", "box", "nexts", "name"] ["pot", "people", "left", "boxes", "names", "thin"] (zS s_l_tree) := ⟨rfl, rfl, rfl, by decide +kernel, rfl, by decide +kernel, by decide +kernel⟩
theorem okR_l_tree (T : Txt K mg) {f : Addr} {fd : FuncData} (h : Has K mg "_law_tree" s_l_tree f fd ["pot", "people", "left", "boxes", "names", "thin"]) : ∀ n, FnOk P w K mg base CX0 (2 + n) f fd ["pot", "people", "left", "boxes", "names", "thin"] (spTree n) := by
  intro n
  induction n with
  | zero => exact tree_no
  | succ n G_l_tree =>
  have H_l_tree := h
  obtain ⟨f_l_take, fd_l_take, H_l_take⟩ := T.d_l_take
  have G_l_take : FnOk P w K mg base CX0 1 f_l_take fd_l_take ["pot", "many"] spTake := ok0_l_take T H_l_take
  refine fn_tree h.F sc_l_tree rfl rfl fun cdv A outer s H E hr => ?_
  have nd := sc_l_tree.nd
  exact (pss_cons (ps_if (PW.pt (pw_or (pt_cmpR (vD hr.units) (pv 2) pe_int (nomark _)) (pw_or1 (PW.pt (pw_and (pt_val (pv 5)) (pw_and1 (pt_cmpR (vD hr.units) (pe_call G_l_take (hr.mono (Nat.le_trans (by decide) (Nat.le_add_right _ _))) rfl H_l_take.m H_l_take.F.kp H_l_take.b .nil pass0 (yB (pv 0) (yB pe_int pa_nil))) pe_int (nomark _)))))))) (pss_one (ps_ret pe_non)) pss_nil) (pss_cons (ps_comp (i := 6) (sc0 := zS s_l_tree) (N0 := ["pot", "people", "left", "boxes", "names", "thin", "closed", "box", "nexts", "name"]) (fs := ["boxes"]) (js := [3]) (by exact ⟨rfl, by decide +kernel, by decide +kernel, by decide +kernel, by decide +kernel, rfl, by decide +kernel, by decide +kernel⟩) rfl rfl rfl (pi_range1 rfl T.g_range (yB (pv 1) pa_nil)) (fun _ _ _ _ => .one (pt_cmpR op_notIn_seq (pv 0) (pv 1) rfl)) (fun _ _ _ _ => pv 0) nd rfl (by first | exact Or.inl rfl | exact Or.inr rfl) rfl (by intro _; rfl) (by first | exact .inl rfl | exact .inr rfl)) (pss_cons (ps_set (i := 7) nd rfl (by first | exact Or.inl rfl | exact Or.inr rfl) (pe_ix ix_list (pv 6) (pe_call G_l_take (hr.mono (Nat.le_trans (by decide) (Nat.le_add_right _ _))) rfl H_l_take.m H_l_take.F.kp H_l_take.b .nil pass0 (yB (pv 0) (yB (pe_callB call_len_seq rfl T.g_len PySem.boot_len (yB (pv 6) pa_nil)) pa_nil))) (fun _ _ => rfl))) (pss_cons (ps_set (i := 8) nd rfl (by first | exact Or.inl rfl | exact Or.inr rfl) (pe_lst pa_nil)) (pss_cons (ps_for PassesOwn.never rfl (pi_range1 rfl T.g_range (yB (pv 1) pa_nil)) (pg_name (i := 9) nd rfl (by first | exact Or.inl rfl | exact Or.inr rfl)) (pss_one (ps_if (pt_cmpR op_in_seq (pv 9) (pv 4) rfl) (pss_one (ps_expr (pe_bm PySem.F.plainAttrs_list PySem.F.slot_list_append PySem.F.type_list_append mt_append (pv 8) (yB pe_non pa_nil)))) (pss_one (ps_expr (pe_bm PySem.F.plainAttrs_list PySem.F.slot_list_append PySem.F.type_list_append mt_append (pv 8) (yB (pe_call G_l_tree hr rfl H_l_tree.m H_l_tree.F.kp H_l_tree.b .nil pass0 (yB (pv 0) (yB (pv 1) (yB (pe_op op_sub (pv 2) pe_int) (yB (pe_op op_catR (pv 3) (pe_lst (yB (pv 7) pa_nil))) (yB (pe_op op_catR (pv 4) (pe_lst (yB (pv 9) pa_nil))) (yB (pv 5) pa_nil))))))) pa_nil))))))) (pss_one (ps_ret (pe_tup (yB (pv 7) (yB (pe_callTy call_tuple_of rfl T.g_tuple (by rfl) (yB (pv 8) pa_nil)) pa_nil))))))))))
theorem ok0_l_tree (T : Txt K mg) {f : Addr} {fd : FuncData} (h : Has K mg "_law_tree" s_l_tree f fd ["pot", "people", "left", "boxes", "names", "thin"]) : FnOk P w K mg base CX0 10 f fd ["pot", "people", "left", "boxes", "names", "thin"] (spTree 8) := okR_l_tree T h 8
theorem sc_l_plan : vW ["script", "people", "openings", "trees", "cells", "person", "pot", "thin"] ["script", "people", "openings"] (zS s_l_plan) := ⟨rfl, rfl, rfl, by decide +kernel, rfl, by decide +kernel, by decide +kernel⟩
theorem ok0_l_plan (T : Txt K mg) {f : Addr} {fd : FuncData} (h : Has K mg "_law_plan" s_l_plan f fd ["script", "people", "openings"]) : FnOk P w K mg base CX0 11 f fd ["script", "people", "openings"] (spF false F_l_plan) := by
  obtain ⟨f_l_sums, fd_l_sums, H_l_sums⟩ := T.d_l_sums
  have G_l_sums : FnOk P w K mg base CX0 1 f_l_sums fd_l_sums ["script", "start", "many"] (spF true F_l_sums) := ok0_l_sums T H_l_sums
  obtain ⟨f_l_take, fd_l_take, H_l_take⟩ := T.d_l_take
  have G_l_take : FnOk P w K mg base CX0 1 f_l_take fd_l_take ["pot", "many"] spTake := ok0_l_take T H_l_take
  obtain ⟨f_l_tree, fd_l_tree, H_l_tree⟩ := T.d_l_tree
  have G_l_tree : FnOk P w K mg base CX0 10 f_l_tree fd_l_tree ["pot", "people", "left", "boxes", "names", "thin"] (spTree 8) := ok0_l_tree T H_l_tree
  refine (fn_plan F_l_sums (k := 8) (by decide)) h.F sc_l_plan rfl rfl fun cdv A outer s H E hr => ?_
  have nd := sc_l_plan.nd
  exact (pss_cons (ps_set (i := 3) nd rfl (by first | exact Or.inl rfl | exact Or.inr rfl) (pe_lst pa_nil)) (pss_cons (ps_set (i := 4) nd rfl (by first | exact Or.inl rfl | exact Or.inr rfl) (pe_call G_l_sums (hr.mono (by decide)) rfl H_l_sums.m H_l_sums.F.kp H_l_sums.b .nil pass0 (yB (pv 0) (yB pe_int (yB (pv 1) pa_nil))))) (pss_cons (ps_for PassesOwn.never rfl (pi_range1 rfl T.g_range (yB (pv 1) pa_nil)) (pg_name (i := 5) nd rfl (by first | exact Or.inl rfl | exact Or.inr rfl)) (pss_cons (ps_set (i := 6) nd rfl (by first | exact Or.inl rfl | exact Or.inr rfl) (pe_lst (yB (pe_ix ix_list (pv 4) (pv 5) (fun _ _ => rfl)) pa_nil))) (pss_cons (ps_set (i := 7) nd rfl (by first | exact Or.inl rfl | exact Or.inr rfl) (pe_cmpR (vD hr.units) (pe_call G_l_take (hr.mono (by decide)) rfl H_l_take.m H_l_take.F.kp H_l_take.b .nil pass0 (yB (pv 6) (yB pe_int pa_nil))) pe_int (nomark _))) (pss_one (ps_expr (pe_bm PySem.F.plainAttrs_list PySem.F.slot_list_append PySem.F.type_list_append mt_append (pv 3) (yB (pe_call G_l_tree (hr.mono (by decide)) rfl H_l_tree.m H_l_tree.F.kp H_l_tree.b .nil pass0 (yB (pv 6) (yB (pv 1) (yB (pe_ix ix_tup (pv 2) (pv 5) (fun _ _ => rfl)) (yB (pe_lst pa_nil) (yB (pe_lst (yB (pv 5) pa_nil)) (yB (pv 7) pa_nil))))))) pa_nil))))))) (pss_one (ps_ret (pe_callTy call_tuple_of rfl T.g_tuple (by rfl) (yB (pv 3) pa_nil)))))))
theorem ok_l_plan (T : Txt K mg) {f : Addr} {fd : FuncData} (h : Has K mg "_law_plan" s_l_plan f fd ["script", "people", "openings"]) : FnOk P w K mg base (CXV P w) 11 f fd ["script", "people", "openings"] (spX false F_l_plan) := fn_upX (fun _ _ => plF_no) (ok0_l_plan T h)
theorem sc_l_ground : vW ["script", "pot", "people", "openings"] ["script"] (zS s_l_ground) := ⟨rfl, rfl, rfl, by decide +kernel, rfl, by decide +kernel, by decide +kernel⟩
theorem ok0_l_ground (T : Txt K mg) {f : Addr} {fd : FuncData} (h : Has K mg "_law_ground" s_l_ground f fd ["script"]) : FnOk P w K mg base CX0 3 f fd ["script"] (spF false F_l_ground) := by
  obtain ⟨f_l_cell_at, fd_l_cell_at, H_l_cell_at⟩ := T.d_l_cell_at
  have G_l_cell_at : FnOk P w K mg base CX0 1 f_l_cell_at fd_l_cell_at ["script", "k"] (spF false F_l_cell_at) := ok0_l_cell_at T H_l_cell_at
  obtain ⟨f_l_take, fd_l_take, H_l_take⟩ := T.d_l_take
  have G_l_take : FnOk P w K mg base CX0 1 f_l_take fd_l_take ["pot", "many"] spTake := ok0_l_take T H_l_take
  obtain ⟨f_l_openings, fd_l_openings, H_l_openings⟩ := T.d_l_openings
  have G_l_openings : FnOk P w K mg base CX0 2 f_l_openings fd_l_openings ["pot", "people"] spOpn := ok0_l_openings T H_l_openings
  refine (fn_gr 4 5 4 F_l_cell_at ⟨by decide, by decide⟩ ⟨by decide, by decide⟩ ⟨by decide, by decide⟩) h.F sc_l_ground rfl rfl fun cdv A outer s H E hr => ?_
  have nd := sc_l_ground.nd
  exact (pss_cons (ps_set (i := 1) nd rfl (by first | exact Or.inl rfl | exact Or.inr rfl) (pe_lst (yB (pe_call G_l_cell_at (hr.mono (by decide)) rfl H_l_cell_at.m H_l_cell_at.F.kp H_l_cell_at.b .nil pass0 (yB (pv 0) (yB pe_int pa_nil))) pa_nil))) (pss_cons (ps_set (i := 2) nd rfl (by first | exact Or.inl rfl | exact Or.inr rfl) (pe_op vE pe_int (pe_call G_l_take (hr.mono (by decide)) rfl H_l_take.m H_l_take.F.kp H_l_take.b .nil pass0 (yB (pv 1) (yB pe_int pa_nil))))) (pss_cons (ps_set (i := 3) nd rfl (by first | exact Or.inl rfl | exact Or.inr rfl) (pe_call G_l_openings (hr.mono (by decide)) rfl H_l_openings.m H_l_openings.F.kp H_l_openings.b .nil pass0 (yB (pv 1) (yB (pv 2) pa_nil)))) (pss_cons (ps_if (pt_cmpR (vD hr.units) (pe_call G_l_take (hr.mono (by decide)) rfl H_l_take.m H_l_take.F.kp H_l_take.b .nil pass0 (yB (pv 1) (yB pe_int pa_nil))) pe_int (nomark _)) (pss_cons (ps_set (i := 2) nd rfl (by first | exact Or.inl rfl | exact Or.inr rfl) pe_int) (pss_one (ps_set (i := 3) nd rfl (by first | exact Or.inl rfl | exact Or.inr rfl) (pe_callTy call_tuple_of rfl T.g_tuple (by rfl) (yB (pe_comp (sc0 := zS s_l_ground) (N0 := ["script", "pot", "people", "openings"]) (fs := ["pot"]) (js := [1]) (by exact ⟨rfl, by decide +kernel, by decide +kernel, by decide +kernel, by decide +kernel, rfl, by decide +kernel, by decide +kernel⟩) rfl rfl rfl (pi_range1 rfl T.g_range (yB (pv 2) pa_nil)) (fun _ _ _ _ => .nil) (fun _ _ _ _ => (pe_call G_l_take (hr.mono (by decide)) rfl H_l_take.m H_l_take.F.kp H_l_take.b .nil pass0 (yB (pv 1) (yB pe_int pa_nil))))) pa_nil))))) pss_nil) (pss_one (ps_ret (pe_tup (yB (pv 2) (yB (pv 3) pa_nil)))))))))
theorem ok_l_ground (T : Txt K mg) {f : Addr} {fd : FuncData} (h : Has K mg "_law_ground" s_l_ground f fd ["script"]) : FnOk P w K mg base (CXV P w) 3 f fd ["script"] (spX false F_l_ground) := fn_upX (fun _ _ => grF_no) (ok0_l_ground T h)
theorem sc_l_whole : vW ["found"] ["found"] (zS s_l_whole) := ⟨rfl, rfl, rfl, by decide +kernel, rfl, by decide +kernel, by decide +kernel⟩
theorem ok_l_whole (T : Txt K mg) {f : Addr} {fd : FuncData} (h : Has K mg "_law_whole" s_l_whole f fd ["found"]) : FnOk P w K mg base (CXV P w) 1 f fd ["found"] (spX false F_l_whole) := by
  refine fnX_ok [] h.F sc_l_whole fun cdv A outer s H E hr => ?_
  have nd := sc_l_whole.nd
  have hu64 := hr.units
  have br := br_body (P := P) (w := w) (K := K) (mg := mg) (base := base) (N := ["found"]) (x := "_law_whole") (sc := zS s_l_whole) (f := f) (cdv := cdv) (A := A) (outer := outer) (s := s) (H := H) (E := E) (om := [])
  exact (wK (vR (vF (re_isi T.k_int T.g_isinstance T.g_int (by decide +kernel) (zZ 0)) (re_one (re_not (re_isi T.k_bool T.g_isinstance T.g_bool (by decide +kernel) (zZ 0)))))))
theorem sc_l_down : vW ["tree", "order", "boxes", "box", "nexts"] ["tree", "order"] (zS s_l_down) := ⟨rfl, rfl, rfl, by decide +kernel, rfl, by decide +kernel, by decide +kernel⟩
theorem ok_l_down (T : Txt K mg) {f : Addr} {fd : FuncData} (h : Has K mg "_law_down" s_l_down f fd ["tree", "order"]) : FnOk P w K mg base (CXV P w) 1 f fd ["tree", "order"] (spX true F_l_down) := by
  refine fnX_ok [2] h.F sc_l_down fun cdv A outer s H E hr => ?_
  have nd := sc_l_down.nd
  have hu64 := hr.units
  have br := br_body (P := P) (w := w) (K := K) (mg := mg) (base := base) (N := ["tree", "order", "boxes", "box", "nexts"]) (x := "_law_down") (sc := zS s_l_down) (f := f) (cdv := cdv) (A := A) (outer := outer) (s := s) (H := H) (E := E) (om := [2])
  exact (xP (rs_setO 2 nd (vL zI)) (xP (rs_while 1000000 (vN op_notN pb_isnot (zZ 0) re_non) (xP (rs_asgA (zZ 0) (rg_tup rfl (rgs_cons (rg_name 3 nd) (rgs_cons (rg_name 4 nd) rgs_nil)))) (xP (rs_meth 2 PySem.F.slot_list_append PySem.F.type_list_append mt_append pm_append (zM (zZ 3) zI)) (wK (vM 0 nd (vK ix_seq vJ (zZ 4) (vK ix_seq vJ (zZ 1) (zZ 3))))))) PassesOwn.leaving) (wK (rs_retO 2))))
theorem sc_l_all_orders : vW ["people", "orders", "person", "wider", "order"] ["people"] (zS s_l_all_orders) := ⟨rfl, rfl, rfl, by decide +kernel, rfl, by decide +kernel, by decide +kernel⟩
theorem ok_l_all_orders (T : Txt K mg) {f : Addr} {fd : FuncData} (h : Has K mg "_law_all_orders" s_l_all_orders f fd ["people"]) : FnOk P w K mg base (CXV P w) 1 f fd ["people"] (spX false F_l_all_orders) := by
  refine fnX_ok [3] h.F sc_l_all_orders fun cdv A outer s H E hr => ?_
  have nd := sc_l_all_orders.nd
  have hu64 := hr.units
  have br := br_body (P := P) (w := w) (K := K) (mg := mg) (base := base) (N := ["people", "orders", "person", "wider", "order"]) (x := "_law_all_orders") (sc := zS s_l_all_orders) (f := f) (cdv := cdv) (A := A) (outer := outer) (s := s) (H := H) (E := E) (om := [3])
  exact (xP (vM 1 nd (RE.cl (vL (zM (re_tup zI) zI)))) (xP (rs_for (vH T.g_range (wJ (zZ 0) zI)) (rg_name 2 nd) (xP (rs_setO 3 nd (vL zI)) (xP (rs_for (ri_seq (RE.rd (zZ 1))) (rg_name 4 nd) (wK (rs_ext 3 (re_comp (sc0 := zS s_l_all_orders) (N0 := ["people", "orders", "person", "wider", "order"]) (fs := ["order", "person"]) (js := [4, 2]) (by exact ⟨rfl, by decide +kernel, by decide +kernel, by decide +kernel, by decide +kernel, rfl, by decide +kernel, by decide +kernel⟩) rfl rfl rfl (RI.c (vH T.g_range (wJ (vQ vE pr_add (vS call_len_seq pc_len T.g_len PySem.boot_len (wJ (zZ 4) zI)) vU) zI))) (fun _ _ _ _ => vG) (fun _ _ _ _ => (vQ op_catU pr_catT (vQ op_catU pr_catT (re_sliceD (zZ 1) ro_none (ro_some (zZ 0))) (re_tup (zM (zZ 2) zI))) (re_sliceD (zZ 1) (ro_some (zZ 0)) ro_none)))))) PassesOwn.leaving) (wK (rs_move 1 3 nd)))) PassesOwn.leaving) (wK (vR (zZ 1)))))
theorem sc_l_is_full : vW ["tree", "names", "left", "full", "name"] ["tree", "names", "left"] (zS s_l_is_full) := ⟨rfl, rfl, rfl, by decide +kernel, rfl, by decide +kernel, by decide +kernel⟩
theorem okR_l_is_full (T : Txt K mg) {f : Addr} {fd : FuncData} (h : Has K mg "_law_is_full" s_l_is_full f fd ["tree", "names", "left"]) : ∀ n, FnOk P w K mg base (CXV P w) (1 + n) f fd ["tree", "names", "left"] (spX false (R_l_is_full n)) := by
  intro n
  induction n with
  | zero => exact fnX_no
  | succ n G_l_is_full =>
  have H_l_is_full := h
  refine fnX_ok [] h.F sc_l_is_full fun cdv A outer s H E hr => ?_
  have nd := sc_l_is_full.nd
  have hu64 := hr.units
  have br := br_body (P := P) (w := w) (K := K) (mg := mg) (base := base) (N := ["tree", "names", "left", "full", "name"]) (x := "_law_is_full") (sc := zS s_l_is_full) (f := f) (cdv := cdv) (A := A) (outer := outer) (s := s) (H := H) (E := E) (om := [])
  exact (xP (vI (RW.rt (rw_or (vN op_isN pb_is (zZ 0) re_non) (rw_or1 (vN (vD hu64) pb_eq (zZ 2) vU)))) (wK (vR (vF (re_cmp op_isN pb_is (zZ 0) re_non) (re_one (re_cmp (vD hu64) pb_eq (zZ 2) vU))))) vP) (xP (vM 3 nd vC) (xP (rs_for (vH T.g_range (wJ (vS call_len_seq pc_len T.g_len PySem.boot_len (wJ (vK ix_seq vJ (zZ 0) vU) zI)) zI)) (rg_name 4 nd) (wK (vI (vN op_notIn_seq pb_in (zZ 4) (zZ 1)) (wK (vM 3 nd (vF (zZ 3) (re_one (reX_callC G_l_is_full H_l_is_full hr br (zM (vK ix_seq vJ (vK ix_seq vJ (zZ 0) vU) (zZ 4)) (zM (RE.cl (vQ op_catR pr_cat (zZ 1) (vL (zM (zZ 4) zI)))) (zM (vQ op_sub pr_sub (zZ 2) vU) zI)))))))) vP)) PassesOwn.leaving) (wK (vR (zZ 3))))))
theorem ok_l_is_full (T : Txt K mg) {f : Addr} {fd : FuncData} (h : Has K mg "_law_is_full" s_l_is_full f fd ["tree", "names", "left"]) : FnOk P w K mg base (CXV P w) 9 f fd ["tree", "names", "left"] (spX false F_l_is_full) := okR_l_is_full T h 8
theorem sc_l_odd_openings : vW ["plan", "openings", "refused", "e"] ["plan", "openings"] (zS s_l_odd_openings) := ⟨rfl, rfl, rfl, by decide +kernel, rfl, by decide +kernel, by decide +kernel⟩
theorem ok_l_odd_openings (T : Txt K mg) {f : Addr} {fd : FuncData} (h : Has K mg "_law_odd_openings" s_l_odd_openings f fd ["plan", "openings"]) : FnOk P w K mg base (CXV P w) 11 f fd ["plan", "openings"] (spX false F_l_odd_openings) := by
  obtain ⟨f_is_full, fd_is_full, H_is_full⟩ := T.d_is_full
  have G_is_full : FnOk P w K mg base (CXV P w) 10 f_is_full fd_is_full ["plan", "openings"] (spX false F_is_full) := ok_is_full T H_is_full
  refine fnX_ok [] h.F sc_l_odd_openings fun cdv A outer s H E hr => ?_
  have nd := sc_l_odd_openings.nd
  have hu64 := hr.units
  have br := br_body (P := P) (w := w) (K := K) (mg := mg) (base := base) (N := ["plan", "openings", "refused", "e"]) (x := "_law_odd_openings") (sc := zS s_l_odd_openings) (f := f) (cdv := cdv) (A := A) (outer := outer) (s := s) (H := H) (E := E) (om := [])
  exact (xP (vM 2 nd vC) (xP (rs_try 3 CLS nd (fun _ _ _ br => (wK (rs_expr (reX_callC G_is_full H_is_full (hr.mono (by decide)) br (zM (zZ 0) (zM (zZ 1) zI)))))) (fun _ => (wK (vM 2 nd (vF (re_isiX CLS ["BadOpenings"] T.kx_BadOpenings T.g_isinstance T.x_BadOpenings (zZ 3)) (vF (re_isiXB CLS CLS T.kv_ValueError T.g_isinstance T.g_ValueError PyProof.Rows.Boot.«ValueError» (zZ 3)) (re_one (re_not (re_isiX CLS ["NoPerson"] T.kx_NoPerson T.g_isinstance T.x_NoPerson (zZ 3))))))))) T.tx_BoxError T.tb_BoxError T.x_BoxError) (wK (vR (zZ 2)))))
theorem sc_l_refused : vW ["plan", "person", "refused", "e"] ["plan", "person"] (zS s_l_refused) := ⟨rfl, rfl, rfl, by decide +kernel, rfl, by decide +kernel, by decide +kernel⟩
theorem ok_l_refused (T : Txt K mg) {f : Addr} {fd : FuncData} (h : Has K mg "_law_refused" s_l_refused f fd ["plan", "person"]) : FnOk P w K mg base (CXV P w) 12 f fd ["plan", "person"] (spX false F_l_refused) := by
  obtain ⟨f_finds_in, fd_finds_in, H_finds_in⟩ := T.d_finds_in
  have G_finds_in : FnOk P w K mg base (CXV P w) 11 f_finds_in fd_finds_in ["plan", "person"] (spX false F_finds_in) := ok_finds_in T H_finds_in
  refine fnX_ok [] h.F sc_l_refused fun cdv A outer s H E hr => ?_
  have nd := sc_l_refused.nd
  have hu64 := hr.units
  have br := br_body (P := P) (w := w) (K := K) (mg := mg) (base := base) (N := ["plan", "person", "refused", "e"]) (x := "_law_refused") (sc := zS s_l_refused) (f := f) (cdv := cdv) (A := A) (outer := outer) (s := s) (H := H) (E := E) (om := [])
  exact (xP (vM 2 nd vC) (xP (rs_try 3 CLS nd (fun _ _ _ br => (wK (rs_expr (reX_callC G_finds_in H_finds_in (hr.mono (by decide)) br (zM (zZ 0) (zM (zZ 1) zI)))))) (fun _ => (wK (vM 2 nd (vF (re_isiX CLS ["NoPerson"] T.kx_NoPerson T.g_isinstance T.x_NoPerson (zZ 3)) (vF (re_isiXB CLS CLS T.kv_ValueError T.g_isinstance T.g_ValueError PyProof.Rows.Boot.«ValueError» (zZ 3)) (re_one (re_not (re_isiX CLS ["BadOrder"] T.kx_BadOrder T.g_isinstance T.x_BadOrder (zZ 3))))))))) T.tx_BoxError T.tb_BoxError T.x_BoxError) (wK (vR (zZ 2)))))
theorem sc_l_counts : vW ["plan", "orders", "counts", "person", "found"] ["plan", "orders"] (zS s_l_counts) := ⟨rfl, rfl, rfl, by decide +kernel, rfl, by decide +kernel, by decide +kernel⟩
theorem ok_l_counts (T : Txt K mg) {f : Addr} {fd : FuncData} (h : Has K mg "_law_counts" s_l_counts f fd ["plan", "orders"]) : FnOk P w K mg base (CXV P w) 2 f fd ["plan", "orders"] (spX true F_l_counts) := by
  obtain ⟨f_l_down, fd_l_down, H_l_down⟩ := T.d_l_down
  have G_l_down : FnOk P w K mg base (CXV P w) 1 f_l_down fd_l_down ["tree", "order"] (spX true F_l_down) := ok_l_down T H_l_down
  refine fnX_ok [2] h.F sc_l_counts fun cdv A outer s H E hr => ?_
  have nd := sc_l_counts.nd
  have hu64 := hr.units
  have br := br_body (P := P) (w := w) (K := K) (mg := mg) (base := base) (N := ["plan", "orders", "counts", "person", "found"]) (x := "_law_counts") (sc := zS s_l_counts) (f := f) (cdv := cdv) (A := A) (outer := outer) (s := s) (H := H) (E := E) (om := [2])
  exact (xP (rs_setO 2 nd (vL zI)) (xP (rs_for (vH T.g_range (wJ (vS call_len_seq pc_len T.g_len PySem.boot_len (wJ (zZ 0) zI)) zI)) (rg_name 3 nd) (xP (rs_compC 4 nd (sc0 := zS s_l_counts) (N0 := ["plan", "orders", "counts", "person", "found"]) (fs := ["person", "plan"]) (js := [3, 0]) (by exact ⟨rfl, fun _ _ => rfl, fun _ => rfl, by decide +kernel, by decide +kernel, by decide +kernel, by decide +kernel, rfl, by decide +kernel, by decide +kernel⟩) rfl rfl rfl (RI.c (ri_seq (RE.rd (zZ 1)))) (fun _ _ _ _ => vG) (fun _ _ _ _ => (re_cmp op_in_seq pb_in (zZ 1) (re_comp (sc0 := _) (N0 := _) (fs := ["order"]) (js := [0]) (by exact ⟨rfl, by decide +kernel, by decide +kernel, by decide +kernel, by repeat' (first | exact List.forall_mem_nil _ | refine List.forall_mem_cons.2 ⟨?_, ?_⟩ | (intro h; cases h; done) | exact (fun _ => Or.inl rfl) | exact (fun _ => Or.inr rfl) | exact ⟨rfl, rfl⟩), rfl, by repeat' (first | exact List.forall_mem_nil _ | refine List.forall_mem_cons.2 ⟨?_, ?_⟩ | (intro h; cases h; done) | exact (fun _ => Or.inl rfl) | exact (fun _ => Or.inr rfl) | exact ⟨rfl, rfl⟩), by decide +kernel⟩) rfl rfl rfl (RI.c (ri_seq (RE.rd (RE.cl (reX_callN G_l_down H_l_down (hr.mono (by decide)) (br_no fun _ _ h => h) (zM (vK ix_seq vJ (zZ 2) (zZ 1)) (zM (zZ 0) zI))))))) (fun _ _ _ _ => vG) (fun _ _ _ _ => (vK ix_seq vJ (zZ 1) (zZ 0))))))) (wK (rs_meth 2 PySem.F.slot_list_append PySem.F.type_list_append mt_append pm_append (zM (re_meth1 PySem.F.slot_list_count PySem.F.type_list_count mt_count p1_count (zZ 4) vC) zI)))) PassesOwn.leaving) (wK (rs_retO 2))))
theorem sc_law : vW ["script", "people", "openings", "plan", "orders", "counts", "full", "found", "follow", "person", "shown_ones", "most", "far", "odd", "wide"] ["script"] (zS s_law) := ⟨rfl, rfl, rfl, by decide +kernel, rfl, by decide +kernel, by decide +kernel⟩
theorem ok_law (T : Txt K mg) {f : Addr} {fd : FuncData} (h : Has K mg "law" s_law f fd ["script"]) : FnOk P w K mg base (CXV P w) 13 f fd ["script"] (spX false F_law) := by
  obtain ⟨f_l_ground, fd_l_ground, H_l_ground⟩ := T.d_l_ground
  have G_l_ground : FnOk P w K mg base (CXV P w) 3 f_l_ground fd_l_ground ["script"] (spX false F_l_ground) := ok_l_ground T H_l_ground
  obtain ⟨f_l_plan, fd_l_plan, H_l_plan⟩ := T.d_l_plan
  have G_l_plan : FnOk P w K mg base (CXV P w) 11 f_l_plan fd_l_plan ["script", "people", "openings"] (spX false F_l_plan) := ok_l_plan T H_l_plan
  obtain ⟨f_l_all_orders, fd_l_all_orders, H_l_all_orders⟩ := T.d_l_all_orders
  have G_l_all_orders : FnOk P w K mg base (CXV P w) 1 f_l_all_orders fd_l_all_orders ["people"] (spX false F_l_all_orders) := ok_l_all_orders T H_l_all_orders
  obtain ⟨f_l_counts, fd_l_counts, H_l_counts⟩ := T.d_l_counts
  have G_l_counts : FnOk P w K mg base (CXV P w) 2 f_l_counts fd_l_counts ["plan", "orders"] (spX true F_l_counts) := ok_l_counts T H_l_counts
  obtain ⟨f_l_is_full, fd_l_is_full, H_l_is_full⟩ := T.d_l_is_full
  have G_l_is_full : FnOk P w K mg base (CXV P w) 9 f_l_is_full fd_l_is_full ["tree", "names", "left"] (spX false F_l_is_full) := ok_l_is_full T H_l_is_full
  obtain ⟨f_is_full, fd_is_full, H_is_full⟩ := T.d_is_full
  have G_is_full : FnOk P w K mg base (CXV P w) 10 f_is_full fd_is_full ["plan", "openings"] (spX false F_is_full) := ok_is_full T H_is_full
  obtain ⟨f_following_plan, fd_following_plan, H_following_plan⟩ := T.d_following_plan
  have G_following_plan : FnOk P w K mg base (CXV P w) 10 f_following_plan fd_following_plan ["openings"] (spX false F_following_plan) := ok_following_plan T H_following_plan
  obtain ⟨f_finds_in, fd_finds_in, H_finds_in⟩ := T.d_finds_in
  have G_finds_in : FnOk P w K mg base (CXV P w) 11 f_finds_in fd_finds_in ["plan", "person"] (spX false F_finds_in) := ok_finds_in T H_finds_in
  obtain ⟨f_l_whole, fd_l_whole, H_l_whole⟩ := T.d_l_whole
  have G_l_whole : FnOk P w K mg base (CXV P w) 1 f_l_whole fd_l_whole ["found"] (spX false F_l_whole) := ok_l_whole T H_l_whole
  obtain ⟨f_l_odd_openings, fd_l_odd_openings, H_l_odd_openings⟩ := T.d_l_odd_openings
  have G_l_odd_openings : FnOk P w K mg base (CXV P w) 11 f_l_odd_openings fd_l_odd_openings ["plan", "openings"] (spX false F_l_odd_openings) := ok_l_odd_openings T H_l_odd_openings
  obtain ⟨f_l_refused, fd_l_refused, H_l_refused⟩ := T.d_l_refused
  have G_l_refused : FnOk P w K mg base (CXV P w) 12 f_l_refused fd_l_refused ["plan", "person"] (spX false F_l_refused) := ok_l_refused T H_l_refused
  refine fnX_ok [] h.F sc_law fun cdv A outer s H E hr => ?_
  have nd := sc_law.nd
  have hu64 := hr.units
  have br := br_body (P := P) (w := w) (K := K) (mg := mg) (base := base) (N := ["script", "people", "openings", "plan", "orders", "counts", "full", "found", "follow", "person", "shown_ones", "most", "far", "odd", "wide"]) (x := "law") (sc := zS s_law) (f := f) (cdv := cdv) (A := A) (outer := outer) (s := s) (H := H) (E := E) (om := [])
  exact (xP (rs_asgA (reX_callC G_l_ground H_l_ground (hr.mono (by decide)) br (zM (zZ 0) zI)) (rg_tup rfl (rgs_cons (rg_name 1 nd) (rgs_cons (rg_name 2 nd) rgs_nil)))) (xP (vM 3 nd (reX_callC G_l_plan H_l_plan (hr.mono (by decide)) br (zM (zZ 0) (zM (zZ 1) (zM (zZ 2) zI))))) (xP (vM 4 nd (reX_callC G_l_all_orders H_l_all_orders (hr.mono (by decide)) br (zM (zZ 1) zI))) (xP (vM 5 nd (RE.cl (reX_callN G_l_counts H_l_counts (hr.mono (by decide)) br (zM (zZ 3) (zM (zZ 4) zI))))) (xP (rs_comp 6 nd (sc0 := zS s_law) (N0 := ["script", "people", "openings", "plan", "orders", "counts", "full", "found", "follow", "person", "shown_ones", "most", "far", "odd", "wide"]) (fs := ["plan", "openings"]) (js := [3, 2]) (by exact ⟨rfl, by decide +kernel, by decide +kernel, by decide +kernel, by decide +kernel, rfl, by decide +kernel, by decide +kernel⟩) rfl rfl rfl (RI.c (vH T.g_range (wJ (zZ 1) zI))) (fun _ _ _ _ => vG) (fun _ _ _ _ => (reX_callC G_l_is_full H_l_is_full (hr.mono (by decide)) (br_no fun _ _ h => h) (zM (vK ix_seq vJ (zZ 1) (zZ 0)) (zM (RE.cl (vL (zM (zZ 0) zI))) (zM (vK ix_seq vJ (zZ 2) (zZ 0)) zI)))))) (xP (vM 7 nd (reX_callC G_is_full H_is_full (hr.mono (by decide)) br (zM (zZ 3) (zM (zZ 2) zI)))) (xP (vI (RW.rt (rw_or (rt_not (rt_val (re_isi T.k_bool T.g_isinstance T.g_bool (by decide +kernel) (zZ 7)))) (rw_or1 (vN (op_neD hu64) pb_ne (zZ 7) (vS (call_allB rfl) pc_all T.g_all (by rfl) (wJ (zZ 6) zI)))))) (wK (vR vC)) vP) (xP (vM 8 nd (reX_callC G_following_plan H_following_plan (hr.mono (by decide)) br (zM (zZ 2) zI))) (xP (rs_for (vH T.g_range (wJ (zZ 1) zI)) (rg_name 9 nd) (xP (vM 10 nd (reX_callC G_finds_in H_finds_in (hr.mono (by decide)) br (zM (zZ 3) (zM (zZ 9) zI)))) (xP (vM 11 nd (vQ op_fdivA pr_fdiv (vQ op_mulA pr_mul (vK ix_seq vJ (zZ 2) (zZ 9)) (vS call_len_seq pc_len T.g_len PySem.boot_len (wJ (zZ 4) zI))) (zZ 1))) (xP (vI (RW.rt (rw_or (rt_not (rt_val (reX_callC G_l_whole H_l_whole (hr.mono (by decide)) br (zM (zZ 10) zI)))) (rw_or (vN (op_neD hu64) pb_ne (zZ 10) (vK ix_seq vJ (zZ 5) (zZ 9))) (rw_or1 (vN op_gt pb_gt (zZ 10) (zZ 11)))))) (wK (vR vC)) vP) (xP (vI (RW.rt (rw_and (rt_val (vK ix_seq vJ (zZ 6) (zZ 9))) (rw_and1 (vN (op_neD hu64) pb_ne (zZ 10) (zZ 11))))) (wK (vR vC)) vP) (wK (vI (vN (op_neD hu64) pb_ne (reX_callC G_finds_in H_finds_in (hr.mono (by decide)) br (zM (zZ 8) (zM (zZ 9) zI))) (zZ 11)) (wK (vR vC)) vP)))))) PassesOwn.leaving) (xP (vM 12 nd (vQ vE pr_add vU (vQ op_mod pr_mod (vS (call_sumI rfl) pc_sum T.g_sum PyProof.Rows.boot_sum (wJ (zZ 0) zI)) (vQ op_pow pr_pow vU vU)))) (xP (rs_for (ri_seq (RE.rd (RE.cl (vL (zM (vQ op_catU pr_catT (zZ 2) (re_tup (zM vU zI))) (zM (re_sliceD (zZ 2) (ro_some vU) ro_none) (zM (vQ op_catU pr_catT (re_sliceD (zZ 2) (ro_some vU) ro_none) (re_tup (zM (re_neg (zZ 12)) zI))) (zM (vQ op_catU pr_catT (re_sliceD (zZ 2) (ro_some vU) ro_none) (re_tup (zM (vQ vE pr_add (zZ 1) (zZ 12)) zI))) zI)))))))) (rg_name 13 nd) (wK (vI (rt_not (rt_val (reX_callC G_l_odd_openings H_l_odd_openings (hr.mono (by decide)) br (zM (zZ 3) (zM (zZ 13) zI))))) (wK (vR vC)) vP)) PassesOwn.leaving) (xP (vM 14 nd (re_callTy call_tuple_of pc_tup T.g_tuple (by rfl) (wJ (vQ op_repR pr_rep (vL (zM (vQ op_mod pr_mod (zZ 12) (vQ vE pr_add (zZ 1) vU)) zI)) (zZ 1)) zI))) (xP (vI (vN (op_neD hu64) pb_ne (reX_callC G_is_full H_is_full (hr.mono (by decide)) br (zM (zZ 3) (zM (zZ 14) zI))) (vS (call_allB rfl) pc_all T.g_all (by rfl) (wJ (re_comp (sc0 := zS s_law) (N0 := ["script", "people", "openings", "plan", "orders", "counts", "full", "found", "follow", "person", "shown_ones", "most", "far", "odd", "wide"]) (fs := ["plan", "wide"]) (js := [3, 14]) (by exact ⟨rfl, by decide +kernel, by decide +kernel, by decide +kernel, by decide +kernel, rfl, by decide +kernel, by decide +kernel⟩) rfl rfl rfl (RI.c (vH T.g_range (wJ (zZ 1) zI))) (fun _ _ _ _ => vG) (fun _ _ _ _ => (reX_callC G_l_is_full H_l_is_full (hr.mono (by decide)) (br_no fun _ _ h => h) (zM (vK ix_seq vJ (zZ 1) (zZ 0)) (zM (RE.cl (vL (zM (zZ 0) zI))) (zM (vK ix_seq vJ (zZ 2) (zZ 0)) zI)))))) zI))) (wK (vR vC)) vP) (wK (vR (vF (reX_callC G_l_refused H_l_refused (hr.mono (by decide)) br (zM (zZ 3) (zM (zZ 1) zI))) (vF (reX_callC G_l_refused H_l_refused (hr.mono (by decide)) br (zM (zZ 3) (zM (re_neg vU) zI))) (re_one (reX_callC G_l_refused H_l_refused (hr.mono (by decide)) br (zM (zZ 3) (zM (vQ vE pr_add (zZ 1) (zZ 12)) zI)))))))))))))))))))))
end
end K26
set_option maxHeartbeats 4000000
namespace K26
open PySem L2 L2.L3 MR
def rI' (r : List Nat) : List Int := r.map fun (b : Nat) => (b : Int)
theorem rI_len (l : List Nat) : (rI' l).length = l.length := by unfold rI'; simp
theorem rI_app (a b : List Nat) : rI' (a ++ b) = rI' a ++ rI' b := by unfold rI'; simp
structure Opn (n : Nat) (ops : List Int) : Prop where
  len : ops.length = n
  bd : ∀ x ∈ ops, 0 ≤ x ∧ x ≤ n
theorem eq_made_openings {n : Nat} {ops : List Int} (p : Opn n ops) (h1 : 1 ≤ n) (h2 : n ≤ 60) : F_made_openings [.int n, tI ops] = .ok (tI ops) := by
  show (B_made_openings [some (.int n), some (tI ops)]).bind (fin false) = _
  unfold B_made_openings
  have hne : ops ≠ [] := fun z => by have := p.len; rw [z] at this; simp at this; bv_omega
  have a1 := p.bd _ (minL_mem hne)
  have a2 := p.bd _ (maxL_mem hne)
  simp -implicitDefEqProofs only [yQ, zP, zO, wT, zY, yO, yF, xN, xO, wS, yK, yE, xF, wP, yM, yD, xQ, xB, xT, zC, wN, wV, xJ, wM, xM, xL, xD, wZ, xZ, eV0, eVs, xE, wQ, xU, xK, yJ, xS, xV, wO, wR, zB, yU, xR, yW, wY, yP, yH, xY, xW, xG, wU, xI, zF, xC, xX, zG, zA, yZ, yV, zK, zQ, zE, wW, xA, zH, xH, yC, yN, yG, yT, yR, yX, yY, yS, yL, yI, wA, wF, wC, wB, wE, wI, wD, wG, wH, Res.zW, Res.zD, Res.zL, Res.zT, Res.zN, Option.map_some, Option.bind_some, List.set_cons_zero, List.set_cons_succ, List.length_cons, List.length_nil, if_true, if_false, Bool.false_eq_true, ite_true, ite_false, Bool.not_true, Bool.not_false, List.length_map, p.len, neD_int, min1_tI hne, max1_tI hne, decide_eq_true (show (1 : Int) ≤ (n : Int) by bv_omega), decide_eq_true (show (n : Int) ≤ 60 by bv_omega), decide_true, decide_eq_false (show ¬ minL ops < 0 by bv_omega), decide_eq_false (show ¬ (n : Int) < maxL ops by bv_omega)]
def BadO (p : Int) (ys : List Int) : Prop := ¬ (1 ≤ p ∧ p ≤ 60 ∧ (ys.length : Int) = p ∧ ∀ y ∈ ys, 0 ≤ y ∧ y ≤ p)
theorem ex_made_openings {d : D} {ys : List Int} (hd : d = lI ys ∨ d = tI ys) {p : Int} (h : BadO p ys) : F_made_openings [.int p, d] = .ex "BadOpenings" := by
  show (B_made_openings [some (.int p), some d]).bind (fin false) = _
  unfold B_made_openings
  have ln : lenD [d] = some (.int (ys.length : Int)) := by
    rcases hd with rfl | rfl
    · rw [zK]; simp only [zA, Option.map_some, List.length_map]
    · rw [zK]; simp only [yZ, Option.map_some, List.length_map]
  have z1 : (if ([PyData.str "openings are for 1 to 60 people"] : List D).length ≤ sizeLine then (Res.ex "BadOpenings" : Res Out) else .no) = .ex "BadOpenings" := if_pos (by decide)
  have z2 : (if ([PyData.str "each person has its openings"] : List D).length ≤ sizeLine then (Res.ex "BadOpenings" : Res Out) else .no) = .ex "BadOpenings" := if_pos (by decide)
  have z3 : (if ([PyData.str "openings are from 0 to as many as there are boxes"] : List D).length ≤ sizeLine then (Res.ex "BadOpenings" : Res Out) else .no) = .ex "BadOpenings" := if_pos (by decide)
  by_cases p1 : 1 ≤ p
  · by_cases p2 : p ≤ 60
    · by_cases p3 : (ys.length : Int) = p
      · have hne : ys ≠ [] := fun z => by rw [z] at p3; simp at p3; bv_omega
        have mn : min1D [d] = some (.int (minL ys)) := by
          rcases hd with rfl | rfl
          · exact min1_lI hne
          · exact min1_tI hne
        have mx : max1D [d] = some (.int (maxL ys)) := by
          rcases hd with rfl | rfl
          · exact max1_lI hne
          · exact max1_tI hne
        have hex : minL ys < 0 ∨ p < maxL ys := by
          by_cases c1 : minL ys < 0
          · exact .inl c1
          · by_cases c2 : p < maxL ys
            · exact .inr c2
            · refine absurd ⟨p1, p2, p3, fun y hy => ?_⟩ h
              have := minL_le hy
              have := le_maxL hy
              bv_omega
        rcases hex with c | c
        · simp -implicitDefEqProofs only [xT, zC, zB, xR, xV, xS, xZ, xU, xW, xY, eV0, eVs, xX, xQ, sRa_ap, Res.zW, Res.zL, Res.zT, ln, mn, mx, neD_int, decide_eq_true p1, decide_eq_true p2, decide_eq_true p3, decide_eq_true c, if_true, if_false, Bool.not_true, Bool.not_false, Bool.false_eq_true, z3]
        · by_cases c1 : minL ys < 0
          · simp -implicitDefEqProofs only [xT, zC, zB, xR, xV, xS, xZ, xU, xW, xY, eV0, eVs, xX, xQ, sRa_ap, Res.zW, Res.zL, Res.zT, ln, mn, mx, neD_int, decide_eq_true p1, decide_eq_true p2, decide_eq_true p3, decide_eq_true c1, if_true, if_false, Bool.not_true, Bool.not_false, Bool.false_eq_true, z3]
          · simp -implicitDefEqProofs only [xT, zC, zB, xR, xV, xS, xZ, xU, xW, xY, eV0, eVs, xX, xQ, sRa_ap, Res.zW, Res.zL, Res.zT, ln, mn, mx, neD_int, decide_eq_true p1, decide_eq_true p2, decide_eq_true p3, decide_eq_false c1, decide_eq_true c, if_true, if_false, Bool.not_true, Bool.not_false, Bool.false_eq_true, z3]
      · simp -implicitDefEqProofs only [xT, zC, zB, xR, xV, xS, xZ, xU, xW, xY, eV0, eVs, xX, xQ, sRa_ap, Res.zW, Res.zL, Res.zT, ln, neD_int, decide_eq_true p1, decide_eq_true p2, decide_eq_false p3, if_true, if_false, Bool.not_true, Bool.not_false, Bool.false_eq_true, z2]
    · simp -implicitDefEqProofs only [xT, zC, zB, xV, xZ, xU, xW, xY, eV0, eVs, xX, sRa_ap, Res.zW, Res.zL, Res.zT, decide_eq_true p1, decide_eq_false p2, if_true, if_false, Bool.not_true, Bool.not_false, Bool.false_eq_true, z1]
  · simp -implicitDefEqProofs only [xT, zC, zB, xV, xZ, xU, xW, xY, eV0, eVs, xX, sRa_ap, Res.zW, Res.zL, Res.zT, decide_eq_false p1, if_true, if_false, Bool.not_true, Bool.not_false, Bool.false_eq_true, z1]
theorem eq_check_person {n p : Nat} (h : p < n) : F_check_person [.int n, .int p] = .ok .none := by
  show (B_check_person [some (.int n), some (.int p)]).bind (fin false) = _
  unfold B_check_person
  simp -implicitDefEqProofs only [yQ, zP, zO, wT, zY, yO, yF, xN, xO, wS, yK, yE, xF, wP, yM, yD, xQ, xB, xT, zC, wN, wV, xJ, wM, xM, xL, xD, wZ, xZ, eV0, eVs, xE, wQ, xU, xK, yJ, xS, xV, wO, wR, zB, yU, xR, yW, wY, yP, yH, xY, xW, xG, wU, xI, zF, xC, xX, zG, zA, yZ, yV, zK, zQ, zE, wW, xA, zH, xH, yC, yN, yG, yT, yR, yX, yY, yS, yL, yI, wA, wF, wC, wB, wE, wI, wD, wG, wH, Res.zW, Res.zD, Res.zL, Res.zT, Res.zN, Option.map_some, Option.bind_some, List.set_cons_zero, List.set_cons_succ, List.length_cons, List.length_nil, if_true, if_false, Bool.false_eq_true, ite_true, ite_false, Bool.not_true, Bool.not_false, decide_eq_true (show (0 : Int) ≤ (p : Int) by bv_omega), decide_eq_true (show (p : Int) < (n : Int) by bv_omega)]
theorem Opn.at {n : Nat} {ops : List Int} (q : Opn n ops) {p : Nat} (h : p < n) : 0 ≤ ops.getD p 0 ∧ ops.getD p 0 ≤ n := q.bd _ (MR.getD_mem (by rw [q.len]; exact h))
theorem atI_opn {n : Nat} {ops : List Int} (q : Opn n ops) {p : Nat} (h : p < n) : atI (ops.map PyData.int) (p : Int) = some (.int ((ops.getD p 0).toNat : Int)) := by
  have := q.at h
  rw [atI_map, atI_getD (by rw [q.len]; exact h), Option.map_some]
  congr 2
  bv_omega
theorem atI_rm {n i : Nat} (f : Nat → D) (h : i < n) : atI ((List.range n).map f) (i : Int) = some (f i) := by
  unfold atI
  rw [List.length_map, List.length_range, ixN_nat h, Option.bind_some, List.getElem?_map, List.getElem?_range h]
  rfl
theorem enum_rm (n : Nat) (f : Nat → D) : enumD ((List.range n).map f) = (List.range n).map fun (i : Nat) => PyData.tuple [.int (i : Int), f i] := by
  unfold enumD
  rw [List.length_map, List.length_range]
  refine List.map_congr_left fun i hi => ?_
  rw [List.getD, List.getElem?_map, List.getElem?_range (List.mem_range.mp hi)]
  rfl
theorem set_rm {n i : Nat} (f : Nat → D) (v : D) (h : i < n) : setD ((List.range n).map f) (.int (i : Int)) v = some ((List.range n).map fun c => if c = i then v else f c) := by
  unfold setD
  simp only
  rw [List.length_map, List.length_range, ixN_nat h, Option.map_some, set_range h]
def ftD (n : Nat) : Nat → Int → List Int → D
  | 0, _, _ => .none
  | l + 1, b, ns => .tuple [.int b, .tuple ((List.range n).map fun (i : Nat) => if ns.contains (i : Int) then .none else ftD n l (i : Int) (ns ++ [(i : Int)]))]
theorem mid_same {n i : Nat} {f : Nat → D} (c : f i = .none) : (List.range n).map (fun j => if j < i then f j else PyData.none) = (List.range n).map fun j => if j < i + 1 then f j else PyData.none :=
  List.map_congr_left fun j _ => by
    by_cases e : j = i
    · subst e
      rw [if_neg (Nat.lt_irrefl _), if_pos (Nat.lt_succ_self _), c]
    · by_cases q : j < i
      · rw [if_pos q, if_pos (by bv_omega)]
      · rw [if_neg q, if_neg (by bv_omega)]
theorem mid_set {n i : Nat} (f : Nat → D) : ((List.range n).map fun c => if c = i then f i else if c < i then f c else PyData.none) = (List.range n).map fun j => if j < i + 1 then f j else PyData.none :=
  List.map_congr_left fun j _ => by
    by_cases e : j = i
    · subst e
      rw [if_pos rfl, if_pos (Nat.lt_succ_self _)]
    · rw [if_neg e]
      by_cases q : j < i
      · rw [if_pos q, if_pos (by bv_omega)]
      · rw [if_neg q, if_neg (by bv_omega)]
theorem mid_all {n : Nat} (f : Nat → D) : ((List.range n).map fun j => if j < n then f j else PyData.none) = (List.range n).map f :=
  List.map_congr_left fun j hj => if_pos (List.mem_range.mp hj)
theorem mid_none {n : Nat} (f : Nat → D) : ((List.range n).map fun j => if j < 0 then f j else PyData.none) = (List.range n).map fun _ => PyData.none :=
  List.map_congr_left fun j hj => if_neg (Nat.not_lt_zero _)
theorem rep_none {n : Nat} (h : n ≤ 1000) : repL (.list [.none]) (.int (n : Int)) = some (.list ((List.range n).map fun _ => PyData.none)) := by
  rw [repL_one _ _ h, List.map_const', List.length_range]
inductive TreeOk (n : Nat) : Nat → List Int → List Int → D → Prop
  | none {l : Nat} {bs ns : List Int} : TreeOk n l bs ns .none
  | node {l : Nat} {bs ns : List Int} (b : Nat) (f : Nat → D) : b < n → bs.contains (b : Int) = false → (∀ i, i < n → ns.contains (i : Int) = true → f i = .none) → (∀ i, i < n → TreeOk n l (bs ++ [(b : Int)]) (ns ++ [(i : Int)]) (f i)) → TreeOk n (l + 1) bs ns (.tuple [.int (b : Int), .tuple ((List.range n).map f)])
structure PlanOk (n : Nat) (ops : List Int) (t : Nat → D) : Prop where
  tree : ∀ p, p < n → TreeOk n (ops.getD p 0).toNat [] [(p : Int)] (t p)
theorem runG_map (g : Nat → Int → D × Int) (p : Int) : ∀ k, (runG g k p).1 = (List.range k).map fun i => (g i (runG g i p).2).1
  | 0 => rfl
  | k + 1 => by
    rw [runG, runG_map g p k, List.range_succ, List.map_append]
    rfl
theorem clN_mem {n : Nat} {bs : List Int} {x : Int} (h : x ∈ clN n bs) : ∃ b : Nat, b < n ∧ x = (b : Int) ∧ bs.contains (b : Int) = false := by
  unfold clN at h
  obtain ⟨b, hb, rfl⟩ := List.mem_map.mp h
  obtain ⟨h1, h2⟩ := List.mem_filter.mp hb
  exact ⟨b, List.mem_range.mp h1, rfl, by simpa using h2⟩
theorem tr_ok {n : Nat} {thin : Bool} : ∀ (l : Nat) (bs ns : List Int) (p : Int), bs.length + l ≤ n → TreeOk n l bs ns (trG n thin l bs ns p).1
  | 0, bs, ns, p, _ => .none
  | l + 1, bs, ns, p, h => by
    by_cases q : thin = true ∧ p % 4 = 3
    · rw [trG_out q]
      exact .none
    · rw [trG_in q rfl rfl, runG_map]
      have cp := clN_pos n bs (by bv_omega)
      generalize (if thin = true then p / 4 else p) = p1
      have h0 := Int.emod_nonneg p1 (show ((clN n bs).length : Int) ≠ 0 by bv_omega)
      have h1 := Int.emod_lt_of_pos p1 (show (0 : Int) < ((clN n bs).length : Int) by bv_omega)
      obtain ⟨b, hb, eb, nb⟩ := clN_mem (MR.getD_mem (xs := clN n bs) (i := (p1 % ((clN n bs).length : Int)).toNat) (by bv_omega))
      rw [eb]
      refine .node b _ hb nb (fun i hi c => ?_) fun i hi => ?_
      · unfold nxG
        rw [if_pos c]
      · by_cases c : ns.contains (i : Int) = true
        · have e : ∀ z : Int, (nxG n thin l bs ns (b : Int) i z).1 = .none := fun z => by unfold nxG; rw [if_pos c]
          rw [e]
          exact .none
        · have e : ∀ z : Int, nxG n thin l bs ns (b : Int) i z = trG n thin l (bs ++ [(b : Int)]) (ns ++ [(i : Int)]) z := fun z => by unfold nxG; rw [if_neg c]
          rw [e]
          exact tr_ok l _ _ _ (by rw [List.length_append]; simp; bv_omega)
theorem ft_ok {n : Nat} : ∀ (l b : Nat) (bs : List Int), b < n → bs.contains (b : Int) = false → TreeOk n l bs (bs ++ [(b : Int)]) (ftD n l (b : Int) (bs ++ [(b : Int)]))
  | 0, b, bs, _, _ => .none
  | l + 1, b, bs, hb, nb => by
    rw [ftD]
    refine .node b _ hb nb (fun i hi c => if_pos c) fun i hi => ?_
    by_cases c : (bs ++ [(b : Int)]).contains (i : Int) = true
    · rw [if_pos c]
      exact .none
    · rw [if_neg c]
      exact ft_ok l i (bs ++ [(b : Int)]) hi (by simpa using c)
theorem fp_ok (n : Nat) (ops : List Int) : PlanOk n ops fun p => ftD n (ops.getD p 0).toNat (p : Int) [(p : Int)] := ⟨fun p hp => ft_ok _ p [] hp rfl⟩
theorem pl_ok {n : Nat} {ops ms : List Int} (q : Opn n ops) : PlanOk n ops (tr1 n ops ms) := ⟨fun p hp => tr_ok _ _ _ _ (by have := q.at hp; show 0 + _ ≤ n; bv_omega)⟩
inductive Down (n : Nat) (xs : List Int) : D → List Nat → Prop
  | none : Down n xs .none []
  | node {b : Nat} {f : Nat → D} {ws : List Nat} : b < n → Down n xs (f (nxt xs b)) ws → Down n xs (.tuple [.int (b : Int), .tuple ((List.range n).map f)]) (b :: ws)
theorem tk_down {n l : Nat} {bs ns xs : List Int} {d : D} (o : Ord n xs) (T : TreeOk n l bs ns d) : ∃ ws, Down n xs d ws ∧ ws.length ≤ l := by
  induction T with
  | none => exact ⟨[], .none, Nat.zero_le _⟩
  | @node l bs ns b f hb _ _ _ ih =>
    obtain ⟨ws, D, h⟩ := ih (nxt xs b) (o.nxt_lt hb)
    exact ⟨b :: ws, .node hb D, by rw [List.length_cons]; bv_omega⟩
theorem Down.lt {n : Nat} {xs : List Int} {d : D} {ws : List Nat} (D : Down n xs d ws) : ∀ b ∈ ws, b < n := by
  induction D with
  | none => exact fun b hb => nomatch hb
  | @node b f ws hb _ ih =>
    intro c hc
    rcases List.mem_cons.mp hc with rfl | hc
    · exact hb
    · exact ih c hc
theorem eq_l_downT {n : Nat} {xs : List Int} {d : D} {ws : List Nat} (o : Ord n xs) (hn : n ≤ 60) (D : Down n xs d ws) (hw : ws.length ≤ 100) : F_l_down [d, tI xs] = .ok (lI (rI' ws)) := by
  show (B_l_down [some d, some (tI xs), none, none, none]).bind (fin true) = _
  unfold B_l_down
  simp -implicitDefEqProofs only [yQ, zP, zO, wT, zY, yO, yF, xN, xO, wS, yK, yE, xF, wP, yM, yD, xQ, xB, xT, zC, wN, wV, xJ, wM, xM, xL, xD, wZ, xZ, eV0, eVs, xE, wQ, xU, xK, yJ, xS, xV, wO, wR, zB, yU, xR, yW, wY, yP, yH, xY, xW, xG, wU, xI, zF, xC, xX, zG, zA, yZ, yV, zK, zQ, zE, wW, xA, zH, xH, yC, yN, yG, yT, yR, yX, yY, yS, yL, yI, wA, wF, wC, wB, wE, wI, wD, wG, wH, Res.zW, Res.zD, Res.zL, Res.zT, Res.zN, Option.map_some, Option.bind_some, List.set_cons_zero, List.set_cons_succ, List.length_cons, List.length_nil, if_true, if_false, Bool.false_eq_true, ite_true, ite_false, Bool.not_true, Bool.not_false]
  refine whM_b2 (fun i ρ => ∃ x y di, Down n xs di (ws.drop i) ∧ ρ = [some di, some (tI xs), some (lI (rI' (ws.take i))), x, y]) ws.length (by bv_omega) ⟨none, none, d, D, rfl⟩ ?_ ?_ ?_
  · rintro i ρ hi ⟨x, y, di, Di, rfl⟩
    have ew : ws.drop i = ws[i] :: ws.drop (i + 1) := List.drop_eq_getElem_cons hi
    rw [ew] at Di
    generalize hb : ws[i] = b at Di ew
    cases Di with
    | @node _ f _ hbn D2 =>
      have i0 : isND true (.tuple [.int (b : Int), .tuple ((List.range n).map f)]) .none = some true := rfl
      have gt : gT 2 (gsC (gN 3) (gsC (gN 4) gsN)) (.tuple [.int (b : Int), .tuple ((List.range n).map f)]) [some (.tuple [.int (b : Int), .tuple ((List.range n).map f)]), some (tI xs), some (lI (rI' (ws.take i))), x, y] = some [some (.tuple [.int (b : Int), .tuple ((List.range n).map f)]), some (tI xs), some (lI (rI' (ws.take i))), some (.int (b : Int)), some (.tuple ((List.range n).map f))] := rfl
      have nx : atI (xs.map PyData.int) (b : Int) = some (.int ((nxt xs b : Nat) : Int)) := by
        rw [atI_map, atI_getD (by rw [o.len]; exact hbn), o.nxt_int hbn]
        rfl
      have at2 := atI_rm f (o.nxt_lt hbn)
      have ap := app_le (l := (rI' (ws.take i)).map PyData.int) (d := .int (b : Int)) (by rw [List.length_map, rI_len, List.length_take]; bv_omega)
      refine ⟨by simp -implicitDefEqProofs only [yQ, zP, zO, wT, zY, yO, yF, xN, xO, wS, yK, yE, xF, wP, yM, yD, xQ, xB, xT, zC, wN, wV, xJ, wM, xM, xL, xD, wZ, xZ, eV0, eVs, xE, wQ, xU, xK, yJ, xS, xV, wO, wR, zB, yU, xR, yW, wY, yP, yH, xY, xW, xG, wU, xI, zF, xC, xX, zG, zA, yZ, yV, zK, zQ, zE, wW, xA, zH, xH, yC, yN, yG, yT, yR, yX, yY, yS, yL, yI, wA, wF, wC, wB, wE, wI, wD, wG, wH, Res.zW, Res.zD, Res.zL, Res.zT, Res.zN, Option.map_some, Option.bind_some, List.set_cons_zero, List.set_cons_succ, List.length_cons, List.length_nil, if_true, if_false, Bool.false_eq_true, ite_true, ite_false, Bool.not_true, Bool.not_false, i0], _, ?_, some (.int (b : Int)), some (.tuple ((List.range n).map f)), f (nxt xs b), D2, rfl⟩
      simp -implicitDefEqProofs only [yQ, zP, zO, wT, zY, yO, yF, xN, xO, wS, yK, yE, xF, wP, yM, yD, xQ, xB, xT, zC, wN, wV, xJ, wM, xM, xL, xD, wZ, xZ, eV0, eVs, xE, wQ, xU, xK, yJ, xS, xV, wO, wR, zB, yU, xR, yW, wY, yP, yH, xY, xW, xG, wU, xI, zF, xC, xX, zG, zA, yZ, yV, zK, zQ, zE, wW, xA, zH, xH, yC, yN, yG, yT, yR, yX, yY, yS, yL, yI, wA, wF, wC, wB, wE, wI, wD, wG, wH, Res.zW, Res.zD, Res.zL, Res.zT, Res.zN, Option.map_some, Option.bind_some, List.set_cons_zero, List.set_cons_succ, List.length_cons, List.length_nil, if_true, if_false, Bool.false_eq_true, ite_true, ite_false, Bool.not_true, Bool.not_false, gt, ap, nx, at2]
      rw [show ws.take (i + 1) = ws.take i ++ [b] by rw [List.take_succ, List.getElem?_eq_getElem hi, hb]; rfl, rI_app]
      simp only [lI, List.map_append]
      rfl
  · rintro ρ ⟨x, y, di, Di, rfl⟩
    rw [List.drop_length] at Di
    cases Di
    have i0 : isND true .none .none = some false := rfl
    simp -implicitDefEqProofs only [yQ, zP, zO, wT, zY, yO, yF, xN, xO, wS, yK, yE, xF, wP, yM, yD, xQ, xB, xT, zC, wN, wV, xJ, wM, xM, xL, xD, wZ, xZ, eV0, eVs, xE, wQ, xU, xK, yJ, xS, xV, wO, wR, zB, yU, xR, yW, wY, yP, yH, xY, xW, xG, wU, xI, zF, xC, xX, zG, zA, yZ, yV, zK, zQ, zE, wW, xA, zH, xH, yC, yN, yG, yT, yR, yX, yY, yS, yL, yI, wA, wF, wC, wB, wE, wI, wD, wG, wH, Res.zW, Res.zD, Res.zL, Res.zT, Res.zN, Option.map_some, Option.bind_some, List.set_cons_zero, List.set_cons_succ, List.length_cons, List.length_nil, if_true, if_false, Bool.false_eq_true, ite_true, ite_false, Bool.not_true, Bool.not_false, i0]
  · rintro ρ ⟨x, y, di, Di, rfl⟩
    rw [List.take_length]
    simp -implicitDefEqProofs only [yQ, zP, zO, wT, zY, yO, yF, xN, xO, wS, yK, yE, xF, wP, yM, yD, xQ, xB, xT, zC, wN, wV, xJ, wM, xM, xL, xD, wZ, xZ, eV0, eVs, xE, wQ, xU, xK, yJ, xS, xV, wO, wR, zB, yU, xR, yW, wY, yP, yH, xY, xW, xG, wU, xI, zF, xC, xX, zG, zA, yZ, yV, zK, zQ, zE, wW, xA, zH, xH, yC, yN, yG, yT, yR, yX, yY, yS, yL, yI, wA, wF, wC, wB, wE, wI, wD, wG, wH, Res.zW, Res.zD, Res.zL, Res.zT, Res.zN, Option.map_some, Option.bind_some, List.set_cons_zero, List.set_cons_succ, List.length_cons, List.length_nil, if_true, if_false, Bool.false_eq_true, ite_true, ite_false, Bool.not_true, Bool.not_false]
def dnB : Nat → D → List Int → List Nat
  | 0, _, _ => []
  | l + 1, d, xs => match d with
    | .tuple [.int b, .tuple ds] => b.toNat :: dnB l (ds.getD (nxt xs b.toNat) .none) xs
    | _ => []
theorem getD_rm {n i : Nat} (f : Nat → D) (h : i < n) : ((List.range n).map f).getD i .none = f i := by
  rw [List.getD, List.getElem?_map, List.getElem?_range h]
  rfl
theorem dnB_node {n l b : Nat} {f : Nat → D} {xs : List Int} (o : Ord n xs) (hb : b < n) : dnB (l + 1) (.tuple [.int (b : Int), .tuple ((List.range n).map f)]) xs = b :: dnB l (f (nxt xs b)) xs := by
  rw [dnB]
  simp only [Int.toNat_natCast]
  rw [getD_rm f (o.nxt_lt hb)]
theorem dnB_none (l : Nat) (xs : List Int) : dnB l .none xs = [] := by cases l <;> rfl
theorem dn_eq {n : Nat} {xs : List Int} {d : D} {ws : List Nat} (o : Ord n xs) (D : Down n xs d ws) : ∀ l, ws.length ≤ l → ws = dnB l d xs := by
  induction D with
  | none => exact fun l _ => (dnB_none l xs).symm
  | @node b f ws hb _ ih =>
    intro l hl
    obtain ⟨l, rfl⟩ : ∃ k, l = k + 1 := ⟨l - 1, by rw [List.length_cons] at hl; bv_omega⟩
    rw [dnB_node o hb, ← ih l (by rw [List.length_cons] at hl; bv_omega)]
def fnB (l : Nat) (d : D) (p : Nat) (xs : List Int) : Bool := ((dnB l d xs).map fun b => ((nxt xs b : Nat) : Int)).contains (p : Int)
theorem fnB_none (l p : Nat) (xs : List Int) : fnB l .none p xs = false := by
  unfold fnB
  rw [dnB_none]
  rfl
theorem fnB_node {n l b p : Nat} {f : Nat → D} {xs : List Int} (o : Ord n xs) (hb : b < n) : fnB (l + 1) (.tuple [.int (b : Int), .tuple ((List.range n).map f)]) p xs = ((nxt xs b == p) || fnB l (f (nxt xs b)) p xs) := by
  unfold fnB
  rw [dnB_node o hb, List.map_cons, List.contains_cons]
  congr 1
  rw [Bool.eq_iff_iff, beq_iff_eq, beq_iff_eq]
  exact ⟨fun e => (Int.ofNat_inj.mp e).symm, fun e => by rw [e]⟩
def mfD : Nat → D → Nat → Nat
  | 0, _, _ => 0
  | l + 1, d, c => match d with
    | .tuple [.int _, .tuple ds] => fac (c - 1) + (ds.map fun e => mfD l e (c - 1)).sum
    | _ => 0
theorem mfD_none (l c : Nat) : mfD l .none c = 0 := by cases l <;> rfl
theorem mfD_node (n l c : Nat) (b : Int) (f : Nat → D) : mfD (l + 1) (.tuple [.int b, .tuple ((List.range n).map f)]) c = fac (c - 1) + ((List.range n).map fun i => mfD l (f i) (c - 1)).sum := by
  rw [mfD]
  simp only [List.map_map]
  rfl
theorem cns_app (q : List (Nat × Nat)) (b m : Nat) (xs : List Int) : cns (q ++ [(b, m)]) xs = (cns q xs && (nxt xs b == m)) := by
  unfold cns
  rw [List.all_append]
  simp
theorem sum_add (f g : Nat → Nat) : ∀ l : List Nat, (l.map fun i => f i + g i).sum = (l.map f).sum + (l.map g).sum
  | [] => rfl
  | x :: l => by
    rw [List.map_cons, List.map_cons, List.map_cons, List.sum_cons, List.sum_cons, List.sum_cons, sum_add f g l]
    bv_omega
theorem sum_one {n p : Nat} (c : Nat) (h : p < n) : ((List.range n).map fun i => if i = p then c else 0).sum = c := by
  induction n with
  | zero => bv_omega
  | succ n ih =>
    rw [List.range_succ, List.map_append, List.sum_append]
    simp only [List.map_cons, List.map_nil, List.sum_cons, List.sum_nil, Nat.add_zero]
    by_cases e : n = p
    · rw [if_pos e]
      have z : ((List.range n).map fun i => if i = p then c else 0) = (List.range n).map fun _ => 0 := List.map_congr_left fun i hi => if_neg (by have := List.mem_range.mp hi; bv_omega)
      rw [z, sum_const 0 _ (fun x hx => by obtain ⟨_, _, rfl⟩ := List.mem_map.mp hx; rfl)]
      bv_omega
    · rw [if_neg e, ih (by bv_omega)]
      bv_omega
theorem tree_count {n p : Nat} {L : List (List Int)} (A : AllOrd n L) {l : Nat} {bs ns : List Int} {d : D} (T : TreeOk n l bs ns d) : ∀ q : List (Nat × Nat), bs = (q.map fun z => ((z.1 : Nat) : Int)) → ns = (p : Int) :: (q.map fun z => ((z.2 : Nat) : Int)) → (q.map (·.1)).Nodup → (p :: q.map (·.2)).Nodup → p < n → (∀ z ∈ q, z.1 < n ∧ z.2 < n) →
    L.countP (fun xs => cns q xs && fnB l d p xs) = mfD l d (n - q.length) := by
  induction T with
  | @none l bs ns =>
    intro q _ _ _ _ _ _
    rw [mfD_none, List.countP_eq_zero]
    intro xs _ e
    rw [fnB_none, Bool.and_false] at e
    cases e
  | @node l bs ns b f hb nb hf _ ih =>
    intro q eb en n1 n2 hp h
    have n2' := List.nodup_cons.mp n2
    have bq : b ∉ q.map (·.1) := fun z => by
      obtain ⟨y, hy, rfl⟩ := List.mem_map.mp z
      have : bs.contains ((y.1 : Nat) : Int) = true := by
        rw [eb, List.contains_iff_mem]
        exact List.mem_map.mpr ⟨y, hy, rfl⟩
      rw [this] at nb
      cases nb
    rw [count_split _ (fun xs => nxt xs b) n L fun xs hx => ((A.mem xs).mp hx).nxt_lt hb, mfD_node]
    have ev : ∀ m, m < n → (L.countP fun xs => (cns q xs && fnB (l + 1) (.tuple [.int (b : Int), .tuple ((List.range n).map f)]) p xs) && nxt xs b == m) = (if m = p then fac (n - q.length - 1) else 0) + mfD l (f m) (n - q.length - 1) := fun m hm => by
      have step : (L.countP fun xs => (cns q xs && fnB (l + 1) (.tuple [.int (b : Int), .tuple ((List.range n).map f)]) p xs) && nxt xs b == m) = L.countP fun xs => cns (q ++ [(b, m)]) xs && (decide (m = p) || fnB l (f m) p xs) := List.countP_congr fun xs hx => by
        have o := (A.mem xs).mp hx
        rw [fnB_node o hb, cns_app]
        by_cases e : nxt xs b = m
        · rw [e, show (m == p) = decide (m = p) from rfl]
          simp
        · have e' : (nxt xs b == m) = false := by simpa using e
          rw [e']
          simp
      rw [step]
      by_cases c : ns.contains (m : Int) = true
      · rw [hf m hm c, mfD_none, Nat.add_zero]
        rw [en, List.contains_iff_mem, List.mem_cons] at c
        rcases c with c | c
        · have c := Int.ofNat_inj.mp c
          subst c
          rw [if_pos rfl]
          have e : (L.countP fun xs => cns (q ++ [(b, m)]) xs && (decide (m = m) || fnB l .none m xs)) = L.countP (cns ((b, m) :: q)) := List.countP_congr fun xs _ => by
            rw [cns_app, decide_eq_true rfl, Bool.true_or, Bool.and_true, Bool.and_comm]
            exact Iff.rfl
          rw [e, cns_count A ((b, m) :: q) (List.nodup_cons.mpr ⟨bq, n1⟩) n2 (fun z hz => by
            rcases List.mem_cons.mp hz with rfl | hz
            · exact ⟨hb, hm⟩
            · exact h z hz), List.length_cons, Nat.sub_sub]
        · obtain ⟨y, hy, ey⟩ := List.mem_map.mp c
          have ey := Int.ofNat_inj.mp ey
          have mp : m ≠ p := fun z => n2'.1 (List.mem_map.mpr ⟨y, hy, ey.trans z⟩)
          rw [if_neg mp, List.countP_eq_zero]
          intro xs hx e
          have o := (A.mem xs).mp hx
          rw [cns_app, Bool.and_eq_true, Bool.and_eq_true] at e
          have e1 : nxt xs y.1 = y.2 := by simpa using List.all_eq_true.mp e.1.1 y hy
          have e2 : nxt xs b = m := by simpa using e.1.2
          exact bq (List.mem_map.mpr ⟨y, hy, o.nxt_inj (h y hy).1 hb (by rw [e1, ey, e2])⟩)
      · have mp : m ≠ p := fun z => c (by rw [en, z, List.contains_iff_mem]; exact List.mem_cons_self ..)
        have mq : m ∉ q.map (·.2) := fun z => by
          obtain ⟨y, hy, rfl⟩ := List.mem_map.mp z
          exact c (by rw [en, List.contains_iff_mem]; exact List.mem_cons_of_mem _ (List.mem_map.mpr ⟨y, hy, rfl⟩))
        rw [if_neg mp, Nat.zero_add, decide_eq_false mp]
        simp only [Bool.false_or]
        rw [ih m hm (q ++ [(b, m)]) (by rw [eb, List.map_append]; rfl) (by rw [en, List.map_append]; rfl) (by
          rw [List.map_append]
          exact List.nodup_append.mpr ⟨n1, by simp, fun x hx y hy e => bq (by simp at hy; rw [← hy, ← e]; exact hx)⟩) (by
          rw [List.map_append]
          refine List.nodup_cons.mpr ⟨fun z => ?_, List.nodup_append.mpr ⟨n2'.2, by simp, fun x hx y hy e => mq (by simp at hy; rw [← hy, ← e]; exact hx)⟩⟩
          rcases List.mem_append.mp z with z | z
          · exact n2'.1 z
          · simp at z
            exact mp z.symm) hp (fun z hz => by
          rcases List.mem_append.mp hz with hz | hz
          · exact h z hz
          · simp at hz
            rw [hz]
            exact ⟨hb, hm⟩), List.length_append]
        rw [show n - (q.length + [(b, m)].length) = n - q.length - 1 by simp; bv_omega]
    rw [List.map_congr_left fun m hm => ev m (List.mem_range.mp hm), sum_add, sum_one _ hp]
theorem sum_le {f g : Nat → Nat} : ∀ l : List Nat, (∀ i ∈ l, f i ≤ g i) → (l.map f).sum ≤ (l.map g).sum
  | [], _ => Nat.le_refl _
  | x :: l, h => by
    rw [List.map_cons, List.map_cons, List.sum_cons, List.sum_cons]
    have := h x (List.mem_cons_self ..)
    have := sum_le (f := f) (g := g) l fun i hi => h i (List.mem_cons_of_mem _ hi)
    bv_omega
structure OutN (n : Nat) (ns : List Int) (js : List Nat) : Prop where
  eq : ns = js.map fun (j : Nat) => (j : Int)
  nd : js.Nodup
  lt : ∀ j ∈ js, j < n
theorem OutN.has {n : Nat} {ns : List Int} {js : List Nat} (O : OutN n ns js) (i : Nat) : ns.contains (i : Int) = js.contains i := by
  rw [O.eq, Bool.eq_iff_iff, List.contains_iff_mem, List.contains_iff_mem]
  exact ⟨fun h => by obtain ⟨j, hj, e⟩ := List.mem_map.mp h; rw [← Int.ofNat_inj.mp e]; exact hj, fun h => List.mem_map.mpr ⟨i, h, rfl⟩⟩
theorem OutN.more {n i : Nat} {ns : List Int} {js : List Nat} (O : OutN n ns js) (hi : i < n) (h : js.contains i = false) : OutN n (ns ++ [(i : Int)]) (js ++ [i]) :=
  ⟨by rw [O.eq, List.map_append]; rfl, List.nodup_append.mpr ⟨O.nd, by simp, fun x hx y hy e => by
    simp at hy
    have : js.contains i = true := List.contains_iff_mem.mpr (by rw [← hy, ← e]; exact hx)
    rw [this] at h
    cases h⟩, fun j hj => by
    rcases List.mem_append.mp hj with z | z
    · exact O.lt j z
    · simp at z
      rw [z]
      exact hi⟩
theorem fac_step {c : Nat} (h : 0 < c) : c * fac (c - 1) = fac c := by
  obtain ⟨k, rfl⟩ : ∃ k, c = k + 1 := ⟨c - 1, by bv_omega⟩
  rfl
theorem mf_le {n l : Nat} {bs ns : List Int} {d : D} (T : TreeOk n l bs ns d) : ∀ js, OutN n ns js → mfD l d (n - js.length + 1) ≤ l * fac (n - js.length) := by
  induction T with
  | none => exact fun js _ => by rw [mfD_none]; exact Nat.zero_le _
  | @node l bs ns b f hb nb hf _ ih =>
    intro js O
    rw [mfD_node, Nat.add_sub_cancel]
    have fl := free_len O.nd O.lt
    have le : ((List.range n).map fun i => mfD l (f i) (n - js.length)).sum ≤ ((List.range n).map fun i => if (!js.contains i) = true then l * fac (n - js.length - 1) else 0).sum := sum_le _ fun i hi => by
      have hi := List.mem_range.mp hi
      by_cases c : js.contains i = true
      · rw [hf i hi (by rw [O.has]; exact c), mfD_none]
        exact Nat.zero_le _
      · rw [Bool.not_eq_true] at c
        rw [c, if_pos (show (!false) = true from rfl)]
        have := ih i hi (js ++ [i]) (O.more hi c)
        have pos : 0 < n - js.length := by
          have : i ∈ (List.range n).filter fun m => !js.contains m := List.mem_filter.mpr ⟨List.mem_range.mpr hi, by rw [c]; rfl⟩
          have := List.length_pos_of_mem this
          bv_omega
        rw [List.length_append, show n - (js.length + [i].length) = n - js.length - 1 by simp; bv_omega, show n - js.length - 1 + 1 = n - js.length by bv_omega] at this
        exact this
    rw [sum_if (fun i => !js.contains i)] at le
    have e : ((List.range n).filter fun i => !js.contains i).length = n - js.length := by bv_omega
    rw [e] at le
    rcases Nat.eq_zero_or_pos (n - js.length) with z | z
    · rw [z, Nat.zero_mul] at le
      rw [z, Nat.add_mul, Nat.one_mul]
      have := Nat.zero_le (l * fac 0)
      bv_omega
    · have : (n - js.length) * (l * fac (n - js.length - 1)) = l * fac (n - js.length) := by
        rw [Nat.mul_left_comm, fac_step z]
      rw [this] at le
      rw [Nat.add_mul, Nat.one_mul]
      bv_omega
def fuB : Nat → Nat → D → List Int → Bool
  | _, 0, d, _ => (isND false d .none).getD false
  | n, l + 1, d, ns => match d with
    | .tuple [.int _, .tuple ds] => (List.range n).all fun i => ns.contains (i : Int) || fuB n l (ds.getD i .none) (ns ++ [(i : Int)])
    | _ => false
theorem fuB_node (n l : Nat) (b : Int) (f : Nat → D) (ns : List Int) : fuB n (l + 1) (.tuple [.int b, .tuple ((List.range n).map f)]) ns = (List.range n).all fun i => ns.contains (i : Int) || fuB n l (f i) (ns ++ [(i : Int)]) := by
  rw [fuB]
  rw [Bool.eq_iff_iff, List.all_eq_true, List.all_eq_true]
  refine forall_congr' fun i => forall_congr' fun hi => ?_
  rw [getD_rm f (List.mem_range.mp hi)]
theorem mf_full {n l : Nat} {bs ns : List Int} {d : D} (T : TreeOk n l bs ns d) : ∀ js, OutN n ns js → js.length + l ≤ n + 1 → fuB n l d ns = true → mfD l d (n - js.length + 1) = l * fac (n - js.length) := by
  induction T with
  | @none l bs ns =>
    intro js _ _ h
    cases l with
    | zero => rw [mfD_none, Nat.zero_mul]
    | succ l => cases h
  | @node l bs ns b f hb nb hf _ ih =>
    intro js O hl h
    rw [fuB_node, List.all_eq_true] at h
    rw [mfD_node, Nat.add_sub_cancel]
    have fl := free_len O.nd O.lt
    rcases Nat.eq_zero_or_pos (n - js.length) with z0 | z
    · have fw : ((List.range n).filter fun m => !js.contains m).length = 0 := by bv_omega
      have e : ((List.range n).map fun i => mfD l (f i) (n - js.length)) = (List.range n).map fun _ => 0 := List.map_congr_left fun i hi => by
        have c : js.contains i = true := by
          cases c : js.contains i with
          | true => rfl
          | false =>
            have : i ∈ (List.range n).filter fun m => !js.contains m := List.mem_filter.mpr ⟨hi, by rw [c]; rfl⟩
            have := List.length_pos_of_mem this
            bv_omega
        rw [hf i (List.mem_range.mp hi) (by rw [O.has]; exact c), mfD_none]
      rw [e, sum_const 0 _ (fun x hx => by obtain ⟨_, _, rfl⟩ := List.mem_map.mp hx; rfl), z0, show l = 0 by bv_omega]
      rfl
    have e : ((List.range n).map fun i => mfD l (f i) (n - js.length)) = (List.range n).map fun i => if (!js.contains i) = true then l * fac (n - js.length - 1) else 0 := List.map_congr_left fun i hi => by
      have hi' := List.mem_range.mp hi
      by_cases c : js.contains i = true
      · rw [hf i hi' (by rw [O.has]; exact c), mfD_none, c]
        rfl
      · rw [Bool.not_eq_true] at c
        rw [c, if_pos (show (!false) = true from rfl)]
        have g := h i hi
        rw [O.has, c, Bool.false_or] at g
        have := ih i hi' (js ++ [i]) (O.more hi' c) (by rw [List.length_append]; simp; bv_omega) g
        rw [List.length_append, show n - (js.length + [i].length) = n - js.length - 1 by simp; bv_omega, show n - js.length - 1 + 1 = n - js.length by bv_omega] at this
        exact this
    rw [e, sum_if (fun i => !js.contains i), show ((List.range n).filter fun i => !js.contains i).length = n - js.length by bv_omega, Nat.mul_left_comm, fac_step z, Nat.add_mul, Nat.one_mul, Nat.add_comm]
theorem fu_ft {n : Nat} : ∀ (l : Nat) (b : Int) (ns : List Int), fuB n l (ftD n l b ns) ns = true
  | 0, b, ns => rfl
  | l + 1, b, ns => by
    rw [ftD, fuB_node, List.all_eq_true]
    intro i _
    cases c : ns.contains (i : Int) with
    | true => rfl
    | false =>
      rw [if_neg Bool.false_ne_true, Bool.false_or]
      exact fu_ft l (i : Int) (ns ++ [(i : Int)])
theorem eq_many_orders {k : Nat} (hk : k ≤ 12) : F_many_orders [.int (k : Int)] = .ok (.int ((fac k : Nat) : Int)) := by
  show (B_many_orders [some (.int (k : Int)), none, none]).bind (fin false) = _
  unfold B_many_orders
  have rg := rng2_nat (a := 2) (b := k + 1) (by bv_omega) (by bv_omega)
  have rg' : rng2 [.int 2, .int ((k : Int) + 1)] = _ := rg
  simp -implicitDefEqProofs only [yQ, zP, zO, wT, zY, yO, yF, xN, xO, wS, yK, yE, xF, wP, yM, yD, xQ, xB, xT, zC, wN, wV, xJ, wM, xM, xL, xD, wZ, xZ, eV0, eVs, xE, wQ, xU, xK, yJ, xS, xV, wO, wR, zB, yU, xR, yW, wY, yP, yH, xY, xW, xG, wU, xI, zF, xC, xX, zG, zA, yZ, yV, zK, zQ, zE, wW, xA, zH, xH, yC, yN, yG, yT, yR, yX, yY, yS, yL, yI, wA, wF, wC, wB, wE, wI, wD, wG, wH, Res.zW, Res.zD, Res.zL, Res.zT, Res.zN, Option.map_some, Option.bind_some, List.set_cons_zero, List.set_cons_succ, List.length_cons, List.length_nil, if_true, if_false, Bool.false_eq_true, ite_true, ite_false, Bool.not_true, Bool.not_false, rg']
  refine forM_b2 (fun i ρ => ∃ x, ρ = [some (.int (k : Int)), some (.int ((fac (i + 1) : Nat) : Int)), x]) ⟨none, rfl⟩ ?_ ?_
  · rintro i d ρ hd ⟨x, rfl⟩
    obtain ⟨hi, rfl⟩ := rngN_get hd
    have m1 := mulO_ok (i := ((fac (i + 1) : Nat) : Int)) (j := ((2 + i : Nat) : Int)) (MulOk.right (by bv_omega) (by bv_omega))
    have e : ((fac (i + 1) : Nat) : Int) * ((2 + i : Nat) : Int) = ((fac (i + 1 + 1) : Nat) : Int) := by
      rw [← Int.natCast_mul, Nat.mul_comm, show 2 + i = i + 1 + 1 by bv_omega]
      rfl
    refine ⟨_, _, rfl, ?_, some (.int ((2 + i : Nat) : Int)), rfl⟩
    simp -implicitDefEqProofs only [yQ, zP, zO, wT, zY, yO, yF, xN, xO, wS, yK, yE, xF, wP, yM, yD, xQ, xB, xT, zC, wN, wV, xJ, wM, xM, xL, xD, wZ, xZ, eV0, eVs, xE, wQ, xU, xK, yJ, xS, xV, wO, wR, zB, yU, xR, yW, wY, yP, yH, xY, xW, xG, wU, xI, zF, xC, xX, zG, zA, yZ, yV, zK, zQ, zE, wW, xA, zH, xH, yC, yN, yG, yT, yR, yX, yY, yS, yL, yI, wA, wF, wC, wB, wE, wI, wD, wG, wH, Res.zW, Res.zD, Res.zL, Res.zT, Res.zN, Option.map_some, Option.bind_some, List.set_cons_zero, List.set_cons_succ, List.length_cons, List.length_nil, if_true, if_false, Bool.false_eq_true, ite_true, ite_false, Bool.not_true, Bool.not_false, m1, e]
  · rintro ρ ⟨x, rfl⟩
    rw [List.length_map, List.length_range]
    have e : fac (k + 1 - 2 + 1) = fac k := by
      cases k with
      | zero => rfl
      | succ k => rw [show k + 1 + 1 - 2 + 1 = k + 1 by bv_omega]
    rw [e]
    simp -implicitDefEqProofs only [yQ, zP, zO, wT, zY, yO, yF, xN, xO, wS, yK, yE, xF, wP, yM, yD, xQ, xB, xT, zC, wN, wV, xJ, wM, xM, xL, xD, wZ, xZ, eV0, eVs, xE, wQ, xU, xK, yJ, xS, xV, wO, wR, zB, yU, xR, yW, wY, yP, yH, xY, xW, xG, wU, xI, zF, xC, xX, zG, zA, yZ, yV, zK, zQ, zE, wW, xA, zH, xH, yC, yN, yG, yT, yR, yX, yY, yS, yL, yI, wA, wF, wC, wB, wE, wI, wD, wG, wH, Res.zW, Res.zD, Res.zL, Res.zT, Res.zN, Option.map_some, Option.bind_some, List.set_cons_zero, List.set_cons_succ, List.length_cons, List.length_nil, if_true, if_false, Bool.false_eq_true, ite_true, ite_false, Bool.not_true, Bool.not_false]
theorem sum_cast (f : Nat → Nat) : ∀ l : List Nat, (l.map fun i => ((f i : Nat) : Int)).sum = (((l.map f).sum : Nat) : Int)
  | [] => rfl
  | x :: l => by rw [List.map_cons, List.sum_cons, sum_cast f l, List.map_cons, List.sum_cons, Int.natCast_add]
theorem mfd_eq {n : Nat} (hn : n ≤ 6) {l : Nat} {bs ns : List Int} {d : D} (T : TreeOk n l bs ns d) : ∀ k c, l < k → l ≤ c → c ≤ 12 → R_many_found_down k [d, .int (c : Int)] = .ok (.int ((mfD l d c : Nat) : Int)) := by
  induction T with
  | @none l bs ns =>
    intro k c hk _ _
    obtain ⟨k, rfl⟩ : ∃ j, k = j + 1 := ⟨k - 1, by bv_omega⟩
    show (B_many_found_down (R_many_found_down k) [some .none, some (.int (c : Int))]).bind (fin false) = _
    unfold B_many_found_down
    have i0 : isND false .none .none = some true := rfl
    simp -implicitDefEqProofs only [yQ, zP, zO, wT, zY, yO, yF, xN, xO, wS, yK, yE, xF, wP, yM, yD, xQ, xB, xT, zC, wN, wV, xJ, wM, xM, xL, xD, wZ, xZ, eV0, eVs, xE, wQ, xU, xK, yJ, xS, xV, wO, wR, zB, yU, xR, yW, wY, yP, yH, xY, xW, xG, wU, xI, zF, xC, xX, zG, zA, yZ, yV, zK, zQ, zE, wW, xA, zH, xH, yC, yN, yG, yT, yR, yX, yY, yS, yL, yI, wA, wF, wC, wB, wE, wI, wD, wG, wH, Res.zW, Res.zD, Res.zL, Res.zT, Res.zN, Option.map_some, Option.bind_some, List.set_cons_zero, List.set_cons_succ, List.length_cons, List.length_nil, if_true, if_false, Bool.false_eq_true, ite_true, ite_false, Bool.not_true, Bool.not_false, i0]
    rw [mfD_none]
    rfl
  | @node l bs ns b f hb nb hf _ ih =>
    intro k c hk hc h12
    obtain ⟨k, rfl⟩ : ∃ j, k = j + 1 := ⟨k - 1, by bv_omega⟩
    show (B_many_found_down (R_many_found_down k) [some (.tuple [.int (b : Int), .tuple ((List.range n).map f)]), some (.int (c : Int))]).bind (fin false) = _
    unfold B_many_found_down
    have i0 : isND false (.tuple [.int (b : Int), .tuple ((List.range n).map f)]) .none = some false := rfl
    have a1 : atI [PyData.int (b : Int), .tuple ((List.range n).map f)] 1 = some (.tuple ((List.range n).map f)) := rfl
    have sb : (c : Int) - 1 = ((c - 1 : Nat) : Int) := by bv_omega
    have cc : eComp (iS (e2 ixD (eV 0) (eC (.int 1)))) tYes (eF (R_many_found_down k) (aC (eV 0) (aC (e2 subI (eV 1) (eC (.int 1))) aN))) [1] [some (.tuple [.int (b : Int), .tuple ((List.range n).map f)]), some (.int (c : Int))] = .ok (lI ((List.range n).map fun i => ((mfD l (f i) (c - 1) : Nat) : Int))) := by
      rw [eComp_all f (fun i : Nat => PyData.int ((mfD l (f i) (c - 1) : Nat) : Int)) (List.range n) (by simp -implicitDefEqProofs only [yQ, zP, zO, wT, zY, yO, yF, xN, xO, wS, yK, yE, xF, wP, yM, yD, xQ, xB, xT, zC, wN, wV, xJ, wM, xM, xL, xD, wZ, xZ, eV0, eVs, xE, wQ, xU, xK, yJ, xS, xV, wO, wR, zB, yU, xR, yW, wY, yP, yH, xY, xW, xG, wU, xI, zF, xC, xX, zG, zA, yZ, yV, zK, zQ, zE, wW, xA, zH, xH, yC, yN, yG, yT, yR, yX, yY, yS, yL, yI, wA, wF, wC, wB, wE, wI, wD, wG, wH, Res.zW, Res.zD, Res.zL, Res.zT, Res.zN, Option.map_some, Option.bind_some, List.set_cons_zero, List.set_cons_succ, List.length_cons, List.length_nil, if_true, if_false, Bool.false_eq_true, ite_true, ite_false, Bool.not_true, Bool.not_false, a1]) (by rw [List.length_range]; bv_omega) (fun i hi => by
        have e1 := ih i (List.mem_range.mp hi) k (c - 1) (by bv_omega) (by bv_omega) (by bv_omega)
        show eF (R_many_found_down k) _ [some (f i), some (.int (c : Int))] = _
        simp -implicitDefEqProofs only [yQ, zP, zO, wT, zY, yO, yF, xN, xO, wS, yK, yE, xF, wP, yM, yD, xQ, xB, xT, zC, wN, wV, xJ, wM, xM, xL, xD, wZ, xZ, eV0, eVs, xE, wQ, xU, xK, yJ, xS, xV, wO, wR, zB, yU, xR, yW, wY, yP, yH, xY, xW, xG, wU, xI, zF, xC, xX, zG, zA, yZ, yV, zK, zQ, zE, wW, xA, zH, xH, yC, yN, yG, yT, yR, yX, yY, yS, yL, yI, wA, wF, wC, wB, wE, wI, wD, wG, wH, Res.zW, Res.zD, Res.zL, Res.zT, Res.zN, Option.map_some, Option.bind_some, List.set_cons_zero, List.set_cons_succ, List.length_cons, List.length_nil, if_true, if_false, Bool.false_eq_true, ite_true, ite_false, Bool.not_true, Bool.not_false, sb, e1])]
      rw [lI, List.map_map]
      rfl
    have e2 := eq_many_orders (k := c - 1) (by bv_omega)
    simp -implicitDefEqProofs only [yQ, zP, zO, wT, zY, yO, yF, xN, xO, wS, yK, yE, xF, wP, yM, yD, xQ, xB, xT, zC, wN, wV, xJ, wM, xM, xL, xD, wZ, xZ, eV0, eVs, xE, wQ, xU, xK, yJ, xS, xV, wO, wR, zB, yU, xR, yW, wY, yP, yH, xY, xW, xG, wU, xI, zF, xC, xX, zG, zA, yZ, yV, zK, zQ, zE, wW, xA, zH, xH, yC, yN, yG, yT, yR, yX, yY, yS, yL, yI, wA, wF, wC, wB, wE, wI, wD, wG, wH, Res.zW, Res.zD, Res.zL, Res.zT, Res.zN, Option.map_some, Option.bind_some, List.set_cons_zero, List.set_cons_succ, List.length_cons, List.length_nil, if_true, if_false, Bool.false_eq_true, ite_true, ite_false, Bool.not_true, Bool.not_false, i0, sb, e2, cc, sumD_lI]
    rw [sum_cast fun i => mfD l (f i) (c - 1), mfD_node, Int.natCast_add]
theorem eq_finds_in {n p : Nat} {ops : List Int} {t : Nat → D} (P : PlanOk n ops t) (q : Opn n ops) (h2 : n ≤ 6) (h : p < n) : F_finds_in [.tuple ((List.range n).map t), .int (p : Int)] = .ok (.int ((mfD (ops.getD p 0).toNat (t p) n : Nat) : Int)) := by
  have hl : ((List.range n).map t).length = n := by rw [List.length_map, List.length_range]
  have b := q.at h
  have e := mfd_eq h2 (P.tree p h) 8 n (by bv_omega) (by bv_omega) (by bv_omega)
  have e' : F_many_found_down [t p, .int (n : Int)] = _ := e
  show (B_finds_in [some (.tuple ((List.range n).map t)), some (.int (p : Int))]).bind (fin false) = _
  unfold B_finds_in
  simp -implicitDefEqProofs only [yQ, zP, zO, wT, zY, yO, yF, xN, xO, wS, yK, yE, xF, wP, yM, yD, xQ, xB, xT, zC, wN, wV, xJ, wM, xM, xL, xD, wZ, xZ, eV0, eVs, xE, wQ, xU, xK, yJ, xS, xV, wO, wR, zB, yU, xR, yW, wY, yP, yH, xY, xW, xG, wU, xI, zF, xC, xX, zG, zA, yZ, yV, zK, zQ, zE, wW, xA, zH, xH, yC, yN, yG, yT, yR, yX, yY, yS, yL, yI, wA, wF, wC, wB, wE, wI, wD, wG, wH, Res.zW, Res.zD, Res.zL, Res.zT, Res.zN, Option.map_some, Option.bind_some, List.set_cons_zero, List.set_cons_succ, List.length_cons, List.length_nil, if_true, if_false, Bool.false_eq_true, ite_true, ite_false, Bool.not_true, Bool.not_false, hl, eq_check_person h, atI_rm t h, e']
theorem ft_eq {n : Nat} (hn : n ≤ 6) : ∀ (l k : Nat) (b : Int) (ns : List Int), l < k → ns.length + l ≤ 100 → R_following_tree k [.int b, .int (n : Int), .int (l : Int), lI ns] = .ok (ftD n l b ns)
  | 0, k + 1, b, ns, _, _ => by
    show (B_following_tree (R_following_tree k) [some (.int b), some (.int (n : Int)), some (.int 0), some (lI ns), none, none]).bind (fin false) = _
    unfold B_following_tree
    simp -implicitDefEqProofs only [yQ, zP, zO, wT, zY, yO, yF, xN, xO, wS, yK, yE, xF, wP, yM, yD, xQ, xB, xT, zC, wN, wV, xJ, wM, xM, xL, xD, wZ, xZ, eV0, eVs, xE, wQ, xU, xK, yJ, xS, xV, wO, wR, zB, yU, xR, yW, wY, yP, yH, xY, xW, xG, wU, xI, zF, xC, xX, zG, zA, yZ, yV, zK, zQ, zE, wW, xA, zH, xH, yC, yN, yG, yT, yR, yX, yY, yS, yL, yI, wA, wF, wC, wB, wE, wI, wD, wG, wH, Res.zW, Res.zD, Res.zL, Res.zT, Res.zN, Option.map_some, Option.bind_some, List.set_cons_zero, List.set_cons_succ, List.length_cons, List.length_nil, if_true, if_false, Bool.false_eq_true, ite_true, ite_false, Bool.not_true, Bool.not_false, eqD_int, decide_true]
    rfl
  | l + 1, k + 1, b, ns, hk, hl => by
    have ih := fun (b : Int) (ns : List Int) (h : ns.length + l ≤ 100) => ft_eq hn l k b ns (by bv_omega) h
    show (B_following_tree (R_following_tree k) [some (.int b), some (.int (n : Int)), some (.int ((l + 1 : Nat) : Int)), some (lI ns), none, none]).bind (fin false) = _
    unfold B_following_tree
    obtain ⟨f, hf⟩ : ∃ f : Nat → D, ∀ j, f j = if ns.contains (j : Int) then PyData.none else ftD n l (j : Int) (ns ++ [(j : Int)]) := ⟨_, fun _ => rfl⟩
    have ff : ftD n (l + 1) b ns = .tuple [.int b, .tuple ((List.range n).map f)] := by
      rw [ftD, funext hf]
    simp -implicitDefEqProofs only [yQ, zP, zO, wT, zY, yO, yF, xN, xO, wS, yK, yE, xF, wP, yM, yD, xQ, xB, xT, zC, wN, wV, xJ, wM, xM, xL, xD, wZ, xZ, eV0, eVs, xE, wQ, xU, xK, yJ, xS, xV, wO, wR, zB, yU, xR, yW, wY, yP, yH, xY, xW, xG, wU, xI, zF, xC, xX, zG, zA, yZ, yV, zK, zQ, zE, wW, xA, zH, xH, yC, yN, yG, yT, yR, yX, yY, yS, yL, yI, wA, wF, wC, wB, wE, wI, wD, wG, wH, Res.zW, Res.zD, Res.zL, Res.zT, Res.zN, Option.map_some, Option.bind_some, List.set_cons_zero, List.set_cons_succ, List.length_cons, List.length_nil, if_true, if_false, Bool.false_eq_true, ite_true, ite_false, Bool.not_true, Bool.not_false, eqD_int, decide_eq_false (show ¬ ((l + 1 : Nat) : Int) = 0 by bv_omega), rep_none (show n ≤ 1000 by bv_omega), rng_nat (show n ≤ 1000 by bv_omega)]
    refine forM_b2 (fun i ρ => ∃ x, ρ = [some (.int b), some (.int (n : Int)), some (.int ((l + 1 : Nat) : Int)), some (lI ns), some (.list ((List.range n).map fun j => if j < i then f j else PyData.none)), x]) ⟨none, by rw [mid_none]⟩ ?_ ?_
    · rintro i d ρ hd ⟨x, rfl⟩
      obtain ⟨hi, rfl⟩ := rng_get hd
      have fi := hf i
      by_cases c : ns.contains (i : Int) = true
      · rw [if_pos c] at fi
        refine ⟨_, _, rfl, ?_, some (.int (i : Int)), rfl⟩
        simp -implicitDefEqProofs only [yQ, zP, zO, wT, zY, yO, yF, xN, xO, wS, yK, yE, xF, wP, yM, yD, xQ, xB, xT, zC, wN, wV, xJ, wM, xM, xL, xD, wZ, xZ, eV0, eVs, xE, wQ, xU, xK, yJ, xS, xV, wO, wR, zB, yU, xR, yW, wY, yP, yH, xY, xW, xG, wU, xI, zF, xC, xX, zG, zA, yZ, yV, zK, zQ, zE, wW, xA, zH, xH, yC, yN, yG, yT, yR, yX, yY, yS, yL, yI, wA, wF, wC, wB, wE, wI, wD, wG, wH, Res.zW, Res.zD, Res.zL, Res.zT, Res.zN, Option.map_some, Option.bind_some, List.set_cons_zero, List.set_cons_succ, List.length_cons, List.length_nil, if_true, if_false, Bool.false_eq_true, ite_true, ite_false, Bool.not_true, Bool.not_false, inD_l, c]
        rw [mid_same fi]
      · rw [if_neg c] at fi
        rw [Bool.not_eq_true] at c
        have ct : catL (lI ns) (.list [.int (i : Int)]) = some (lI (ns ++ [(i : Int)])) := catL_lI (xs := ns) (ys := [(i : Int)]) (by simp; bv_omega)
        have e1 := ih (i : Int) (ns ++ [(i : Int)]) (by simp; bv_omega)
        have sb : ((l + 1 : Nat) : Int) - 1 = (l : Int) := by bv_omega
        rw [← fi] at e1
        refine ⟨_, _, rfl, ?_, some (.int (i : Int)), rfl⟩
        simp -implicitDefEqProofs only [yQ, zP, zO, wT, zY, yO, yF, xN, xO, wS, yK, yE, xF, wP, yM, yD, xQ, xB, xT, zC, wN, wV, xJ, wM, xM, xL, xD, wZ, xZ, eV0, eVs, xE, wQ, xU, xK, yJ, xS, xV, wO, wR, zB, yU, xR, yW, wY, yP, yH, xY, xW, xG, wU, xI, zF, xC, xX, zG, zA, yZ, yV, zK, zQ, zE, wW, xA, zH, xH, yC, yN, yG, yT, yR, yX, yY, yS, yL, yI, wA, wF, wC, wB, wE, wI, wD, wG, wH, Res.zW, Res.zD, Res.zL, Res.zT, Res.zN, Option.map_some, Option.bind_some, List.set_cons_zero, List.set_cons_succ, List.length_cons, List.length_nil, if_true, if_false, Bool.false_eq_true, ite_true, ite_false, Bool.not_true, Bool.not_false, inD_l, c, ct, sb, e1, set_rm _ _ hi]
        rw [mid_set f]
    · rintro ρ ⟨x, rfl⟩
      rw [List.length_map, List.length_range, mid_all]
      simp -implicitDefEqProofs only [yQ, zP, zO, wT, zY, yO, yF, xN, xO, wS, yK, yE, xF, wP, yM, yD, xQ, xB, xT, zC, wN, wV, xJ, wM, xM, xL, xD, wZ, xZ, eV0, eVs, xE, wQ, xU, xK, yJ, xS, xV, wO, wR, zB, yU, xR, yW, wY, yP, yH, xY, xW, xG, wU, xI, zF, xC, xX, zG, zA, yZ, yV, zK, zQ, zE, wW, xA, zH, xH, yC, yN, yG, yT, yR, yX, yY, yS, yL, yI, wA, wF, wC, wB, wE, wI, wD, wG, wH, Res.zW, Res.zD, Res.zL, Res.zT, Res.zN, Option.map_some, Option.bind_some, List.set_cons_zero, List.set_cons_succ, List.length_cons, List.length_nil, if_true, if_false, Bool.false_eq_true, ite_true, ite_false, Bool.not_true, Bool.not_false, ff]
def fpD (n : Nat) (ops : List Int) : D := .tuple ((List.range n).map fun (p : Nat) => ftD n (ops.getD p 0).toNat (p : Int) [(p : Int)])
theorem enum_ops {n : Nat} {ops : List Int} (q : Opn n ops) : enumD (ops.map PyData.int) = (List.range n).map fun (p : Nat) => PyData.tuple [.int (p : Int), .int ((ops.getD p 0).toNat : Int)] := by
  unfold enumD
  rw [List.length_map, q.len]
  refine List.map_congr_left fun i hi => ?_
  have hi := List.mem_range.mp hi
  have b := q.at hi
  have g : (ops.map PyData.int).getD i .none = .int (ops.getD i 0) := by
    rw [List.getD, List.getElem?_map, List.getD, List.getElem?_eq_getElem (by rw [q.len]; exact hi)]
    rfl
  rw [g, Int.toNat_of_nonneg b.1]
theorem eq_openings_of_a_plan {n : Nat} {ops : List Int} (q : Opn n ops) (h1 : 1 ≤ n) (h2 : n ≤ 6) : F_openings_of_a_plan [tI ops] = .ok (tI ops) := by
  show (B_openings_of_a_plan [some (tI ops)]).bind (fin false) = _
  unfold B_openings_of_a_plan
  simp -implicitDefEqProofs only [yQ, zP, zO, wT, zY, yO, yF, xN, xO, wS, yK, yE, xF, wP, yM, yD, xQ, xB, xT, zC, wN, wV, xJ, wM, xM, xL, xD, wZ, xZ, eV0, eVs, xE, wQ, xU, xK, yJ, xS, xV, wO, wR, zB, yU, xR, yW, wY, yP, yH, xY, xW, xG, wU, xI, zF, xC, xX, zG, zA, yZ, yV, zK, zQ, zE, wW, xA, zH, xH, yC, yN, yG, yT, yR, yX, yY, yS, yL, yI, wA, wF, wC, wB, wE, wI, wD, wG, wH, Res.zW, Res.zD, Res.zL, Res.zT, Res.zN, Option.map_some, Option.bind_some, List.set_cons_zero, List.set_cons_succ, List.length_cons, List.length_nil, if_true, if_false, Bool.false_eq_true, ite_true, ite_false, Bool.not_true, Bool.not_false, List.length_map, q.len, decide_eq_false (show ¬ (6 : Int) < (n : Int) by bv_omega), eq_made_openings q h1 (show n ≤ 60 by bv_omega)]
theorem eq_following_plan {n : Nat} {ops : List Int} (q : Opn n ops) (h1 : 1 ≤ n) (h2 : n ≤ 6) : F_following_plan [tI ops] = .ok (fpD n ops) := by
  show (B_following_plan [some (tI ops), none, none]).bind (fin false) = _
  unfold B_following_plan
  have cc : eComp2 (i_enumerate (eV 1)) tYes (eF F_following_tree (aC (eV 0) (aC (eV 2) (aC (eV 1) (aC (eB mkL (aC (eV 0) aN)) aN))))) [2] [some (tI ops), some (tI ops), some (.int (n : Int))] = .ok (.list ((List.range n).map fun (p : Nat) => ftD n (ops.getD p 0).toNat (p : Int) [(p : Int)])) := by
    refine eComp2_all (fun p : Nat => PyData.int (p : Int)) (fun p : Nat => PyData.int ((ops.getD p 0).toNat : Int)) (fun p : Nat => ftD n (ops.getD p 0).toNat (p : Int) [(p : Int)]) (List.range n) (by simp -implicitDefEqProofs only [yQ, zP, zO, wT, zY, yO, yF, xN, xO, wS, yK, yE, xF, wP, yM, yD, xQ, xB, xT, zC, wN, wV, xJ, wM, xM, xL, xD, wZ, xZ, eV0, eVs, xE, wQ, xU, xK, yJ, xS, xV, wO, wR, zB, yU, xR, yW, wY, yP, yH, xY, xW, xG, wU, xI, zF, xC, xX, zG, zA, yZ, yV, zK, zQ, zE, wW, xA, zH, xH, yC, yN, yG, yT, yR, yX, yY, yS, yL, yI, wA, wF, wC, wB, wE, wI, wD, wG, wH, Res.zW, Res.zD, Res.zL, Res.zT, Res.zN, Option.map_some, Option.bind_some, List.set_cons_zero, List.set_cons_succ, List.length_cons, List.length_nil, if_true, if_false, Bool.false_eq_true, ite_true, ite_false, Bool.not_true, Bool.not_false, enum_ops q]) (by rw [List.length_range]; bv_omega) fun p hp => ?_
    have b := q.at (List.mem_range.mp hp)
    have e := ft_eq h2 (ops.getD p 0).toNat 8 (p : Int) [(p : Int)] (by bv_omega) (by show 1 + _ ≤ 100; bv_omega)
    have e' : F_following_tree [.int (p : Int), .int (n : Int), .int ((ops.getD p 0).toNat : Int), .list [.int (p : Int)]] = _ := e
    show eF F_following_tree _ [some (.int (p : Int)), some (.int ((ops.getD p 0).toNat : Int)), some (.int (n : Int))] = _
    simp -implicitDefEqProofs only [yQ, zP, zO, wT, zY, yO, yF, xN, xO, wS, yK, yE, xF, wP, yM, yD, xQ, xB, xT, zC, wN, wV, xJ, wM, xM, xL, xD, wZ, xZ, eV0, eVs, xE, wQ, xU, xK, yJ, xS, xV, wO, wR, zB, yU, xR, yW, wY, yP, yH, xY, xW, xG, wU, xI, zF, xC, xX, zG, zA, yZ, yV, zK, zQ, zE, wW, xA, zH, xH, yC, yN, yG, yT, yR, yX, yY, yS, yL, yI, wA, wF, wC, wB, wE, wI, wD, wG, wH, Res.zW, Res.zD, Res.zL, Res.zT, Res.zN, Option.map_some, Option.bind_some, List.set_cons_zero, List.set_cons_succ, List.length_cons, List.length_nil, if_true, if_false, Bool.false_eq_true, ite_true, ite_false, Bool.not_true, Bool.not_false, e']
  simp -implicitDefEqProofs only [yQ, zP, zO, wT, zY, yO, yF, xN, xO, wS, yK, yE, xF, wP, yM, yD, xQ, xB, xT, zC, wN, wV, xJ, wM, xM, xL, xD, wZ, xZ, eV0, eVs, xE, wQ, xU, xK, yJ, xS, xV, wO, wR, zB, yU, xR, yW, wY, yP, yH, xY, xW, xG, wU, xI, zF, xC, xX, zG, zA, yZ, yV, zK, zQ, zE, wW, xA, zH, xH, yC, yN, yG, yT, yR, yX, yY, yS, yL, yI, wA, wF, wC, wB, wE, wI, wD, wG, wH, Res.zW, Res.zD, Res.zL, Res.zT, Res.zN, Option.map_some, Option.bind_some, List.set_cons_zero, List.set_cons_succ, List.length_cons, List.length_nil, if_true, if_false, Bool.false_eq_true, ite_true, ite_false, Bool.not_true, Bool.not_false, eq_openings_of_a_plan q h1 h2, List.length_map, q.len, cc]
  rfl
theorem allD_g {α : Type} (xs : List α) (g : α → Bool) : allD [.list (xs.map fun x => PyData.bool (g x))] = some (.bool (xs.all g)) := by
  have e : (xs.map fun x => PyData.bool (g x)) = (xs.map g).map PyData.bool := by rw [List.map_map]; rfl
  show (boolsOf _).map _ = _
  rw [e, boolsOf_map, Option.map_some, List.all_map]
  rfl
theorem isfG_eq {n : Nat} (hn : n ≤ 6) {l : Nat} {bs ns : List Int} {d : D} (T : TreeOk n l bs ns d) : ∀ (k left : Nat), l < k → ns.length + l ≤ 100 → R_is_full_tree k [d, .int (left : Int), lI ns] = .ok (.bool (fuB n left d ns)) := by
  induction T with
  | @none l bs ns =>
    intro k left hk _
    obtain ⟨k, rfl⟩ : ∃ j, k = j + 1 := ⟨k - 1, by bv_omega⟩
    show (B_is_full_tree (R_is_full_tree k) [some .none, some (.int (left : Int)), some (lI ns)]).bind (fin false) = _
    unfold B_is_full_tree
    have i0 : isND false .none .none = some true := rfl
    cases left with
    | zero =>
      simp -implicitDefEqProofs only [yQ, zP, zO, wT, zY, yO, yF, xN, xO, wS, yK, yE, xF, wP, yM, yD, xQ, xB, xT, zC, wN, wV, xJ, wM, xM, xL, xD, wZ, xZ, eV0, eVs, xE, wQ, xU, xK, yJ, xS, xV, wO, wR, zB, yU, xR, yW, wY, yP, yH, xY, xW, xG, wU, xI, zF, xC, xX, zG, zA, yZ, yV, zK, zQ, zE, wW, xA, zH, xH, yC, yN, yG, yT, yR, yX, yY, yS, yL, yI, wA, wF, wC, wB, wE, wI, wD, wG, wH, Res.zW, Res.zD, Res.zL, Res.zT, Res.zN, Option.map_some, Option.bind_some, List.set_cons_zero, List.set_cons_succ, List.length_cons, List.length_nil, if_true, if_false, Bool.false_eq_true, ite_true, ite_false, Bool.not_true, Bool.not_false, i0, eqD_int, show ((0 : Nat) : Int) = 0 from rfl, decide_true]
      rfl
    | succ left =>
      simp -implicitDefEqProofs only [yQ, zP, zO, wT, zY, yO, yF, xN, xO, wS, yK, yE, xF, wP, yM, yD, xQ, xB, xT, zC, wN, wV, xJ, wM, xM, xL, xD, wZ, xZ, eV0, eVs, xE, wQ, xU, xK, yJ, xS, xV, wO, wR, zB, yU, xR, yW, wY, yP, yH, xY, xW, xG, wU, xI, zF, xC, xX, zG, zA, yZ, yV, zK, zQ, zE, wW, xA, zH, xH, yC, yN, yG, yT, yR, yX, yY, yS, yL, yI, wA, wF, wC, wB, wE, wI, wD, wG, wH, Res.zW, Res.zD, Res.zL, Res.zT, Res.zN, Option.map_some, Option.bind_some, List.set_cons_zero, List.set_cons_succ, List.length_cons, List.length_nil, if_true, if_false, Bool.false_eq_true, ite_true, ite_false, Bool.not_true, Bool.not_false, i0, eqD_int, decide_eq_false (show ¬ ((left + 1 : Nat) : Int) = 0 by bv_omega)]
      rfl
  | @node l bs ns b f hb nb hf _ ih =>
    intro k left hk hl
    obtain ⟨k, rfl⟩ : ∃ j, k = j + 1 := ⟨k - 1, by bv_omega⟩
    have i0 : isND false (.tuple [.int (b : Int), .tuple ((List.range n).map f)]) .none = some false := rfl
    cases left with
    | zero =>
      show (B_is_full_tree (R_is_full_tree k) [some (.tuple [.int (b : Int), .tuple ((List.range n).map f)]), some (.int ((0 : Nat) : Int)), some (lI ns)]).bind (fin false) = _
      unfold B_is_full_tree
      simp -implicitDefEqProofs only [yQ, zP, zO, wT, zY, yO, yF, xN, xO, wS, yK, yE, xF, wP, yM, yD, xQ, xB, xT, zC, wN, wV, xJ, wM, xM, xL, xD, wZ, xZ, eV0, eVs, xE, wQ, xU, xK, yJ, xS, xV, wO, wR, zB, yU, xR, yW, wY, yP, yH, xY, xW, xG, wU, xI, zF, xC, xX, zG, zA, yZ, yV, zK, zQ, zE, wW, xA, zH, xH, yC, yN, yG, yT, yR, yX, yY, yS, yL, yI, wA, wF, wC, wB, wE, wI, wD, wG, wH, Res.zW, Res.zD, Res.zL, Res.zT, Res.zN, Option.map_some, Option.bind_some, List.set_cons_zero, List.set_cons_succ, List.length_cons, List.length_nil, if_true, if_false, Bool.false_eq_true, ite_true, ite_false, Bool.not_true, Bool.not_false, i0, eqD_int, show ((0 : Nat) : Int) = 0 from rfl, decide_true]
      rfl
    | succ l =>
      show (B_is_full_tree (R_is_full_tree k) [some (.tuple [.int (b : Int), .tuple ((List.range n).map f)]), some (.int ((l + 1 : Nat) : Int)), some (lI ns)]).bind (fin false) = _
      unfold B_is_full_tree
      have a1 : atI [PyData.int (b : Int), .tuple ((List.range n).map f)] 1 = some (.tuple ((List.range n).map f)) := rfl
      have sb : ((l + 1 : Nat) : Int) - 1 = (l : Int) := by bv_omega
      have cc : eComp2 (i_enumerate (e2 ixD (eV 0) (eC (.int 1)))) (b2 (inD true) (eV 0) (eV 3)) (eF (R_is_full_tree k) (aC (eV 1) (aC (e2 subI (eV 2) (eC (.int 1))) (aC (e2 catL (eV 3) (eB mkL (aC (eV 0) aN))) aN)))) [1, 2] [some (.tuple [.int (b : Int), .tuple ((List.range n).map f)]), some (.int ((l + 1 : Nat) : Int)), some (lI ns)] = .ok (.list (((List.range n).filter fun (i : Nat) => !ns.contains (i : Int)).map fun (i : Nat) => PyData.bool (fuB n l (f i) (ns ++ [(i : Int)])))) := by
        refine eComp2_eq (fun i : Nat => PyData.int (i : Int)) f (fun i : Nat => !ns.contains (i : Int)) (fun i : Nat => PyData.bool (fuB n l (f i) (ns ++ [(i : Int)]))) (List.range n) (by simp -implicitDefEqProofs only [yQ, zP, zO, wT, zY, yO, yF, xN, xO, wS, yK, yE, xF, wP, yM, yD, xQ, xB, xT, zC, wN, wV, xJ, wM, xM, xL, xD, wZ, xZ, eV0, eVs, xE, wQ, xU, xK, yJ, xS, xV, wO, wR, zB, yU, xR, yW, wY, yP, yH, xY, xW, xG, wU, xI, zF, xC, xX, zG, zA, yZ, yV, zK, zQ, zE, wW, xA, zH, xH, yC, yN, yG, yT, yR, yX, yY, yS, yL, yI, wA, wF, wC, wB, wE, wI, wD, wG, wH, Res.zW, Res.zD, Res.zL, Res.zT, Res.zN, Option.map_some, Option.bind_some, List.set_cons_zero, List.set_cons_succ, List.length_cons, List.length_nil, if_true, if_false, Bool.false_eq_true, ite_true, ite_false, Bool.not_true, Bool.not_false, a1, enum_rm]) (by rw [List.length_range]; bv_omega) (fun i _ => ?_) fun i hi c => ?_
        · show b2 (inD true) (eV 0) (eV 3) [some (.int (i : Int)), some (f i), some (.int ((l + 1 : Nat) : Int)), some (lI ns)] = _
          simp -implicitDefEqProofs only [yQ, zP, zO, wT, zY, yO, yF, xN, xO, wS, yK, yE, xF, wP, yM, yD, xQ, xB, xT, zC, wN, wV, xJ, wM, xM, xL, xD, wZ, xZ, eV0, eVs, xE, wQ, xU, xK, yJ, xS, xV, wO, wR, zB, yU, xR, yW, wY, yP, yH, xY, xW, xG, wU, xI, zF, xC, xX, zG, zA, yZ, yV, zK, zQ, zE, wW, xA, zH, xH, yC, yN, yG, yT, yR, yX, yY, yS, yL, yI, wA, wF, wC, wB, wE, wI, wD, wG, wH, Res.zW, Res.zD, Res.zL, Res.zT, Res.zN, Option.map_some, Option.bind_some, List.set_cons_zero, List.set_cons_succ, List.length_cons, List.length_nil, if_true, if_false, Bool.false_eq_true, ite_true, ite_false, Bool.not_true, Bool.not_false, inD_l]
        · have ct : catL (lI ns) (.list [.int (i : Int)]) = some (lI (ns ++ [(i : Int)])) := catL_lI (xs := ns) (ys := [(i : Int)]) (by simp; bv_omega)
          have e1 := ih i (List.mem_range.mp hi) k l (by bv_omega) (by simp; bv_omega)
          show eF (R_is_full_tree k) _ [some (.int (i : Int)), some (f i), some (.int ((l + 1 : Nat) : Int)), some (lI ns)] = _
          simp -implicitDefEqProofs only [yQ, zP, zO, wT, zY, yO, yF, xN, xO, wS, yK, yE, xF, wP, yM, yD, xQ, xB, xT, zC, wN, wV, xJ, wM, xM, xL, xD, wZ, xZ, eV0, eVs, xE, wQ, xU, xK, yJ, xS, xV, wO, wR, zB, yU, xR, yW, wY, yP, yH, xY, xW, xG, wU, xI, zF, xC, xX, zG, zA, yZ, yV, zK, zQ, zE, wW, xA, zH, xH, yC, yN, yG, yT, yR, yX, yY, yS, yL, yI, wA, wF, wC, wB, wE, wI, wD, wG, wH, Res.zW, Res.zD, Res.zL, Res.zT, Res.zN, Option.map_some, Option.bind_some, List.set_cons_zero, List.set_cons_succ, List.length_cons, List.length_nil, if_true, if_false, Bool.false_eq_true, ite_true, ite_false, Bool.not_true, Bool.not_false, ct, sb, e1]
      have i0 : isND false (.tuple [.int (b : Int), .tuple ((List.range n).map f)]) .none = some false := rfl
      have ea : ((List.range n).filter fun (i : Nat) => !ns.contains (i : Int)).all (fun (i : Nat) => fuB n l (f i) (ns ++ [(i : Int)])) = fuB n (l + 1) (.tuple [.int (b : Int), .tuple ((List.range n).map f)]) ns := by
        rw [fuB_node, Bool.eq_iff_iff, List.all_eq_true, List.all_eq_true]
        constructor
        · intro h i hi
          cases c : ns.contains (i : Int) with
          | true => rfl
          | false => exact h i (List.mem_filter.mpr ⟨hi, by rw [c]; rfl⟩)
        · intro h i hi
          obtain ⟨h1, h2⟩ := List.mem_filter.mp hi
          have := h i h1
          have c : ns.contains (i : Int) = false := by simpa using h2
          rw [c, Bool.false_or] at this
          exact this
      simp -implicitDefEqProofs only [yQ, zP, zO, wT, zY, yO, yF, xN, xO, wS, yK, yE, xF, wP, yM, yD, xQ, xB, xT, zC, wN, wV, xJ, wM, xM, xL, xD, wZ, xZ, eV0, eVs, xE, wQ, xU, xK, yJ, xS, xV, wO, wR, zB, yU, xR, yW, wY, yP, yH, xY, xW, xG, wU, xI, zF, xC, xX, zG, zA, yZ, yV, zK, zQ, zE, wW, xA, zH, xH, yC, yN, yG, yT, yR, yX, yY, yS, yL, yI, wA, wF, wC, wB, wE, wI, wD, wG, wH, Res.zW, Res.zD, Res.zL, Res.zT, Res.zN, Option.map_some, Option.bind_some, List.set_cons_zero, List.set_cons_succ, List.length_cons, List.length_nil, if_true, if_false, Bool.false_eq_true, ite_true, ite_false, Bool.not_true, Bool.not_false, i0, eqD_int, decide_eq_false (show ¬ ((l + 1 : Nat) : Int) = 0 by bv_omega), cc, allD_g, ea]
theorem eq_is_fullG {n : Nat} {ops ops' : List Int} {t : Nat → D} (P : PlanOk n ops t) (q : Opn n ops) (q' : Opn n ops') (h1 : 1 ≤ n) (h2 : n ≤ 6) : F_is_full [.tuple ((List.range n).map t), tI ops'] = .ok (.bool ((List.range n).all fun p => fuB n (ops'.getD p 0).toNat (t p) [(p : Int)])) := by
  show (B_is_full [some (.tuple ((List.range n).map t)), some (tI ops')]).bind (fin false) = _
  unfold B_is_full
  have hl : ((List.range n).map t).length = n := by rw [List.length_map, List.length_range]
  have cc : eComp2 (i_enumerate (eV 0)) tYes (eF F_is_full_tree (aC (eV 1) (aC (e2 ixD (eV 2) (eV 0)) (aC (eB mkL (aC (eV 0) aN)) aN)))) [1] [some (.tuple ((List.range n).map t)), some (tI ops')] = .ok (.list ((List.range n).map fun (p : Nat) => PyData.bool (fuB n (ops'.getD p 0).toNat (t p) [(p : Int)]))) := by
    refine eComp2_all (fun p : Nat => PyData.int (p : Int)) t (fun p : Nat => PyData.bool (fuB n (ops'.getD p 0).toNat (t p) [(p : Int)])) (List.range n) (by simp -implicitDefEqProofs only [yQ, zP, zO, wT, zY, yO, yF, xN, xO, wS, yK, yE, xF, wP, yM, yD, xQ, xB, xT, zC, wN, wV, xJ, wM, xM, xL, xD, wZ, xZ, eV0, eVs, xE, wQ, xU, xK, yJ, xS, xV, wO, wR, zB, yU, xR, yW, wY, yP, yH, xY, xW, xG, wU, xI, zF, xC, xX, zG, zA, yZ, yV, zK, zQ, zE, wW, xA, zH, xH, yC, yN, yG, yT, yR, yX, yY, yS, yL, yI, wA, wF, wC, wB, wE, wI, wD, wG, wH, Res.zW, Res.zD, Res.zL, Res.zT, Res.zN, Option.map_some, Option.bind_some, List.set_cons_zero, List.set_cons_succ, List.length_cons, List.length_nil, if_true, if_false, Bool.false_eq_true, ite_true, ite_false, Bool.not_true, Bool.not_false, enum_rm]) (by rw [List.length_range]; bv_omega) fun p hp => ?_
    have hp := List.mem_range.mp hp
    have b := q.at hp
    have e := isfG_eq h2 (P.tree p hp) 8 (ops'.getD p 0).toNat (by bv_omega) (by show 1 + _ ≤ 100; bv_omega)
    have e' : F_is_full_tree [t p, .int ((ops'.getD p 0).toNat : Int), .list [.int (p : Int)]] = _ := e
    show eF F_is_full_tree _ [some (.int (p : Int)), some (t p), some (tI ops')] = _
    simp -implicitDefEqProofs only [yQ, zP, zO, wT, zY, yO, yF, xN, xO, wS, yK, yE, xF, wP, yM, yD, xQ, xB, xT, zC, wN, wV, xJ, wM, xM, xL, xD, wZ, xZ, eV0, eVs, xE, wQ, xU, xK, yJ, xS, xV, wO, wR, zB, yU, xR, yW, wY, yP, yH, xY, xW, xG, wU, xI, zF, xC, xX, zG, zA, yZ, yV, zK, zQ, zE, wW, xA, zH, xH, yC, yN, yG, yT, yR, yX, yY, yS, yL, yI, wA, wF, wC, wB, wE, wI, wD, wG, wH, Res.zW, Res.zD, Res.zL, Res.zT, Res.zN, Option.map_some, Option.bind_some, List.set_cons_zero, List.set_cons_succ, List.length_cons, List.length_nil, if_true, if_false, Bool.false_eq_true, ite_true, ite_false, Bool.not_true, Bool.not_false, atI_opn q' hp, e']
  simp -implicitDefEqProofs only [yQ, zP, zO, wT, zY, yO, yF, xN, xO, wS, yK, yE, xF, wP, yM, yD, xQ, xB, xT, zC, wN, wV, xJ, wM, xM, xL, xD, wZ, xZ, eV0, eVs, xE, wQ, xU, xK, yJ, xS, xV, wO, wR, zB, yU, xR, yW, wY, yP, yH, xY, xW, xG, wU, xI, zF, xC, xX, zG, zA, yZ, yV, zK, zQ, zE, wW, xA, zH, xH, yC, yN, yG, yT, yR, yX, yY, yS, yL, yI, wA, wF, wC, wB, wE, wI, wD, wG, wH, Res.zW, Res.zD, Res.zL, Res.zT, Res.zN, Option.map_some, Option.bind_some, List.set_cons_zero, List.set_cons_succ, List.length_cons, List.length_nil, if_true, if_false, Bool.false_eq_true, ite_true, ite_false, Bool.not_true, Bool.not_false, hl, eq_made_openings q' h1 (show n ≤ 60 by bv_omega), cc, allD_g]
theorem lif_eq {n : Nat} (hn : n ≤ 6) {l : Nat} {bs ns : List Int} {d : D} (T : TreeOk n l bs ns d) : ∀ (k left : Nat), l < k → ns.length + l ≤ 100 → R_l_is_full k [d, lI ns, .int (left : Int)] = .ok (.bool (fuB n left d ns)) := by
  induction T with
  | @none l bs ns =>
    intro k left hk _
    obtain ⟨k, rfl⟩ : ∃ j, k = j + 1 := ⟨k - 1, by bv_omega⟩
    show (B_l_is_full (R_l_is_full k) [some .none, some (lI ns), some (.int (left : Int)), none, none]).bind (fin false) = _
    unfold B_l_is_full
    have i0 : isND false .none .none = some true := rfl
    cases left with
    | zero =>
      simp -implicitDefEqProofs only [yQ, zP, zO, wT, zY, yO, yF, xN, xO, wS, yK, yE, xF, wP, yM, yD, xQ, xB, xT, zC, wN, wV, xJ, wM, xM, xL, xD, wZ, xZ, eV0, eVs, xE, wQ, xU, xK, yJ, xS, xV, wO, wR, zB, yU, xR, yW, wY, yP, yH, xY, xW, xG, wU, xI, zF, xC, xX, zG, zA, yZ, yV, zK, zQ, zE, wW, xA, zH, xH, yC, yN, yG, yT, yR, yX, yY, yS, yL, yI, wA, wF, wC, wB, wE, wI, wD, wG, wH, Res.zW, Res.zD, Res.zL, Res.zT, Res.zN, Option.map_some, Option.bind_some, List.set_cons_zero, List.set_cons_succ, List.length_cons, List.length_nil, if_true, if_false, Bool.false_eq_true, ite_true, ite_false, Bool.not_true, Bool.not_false, i0, eqD_int, show ((0 : Nat) : Int) = 0 from rfl, decide_true]
      rfl
    | succ left =>
      simp -implicitDefEqProofs only [yQ, zP, zO, wT, zY, yO, yF, xN, xO, wS, yK, yE, xF, wP, yM, yD, xQ, xB, xT, zC, wN, wV, xJ, wM, xM, xL, xD, wZ, xZ, eV0, eVs, xE, wQ, xU, xK, yJ, xS, xV, wO, wR, zB, yU, xR, yW, wY, yP, yH, xY, xW, xG, wU, xI, zF, xC, xX, zG, zA, yZ, yV, zK, zQ, zE, wW, xA, zH, xH, yC, yN, yG, yT, yR, yX, yY, yS, yL, yI, wA, wF, wC, wB, wE, wI, wD, wG, wH, Res.zW, Res.zD, Res.zL, Res.zT, Res.zN, Option.map_some, Option.bind_some, List.set_cons_zero, List.set_cons_succ, List.length_cons, List.length_nil, if_true, if_false, Bool.false_eq_true, ite_true, ite_false, Bool.not_true, Bool.not_false, i0, eqD_int, decide_eq_false (show ¬ ((left + 1 : Nat) : Int) = 0 by bv_omega)]
      rfl
  | @node l bs ns b f hb nb hf _ ih =>
    intro k left hk hl
    obtain ⟨k, rfl⟩ : ∃ j, k = j + 1 := ⟨k - 1, by bv_omega⟩
    have i0 : isND false (.tuple [.int (b : Int), .tuple ((List.range n).map f)]) .none = some false := rfl
    cases left with
    | zero =>
      show (B_l_is_full (R_l_is_full k) [some (.tuple [.int (b : Int), .tuple ((List.range n).map f)]), some (lI ns), some (.int ((0 : Nat) : Int)), none, none]).bind (fin false) = _
      unfold B_l_is_full
      simp -implicitDefEqProofs only [yQ, zP, zO, wT, zY, yO, yF, xN, xO, wS, yK, yE, xF, wP, yM, yD, xQ, xB, xT, zC, wN, wV, xJ, wM, xM, xL, xD, wZ, xZ, eV0, eVs, xE, wQ, xU, xK, yJ, xS, xV, wO, wR, zB, yU, xR, yW, wY, yP, yH, xY, xW, xG, wU, xI, zF, xC, xX, zG, zA, yZ, yV, zK, zQ, zE, wW, xA, zH, xH, yC, yN, yG, yT, yR, yX, yY, yS, yL, yI, wA, wF, wC, wB, wE, wI, wD, wG, wH, Res.zW, Res.zD, Res.zL, Res.zT, Res.zN, Option.map_some, Option.bind_some, List.set_cons_zero, List.set_cons_succ, List.length_cons, List.length_nil, if_true, if_false, Bool.false_eq_true, ite_true, ite_false, Bool.not_true, Bool.not_false, i0, eqD_int, show ((0 : Nat) : Int) = 0 from rfl, decide_true]
      rfl
    | succ left =>
      show (B_l_is_full (R_l_is_full k) [some (.tuple [.int (b : Int), .tuple ((List.range n).map f)]), some (lI ns), some (.int ((left + 1 : Nat) : Int)), none, none]).bind (fin false) = _
      unfold B_l_is_full
      have a1 : atI [PyData.int (b : Int), .tuple ((List.range n).map f)] 1 = some (.tuple ((List.range n).map f)) := rfl
      have sb : ((left + 1 : Nat) : Int) - 1 = (left : Int) := by bv_omega
      have ln : ((List.range n).map f).length = n := by rw [List.length_map, List.length_range]
      simp -implicitDefEqProofs only [yQ, zP, zO, wT, zY, yO, yF, xN, xO, wS, yK, yE, xF, wP, yM, yD, xQ, xB, xT, zC, wN, wV, xJ, wM, xM, xL, xD, wZ, xZ, eV0, eVs, xE, wQ, xU, xK, yJ, xS, xV, wO, wR, zB, yU, xR, yW, wY, yP, yH, xY, xW, xG, wU, xI, zF, xC, xX, zG, zA, yZ, yV, zK, zQ, zE, wW, xA, zH, xH, yC, yN, yG, yT, yR, yX, yY, yS, yL, yI, wA, wF, wC, wB, wE, wI, wD, wG, wH, Res.zW, Res.zD, Res.zL, Res.zT, Res.zN, Option.map_some, Option.bind_some, List.set_cons_zero, List.set_cons_succ, List.length_cons, List.length_nil, if_true, if_false, Bool.false_eq_true, ite_true, ite_false, Bool.not_true, Bool.not_false, i0, eqD_int, decide_eq_false (show ¬ ((left + 1 : Nat) : Int) = 0 by bv_omega), a1, ln, rng_nat (show n ≤ 1000 by bv_omega)]
      refine forM_b2 (fun i ρ => ∃ x, ρ = [some (.tuple [.int (b : Int), .tuple ((List.range n).map f)]), some (lI ns), some (.int ((left + 1 : Nat) : Int)), some (.bool ((List.range i).all fun j => ns.contains (j : Int) || fuB n left (f j) (ns ++ [(j : Int)]))), x]) ⟨none, rfl⟩ ?_ ?_
      · rintro i d ρ hd ⟨x, rfl⟩
        obtain ⟨hi, rfl⟩ := rng_get hd
        have st : ((List.range (i + 1)).all fun j => ns.contains (j : Int) || fuB n left (f j) (ns ++ [(j : Int)])) = (((List.range i).all fun j => ns.contains (j : Int) || fuB n left (f j) (ns ++ [(j : Int)])) && (ns.contains (i : Int) || fuB n left (f i) (ns ++ [(i : Int)]))) := by
          rw [List.range_succ, List.all_append]
          simp
        refine ⟨_, [some (.tuple [.int (b : Int), .tuple ((List.range n).map f)]), some (lI ns), some (.int ((left + 1 : Nat) : Int)), some (.bool ((List.range (i + 1)).all fun j => ns.contains (j : Int) || fuB n left (f j) (ns ++ [(j : Int)]))), some (.int (i : Int))], rfl, ?_, _, rfl⟩
        rw [st]
        generalize ((List.range i).all fun j => ns.contains (j : Int) || fuB n left (f j) (ns ++ [(j : Int)])) = B
        cases c : ns.contains (i : Int) with
        | true =>
          rw [Bool.true_or, Bool.and_true]
          simp -implicitDefEqProofs only [yQ, zP, zO, wT, zY, yO, yF, xN, xO, wS, yK, yE, xF, wP, yM, yD, xQ, xB, xT, zC, wN, wV, xJ, wM, xM, xL, xD, wZ, xZ, eV0, eVs, xE, wQ, xU, xK, yJ, xS, xV, wO, wR, zB, yU, xR, yW, wY, yP, yH, xY, xW, xG, wU, xI, zF, xC, xX, zG, zA, yZ, yV, zK, zQ, zE, wW, xA, zH, xH, yC, yN, yG, yT, yR, yX, yY, yS, yL, yI, wA, wF, wC, wB, wE, wI, wD, wG, wH, Res.zW, Res.zD, Res.zL, Res.zT, Res.zN, Option.map_some, Option.bind_some, List.set_cons_zero, List.set_cons_succ, List.length_cons, List.length_nil, if_true, if_false, Bool.false_eq_true, ite_true, ite_false, Bool.not_true, Bool.not_false, inD_l, c]
        | false =>
          rw [Bool.false_or]
          cases B with
          | false =>
            rw [Bool.false_and]
            simp -implicitDefEqProofs only [yQ, zP, zO, wT, zY, yO, yF, xN, xO, wS, yK, yE, xF, wP, yM, yD, xQ, xB, xT, zC, wN, wV, xJ, wM, xM, xL, xD, wZ, xZ, eV0, eVs, xE, wQ, xU, xK, yJ, xS, xV, wO, wR, zB, yU, xR, yW, wY, yP, yH, xY, xW, xG, wU, xI, zF, xC, xX, zG, zA, yZ, yV, zK, zQ, zE, wW, xA, zH, xH, yC, yN, yG, yT, yR, yX, yY, yS, yL, yI, wA, wF, wC, wB, wE, wI, wD, wG, wH, Res.zW, Res.zD, Res.zL, Res.zT, Res.zN, Option.map_some, Option.bind_some, List.set_cons_zero, List.set_cons_succ, List.length_cons, List.length_nil, if_true, if_false, Bool.false_eq_true, ite_true, ite_false, Bool.not_true, Bool.not_false, inD_l, c]
          | true =>
            rw [Bool.true_and]
            have ct : catL (lI ns) (.list [.int (i : Int)]) = some (lI (ns ++ [(i : Int)])) := catL_lI (xs := ns) (ys := [(i : Int)]) (by simp; bv_omega)
            have e1 := ih i hi k left (by bv_omega) (by simp; bv_omega)
            have at2 := atI_rm f hi
            simp -implicitDefEqProofs only [yQ, zP, zO, wT, zY, yO, yF, xN, xO, wS, yK, yE, xF, wP, yM, yD, xQ, xB, xT, zC, wN, wV, xJ, wM, xM, xL, xD, wZ, xZ, eV0, eVs, xE, wQ, xU, xK, yJ, xS, xV, wO, wR, zB, yU, xR, yW, wY, yP, yH, xY, xW, xG, wU, xI, zF, xC, xX, zG, zA, yZ, yV, zK, zQ, zE, wW, xA, zH, xH, yC, yN, yG, yT, yR, yX, yY, yS, yL, yI, wA, wF, wC, wB, wE, wI, wD, wG, wH, Res.zW, Res.zD, Res.zL, Res.zT, Res.zN, Option.map_some, Option.bind_some, List.set_cons_zero, List.set_cons_succ, List.length_cons, List.length_nil, if_true, if_false, Bool.false_eq_true, ite_true, ite_false, Bool.not_true, Bool.not_false, inD_l, c, a1, at2, ct, sb, e1]
      · rintro ρ ⟨x, rfl⟩
        rw [List.length_map, List.length_range, fuB_node]
        simp -implicitDefEqProofs only [yQ, zP, zO, wT, zY, yO, yF, xN, xO, wS, yK, yE, xF, wP, yM, yD, xQ, xB, xT, zC, wN, wV, xJ, wM, xM, xL, xD, wZ, xZ, eV0, eVs, xE, wQ, xU, xK, yJ, xS, xV, wO, wR, zB, yU, xR, yW, wY, yP, yH, xY, xW, xG, wU, xI, zF, xC, xX, zG, zA, yZ, yV, zK, zQ, zE, wW, xA, zH, xH, yC, yN, yG, yT, yR, yX, yY, yS, yL, yI, wA, wF, wC, wB, wE, wI, wD, wG, wH, Res.zW, Res.zD, Res.zL, Res.zT, Res.zN, Option.map_some, Option.bind_some, List.set_cons_zero, List.set_cons_succ, List.length_cons, List.length_nil, if_true, if_false, Bool.false_eq_true, ite_true, ite_false, Bool.not_true, Bool.not_false]
theorem flat_take {α β : Type} (f : α → List β) (rs : List α) (j : Nat) : ((rs.take j).flatMap f).length ≤ (rs.flatMap f).length := by
  have e : rs.flatMap f = (rs.take j).flatMap f ++ (rs.drop j).flatMap f := by rw [← List.flatMap_append, List.take_append_drop]
  rw [e, List.length_append]
  bv_omega
def stO (k : Nat) (rs : List (List Int)) : List (List Int) := rs.flatMap fun r => (List.range (r.length + 1)).map fun j => insAt r j (k : Int)
theorem eq_l_all_orders {n : Nat} (hn : n ≤ 5) : F_l_all_orders [.int (n : Int)] = .ok (rows (allO n)) := by
  show (B_l_all_orders [some (.int (n : Int)), none, none, none, none]).bind (fin false) = _
  unfold B_l_all_orders
  have mt : mkT ([] : List D) = some (.tuple []) := wI
  simp -implicitDefEqProofs only [yQ, zP, zO, wT, zY, yO, yF, xN, xO, wS, yK, yE, xF, wP, yM, yD, xQ, xB, xT, zC, wN, wV, xJ, wM, xM, xL, xD, wZ, xZ, eV0, eVs, xE, wQ, xU, xK, yJ, xS, xV, wO, wR, zB, yU, xR, yW, wY, yP, yH, xY, xW, xG, wU, xI, zF, xC, xX, zG, zA, yZ, yV, zK, zQ, zE, wW, xA, zH, xH, yC, yN, yG, yT, yR, yX, yY, yS, yL, yI, wA, wF, wC, wB, wE, wI, wD, wG, wH, Res.zW, Res.zD, Res.zL, Res.zT, Res.zN, Option.map_some, Option.bind_some, List.set_cons_zero, List.set_cons_succ, List.length_cons, List.length_nil, if_true, if_false, Bool.false_eq_true, ite_true, ite_false, Bool.not_true, Bool.not_false, mt, rng_nat (n := n) (by bv_omega)]
  refine forM_b2 (fun i ρ => ∃ x y z, ρ = [some (.int (n : Int)), some (rows (allO i)), x, y, z]) ⟨none, none, none, rfl⟩ ?_ ?_
  · rintro i d ρ hd ⟨x, y, z, rfl⟩
    obtain ⟨hi, rfl⟩ := rng_get hd
    have few : (allO (i + 1)).length ≤ 120 := by
      rw [all_len]
      have : ∀ k, k ≤ 5 → fac k ≤ 120 := by decide
      exact this (i + 1) (by bv_omega)
    have al : allO (i + 1) = stO i (allO i) := rfl
    rw [al] at few
    have inner : ∃ z', L3.forM (gN 4) (sM 3 extD (aC (eComp (iR rng1 (aC (e2 addI (eB lenD (aC (eV 4) aN)) (eC (.int 1))) aN)) tYes (e2 catT (e2 catT (eS slD (eV 1) oN (oS (eV 0))) (eB mkT (aC (eV 2) aN))) (eS slD (eV 1) (oS (eV 0)) oN)) [4, 2]) aN)) ((allO i).map tI) [some (.int (n : Int)), some (rows (allO i)), some (.int (i : Int)), some (.list []), z] = .ok (.nx [some (.int (n : Int)), some (rows (allO i)), some (.int (i : Int)), some (rows (stO i (allO i))), z']) := by
      obtain ⟨ρ', e, z', rfl⟩ := forM_ok (g := gN 4) (b := sM 3 extD (aC (eComp (iR rng1 (aC (e2 addI (eB lenD (aC (eV 4) aN)) (eC (.int 1))) aN)) tYes (e2 catT (e2 catT (eS slD (eV 1) oN (oS (eV 0))) (eB mkT (aC (eV 2) aN))) (eS slD (eV 1) (oS (eV 0)) oN)) [4, 2]) aN))
        (fun j ρ => ∃ z', ρ = [some (.int (n : Int)), some (rows (allO i)), some (.int (i : Int)), some (rows (stO i ((allO i).take j))), z']) ((allO i).map tI) [some (.int (n : Int)), some (rows (allO i)), some (.int (i : Int)), some (.list []), z] ⟨z, rfl⟩ (by
          rintro j d ρ hd ⟨z', rfl⟩
          rw [List.getElem?_map] at hd
          obtain ⟨r, hr, rfl⟩ := Option.map_eq_some_iff.mp hd
          have o := all_ord (List.mem_of_getElem? hr)
          have lr : (r.map PyData.int).length = i := by rw [List.length_map, o.len]
          have cc : eComp (iR rng1 (aC (e2 addI (eB lenD (aC (eV 4) aN)) (eC (.int 1))) aN)) tYes (e2 catT (e2 catT (eS slD (eV 1) oN (oS (eV 0))) (eB mkT (aC (eV 2) aN))) (eS slD (eV 1) (oS (eV 0)) oN)) [4, 2] [some (.int (n : Int)), some (rows (allO i)), some (.int (i : Int)), some (rows (stO i ((allO i).take j))), some (tI r)] = .ok (rows ((List.range (r.length + 1)).map fun j => insAt r j (i : Int))) := by
            have rn := rng_nat (show i + 1 ≤ 1000 by bv_omega)
            have rn' : rng1 [.int ((i : Int) + 1)] = _ := rn
            rw [eComp_all (fun x : Nat => PyData.int (x : Int)) (fun x : Nat => tI (insAt r x (i : Int))) (List.range (i + 1)) (by simp -implicitDefEqProofs only [yQ, zP, zO, wT, zY, yO, yF, xN, xO, wS, yK, yE, xF, wP, yM, yD, xQ, xB, xT, zC, wN, wV, xJ, wM, xM, xL, xD, wZ, xZ, eV0, eVs, xE, wQ, xU, xK, yJ, xS, xV, wO, wR, zB, yU, xR, yW, wY, yP, yH, xY, xW, xG, wU, xI, zF, xC, xX, zG, zA, yZ, yV, zK, zQ, zE, wW, xA, zH, xH, yC, yN, yG, yT, yR, yX, yY, yS, yL, yI, wA, wF, wC, wB, wE, wI, wD, wG, wH, Res.zW, Res.zD, Res.zL, Res.zT, Res.zN, Option.map_some, Option.bind_some, List.set_cons_zero, List.set_cons_succ, List.length_cons, List.length_nil, if_true, if_false, Bool.false_eq_true, ite_true, ite_false, Bool.not_true, Bool.not_false, lr, rn']) (by rw [List.length_range]; bv_omega) (fun x hx => by
              have c1 : cutD (r.map PyData.int) none (some (x : Int)) = (r.take x).map PyData.int := by rw [cut_to, List.map_take]
              have c2 : cutD (r.map PyData.int) (some (x : Int)) none = (r.drop x).map PyData.int := by rw [cut_from, List.map_drop]
              have k1 : catT (.tuple ((r.take x).map PyData.int)) (.tuple [.int (i : Int)]) = some (tI (r.take x ++ [(i : Int)])) := catT_tI (xs := r.take x) (ys := [(i : Int)]) (by rw [List.length_take, o.len]; simp; bv_omega)
              have k2 : catT (tI (r.take x ++ [(i : Int)])) (.tuple ((r.drop x).map PyData.int)) = some (tI ((r.take x ++ [(i : Int)]) ++ r.drop x)) := catT_tI (by rw [List.length_append, List.length_take, List.length_drop, o.len]; simp; bv_omega)
              show e2 catT _ _ [some (.int (x : Int)), some (tI r), some (.int (i : Int))] = _
              simp -implicitDefEqProofs only [yQ, zP, zO, wT, zY, yO, yF, xN, xO, wS, yK, yE, xF, wP, yM, yD, xQ, xB, xT, zC, wN, wV, xJ, wM, xM, xL, xD, wZ, xZ, eV0, eVs, xE, wQ, xU, xK, yJ, xS, xV, wO, wR, zB, yU, xR, yW, wY, yP, yH, xY, xW, xG, wU, xI, zF, xC, xX, zG, zA, yZ, yV, zK, zQ, zE, wW, xA, zH, xH, yC, yN, yG, yT, yR, yX, yY, yS, yL, yI, wA, wF, wC, wB, wE, wI, wD, wG, wH, Res.zW, Res.zD, Res.zL, Res.zT, Res.zN, Option.map_some, Option.bind_some, List.set_cons_zero, List.set_cons_succ, List.length_cons, List.length_nil, if_true, if_false, Bool.false_eq_true, ite_true, ite_false, Bool.not_true, Bool.not_false, c1, c2, k1, k2]
              unfold insAt
              rw [List.append_assoc]
              rfl)]
            show _ = Res.ok (PyData.list _)
            rw [List.map_map, o.len]
            rfl
          have e1 : (allO i).take (j + 1) = (allO i).take j ++ [r] := by rw [List.take_succ, hr]; rfl
          have e2' : stO i ((allO i).take (j + 1)) = stO i ((allO i).take j) ++ (List.range (r.length + 1)).map fun j => insAt r j (i : Int) := by
            rw [e1]
            unfold stO
            rw [List.flatMap_append]
            simp
          have fw : (stO i ((allO i).take (j + 1))).length ≤ 120 := Nat.le_trans (flat_take (fun r => (List.range (r.length + 1)).map fun j => insAt r j (i : Int)) (allO i) (j + 1)) few
          rw [e2', List.length_append] at fw
          have ex := ext_le (l := (stO i ((allO i).take j)).map tI) (k := ((List.range (r.length + 1)).map fun j => insAt r j (i : Int)).map tI) (d := rows ((List.range (r.length + 1)).map fun j => insAt r j (i : Int))) rfl (by rw [List.length_map, List.length_map]; bv_omega)
          refine ⟨_, _, rfl, ?_, some (tI r), rfl⟩
          show sM 3 extD _ [some (.int (n : Int)), some (rows (allO i)), some (.int (i : Int)), some (rows (stO i ((allO i).take j))), some (tI r)] = _
          simp -implicitDefEqProofs only [yQ, zP, zO, wT, zY, yO, yF, xN, xO, wS, yK, yE, xF, wP, yM, yD, xQ, xB, xT, zC, wN, wV, xJ, wM, xM, xL, xD, wZ, xZ, eV0, eVs, xE, wQ, xU, xK, yJ, xS, xV, wO, wR, zB, yU, xR, yW, wY, yP, yH, xY, xW, xG, wU, xI, zF, xC, xX, zG, zA, yZ, yV, zK, zQ, zE, wW, xA, zH, xH, yC, yN, yG, yT, yR, yX, yY, yS, yL, yI, wA, wF, wC, wB, wE, wI, wD, wG, wH, Res.zW, Res.zD, Res.zL, Res.zT, Res.zN, Option.map_some, Option.bind_some, List.set_cons_zero, List.set_cons_succ, List.length_cons, List.length_nil, if_true, if_false, Bool.false_eq_true, ite_true, ite_false, Bool.not_true, Bool.not_false, cc, ex]
          rw [e2', ← List.map_append])
      rw [List.length_map, List.take_length] at e
      exact ⟨z', e⟩
    obtain ⟨z', inner⟩ := inner
    refine ⟨_, _, rfl, ?_, some (.int (i : Int)), none, z', rfl⟩
    simp -implicitDefEqProofs only [yQ, zP, zO, wT, zY, yO, yF, xN, xO, wS, yK, yE, xF, wP, yM, yD, xQ, xB, xT, zC, wN, wV, xJ, wM, xM, xL, xD, wZ, xZ, eV0, eVs, xE, wQ, xU, xK, yJ, xS, xV, wO, wR, zB, yU, xR, yW, wY, yP, yH, xY, xW, xG, wU, xI, zF, xC, xX, zG, zA, yZ, yV, zK, zQ, zE, wW, xA, zH, xH, yC, yN, yG, yT, yR, yX, yY, yS, yL, yI, wA, wF, wC, wB, wE, wI, wD, wG, wH, Res.zW, Res.zD, Res.zL, Res.zT, Res.zN, Option.map_some, Option.bind_some, List.set_cons_zero, List.set_cons_succ, List.length_cons, List.length_nil, if_true, if_false, Bool.false_eq_true, ite_true, ite_false, Bool.not_true, Bool.not_false, inner]
    rw [al]
  · rintro ρ ⟨x, y, z, rfl⟩
    rw [List.length_map, List.length_range]
    simp -implicitDefEqProofs only [yQ, zP, zO, wT, zY, yO, yF, xN, xO, wS, yK, yE, xF, wP, yM, yD, xQ, xB, xT, zC, wN, wV, xJ, wM, xM, xL, xD, wZ, xZ, eV0, eVs, xE, wQ, xU, xK, yJ, xS, xV, wO, wR, zB, yU, xR, yW, wY, yP, yH, xY, xW, xG, wU, xI, zF, xC, xX, zG, zA, yZ, yV, zK, zQ, zE, wW, xA, zH, xH, yC, yN, yG, yT, yR, yX, yY, yS, yL, yI, wA, wF, wC, wB, wE, wI, wD, wG, wH, Res.zW, Res.zD, Res.zL, Res.zT, Res.zN, Option.map_some, Option.bind_some, List.set_cons_zero, List.set_cons_succ, List.length_cons, List.length_nil, if_true, if_false, Bool.false_eq_true, ite_true, ite_false, Bool.not_true, Bool.not_false]
theorem eq_l_cell_at (ns : List Int) (k : Nat) : F_l_cell_at [lI ns, .int k] = .ok (.int (ns.getD k 0)) := by
  show (B_l_cell_at [some (lI ns), some (.int k)]).bind (fin false) = _
  unfold B_l_cell_at
  simp -implicitDefEqProofs only [yQ, zP, zO, wT, zY, yO, yF, xN, xO, wS, yK, yE, xF, wP, yM, yD, xQ, xB, xT, zC, wN, wV, xJ, wM, xM, xL, xD, wZ, xZ, eV0, eVs, xE, wQ, xU, xK, yJ, xS, xV, wO, wR, zB, yU, xR, yW, wY, yP, yH, xY, xW, xG, wU, xI, zF, xC, xX, zG, zA, yZ, yV, zK, zQ, zE, wW, xA, zH, xH, yC, yN, yG, yT, yR, yX, yY, yS, yL, yI, wA, wF, wC, wB, wE, wI, wD, wG, wH, Res.zW, Res.zD, Res.zL, Res.zT, Res.zN, Option.map_some, Option.bind_some, List.set_cons_zero, List.set_cons_succ, List.length_cons, List.length_nil, if_true, if_false, Bool.false_eq_true, ite_true, ite_false, Bool.not_true, Bool.not_false, List.length_map, atI_map]
  by_cases h : k < ns.length
  · rw [decide_eq_true (by bv_omega)]
    simp -implicitDefEqProofs only [yQ, zP, zO, wT, zY, yO, yF, xN, xO, wS, yK, yE, xF, wP, yM, yD, xQ, xB, xT, zC, wN, wV, xJ, wM, xM, xL, xD, wZ, xZ, eV0, eVs, xE, wQ, xU, xK, yJ, xS, xV, wO, wR, zB, yU, xR, yW, wY, yP, yH, xY, xW, xG, wU, xI, zF, xC, xX, zG, zA, yZ, yV, zK, zQ, zE, wW, xA, zH, xH, yC, yN, yG, yT, yR, yX, yY, yS, yL, yI, wA, wF, wC, wB, wE, wI, wD, wG, wH, Res.zW, Res.zD, Res.zL, Res.zT, Res.zN, Option.map_some, Option.bind_some, List.set_cons_zero, List.set_cons_succ, List.length_cons, List.length_nil, if_true, if_false, Bool.false_eq_true, ite_true, ite_false, Bool.not_true, Bool.not_false, atI_getD h]
  · rw [decide_eq_false (by bv_omega)]
    simp -implicitDefEqProofs only [yQ, zP, zO, wT, zY, yO, yF, xN, xO, wS, yK, yE, xF, wP, yM, yD, xQ, xB, xT, zC, wN, wV, xJ, wM, xM, xL, xD, wZ, xZ, eV0, eVs, xE, wQ, xU, xK, yJ, xS, xV, wO, wR, zB, yU, xR, yW, wY, yP, yH, xY, xW, xG, wU, xI, zF, xC, xX, zG, zA, yZ, yV, zK, zQ, zE, wW, xA, zH, xH, yC, yN, yG, yT, yR, yX, yY, yS, yL, yI, wA, wF, wC, wB, wE, wI, wD, wG, wH, Res.zW, Res.zD, Res.zL, Res.zT, Res.zN, Option.map_some, Option.bind_some, List.set_cons_zero, List.set_cons_succ, List.length_cons, List.length_nil, if_true, if_false, Bool.false_eq_true, ite_true, ite_false, Bool.not_true, Bool.not_false, List.getD_eq_getElem?_getD, List.getElem?_eq_none (Nat.le_of_not_lt h), Option.getD_none]
theorem eq_l_whole (i : Int) : F_l_whole [.int i] = .ok (.bool true) := by
  show (B_l_whole [some (.int i)]).bind (fin false) = _
  unfold B_l_whole
  simp -implicitDefEqProofs only [yQ, zP, zO, wT, zY, yO, yF, xN, xO, wS, yK, yE, xF, wP, yM, yD, xQ, xB, xT, zC, wN, wV, xJ, wM, xM, xL, xD, wZ, xZ, eV0, eVs, xE, wQ, xU, xK, yJ, xS, xV, wO, wR, zB, yU, xR, yW, wY, yP, yH, xY, xW, xG, wU, xI, zF, xC, xX, zG, zA, yZ, yV, zK, zQ, zE, wW, xA, zH, xH, yC, yN, yG, yT, yR, yX, yY, yS, yL, yI, wA, wF, wC, wB, wE, wI, wD, wG, wH, Res.zW, Res.zD, Res.zL, Res.zT, Res.zN, Option.map_some, Option.bind_some, List.set_cons_zero, List.set_cons_succ, List.length_cons, List.length_nil, if_true, if_false, Bool.false_eq_true, ite_true, ite_false, Bool.not_true, Bool.not_false]
theorem dig_opn {m : Int} {n : Nat} (p : Int) (hm : 0 < m) (h : m ≤ (n : Int) + 1) : Opn n (digD m p n) := by
  unfold digD
  refine ⟨by rw [List.length_map, List.length_range], fun z hz => ?_⟩
  obtain ⟨i, _, rfl⟩ := List.mem_map.mp hz
  have h0 := Int.emod_nonneg (pwD m p i) (Int.ne_of_gt hm)
  have h1 := Int.emod_lt_of_pos (pwD m p i) hm
  exact ⟨h0, by bv_omega⟩
theorem gr_opn (p : Int) : ∃ (n : Nat) (ops : List Int), 1 ≤ n ∧ n ≤ 5 ∧ Opn n ops ∧ grD 4 5 4 p = .tuple [.int (n : Int), tI ops] := by
  have h0 := Int.emod_nonneg p (show (4 : Int) ≠ 0 by decide)
  have h1 := Int.emod_lt_of_pos p (show (0 : Int) < 4 by decide)
  obtain ⟨n, hn⟩ : ∃ n : Nat, 1 + p % 4 = (n : Int) := ⟨(1 + p % 4).toNat, by bv_omega⟩
  unfold grD
  rw [hn, Int.toNat_natCast]
  split
  · exact ⟨5, _, by decide, by decide, dig_opn (m := 4) (n := 5) _ (by decide) (by decide), rfl⟩
  · exact ⟨n, _, by bv_omega, by bv_omega, dig_opn _ (by bv_omega) (by bv_omega), rfl⟩
theorem eq_l_ground (ns : List Int) : ∃ (n : Nat) (ops : List Int), 1 ≤ n ∧ n ≤ 5 ∧ Opn n ops ∧ F_l_ground [lI ns] = .ok (.tuple [.int (n : Int), tI ops]) := by
  obtain ⟨n, ops, h1, h2, q, eg⟩ := gr_opn (ns.getD 0 0)
  refine ⟨n, ops, h1, h2, q, ?_⟩
  have e' : F_l_cell_at [lI ns, .int 0] = .ok (.int (ns.getD 0 0)) := eq_l_cell_at ns 0
  rw [← eg]
  exact grF_eq e'
theorem eq_l_sums3 (ns : List Int) {n : Nat} (h1 : 1 ≤ n) (h2 : n ≤ 7) : ∃ ms : List Int, ms.length = n ∧ F_l_sums [lI ns, .int 3, .int (n : Int)] = .ok (lI ms) := by
  refine ⟨(List.range n).map fun (k : Nat) => (pick3 ns (some (3 + (k : Int))) none (some (n : Int))).sum, by simp, ?_⟩
  show (B_l_sums [some (lI ns), some (.int 3), some (.int (n : Int))]).bind (fin true) = _
  unfold B_l_sums
  have c1 : eComp (iR rng1 (aC (eV 2) aN)) tYes (eB sumD (aC (eS3 (eV 1) (oS (e2 addI (eV 2) (eV 0))) oN (oS (eV 3))) aN)) [0, 1, 2] [some (lI ns), some (.int 3), some (.int (n : Int))] = .ok (lI ((List.range n).map fun (k : Nat) => (pick3 ns (some (3 + (k : Int))) none (some (n : Int))).sum)) := by
    have := eComp_all (mi := iR rng1 (aC (eV 2) aN)) (me := eB sumD (aC (eS3 (eV 1) (oS (e2 addI (eV 2) (eV 0))) oN (oS (eV 3))) aN)) (js := [0, 1, 2]) (ρ := [some (lI ns), some (.int 3), some (.int (n : Int))]) (fun k : Nat => PyData.int (k : Int)) (fun k => .int (pick3 ns (some (3 + (k : Int))) none (some (n : Int))).sum) (List.range n) (by simp -implicitDefEqProofs only [yQ, zP, zO, wT, zY, yO, yF, xN, xO, wS, yK, yE, xF, wP, yM, yD, xQ, xB, xT, zC, wN, wV, xJ, wM, xM, xL, xD, wZ, xZ, eV0, eVs, xE, wQ, xU, xK, yJ, xS, xV, wO, wR, zB, yU, xR, yW, wY, yP, yH, xY, xW, xG, wU, xI, zF, xC, xX, zG, zA, yZ, yV, zK, zQ, zE, wW, xA, zH, xH, yC, yN, yG, yT, yR, yX, yY, yS, yL, yI, wA, wF, wC, wB, wE, wI, wD, wG, wH, Res.zW, Res.zD, Res.zL, Res.zT, Res.zN, Option.map_some, Option.bind_some, List.set_cons_zero, List.set_cons_succ, List.length_cons, List.length_nil, if_true, if_false, Bool.false_eq_true, ite_true, ite_false, Bool.not_true, Bool.not_false, rng_nat (show n ≤ 1000 by bv_omega)]) (by rw [List.length_range]; bv_omega) fun k hk => by
      show eB sumD _ [some (.int (k : Int)), some (lI ns), some (.int 3), some (.int (n : Int))] = _
      simp -implicitDefEqProofs only [yQ, zP, zO, wT, zY, yO, yF, xN, xO, wS, yK, yE, xF, wP, yM, yD, xQ, xB, xT, zC, wN, wV, xJ, wM, xM, xL, xD, wZ, xZ, eV0, eVs, xE, wQ, xU, xK, yJ, xS, xV, wO, wR, zB, yU, xR, yW, wY, yP, yH, xY, xW, xG, wU, xI, zF, xC, xX, zG, zA, yZ, yV, zK, zQ, zE, wW, xA, zH, xH, yC, yN, yG, yT, yR, yX, yY, yS, yL, yI, wA, wF, wC, wB, wE, wI, wD, wG, wH, Res.zW, Res.zD, Res.zL, Res.zT, Res.zN, Option.map_some, Option.bind_some, List.set_cons_zero, List.set_cons_succ, List.length_cons, List.length_nil, if_true, if_false, Bool.false_eq_true, ite_true, ite_false, Bool.not_true, Bool.not_false, if_pos (show (some (n : Int)) ≠ some 0 from fun z => by have := Option.some.inj z; bv_omega), pick3_map, sumD_lI]
    rw [this]
    simp only [lI, List.map_map, Function.comp_def]
  simp -implicitDefEqProofs only [yQ, zP, zO, wT, zY, yO, yF, xN, xO, wS, yK, yE, xF, wP, yM, yD, xQ, xB, xT, zC, wN, wV, xJ, wM, xM, xL, xD, wZ, xZ, eV0, eVs, xE, wQ, xU, xK, yJ, xS, xV, wO, wR, zB, yU, xR, yW, wY, yP, yH, xY, xW, xG, wU, xI, zF, xC, xX, zG, zA, yZ, yV, zK, zQ, zE, wW, xA, zH, xH, yC, yN, yG, yT, yR, yX, yY, yS, yL, yI, wA, wF, wC, wB, wE, wI, wD, wG, wH, Res.zW, Res.zD, Res.zL, Res.zT, Res.zN, Option.map_some, Option.bind_some, List.set_cons_zero, List.set_cons_succ, List.length_cons, List.length_nil, if_true, if_false, Bool.false_eq_true, ite_true, ite_false, Bool.not_true, Bool.not_false, c1]
theorem eq_l_plan (ns : List Int) {n : Nat} {ops : List Int} (q : Opn n ops) (h1 : 1 ≤ n) (h2 : n ≤ 6) : ∃ t : Nat → D, PlanOk n ops t ∧ F_l_plan [lI ns, .int (n : Int), tI ops] = .ok (.tuple ((List.range n).map t)) := by
  obtain ⟨ms, hm, e⟩ := eq_l_sums3 ns h1 (show n ≤ 7 by bv_omega)
  exact ⟨tr1 n ops ms, pl_ok q, plF_eq e (by bv_omega) q.len hm q.bd⟩
theorem eq_l_fullP {n p left : Nat} {ops : List Int} {t : Nat → D} (P : PlanOk n ops t) (q : Opn n ops) (h2 : n ≤ 6) (h : p < n) : F_l_is_full [t p, .list [.int (p : Int)], .int (left : Int)] = .ok (.bool (fuB n left (t p) [(p : Int)])) := by
  have b := q.at h
  exact lif_eq h2 (P.tree p h) 8 left (by bv_omega) (by show 1 + _ ≤ 100; bv_omega)
theorem cn_bools {α : Type} (l : List α) (g : α → Bool) : cnDD (l.map fun x => PyData.bool (g x)) (.bool true) = some (.int ((l.countP g : Nat) : Int)) := by
  unfold cnDD
  rw [if_pos ⟨rfl, by rw [List.all_map]; exact List.all_eq_true.mpr fun _ _ => rfl⟩, List.countP_map]
  have e : ((fun z => eqF z (PyData.bool true)) ∘ fun x => PyData.bool (g x)) = g := funext fun x => by
    show eqF (PyData.bool (g x)) (PyData.bool true) = g x
    cases g x <;> rfl
  rw [e]
theorem eq_l_counts {n : Nat} {ops : List Int} {t : Nat → D} (P : PlanOk n ops t) (q : Opn n ops) (h2 : n ≤ 6) {L : List (List Int)} (hL : ∀ xs ∈ L, Ord n xs) (al : L.length ≤ 120) : F_l_counts [.tuple ((List.range n).map t), .list (L.map tI)] = .ok (lI ((List.range n).map fun (p : Nat) => ((L.countP fun xs => fnB (ops.getD p 0).toNat (t p) p xs : Nat) : Int))) := by
  show (B_l_counts [some (.tuple ((List.range n).map t)), some (.list (L.map tI)), none, none, none]).bind (fin true) = _
  unfold B_l_counts
  have ln : ((List.range n).map t).length = n := by rw [List.length_map, List.length_range]
  simp -implicitDefEqProofs only [yQ, zP, zO, wT, zY, yO, yF, xN, xO, wS, yK, yE, xF, wP, yM, yD, xQ, xB, xT, zC, wN, wV, xJ, wM, xM, xL, xD, wZ, xZ, eV0, eVs, xE, wQ, xU, xK, yJ, xS, xV, wO, wR, zB, yU, xR, yW, wY, yP, yH, xY, xW, xG, wU, xI, zF, xC, xX, zG, zA, yZ, yV, zK, zQ, zE, wW, xA, zH, xH, yC, yN, yG, yT, yR, yX, yY, yS, yL, yI, wA, wF, wC, wB, wE, wI, wD, wG, wH, Res.zW, Res.zD, Res.zL, Res.zT, Res.zN, Option.map_some, Option.bind_some, List.set_cons_zero, List.set_cons_succ, List.length_cons, List.length_nil, if_true, if_false, Bool.false_eq_true, ite_true, ite_false, Bool.not_true, Bool.not_false, ln, rng_nat (show n ≤ 1000 by bv_omega)]
  refine forM_b2 (fun i ρ => ∃ x y, ρ = [some (.tuple ((List.range n).map t)), some (.list (L.map tI)), some (lI ((List.range i).map fun (p : Nat) => ((L.countP fun xs => fnB (ops.getD p 0).toNat (t p) p xs : Nat) : Int))), x, y]) ⟨none, none, rfl⟩ ?_ ?_
  · rintro p d ρ hd ⟨x, y, rfl⟩
    obtain ⟨hp, rfl⟩ := rng_get hd
    have cc : eComp (iS (eV 1)) tYes (e2 (fun x y => bD ((inD false) x y)) (eV 1) (eComp (iS (eF F_l_down (aC (e2 ixD (eV 2) (eV 1)) (aC (eV 0) aN)))) tYes (e2 ixD (eV 1) (eV 0)) [0])) [3, 0] [some (.tuple ((List.range n).map t)), some (.list (L.map tI)), some (lI ((List.range p).map fun (p : Nat) => ((L.countP fun xs => fnB (ops.getD p 0).toNat (t p) p xs : Nat) : Int))), some (.int (p : Int)), y] = .ok (.list (L.map fun xs => PyData.bool (fnB (ops.getD p 0).toNat (t p) p xs))) := by
      refine eComp_all tI (fun xs => PyData.bool (fnB (ops.getD p 0).toNat (t p) p xs)) L (by simp -implicitDefEqProofs only [yQ, zP, zO, wT, zY, yO, yF, xN, xO, wS, yK, yE, xF, wP, yM, yD, xQ, xB, xT, zC, wN, wV, xJ, wM, xM, xL, xD, wZ, xZ, eV0, eVs, xE, wQ, xU, xK, yJ, xS, xV, wO, wR, zB, yU, xR, yW, wY, yP, yH, xY, xW, xG, wU, xI, zF, xC, xX, zG, zA, yZ, yV, zK, zQ, zE, wW, xA, zH, xH, yC, yN, yG, yT, yR, yX, yY, yS, yL, yI, wA, wF, wC, wB, wE, wI, wD, wG, wH, Res.zW, Res.zD, Res.zL, Res.zT, Res.zN, Option.map_some, Option.bind_some, List.set_cons_zero, List.set_cons_succ, List.length_cons, List.length_nil, if_true, if_false, Bool.false_eq_true, ite_true, ite_false, Bool.not_true, Bool.not_false]) (by bv_omega) fun xs hx => ?_
      have o := hL xs hx
      have b := q.at hp
      obtain ⟨ws, D, hw⟩ := tk_down o (P.tree p hp)
      have ed := eq_l_downT o (show n ≤ 60 by bv_omega) D (by bv_omega)
      have c2 : eComp (iS (eF F_l_down (aC (e2 ixD (eV 2) (eV 1)) (aC (eV 0) aN)))) tYes (e2 ixD (eV 1) (eV 0)) [0] [some (tI xs), some (.int (p : Int)), some (.tuple ((List.range n).map t))] = .ok (lI (ws.map fun b => ((nxt xs b : Nat) : Int))) := by
        rw [eComp_all (fun b : Nat => PyData.int (b : Int)) (fun b : Nat => PyData.int ((nxt xs b : Nat) : Int)) ws (by
          simp -implicitDefEqProofs only [yQ, zP, zO, wT, zY, yO, yF, xN, xO, wS, yK, yE, xF, wP, yM, yD, xQ, xB, xT, zC, wN, wV, xJ, wM, xM, xL, xD, wZ, xZ, eV0, eVs, xE, wQ, xU, xK, yJ, xS, xV, wO, wR, zB, yU, xR, yW, wY, yP, yH, xY, xW, xG, wU, xI, zF, xC, xX, zG, zA, yZ, yV, zK, zQ, zE, wW, xA, zH, xH, yC, yN, yG, yT, yR, yX, yY, yS, yL, yI, wA, wF, wC, wB, wE, wI, wD, wG, wH, Res.zW, Res.zD, Res.zL, Res.zT, Res.zN, Option.map_some, Option.bind_some, List.set_cons_zero, List.set_cons_succ, List.length_cons, List.length_nil, if_true, if_false, Bool.false_eq_true, ite_true, ite_false, Bool.not_true, Bool.not_false, atI_rm t hp, ed]
          unfold rI'
          rw [List.map_map]
          rfl) (by bv_omega) (fun b hb => by
          have hbn := D.lt b hb
          show e2 ixD (eV 1) (eV 0) [some (.int (b : Int)), some (tI xs)] = _
          simp -implicitDefEqProofs only [yQ, zP, zO, wT, zY, yO, yF, xN, xO, wS, yK, yE, xF, wP, yM, yD, xQ, xB, xT, zC, wN, wV, xJ, wM, xM, xL, xD, wZ, xZ, eV0, eVs, xE, wQ, xU, xK, yJ, xS, xV, wO, wR, zB, yU, xR, yW, wY, yP, yH, xY, xW, xG, wU, xI, zF, xC, xX, zG, zA, yZ, yV, zK, zQ, zE, wW, xA, zH, xH, yC, yN, yG, yT, yR, yX, yY, yS, yL, yI, wA, wF, wC, wB, wE, wI, wD, wG, wH, Res.zW, Res.zD, Res.zL, Res.zT, Res.zN, Option.map_some, Option.bind_some, List.set_cons_zero, List.set_cons_succ, List.length_cons, List.length_nil, if_true, if_false, Bool.false_eq_true, ite_true, ite_false, Bool.not_true, Bool.not_false, atI_map]
          rw [atI_getD (by rw [o.len]; exact hbn), o.nxt_int hbn]
          rfl)]
        rw [lI, List.map_map]
        rfl
      show e2 (fun x y => bD ((inD false) x y)) (eV 1) _ [some (tI xs), some (.int (p : Int)), some (.tuple ((List.range n).map t))] = _
      have fe : fnB (ops.getD p 0).toNat (t p) p xs = (ws.map fun b => ((nxt xs b : Nat) : Int)).contains (p : Int) := by
        unfold fnB
        rw [← dn_eq o D _ hw]
      rw [fe]
      simp -implicitDefEqProofs only [yQ, zP, zO, wT, zY, yO, yF, xN, xO, wS, yK, yE, xF, wP, yM, yD, xQ, xB, xT, zC, wN, wV, xJ, wM, xM, xL, xD, wZ, xZ, eV0, eVs, xE, wQ, xU, xK, yJ, xS, xV, wO, wR, zB, yU, xR, yW, wY, yP, yH, xY, xW, xG, wU, xI, zF, xC, xX, zG, zA, yZ, yV, zK, zQ, zE, wW, xA, zH, xH, yC, yN, yG, yT, yR, yX, yY, yS, yL, yI, wA, wF, wC, wB, wE, wI, wD, wG, wH, Res.zW, Res.zD, Res.zL, Res.zT, Res.zN, Option.map_some, Option.bind_some, List.set_cons_zero, List.set_cons_succ, List.length_cons, List.length_nil, if_true, if_false, Bool.false_eq_true, ite_true, ite_false, Bool.not_true, Bool.not_false, c2, inD_l]
    have ap := app_le (l := ((List.range p).map fun (p : Nat) => ((L.countP fun xs => fnB (ops.getD p 0).toNat (t p) p xs : Nat) : Int)).map PyData.int) (d := .int ((L.countP fun xs => fnB (ops.getD p 0).toNat (t p) p xs : Nat) : Int)) (by rw [List.length_map, List.length_map, List.length_range]; bv_omega)
    refine ⟨_, _, rfl, ?_, some (.int (p : Int)), some (.list (L.map fun xs => PyData.bool (fnB (ops.getD p 0).toNat (t p) p xs))), rfl⟩
    simp -implicitDefEqProofs only [yQ, zP, zO, wT, zY, yO, yF, xN, xO, wS, yK, yE, xF, wP, yM, yD, xQ, xB, xT, zC, wN, wV, xJ, wM, xM, xL, xD, wZ, xZ, eV0, eVs, xE, wQ, xU, xK, yJ, xS, xV, wO, wR, zB, yU, xR, yW, wY, yP, yH, xY, xW, xG, wU, xI, zF, xC, xX, zG, zA, yZ, yV, zK, zQ, zE, wW, xA, zH, xH, yC, yN, yG, yT, yR, yX, yY, yS, yL, yI, wA, wF, wC, wB, wE, wI, wD, wG, wH, Res.zW, Res.zD, Res.zL, Res.zT, Res.zN, Option.map_some, Option.bind_some, List.set_cons_zero, List.set_cons_succ, List.length_cons, List.length_nil, if_true, if_false, Bool.false_eq_true, ite_true, ite_false, Bool.not_true, Bool.not_false, cc, cn_bools, ap]
    rw [List.range_succ, List.map_append]
    simp only [lI, List.map_append]
    rfl
  · rintro ρ ⟨x, y, rfl⟩
    rw [List.length_map, List.length_range]
    simp -implicitDefEqProofs only [yQ, zP, zO, wT, zY, yO, yF, xN, xO, wS, yK, yE, xF, wP, yM, yD, xQ, xB, xT, zC, wN, wV, xJ, wM, xM, xL, xD, wZ, xZ, eV0, eVs, xE, wQ, xU, xK, yJ, xS, xV, wO, wR, zB, yU, xR, yW, wY, yP, yH, xY, xW, xG, wU, xI, zF, xC, xX, zG, zA, yZ, yV, zK, zQ, zE, wW, xA, zH, xH, yC, yN, yG, yT, yR, yX, yY, yS, yL, yI, wA, wF, wC, wB, wE, wI, wD, wG, wH, Res.zW, Res.zD, Res.zL, Res.zT, Res.zN, Option.map_some, Option.bind_some, List.set_cons_zero, List.set_cons_succ, List.length_cons, List.length_nil, if_true, if_false, Bool.false_eq_true, ite_true, ite_false, Bool.not_true, Bool.not_false]
theorem ix1 : isiX CLS ["BadOpenings"] (excD "BadOpenings") = some (.bool true) := by rw [isiX_x, if_pos (by decide)]; rfl
theorem ix2 : isiX CLS CLS (excD "BadOpenings") = some (.bool true) := by rw [isiX_x, if_pos (by decide)]; rfl
theorem ix3 : isiX CLS ["NoPerson"] (excD "BadOpenings") = some (.bool false) := by rw [isiX_x, if_pos (by decide)]; rfl
theorem iy1 : isiX CLS ["NoPerson"] (excD "NoPerson") = some (.bool true) := by rw [isiX_x, if_pos (by decide)]; rfl
theorem iy2 : isiX CLS CLS (excD "NoPerson") = some (.bool true) := by rw [isiX_x, if_pos (by decide)]; rfl
theorem iy3 : isiX CLS ["BadOrder"] (excD "NoPerson") = some (.bool false) := by rw [isiX_x, if_pos (by decide)]; rfl
theorem eq_l_odd {n : Nat} {t : Nat → D} {ys : List Int} (hb : BadO (n : Int) ys) : F_l_odd_openings [.tuple ((List.range n).map t), tI ys] = .ok (.bool true) := by
  have ln : ((List.range n).map t).length = n := by rw [List.length_map, List.length_range]
  have e : F_is_full [.tuple ((List.range n).map t), tI ys] = .ex "BadOpenings" := by
    show (B_is_full [some (.tuple ((List.range n).map t)), some (tI ys)]).bind (fin false) = _
    unfold B_is_full
    simp -implicitDefEqProofs only [yQ, zP, zO, wT, zY, yO, yF, xN, xO, wS, yK, yE, xF, wP, yM, yD, xQ, xB, xT, zC, wN, wV, xJ, wM, xM, xL, xD, wZ, xZ, eV0, eVs, xE, wQ, xU, xK, yJ, xS, xV, wO, wR, zB, yU, xR, yW, wY, yP, yH, xY, xW, xG, wU, xI, zF, xC, xX, zG, zA, yZ, yV, zK, zQ, zE, wW, xA, zH, xH, yC, yN, yG, yT, yR, yX, yY, yS, yL, yI, wA, wF, wC, wB, wE, wI, wD, wG, wH, Res.zW, Res.zD, Res.zL, Res.zT, Res.zN, Option.map_some, Option.bind_some, List.set_cons_zero, List.set_cons_succ, List.length_cons, List.length_nil, if_true, if_false, Bool.false_eq_true, ite_true, ite_false, Bool.not_true, Bool.not_false, ln, ex_made_openings (.inr rfl) hb]
  show (B_l_odd_openings [some (.tuple ((List.range n).map t)), some (tI ys), none, none]).bind (fin false) = _
  unfold B_l_odd_openings
  have s : sS 2 (vAn (e1 (isiX CLS ["BadOpenings"]) (eV 3)) (vAn (e1 (isiX CLS CLS) (eV 3)) (vNt (e1 (isiX CLS ["NoPerson"]) (eV 3))))) [none, none, none, some (excD "BadOpenings")] = .ok (.nx [none, none, some (.bool true), some (excD "BadOpenings")]) := by
    simp -implicitDefEqProofs only [yQ, zP, zO, wT, zY, yO, yF, xN, xO, wS, yK, yE, xF, wP, yM, yD, xQ, xB, xT, zC, wN, wV, xJ, wM, xM, xL, xD, wZ, xZ, eV0, eVs, xE, wQ, xU, xK, yJ, xS, xV, wO, wR, zB, yU, xR, yW, wY, yP, yH, xY, xW, xG, wU, xI, zF, xC, xX, zG, zA, yZ, yV, zK, zQ, zE, wW, xA, zH, xH, yC, yN, yG, yT, yR, yX, yY, yS, yL, yI, wA, wF, wC, wB, wE, wI, wD, wG, wH, Res.zW, Res.zD, Res.zL, Res.zT, Res.zN, Option.map_some, Option.bind_some, List.set_cons_zero, List.set_cons_succ, List.length_cons, List.length_nil, if_true, if_false, Bool.false_eq_true, ite_true, ite_false, Bool.not_true, Bool.not_false, ix1, ix2, ix3]
  have t1 : sTry 3 CLS (sE (eF F_is_full (aC (eV 0) (aC (eV 1) aN)))) (sS 2 (vAn (e1 (isiX CLS ["BadOpenings"]) (eV 3)) (vAn (e1 (isiX CLS CLS) (eV 3)) (vNt (e1 (isiX CLS ["NoPerson"]) (eV 3)))))) [some (.tuple ((List.range n).map t)), some (tI ys), some (.bool false), none] = .ok (.nx [none, none, some (.bool true), none]) := by
    rw [sTry_ex (c := "BadOpenings") (by simp -implicitDefEqProofs only [yQ, zP, zO, wT, zY, yO, yF, xN, xO, wS, yK, yE, xF, wP, yM, yD, xQ, xB, xT, zC, wN, wV, xJ, wM, xM, xL, xD, wZ, xZ, eV0, eVs, xE, wQ, xU, xK, yJ, xS, xV, wO, wR, zB, yU, xR, yW, wY, yP, yH, xY, xW, xG, wU, xI, zF, xC, xX, zG, zA, yZ, yV, zK, zQ, zE, wW, xA, zH, xH, yC, yN, yG, yT, yR, yX, yY, yS, yL, yI, wA, wF, wC, wB, wE, wI, wD, wG, wH, Res.zW, Res.zD, Res.zL, Res.zT, Res.zN, Option.map_some, Option.bind_some, List.set_cons_zero, List.set_cons_succ, List.length_cons, List.length_nil, if_true, if_false, Bool.false_eq_true, ite_true, ite_false, Bool.not_true, Bool.not_false, e]) (by decide)]
    show (noEx (sS 2 _ [none, none, none, some (excD "BadOpenings")])).bind (unn 3) = _
    rw [s]
    rfl
  simp -implicitDefEqProofs only [yQ, zP, zO, wT, zY, yO, yF, xN, xO, wS, yK, yE, xF, wP, yM, yD, xQ, xB, xT, zC, wN, wV, xJ, wM, xM, xL, xD, wZ, xZ, eV0, eVs, xE, wQ, xU, xK, yJ, xS, xV, wO, wR, zB, yU, xR, yW, wY, yP, yH, xY, xW, xG, wU, xI, zF, xC, xX, zG, zA, yZ, yV, zK, zQ, zE, wW, xA, zH, xH, yC, yN, yG, yT, yR, yX, yY, yS, yL, yI, wA, wF, wC, wB, wE, wI, wD, wG, wH, Res.zW, Res.zD, Res.zL, Res.zT, Res.zN, Option.map_some, Option.bind_some, List.set_cons_zero, List.set_cons_succ, List.length_cons, List.length_nil, if_true, if_false, Bool.false_eq_true, ite_true, ite_false, Bool.not_true, Bool.not_false, t1]
theorem ex_check_person {n : Nat} {p : Int} (h : ¬ (0 ≤ p ∧ p < (n : Int))) : F_check_person [.int (n : Int), .int p] = .ex "NoPerson" := by
  show (B_check_person [some (.int (n : Int)), some (.int p)]).bind (fin false) = _
  unfold B_check_person
  have z1 : (if ([PyData.str "there is no such person"] : List D).length ≤ sizeLine then (Res.ex "NoPerson" : Res Out) else .no) = .ex "NoPerson" := if_pos (by decide)
  by_cases p1 : 0 ≤ p
  · have p2 : ¬ p < (n : Int) := fun z => h ⟨p1, z⟩
    simp -implicitDefEqProofs only [zC, zB, xV, xZ, xW, xY, eV0, eVs, xX, sRa_ap, Res.zW, Res.zL, Res.zT, decide_eq_true p1, decide_eq_false p2, if_true, if_false, Bool.not_true, Bool.not_false, Bool.false_eq_true, z1]
  · simp -implicitDefEqProofs only [zC, zB, xV, xZ, xW, xY, eV0, eVs, xX, sRa_ap, Res.zW, Res.zL, Res.zT, decide_eq_false p1, if_true, if_false, Bool.not_true, Bool.not_false, Bool.false_eq_true, z1]
theorem eq_l_refused {n : Nat} {t : Nat → D} {p : Int} (hb : ¬ (0 ≤ p ∧ p < (n : Int))) : F_l_refused [.tuple ((List.range n).map t), .int p] = .ok (.bool true) := by
  have ln : ((List.range n).map t).length = n := by rw [List.length_map, List.length_range]
  have e : F_finds_in [.tuple ((List.range n).map t), .int p] = .ex "NoPerson" := by
    show (B_finds_in [some (.tuple ((List.range n).map t)), some (.int p)]).bind (fin false) = _
    unfold B_finds_in
    simp -implicitDefEqProofs only [yQ, zP, zO, wT, zY, yO, yF, xN, xO, wS, yK, yE, xF, wP, yM, yD, xQ, xB, xT, zC, wN, wV, xJ, wM, xM, xL, xD, wZ, xZ, eV0, eVs, xE, wQ, xU, xK, yJ, xS, xV, wO, wR, zB, yU, xR, yW, wY, yP, yH, xY, xW, xG, wU, xI, zF, xC, xX, zG, zA, yZ, yV, zK, zQ, zE, wW, xA, zH, xH, yC, yN, yG, yT, yR, yX, yY, yS, yL, yI, wA, wF, wC, wB, wE, wI, wD, wG, wH, Res.zW, Res.zD, Res.zL, Res.zT, Res.zN, Option.map_some, Option.bind_some, List.set_cons_zero, List.set_cons_succ, List.length_cons, List.length_nil, if_true, if_false, Bool.false_eq_true, ite_true, ite_false, Bool.not_true, Bool.not_false, ln, ex_check_person hb]
  show (B_l_refused [some (.tuple ((List.range n).map t)), some (.int p), none, none]).bind (fin false) = _
  unfold B_l_refused
  have s : sS 2 (vAn (e1 (isiX CLS ["NoPerson"]) (eV 3)) (vAn (e1 (isiX CLS CLS) (eV 3)) (vNt (e1 (isiX CLS ["BadOrder"]) (eV 3))))) [none, none, none, some (excD "NoPerson")] = .ok (.nx [none, none, some (.bool true), some (excD "NoPerson")]) := by
    simp -implicitDefEqProofs only [yQ, zP, zO, wT, zY, yO, yF, xN, xO, wS, yK, yE, xF, wP, yM, yD, xQ, xB, xT, zC, wN, wV, xJ, wM, xM, xL, xD, wZ, xZ, eV0, eVs, xE, wQ, xU, xK, yJ, xS, xV, wO, wR, zB, yU, xR, yW, wY, yP, yH, xY, xW, xG, wU, xI, zF, xC, xX, zG, zA, yZ, yV, zK, zQ, zE, wW, xA, zH, xH, yC, yN, yG, yT, yR, yX, yY, yS, yL, yI, wA, wF, wC, wB, wE, wI, wD, wG, wH, Res.zW, Res.zD, Res.zL, Res.zT, Res.zN, Option.map_some, Option.bind_some, List.set_cons_zero, List.set_cons_succ, List.length_cons, List.length_nil, if_true, if_false, Bool.false_eq_true, ite_true, ite_false, Bool.not_true, Bool.not_false, iy1, iy2, iy3]
  have t1 : sTry 3 CLS (sE (eF F_finds_in (aC (eV 0) (aC (eV 1) aN)))) (sS 2 (vAn (e1 (isiX CLS ["NoPerson"]) (eV 3)) (vAn (e1 (isiX CLS CLS) (eV 3)) (vNt (e1 (isiX CLS ["BadOrder"]) (eV 3)))))) [some (.tuple ((List.range n).map t)), some (.int p), some (.bool false), none] = .ok (.nx [none, none, some (.bool true), none]) := by
    rw [sTry_ex (c := "NoPerson") (by simp -implicitDefEqProofs only [yQ, zP, zO, wT, zY, yO, yF, xN, xO, wS, yK, yE, xF, wP, yM, yD, xQ, xB, xT, zC, wN, wV, xJ, wM, xM, xL, xD, wZ, xZ, eV0, eVs, xE, wQ, xU, xK, yJ, xS, xV, wO, wR, zB, yU, xR, yW, wY, yP, yH, xY, xW, xG, wU, xI, zF, xC, xX, zG, zA, yZ, yV, zK, zQ, zE, wW, xA, zH, xH, yC, yN, yG, yT, yR, yX, yY, yS, yL, yI, wA, wF, wC, wB, wE, wI, wD, wG, wH, Res.zW, Res.zD, Res.zL, Res.zT, Res.zN, Option.map_some, Option.bind_some, List.set_cons_zero, List.set_cons_succ, List.length_cons, List.length_nil, if_true, if_false, Bool.false_eq_true, ite_true, ite_false, Bool.not_true, Bool.not_false, e]) (by decide)]
    show (noEx (sS 2 _ [none, none, none, some (excD "NoPerson")])).bind (unn 3) = _
    rw [s]
    rfl
  simp -implicitDefEqProofs only [yQ, zP, zO, wT, zY, yO, yF, xN, xO, wS, yK, yE, xF, wP, yM, yD, xQ, xB, xT, zC, wN, wV, xJ, wM, xM, xL, xD, wZ, xZ, eV0, eVs, xE, wQ, xU, xK, yJ, xS, xV, wO, wR, zB, yU, xR, yW, wY, yP, yH, xY, xW, xG, wU, xI, zF, xC, xX, zG, zA, yZ, yV, zK, zQ, zE, wW, xA, zH, xH, yC, yN, yG, yT, yR, yX, yY, yS, yL, yI, wA, wF, wC, wB, wE, wI, wD, wG, wH, Res.zW, Res.zD, Res.zL, Res.zT, Res.zN, Option.map_some, Option.bind_some, List.set_cons_zero, List.set_cons_succ, List.length_cons, List.length_nil, if_true, if_false, Bool.false_eq_true, ite_true, ite_false, Bool.not_true, Bool.not_false, t1]
theorem p40 : ∃ P : Int, 0 < P ∧ powO 10 40 = some P := ⟨10 ^ 40, by decide, by unfold powO; rw [if_pos (by decide)]; rfl⟩
theorem ne_b (b : Bool) : neD (.bool b) (.bool b) = some false := by cases b <;> decide +kernel
def lwC : Ev → Res Out := (sIf (tO (tNt (tV (e1 (isiD "bool") (eV 7)))) (b2 neD (eV 7) (eB allD (aC (eV 6) aN)))) (sR (eC (.bool false))) sN)
def lwP : Ev → Res Out := (sQ (sS 10 (eF F_finds_in (aC (eV 3) (aC (eV 9) aN)))) (sQ (sS 11 (e2 fdivI (e2 mulI (e2 ixD (eV 2) (eV 9)) (eB lenD (aC (eV 4) aN))) (eV 1))) (sQ (sIf (tO (tNt (tV (eF F_l_whole (aC (eV 10) aN)))) (tO (b2 neD (eV 10) (e2 ixD (eV 5) (eV 9))) (b2 gtI (eV 10) (eV 11)))) (sR (eC (.bool false))) sN) (sQ (sIf (tAn (tV (e2 ixD (eV 6) (eV 9))) (b2 neD (eV 10) (eV 11))) (sR (eC (.bool false))) sN) (sIf (b2 neD (eF F_finds_in (aC (eV 8) (aC (eV 9) aN))) (eV 11)) (sR (eC (.bool false))) sN)))))
def lwD : Ev → Res Out := (sIf (tNt (tV (eF F_l_odd_openings (aC (eV 3) (aC (eV 13) aN))))) (sR (eC (.bool false))) sN)
def lwL : Ev → Res Out := (sF (iS (eB mkL (aC (e2 catT (eV 2) (eB mkT (aC (eC (.int 0)) aN))) (aC (eS slD (eV 2) (oS (eC (.int 1))) oN) (aC (e2 catT (eS slD (eV 2) (oS (eC (.int 1))) oN) (eB mkT (aC (e1 negD (eV 12)) aN))) (aC (e2 catT (eS slD (eV 2) (oS (eC (.int 1))) oN) (eB mkT (aC (e2 addI (eV 1) (eV 12)) aN))) aN)))))) (gN 13) lwD)
def lwW : Ev → Res Out := (sQ (sS 14 (eB tupD (aC (e2 repL (eB mkL (aC (e2 modI (eV 12) (e2 addI (eV 1) (eC (.int 1)))) aN)) (eV 1)) aN))) (sQ (sIf (b2 neD (eF F_is_full (aC (eV 3) (aC (eV 14) aN))) (eB allD (aC (eComp (iR rng1 (aC (eV 1) aN)) tYes (eF F_l_is_full (aC (e2 ixD (eV 1) (eV 0)) (aC (eB mkL (aC (eV 0) aN)) (aC (e2 ixD (eV 2) (eV 0)) aN)))) [3, 14]) aN))) (sR (eC (.bool false))) sN) (sR (vAn (eF F_l_refused (aC (eV 3) (aC (eV 1) aN))) (vAn (eF F_l_refused (aC (eV 3) (aC (e1 negD (eC (.int 1))) aN))) (eF F_l_refused (aC (eV 3) (aC (e2 addI (eV 1) (eV 12)) aN))))))))
def lwE : Ev → Res D := eComp (iR rng1 (aC (eV 1) aN)) tYes (eF F_l_is_full (aC (e2 ixD (eV 1) (eV 0)) (aC (eB mkL (aC (eV 0) aN)) (aC (e2 ixD (eV 2) (eV 0)) aN)))) [3, 2]
theorem law_u : B_law = (sQ (sA (eF F_l_ground (aC (eV 0) aN)) (gT 2 (gsC (gN 1) (gsC (gN 2) gsN)))) (sQ (sS 3 (eF F_l_plan (aC (eV 0) (aC (eV 1) (aC (eV 2) aN))))) (sQ (sS 4 (eF F_l_all_orders (aC (eV 1) aN))) (sQ (sS 5 (eF F_l_counts (aC (eV 3) (aC (eV 4) aN)))) (sQ (sS 6 lwE) (sQ (sS 7 (eF F_is_full (aC (eV 3) (aC (eV 2) aN)))) (sQ lwC (sQ (sS 8 (eF F_following_plan (aC (eV 2) aN))) (sQ (sF (iR rng1 (aC (eV 1) aN)) (gN 9) lwP) (sQ (sS 12 (e2 addI (eC (.int 1)) (e2 modI (eB sumD (aC (eV 0) aN)) (e2 powI (eC (.int 10)) (eC (.int 40)))))) (sQ lwL lwW))))))))))) := rfl
theorem full_comp {n : Nat} {ops ops' : List Int} {t : Nat → D} {ρ : Ev} {j : Nat} (P : PlanOk n ops t) (q : Opn n ops) (q' : Opn n ops') (h2 : n ≤ 6) (hn : eV 1 ρ = .ok (.int (n : Int))) (hj : ∀ d : D, cEnv ρ [3, j] d = [some d, some (.tuple ((List.range n).map t)), some (tI ops')]) : eComp (iR rng1 (aC (eV 1) aN)) tYes (eF F_l_is_full (aC (e2 ixD (eV 1) (eV 0)) (aC (eB mkL (aC (eV 0) aN)) (aC (e2 ixD (eV 2) (eV 0)) aN)))) [3, j] ρ = .ok (.list ((List.range n).map fun (p : Nat) => PyData.bool (fuB n (ops'.getD p 0).toNat (t p) [(p : Int)]))) := by
  refine eComp_all (fun p : Nat => PyData.int (p : Int)) (fun p : Nat => PyData.bool (fuB n (ops'.getD p 0).toNat (t p) [(p : Int)])) (List.range n) (by simp -implicitDefEqProofs only [yQ, zP, zO, wT, zY, yO, yF, xN, xO, wS, yK, yE, xF, wP, yM, yD, xQ, xB, xT, zC, wN, wV, xJ, wM, xM, xL, xD, wZ, xZ, eV0, eVs, xE, wQ, xU, xK, yJ, xS, xV, wO, wR, zB, yU, xR, yW, wY, yP, yH, xY, xW, xG, wU, xI, zF, xC, xX, zG, zA, yZ, yV, zK, zQ, zE, wW, xA, zH, xH, yC, yN, yG, yT, yR, yX, yY, yS, yL, yI, wA, wF, wC, wB, wE, wI, wD, wG, wH, Res.zW, Res.zD, Res.zL, Res.zT, Res.zN, Option.map_some, Option.bind_some, List.set_cons_zero, List.set_cons_succ, List.length_cons, List.length_nil, if_true, if_false, Bool.false_eq_true, ite_true, ite_false, Bool.not_true, Bool.not_false, hn, rng_nat (show n ≤ 1000 by bv_omega)]) (by rw [List.length_range]; bv_omega) fun p hp => ?_
  have hp := List.mem_range.mp hp
  rw [hj]
  have e := eq_l_fullP (left := (ops'.getD p 0).toNat) P q h2 hp
  simp -implicitDefEqProofs only [yQ, zP, zO, wT, zY, yO, yF, xN, xO, wS, yK, yE, xF, wP, yM, yD, xQ, xB, xT, zC, wN, wV, xJ, wM, xM, xL, xD, wZ, xZ, eV0, eVs, xE, wQ, xU, xK, yJ, xS, xV, wO, wR, zB, yU, xR, yW, wY, yP, yH, xY, xW, xG, wU, xI, zF, xC, xX, zG, zA, yZ, yV, zK, zQ, zE, wW, xA, zH, xH, yC, yN, yG, yT, yR, yX, yY, yS, yL, yI, wA, wF, wC, wB, wE, wI, wD, wG, wH, Res.zW, Res.zD, Res.zL, Res.zT, Res.zN, Option.map_some, Option.bind_some, List.set_cons_zero, List.set_cons_succ, List.length_cons, List.length_nil, if_true, if_false, Bool.false_eq_true, ite_true, ite_false, Bool.not_true, Bool.not_false, atI_rm t hp, atI_opn q' hp, e]
theorem most_is {n l : Nat} (h1 : 1 ≤ n) : ((l : Nat) : Int) * ((fac n : Nat) : Int) / (n : Int) = ((l * fac (n - 1) : Nat) : Int) := by
  have e : fac n = n * fac (n - 1) := (fac_step (by bv_omega)).symm
  rw [← Int.natCast_mul, e, Nat.mul_left_comm, Int.natCast_mul, Int.mul_ediv_cancel_left _ (by bv_omega)]
theorem bad_odd {n : Nat} {ops : List Int} {F : Int} (q : Opn n ops) (h1 : 1 ≤ n) (hF : 1 ≤ F) : BadO (n : Int) (ops ++ [0]) ∧ BadO (n : Int) (ops.drop 1) ∧ BadO (n : Int) (ops.drop 1 ++ [-F]) ∧ BadO (n : Int) (ops.drop 1 ++ [(n : Int) + F]) := by
  refine ⟨fun z => ?_, fun z => ?_, fun z => ?_, fun z => ?_⟩
  · have := z.2.2.1
    rw [List.length_append, q.len, List.length_singleton] at this
    bv_omega
  · have := z.2.2.1
    rw [List.length_drop, q.len] at this
    bv_omega
  · have := z.2.2.2 (-F) (by simp)
    bv_omega
  · have := z.2.2.2 ((n : Int) + F) (by simp)
    bv_omega
theorem law_true (ns : List Int) (h : ns.length ≤ 63) : F_law [.list (ns.map PyData.int)] = .ok (.bool true) := by
  show (B_law [some (lI ns), none, none, none, none, none, none, none, none, none, none, none, none, none, none]).bind (fin false) = _
  obtain ⟨n, ops, h1, h2, q, eg⟩ := eq_l_ground ns
  obtain ⟨t, P, ep⟩ := eq_l_plan ns q h1 (show n ≤ 6 by bv_omega)
  have A := all_all h1 (show n < 7 by bv_omega)
  have ao := eq_l_all_orders h2
  have ln : (allO n).length = fac n := all_len n
  have al : (allO n).length ≤ 120 := by
    rw [all_len]
    have : ∀ k, k ≤ 5 → fac k ≤ 120 := by decide
    exact this n h2
  obtain ⟨L, hL⟩ : ∃ L, L = allO n := ⟨_, rfl⟩
  rw [← hL] at A ao al ln
  have ao' : F_l_all_orders [.int (n : Int)] = .ok (.list (L.map tI)) := ao
  have cB : ∀ p, p < n → (L.countP fun xs => fnB (ops.getD p 0).toNat (t p) p xs) = mfD (ops.getD p 0).toNat (t p) n := fun p hp => by
    have := tree_count (p := p) A (P.tree p hp) [] rfl rfl (by simp) (by simp) hp (fun z hz => nomatch hz)
    exact this
  have le : ∀ p, p < n → mfD (ops.getD p 0).toNat (t p) n ≤ (ops.getD p 0).toNat * fac (n - 1) := fun p hp => by
    have := mf_le (P.tree p hp) [p] ⟨rfl, by simp, fun j hj => by simp at hj; bv_omega⟩
    rw [show n - [p].length + 1 = n by simp; bv_omega] at this
    exact this
  have fl : ∀ p, p < n → fuB n (ops.getD p 0).toNat (t p) [(p : Int)] = true → mfD (ops.getD p 0).toNat (t p) n = (ops.getD p 0).toNat * fac (n - 1) := fun p hp f => by
    have b := q.at hp
    have := mf_full (P.tree p hp) [p] ⟨rfl, by simp, fun j hj => by simp at hj; bv_omega⟩ (by show 1 + _ ≤ n + 1; bv_omega) f
    rw [show n - [p].length + 1 = n by simp; bv_omega] at this
    exact this
  have fw : ∀ p, p < n → mfD (ops.getD p 0).toNat (ftD n (ops.getD p 0).toNat (p : Int) [(p : Int)]) n = (ops.getD p 0).toNat * fac (n - 1) := fun p hp => by
    have b := q.at hp
    have T := ft_ok (n := n) (ops.getD p 0).toNat p [] hp rfl
    have f := mf_full T [p] ⟨rfl, by simp, fun j hj => by simp at hj; bv_omega⟩ (by show 1 + _ ≤ n + 1; bv_omega) (fu_ft _ _ _)
    rw [show n - [p].length + 1 = n by simp; bv_omega] at f
    exact f
  have ec := eq_l_counts P q (show n ≤ 6 by bv_omega) (L := L) (fun xs hx => (A.mem xs).mp hx) al
  obtain ⟨CS, hCS⟩ : ∃ CS : List Int, CS = (List.range n).map fun (p : Nat) => ((L.countP fun xs => fnB (ops.getD p 0).toNat (t p) p xs : Nat) : Int) := ⟨_, rfl⟩
  rw [← hCS] at ec
  have atC : ∀ p, p < n → atI (CS.map PyData.int) (p : Int) = some (.int ((mfD (ops.getD p 0).toNat (t p) n : Nat) : Int)) := fun p hp => by
    rw [hCS, List.map_map]
    have := atI_rm (n := n) (PyData.int ∘ fun (p : Nat) => ((L.countP fun xs => fnB (ops.getD p 0).toNat (t p) p xs : Nat) : Int)) hp
    rw [this]
    show some (PyData.int ((L.countP fun xs => fnB (ops.getD p 0).toNat (t p) p xs : Nat) : Int)) = _
    rw [cB p hp]
  have isf := eq_is_fullG P q q h1 (show n ≤ 6 by bv_omega)
  have efp := eq_following_plan q h1 (show n ≤ 6 by bv_omega)
  have ff : ∀ p, p < n → F_finds_in [fpD n ops, .int (p : Int)] = .ok (.int (((ops.getD p 0).toNat * fac (n - 1) : Nat) : Int)) := fun p hp => by
    have := eq_finds_in (fp_ok n ops) q (show n ≤ 6 by bv_omega) hp
    rw [fw p hp] at this
    exact this
  have lm : ((L.map tI).length : Int) = ((fac n : Nat) : Int) := by rw [List.length_map, ln]
  have gt : gT 2 (gsC (gN 1) (gsC (gN 2) gsN)) (.tuple [.int (n : Int), tI ops]) [some (lI ns), none, none, none, none, none, none, none, none, none, none, none, none, none, none] = some [some (lI ns), some (.int (n : Int)), some (tI ops), none, none, none, none, none, none, none, none, none, none, none, none] := rfl
  obtain ⟨Pw, hPw, pw⟩ := p40
  obtain ⟨F, hF, eF'⟩ : ∃ F : Int, 1 ≤ F ∧ 1 + ns.sum % Pw = F := ⟨_, by have := Int.emod_nonneg ns.sum (Int.ne_of_gt hPw); bv_omega, rfl⟩
  have sm := sumD_lI ns
  have eE : ∀ u6 u7 u8 : Option D, lwE [some (lI ns), some (.int (n : Int)), some (tI ops), some (.tuple ((List.range n).map t)), some (.list (L.map tI)), some (lI CS), u6, u7, u8, none, none, none, none, none, none] = .ok (.list ((List.range n).map fun (p : Nat) => PyData.bool (fuB n (ops.getD p 0).toNat (t p) [(p : Int)]))) := fun u6 u7 u8 => full_comp (j := 2) P q q (by bv_omega) rfl (fun _ => rfl)
  generalize hfu : (fun (p : Nat) => fuB n (ops.getD p 0).toNat (t p) [(p : Int)]) = fu at isf eE
  have fl' : ∀ p, p < n → fu p = true → mfD (ops.getD p 0).toNat (t p) n = (ops.getD p 0).toNat * fac (n - 1) := fun p hp f => fl p hp (by rw [← hfu] at f; exact f)
  have eE' : ∀ u6 u7 u8 : Option D, lwE [some (lI ns), some (.int (n : Int)), some (tI ops), some (.tuple ((List.range n).map t)), some (.list (L.map tI)), some (lI CS), u6, u7, u8, none, none, none, none, none, none] = .ok (.list ((List.range n).map fun (p : Nat) => PyData.bool (fu p))) := by
    intro u6 u7 u8
    have := full_comp (ρ := [some (lI ns), some (.int (n : Int)), some (tI ops), some (.tuple ((List.range n).map t)), some (.list (L.map tI)), some (lI CS), u6, u7, u8, none, none, none, none, none, none]) (j := 2) P q q (by bv_omega) rfl (fun _ => rfl)
    rw [← hfu]
    exact this
  have eC' : ∀ u8 : Option D, lwC [some (lI ns), some (.int (n : Int)), some (tI ops), some (.tuple ((List.range n).map t)), some (.list (L.map tI)), some (lI CS), some (.list ((List.range n).map fun (p : Nat) => PyData.bool (fu p))), some (.bool ((List.range n).all fu)), u8, none, none, none, none, none, none] = .ok (.nx [some (lI ns), some (.int (n : Int)), some (tI ops), some (.tuple ((List.range n).map t)), some (.list (L.map tI)), some (lI CS), some (.list ((List.range n).map fun (p : Nat) => PyData.bool (fu p))), some (.bool ((List.range n).all fu)), u8, none, none, none, none, none, none]) := fun u8 => by
    unfold lwC
    simp -implicitDefEqProofs only [yQ, zP, zO, wT, zY, yO, yF, xN, xO, wS, yK, yE, xF, wP, yM, yD, xQ, xB, xT, zC, wN, wV, xJ, wM, xM, xL, xD, wZ, xZ, eV0, eVs, xE, wQ, xU, xK, yJ, xS, xV, wO, wR, zB, yU, xR, yW, wY, yP, yH, xY, xW, xG, wU, xI, zF, xC, xX, zG, zA, yZ, yV, zK, zQ, zE, wW, xA, zH, xH, yC, yN, yG, yT, yR, yX, yY, yS, yL, yI, wA, wF, wC, wB, wE, wI, wD, wG, wH, Res.zW, Res.zD, Res.zL, Res.zT, Res.zN, Option.map_some, Option.bind_some, List.set_cons_zero, List.set_cons_succ, List.length_cons, List.length_nil, if_true, if_false, Bool.false_eq_true, ite_true, ite_false, Bool.not_true, Bool.not_false, allD_g, ne_b]
  have l1 : ∃ y9 y10 y11, L3.forM (gN 9) lwP ((List.range n).map fun (i : Nat) => PyData.int (i : Int)) [some (lI ns), some (.int (n : Int)), some (tI ops), some (.tuple ((List.range n).map t)), some (.list (L.map tI)), some (lI CS), some (.list ((List.range n).map fun (p : Nat) => PyData.bool (fu p))), some (.bool ((List.range n).all fu)), some (fpD n ops), none, none, none, none, none, none] = .ok (.nx [some (lI ns), some (.int (n : Int)), some (tI ops), some (.tuple ((List.range n).map t)), some (.list (L.map tI)), some (lI CS), some (.list ((List.range n).map fun (p : Nat) => PyData.bool (fu p))), some (.bool ((List.range n).all fu)), some (fpD n ops), y9, y10, y11, none, none, none]) := by
    obtain ⟨ρ', e, y9, y10, y11, rfl⟩ := forM_ok (g := gN 9) (b := lwP) (fun _ ρ => ∃ y9 y10 y11, ρ = [some (lI ns), some (.int (n : Int)), some (tI ops), some (.tuple ((List.range n).map t)), some (.list (L.map tI)), some (lI CS), some (.list ((List.range n).map fun (p : Nat) => PyData.bool (fu p))), some (.bool ((List.range n).all fu)), some (fpD n ops), y9, y10, y11, none, none, none]) ((List.range n).map fun (i : Nat) => PyData.int (i : Int)) [some (lI ns), some (.int (n : Int)), some (tI ops), some (.tuple ((List.range n).map t)), some (.list (L.map tI)), some (lI CS), some (.list ((List.range n).map fun (p : Nat) => PyData.bool (fu p))), some (.bool ((List.range n).all fu)), some (fpD n ops), none, none, none, none, none, none] ⟨none, none, none, rfl⟩ (by
      rintro p d ρ hd ⟨y9, y10, y11, rfl⟩
      obtain ⟨hp, rfl⟩ := rng_get hd
      have lep := le p hp
      have b := q.at hp
      have ex := eq_finds_in P q (show n ≤ 6 by bv_omega) hp
      have ef := ff p hp
      have atf := atI_rm (fun (p : Nat) => PyData.bool (fu p)) hp
      have atc := atC p hp
      have f1 := fl' p hp
      have m1 := mulO_ok (i := (((ops.getD p 0).toNat : Nat) : Int)) (j := ((fac n : Nat) : Int)) (MulOk.left (by bv_omega) (by bv_omega))
      have ms := most_is (n := n) (l := (ops.getD p 0).toNat) h1
      have dv : DivOk (n : Int) := DivOk.small (by bv_omega) (by bv_omega)
      have w1 := eq_l_whole ((mfD (ops.getD p 0).toNat (t p) n : Nat) : Int)
      have ao2 := atI_opn q hp
      generalize (ops.getD p 0).toNat * fac (n - 1) = M at lep ef f1 ms
      generalize mfD (ops.getD p 0).toNat (t p) n = m at lep ex atc f1 w1
      refine ⟨_, [some (lI ns), some (.int (n : Int)), some (tI ops), some (.tuple ((List.range n).map t)), some (.list (L.map tI)), some (lI CS), some (.list ((List.range n).map fun (p : Nat) => PyData.bool (fu p))), some (.bool ((List.range n).all fu)), some (fpD n ops), some (.int (p : Int)), some (.int (m : Int)), some (.int (M : Int)), none, none, none], rfl, ?_, _, _, _, rfl⟩
      unfold lwP
      cases c : fu p with
      | true =>
        rw [c] at atf
        have := f1 c
        subst this
        simp -implicitDefEqProofs only [yQ, zP, zO, wT, zY, yO, yF, xN, xO, wS, yK, yE, xF, wP, yM, yD, xQ, xB, xT, zC, wN, wV, xJ, wM, xM, xL, xD, wZ, xZ, eV0, eVs, xE, wQ, xU, xK, yJ, xS, xV, wO, wR, zB, yU, xR, yW, wY, yP, yH, xY, xW, xG, wU, xI, zF, xC, xX, zG, zA, yZ, yV, zK, zQ, zE, wW, xA, zH, xH, yC, yN, yG, yT, yR, yX, yY, yS, yL, yI, wA, wF, wC, wB, wE, wI, wD, wG, wH, Res.zW, Res.zD, Res.zL, Res.zT, Res.zN, Option.map_some, Option.bind_some, List.set_cons_zero, List.set_cons_succ, List.length_cons, List.length_nil, if_true, if_false, Bool.false_eq_true, ite_true, ite_false, Bool.not_true, Bool.not_false, ex, ao2, lm, m1, fdivO, if_pos dv, ms, w1, atc, neD_int, decide_true, decide_eq_false (show ¬ (m : Int) > (m : Int) by bv_omega), atf, ef]
      | false =>
        rw [c] at atf
        simp -implicitDefEqProofs only [yQ, zP, zO, wT, zY, yO, yF, xN, xO, wS, yK, yE, xF, wP, yM, yD, xQ, xB, xT, zC, wN, wV, xJ, wM, xM, xL, xD, wZ, xZ, eV0, eVs, xE, wQ, xU, xK, yJ, xS, xV, wO, wR, zB, yU, xR, yW, wY, yP, yH, xY, xW, xG, wU, xI, zF, xC, xX, zG, zA, yZ, yV, zK, zQ, zE, wW, xA, zH, xH, yC, yN, yG, yT, yR, yX, yY, yS, yL, yI, wA, wF, wC, wB, wE, wI, wD, wG, wH, Res.zW, Res.zD, Res.zL, Res.zT, Res.zN, Option.map_some, Option.bind_some, List.set_cons_zero, List.set_cons_succ, List.length_cons, List.length_nil, if_true, if_false, Bool.false_eq_true, ite_true, ite_false, Bool.not_true, Bool.not_false, ex, ao2, lm, m1, fdivO, if_pos dv, ms, w1, atc, neD_int, decide_true, decide_eq_false (show ¬ (m : Int) > (M : Int) by bv_omega), atf, ef])
    exact ⟨y9, y10, y11, e⟩
  obtain ⟨y9, y10, y11, l1⟩ := l1
  obtain ⟨b1, b2, b3, b4⟩ := bad_odd q h1 hF
  have lO : ∃ y13, lwL [some (lI ns), some (.int (n : Int)), some (tI ops), some (.tuple ((List.range n).map t)), some (.list (L.map tI)), some (lI CS), some (.list ((List.range n).map fun (p : Nat) => PyData.bool (fu p))), some (.bool ((List.range n).all fu)), some (fpD n ops), y9, y10, y11, some (.int F), none, none] = .ok (.nx [some (lI ns), some (.int (n : Int)), some (tI ops), some (.tuple ((List.range n).map t)), some (.list (L.map tI)), some (lI CS), some (.list ((List.range n).map fun (p : Nat) => PyData.bool (fu p))), some (.bool ((List.range n).all fu)), some (fpD n ops), y9, y10, y11, some (.int F), y13, none]) := by
    have k1 : catT (tI ops) (.tuple [.int 0]) = some (tI (ops ++ [0])) := catT_tI (xs := ops) (ys := [0]) (by simp; rw [q.len]; bv_omega)
    have cut : cutD (ops.map PyData.int) (some 1) none = (ops.drop 1).map PyData.int := by
      rw [show (1 : Int) = ((1 : Nat) : Int) from rfl, cut_from, List.map_drop]
    have k2 : ∀ z : Int, catT (.tuple ((ops.drop 1).map PyData.int)) (.tuple [.int z]) = some (tI (ops.drop 1 ++ [z])) := fun z => catT_tI (xs := ops.drop 1) (ys := [z]) (by simp; rw [q.len]; bv_omega)
    have fl : ∃ y, L3.forM (gN 13) lwD [tI (ops ++ [0]), PyData.tuple ((ops.drop 1).map PyData.int), tI (ops.drop 1 ++ [-F]), tI (ops.drop 1 ++ [(n : Int) + F])] [some (lI ns), some (.int (n : Int)), some (tI ops), some (.tuple ((List.range n).map t)), some (.list (L.map tI)), some (lI CS), some (.list ((List.range n).map fun (p : Nat) => PyData.bool (fu p))), some (.bool ((List.range n).all fu)), some (fpD n ops), y9, y10, y11, some (.int F), none, none] = .ok (.nx [some (lI ns), some (.int (n : Int)), some (tI ops), some (.tuple ((List.range n).map t)), some (.list (L.map tI)), some (lI CS), some (.list ((List.range n).map fun (p : Nat) => PyData.bool (fu p))), some (.bool ((List.range n).all fu)), some (fpD n ops), y9, y10, y11, some (.int F), y, none]) := by
      obtain ⟨ρ', e, y, rfl⟩ := forM_ok (g := gN 13) (b := lwD) (fun _ ρ => ∃ y, ρ = [some (lI ns), some (.int (n : Int)), some (tI ops), some (.tuple ((List.range n).map t)), some (.list (L.map tI)), some (lI CS), some (.list ((List.range n).map fun (p : Nat) => PyData.bool (fu p))), some (.bool ((List.range n).all fu)), some (fpD n ops), y9, y10, y11, some (.int F), y, none]) [tI (ops ++ [0]), PyData.tuple ((ops.drop 1).map PyData.int), tI (ops.drop 1 ++ [-F]), tI (ops.drop 1 ++ [(n : Int) + F])] [some (lI ns), some (.int (n : Int)), some (tI ops), some (.tuple ((List.range n).map t)), some (.list (L.map tI)), some (lI CS), some (.list ((List.range n).map fun (p : Nat) => PyData.bool (fu p))), some (.bool ((List.range n).all fu)), some (fpD n ops), y9, y10, y11, some (.int F), none, none] ⟨none, rfl⟩ (by
        rintro j d ρ hd ⟨y, rfl⟩
        obtain ⟨ys, hy, rfl⟩ : ∃ ys : List Int, BadO (n : Int) ys ∧ d = tI ys := by
          have := List.mem_of_getElem? hd
          simp only [List.mem_cons, List.not_mem_nil, or_false] at this
          rcases this with rfl | rfl | rfl | rfl
          · exact ⟨_, b1, rfl⟩
          · exact ⟨_, b2, rfl⟩
          · exact ⟨_, b3, rfl⟩
          · exact ⟨_, b4, rfl⟩
        refine ⟨_, _, rfl, ?_, some (tI ys), rfl⟩
        unfold lwD
        simp -implicitDefEqProofs only [yQ, zP, zO, wT, zY, yO, yF, xN, xO, wS, yK, yE, xF, wP, yM, yD, xQ, xB, xT, zC, wN, wV, xJ, wM, xM, xL, xD, wZ, xZ, eV0, eVs, xE, wQ, xU, xK, yJ, xS, xV, wO, wR, zB, yU, xR, yW, wY, yP, yH, xY, xW, xG, wU, xI, zF, xC, xX, zG, zA, yZ, yV, zK, zQ, zE, wW, xA, zH, xH, yC, yN, yG, yT, yR, yX, yY, yS, yL, yI, wA, wF, wC, wB, wE, wI, wD, wG, wH, Res.zW, Res.zD, Res.zL, Res.zT, Res.zN, Option.map_some, Option.bind_some, List.set_cons_zero, List.set_cons_succ, List.length_cons, List.length_nil, if_true, if_false, Bool.false_eq_true, ite_true, ite_false, Bool.not_true, Bool.not_false, eq_l_odd (t := t) hy])
      exact ⟨y, e⟩
    obtain ⟨y, fl⟩ := fl
    refine ⟨y, ?_⟩
    unfold lwL
    simp -implicitDefEqProofs only [yQ, zP, zO, wT, zY, yO, yF, xN, xO, wS, yK, yE, xF, wP, yM, yD, xQ, xB, xT, zC, wN, wV, xJ, wM, xM, xL, xD, wZ, xZ, eV0, eVs, xE, wQ, xU, xK, yJ, xS, xV, wO, wR, zB, yU, xR, yW, wY, yP, yH, xY, xW, xG, wU, xI, zF, xC, xX, zG, zA, yZ, yV, zK, zQ, zE, wW, xA, zH, xH, yC, yN, yG, yT, yR, yX, yY, yS, yL, yI, wA, wF, wC, wB, wE, wI, wD, wG, wH, Res.zW, Res.zD, Res.zL, Res.zT, Res.zN, Option.map_some, Option.bind_some, List.set_cons_zero, List.set_cons_succ, List.length_cons, List.length_nil, if_true, if_false, Bool.false_eq_true, ite_true, ite_false, Bool.not_true, Bool.not_false, k1, cut, k2, fl]
  obtain ⟨y13, lO⟩ := lO
  obtain ⟨w, hw0, hw1, ew⟩ : ∃ w : Int, 0 ≤ w ∧ w ≤ (n : Int) ∧ F % ((n : Int) + 1) = w := ⟨_, Int.emod_nonneg _ (by bv_omega), by have := Int.emod_lt_of_pos F (show (0 : Int) < (n : Int) + 1 by bv_omega); bv_omega, rfl⟩
  have qw : Opn n (List.replicate n w) := ⟨by simp, fun x hx => by have := List.eq_of_mem_replicate hx; bv_omega⟩
  have lW : lwW [some (lI ns), some (.int (n : Int)), some (tI ops), some (.tuple ((List.range n).map t)), some (.list (L.map tI)), some (lI CS), some (.list ((List.range n).map fun (p : Nat) => PyData.bool (fu p))), some (.bool ((List.range n).all fu)), some (fpD n ops), y9, y10, y11, some (.int F), y13, none] = .ok (.rt (.bool true)) := by
    have rp : repL (.list [.int w]) (.int (n : Int)) = some (lI (List.replicate n w)) := by
      rw [repL_one _ _ (by bv_omega), lI, List.map_replicate]
    have i1 := eq_is_fullG P q qw h1 (show n ≤ 6 by bv_omega)
    have c1 := full_comp (ρ := [some (lI ns), some (.int (n : Int)), some (tI ops), some (.tuple ((List.range n).map t)), some (.list (L.map tI)), some (lI CS), some (.list ((List.range n).map fun (p : Nat) => PyData.bool (fu p))), some (.bool ((List.range n).all fu)), some (fpD n ops), y9, y10, y11, some (.int F), y13, some (tI (List.replicate n w))]) (j := 14) P q qw (by bv_omega) rfl (fun _ => rfl)
    have r1 := eq_l_refused (t := t) (n := n) (p := (n : Int)) (by bv_omega)
    have r2 := eq_l_refused (t := t) (n := n) (p := -1) (by bv_omega)
    have r3 := eq_l_refused (t := t) (n := n) (p := (n : Int) + F) (by bv_omega)
    unfold lwW
    simp -implicitDefEqProofs only [yQ, zP, zO, wT, zY, yO, yF, xN, xO, wS, yK, yE, xF, wP, yM, yD, xQ, xB, xT, zC, wN, wV, xJ, wM, xM, xL, xD, wZ, xZ, eV0, eVs, xE, wQ, xU, xK, yJ, xS, xV, wO, wR, zB, yU, xR, yW, wY, yP, yH, xY, xW, xG, wU, xI, zF, xC, xX, zG, zA, yZ, yV, zK, zQ, zE, wW, xA, zH, xH, yC, yN, yG, yT, yR, yX, yY, yS, yL, yI, wA, wF, wC, wB, wE, wI, wD, wG, wH, Res.zW, Res.zD, Res.zL, Res.zT, Res.zN, Option.map_some, Option.bind_some, List.set_cons_zero, List.set_cons_succ, List.length_cons, List.length_nil, if_true, if_false, Bool.false_eq_true, ite_true, ite_false, Bool.not_true, Bool.not_false, modO, if_pos (show (0 : Int) < (n : Int) + 1 by bv_omega), ew, rp, i1, c1, allD_g, ne_b, r1, r2, r3]
  rw [law_u]
  simp -implicitDefEqProofs only [yQ, zP, zO, wT, zY, yO, yF, xN, xO, wS, yK, yE, xF, wP, yM, yD, xQ, xB, xT, zC, wN, wV, xJ, wM, xM, xL, xD, wZ, xZ, eV0, eVs, xE, wQ, xU, xK, yJ, xS, xV, wO, wR, zB, yU, xR, yW, wY, yP, yH, xY, xW, xG, wU, xI, zF, xC, xX, zG, zA, yZ, yV, zK, zQ, zE, wW, xA, zH, xH, yC, yN, yG, yT, yR, yX, yY, yS, yL, yI, wA, wF, wC, wB, wE, wI, wD, wG, wH, Res.zW, Res.zD, Res.zL, Res.zT, Res.zN, Option.map_some, Option.bind_some, List.set_cons_zero, List.set_cons_succ, List.length_cons, List.length_nil, if_true, if_false, Bool.false_eq_true, ite_true, ite_false, Bool.not_true, Bool.not_false, eg, gt, ep, ao', ec, eE', isf, eC', efp, rng_nat (show n ≤ 1000 by bv_omega), l1, sm, pw, modO, if_pos hPw, eF', lO, lW]
end K26
open PySem PySem.W PyProof.Rows
theorem K26.big_mk {K : PySem.W.Frag} {zU vT vV zJ : PySem.Addr} (n_BadOpenings : PySem.W.nsIn K PySem.mainGlobals "BadOpenings" = some (some (.ref zU))) (n_BadOrder : PySem.W.nsIn K PySem.mainGlobals "BadOrder" = some (some (.ref vT))) (n_BoxError : PySem.W.nsIn K PySem.mainGlobals "BoxError" = some (some (.ref vV))) (n_NoPerson : PySem.W.nsIn K PySem.mainGlobals "NoPerson" = some (some (.ref zJ))) (o_BadOpenings : PySem.W.excIn K zU L2.L3.bmV "ValueError.__new__" = true) (g1_BadOpenings : PySem.W.findIn K (.ref zU) "__getattribute__" = some (some (.builtin "BaseException.__getattribute__"))) (g2_BadOpenings : PySem.W.findIn K (.ref zU) "__getattr__" = some none) (g3_BadOpenings : PySem.W.findIn K (.ref zU) "__class__" = some (some (.builtin "object.__class__"))) (g4_BadOpenings : PySem.W.kitOne K (.ref zU) (.type "BaseException") = some true) (g5_BadOpenings : PySem.W.kitOne K (.ref zU) (.type "object") = some true) (g6_BadOpenings : (PySem.W.clsIn K zU).isSome = true) (o_NoPerson : PySem.W.excIn K zJ L2.L3.bmV "ValueError.__new__" = true) (g1_NoPerson : PySem.W.findIn K (.ref zJ) "__getattribute__" = some (some (.builtin "BaseException.__getattribute__"))) (g2_NoPerson : PySem.W.findIn K (.ref zJ) "__getattr__" = some none) (g3_NoPerson : PySem.W.findIn K (.ref zJ) "__class__" = some (some (.builtin "object.__class__"))) (g4_NoPerson : PySem.W.kitOne K (.ref zJ) (.type "BaseException") = some true) (g5_NoPerson : PySem.W.kitOne K (.ref zJ) (.type "object") = some true) (g6_NoPerson : (PySem.W.clsIn K zJ).isSome = true) (z_BadOpenings : PySem.W.kitOne K (.type "NoneType") (.ref zU) = some false) (t_BadOpenings_BadOpenings : PySem.W.kitOne K (.ref zU) (.ref zU) = some true) (t_NoPerson_BadOpenings : PySem.W.kitOne K (.ref zJ) (.ref zU) = some false) (z_BadOrder : PySem.W.kitOne K (.type "NoneType") (.ref vT) = some false) (t_BadOpenings_BadOrder : PySem.W.kitOne K (.ref zU) (.ref vT) = some false) (t_NoPerson_BadOrder : PySem.W.kitOne K (.ref zJ) (.ref vT) = some false) (z_NoPerson : PySem.W.kitOne K (.type "NoneType") (.ref zJ) = some false) (t_BadOpenings_NoPerson : PySem.W.kitOne K (.ref zU) (.ref zJ) = some false) (t_NoPerson_NoPerson : PySem.W.kitOne K (.ref zJ) (.ref zJ) = some true) (z_ValueError : PySem.W.kitOne K (.type "NoneType") (.type "ValueError") = some false) (t_BadOpenings_ValueError : PySem.W.kitOne K (.ref zU) (.type "ValueError") = some true) (t_NoPerson_ValueError : PySem.W.kitOne K (.ref zJ) (.type "ValueError") = some true) (b_BoxError : PySem.W.kitOne K (.ref vV) (.type "BaseException") = some true) (c_BadOpenings_BoxError : PySem.W.kitOne K (.ref zU) (.ref vV) = some true) (d_BadOpenings_BoxError : (PySem.Value.ref zU == PySem.Value.ref vV) = false) (c_NoPerson_BoxError : PySem.W.kitOne K (.ref zJ) (.ref vV) = some true) (d_NoPerson_BoxError : (PySem.Value.ref zJ == PySem.Value.ref vV) = false) : ∃ zU vT vV zJ : PySem.Addr, (PySem.W.nsIn K PySem.mainGlobals "BadOpenings" = some (some (.ref zU))) ∧ (PySem.W.nsIn K PySem.mainGlobals "BadOrder" = some (some (.ref vT))) ∧ (PySem.W.nsIn K PySem.mainGlobals "BoxError" = some (some (.ref vV))) ∧ (PySem.W.nsIn K PySem.mainGlobals "NoPerson" = some (some (.ref zJ))) ∧ (PySem.W.excIn K zU L2.L3.bmV "ValueError.__new__" = true) ∧ (PySem.W.findIn K (.ref zU) "__getattribute__" = some (some (.builtin "BaseException.__getattribute__"))) ∧ (PySem.W.findIn K (.ref zU) "__getattr__" = some none) ∧ (PySem.W.findIn K (.ref zU) "__class__" = some (some (.builtin "object.__class__"))) ∧ (PySem.W.kitOne K (.ref zU) (.type "BaseException") = some true) ∧ (PySem.W.kitOne K (.ref zU) (.type "object") = some true) ∧ ((PySem.W.clsIn K zU).isSome = true) ∧ (PySem.W.excIn K zJ L2.L3.bmV "ValueError.__new__" = true) ∧ (PySem.W.findIn K (.ref zJ) "__getattribute__" = some (some (.builtin "BaseException.__getattribute__"))) ∧ (PySem.W.findIn K (.ref zJ) "__getattr__" = some none) ∧ (PySem.W.findIn K (.ref zJ) "__class__" = some (some (.builtin "object.__class__"))) ∧ (PySem.W.kitOne K (.ref zJ) (.type "BaseException") = some true) ∧ (PySem.W.kitOne K (.ref zJ) (.type "object") = some true) ∧ ((PySem.W.clsIn K zJ).isSome = true) ∧ (PySem.W.kitOne K (.type "NoneType") (.ref zU) = some false) ∧ (PySem.W.kitOne K (.ref zU) (.ref zU) = some true) ∧ (PySem.W.kitOne K (.ref zJ) (.ref zU) = some false) ∧ (PySem.W.kitOne K (.type "NoneType") (.ref vT) = some false) ∧ (PySem.W.kitOne K (.ref zU) (.ref vT) = some false) ∧ (PySem.W.kitOne K (.ref zJ) (.ref vT) = some false) ∧ (PySem.W.kitOne K (.type "NoneType") (.ref zJ) = some false) ∧ (PySem.W.kitOne K (.ref zU) (.ref zJ) = some false) ∧ (PySem.W.kitOne K (.ref zJ) (.ref zJ) = some true) ∧ (PySem.W.kitOne K (.type "NoneType") (.type "ValueError") = some false) ∧ (PySem.W.kitOne K (.ref zU) (.type "ValueError") = some true) ∧ (PySem.W.kitOne K (.ref zJ) (.type "ValueError") = some true) ∧ (PySem.W.kitOne K (.ref vV) (.type "BaseException") = some true) ∧ (PySem.W.kitOne K (.ref zU) (.ref vV) = some true) ∧ ((PySem.Value.ref zU == PySem.Value.ref vV) = false) ∧ (PySem.W.kitOne K (.ref zJ) (.ref vV) = some true) ∧ ((PySem.Value.ref zJ == PySem.Value.ref vV) = false) := ⟨zU, vT, vV, zJ, n_BadOpenings, n_BadOrder, n_BoxError, n_NoPerson, o_BadOpenings, g1_BadOpenings, g2_BadOpenings, g3_BadOpenings, g4_BadOpenings, g5_BadOpenings, g6_BadOpenings, o_NoPerson, g1_NoPerson, g2_NoPerson, g3_NoPerson, g4_NoPerson, g5_NoPerson, g6_NoPerson, z_BadOpenings, t_BadOpenings_BadOpenings, t_NoPerson_BadOpenings, z_BadOrder, t_BadOpenings_BadOrder, t_NoPerson_BadOrder, z_NoPerson, t_BadOpenings_NoPerson, t_NoPerson_NoPerson, z_ValueError, t_BadOpenings_ValueError, t_NoPerson_ValueError, b_BoxError, c_BadOpenings_BoxError, d_BadOpenings_BoxError, c_NoPerson_BoxError, d_NoPerson_BoxError⟩
set_option maxRecDepth 100000 in
set_option maxHeartbeats 0 in
theorem PySem.Challenge.cw_ownboxes_k26_full_plans_and_shares_holds : PySem.Challenge.rw_ownboxes_k26_full_plans_and_shares.Holds := by
  w_on; o_law; k_head; (case hw => w_witness2)
  k_fill
  refine L2.L3.walk_valX (F := K26.F_law) (k := 13) (l := PySem.Challenge.rw_ownboxes_k26_full_plans_and_shares) K26.law_true ⟨rfl, by decide, by decide⟩ rfl rfl (fun w h Y => PySem.W.kIn_of Y) (fun w => by rfl) ?F
  case F =>
    intro w mg fa h KX G hmg
    letI cn : L2.L3.CN := L2.L3.cnOf (L2.KOf KX)
    have D_many_orders : ∃ f fd, L2.Has (L2.KOf KX) mg "many_orders" K26.s_many_orders f fd ["people"] := by
      dsimp only [L2.KOf]
      refine' ⟨_, _, L2.has_mk KX G ?a ?l ?c ?k ?b⟩
      (case a => k_is); (case l => k_is); (case c => k_is); (case k => k_is)
      (case b => intro _ _ _ _ _ _; refine L2.L3.ls1 ?_; exact fun _ => rfl)
    have D_made_openings : ∃ f fd, L2.Has (L2.KOf KX) mg "made_openings" K26.s_made_openings f fd ["people", "numbers"] := by
      dsimp only [L2.KOf]
      refine' ⟨_, _, L2.has_mk KX G ?a ?l ?c ?k ?b⟩
      (case a => k_is); (case l => k_is); (case c => k_is); (case k => k_is)
      (case b => intro _ _ _ _ _ _; refine L2.L3.ls2 ?_; exact fun _ _ => rfl)
    have D_check_person : ∃ f fd, L2.Has (L2.KOf KX) mg "check_person" K26.s_check_person f fd ["people", "person"] := by
      dsimp only [L2.KOf]
      refine' ⟨_, _, L2.has_mk KX G ?a ?l ?c ?k ?b⟩
      (case a => k_is); (case l => k_is); (case c => k_is); (case k => k_is)
      (case b => intro _ _ _ _ _ _; refine L2.L3.ls2 ?_; exact fun _ _ => rfl)
    have D_openings_of_a_plan : ∃ f fd, L2.Has (L2.KOf KX) mg "openings_of_a_plan" K26.s_openings_of_a_plan f fd ["openings"] := by
      dsimp only [L2.KOf]
      refine' ⟨_, _, L2.has_mk KX G ?a ?l ?c ?k ?b⟩
      (case a => k_is); (case l => k_is); (case c => k_is); (case k => k_is)
      (case b => intro _ _ _ _ _ _; refine L2.L3.ls1 ?_; exact fun _ => rfl)
    have D_following_tree : ∃ f fd, L2.Has (L2.KOf KX) mg "following_tree" K26.s_following_tree f fd ["box", "people", "left", "names"] := by
      dsimp only [L2.KOf]
      refine' ⟨_, _, L2.has_mk KX G ?a ?l ?c ?k ?b⟩
      (case a => k_is); (case l => k_is); (case c => k_is); (case k => k_is)
      (case b => intro _ _ _ _ _ _; refine L2.L3.ls4 ?_; exact fun _ _ _ _ => rfl)
    have D_following_plan : ∃ f fd, L2.Has (L2.KOf KX) mg "following_plan" K26.s_following_plan f fd ["openings"] := by
      dsimp only [L2.KOf]
      refine' ⟨_, _, L2.has_mk KX G ?a ?l ?c ?k ?b⟩
      (case a => k_is); (case l => k_is); (case c => k_is); (case k => k_is)
      (case b => intro _ _ _ _ _ _; refine L2.L3.ls1 ?_; exact fun _ => rfl)
    have D_is_full_tree : ∃ f fd, L2.Has (L2.KOf KX) mg "is_full_tree" K26.s_is_full_tree f fd ["tree", "left", "names"] := by
      dsimp only [L2.KOf]
      refine' ⟨_, _, L2.has_mk KX G ?a ?l ?c ?k ?b⟩
      (case a => k_is); (case l => k_is); (case c => k_is); (case k => k_is)
      (case b => intro _ _ _ _ _ _; refine L2.L3.ls3 ?_; exact fun _ _ _ => rfl)
    have D_is_full : ∃ f fd, L2.Has (L2.KOf KX) mg "is_full" K26.s_is_full f fd ["plan", "openings"] := by
      dsimp only [L2.KOf]
      refine' ⟨_, _, L2.has_mk KX G ?a ?l ?c ?k ?b⟩
      (case a => k_is); (case l => k_is); (case c => k_is); (case k => k_is)
      (case b => intro _ _ _ _ _ _; refine L2.L3.ls2 ?_; exact fun _ _ => rfl)
    have D_many_found_down : ∃ f fd, L2.Has (L2.KOf KX) mg "many_found_down" K26.s_many_found_down f fd ["tree", "closed"] := by
      dsimp only [L2.KOf]
      refine' ⟨_, _, L2.has_mk KX G ?a ?l ?c ?k ?b⟩
      (case a => k_is); (case l => k_is); (case c => k_is); (case k => k_is)
      (case b => intro _ _ _ _ _ _; refine L2.L3.ls2 ?_; exact fun _ _ => rfl)
    have D_finds_in : ∃ f fd, L2.Has (L2.KOf KX) mg "finds_in" K26.s_finds_in f fd ["plan", "person"] := by
      dsimp only [L2.KOf]
      refine' ⟨_, _, L2.has_mk KX G ?a ?l ?c ?k ?b⟩
      (case a => k_is); (case l => k_is); (case c => k_is); (case k => k_is)
      (case b => intro _ _ _ _ _ _; refine L2.L3.ls2 ?_; exact fun _ _ => rfl)
    have D_l_cell_at : ∃ f fd, L2.Has (L2.KOf KX) mg "_law_cell_at" K26.s_l_cell_at f fd ["script", "k"] := by
      dsimp only [L2.KOf]
      refine' ⟨_, _, L2.has_mk KX G ?a ?l ?c ?k ?b⟩
      (case a => k_is); (case l => k_is); (case c => k_is); (case k => k_is)
      (case b => intro _ _ _ _ _ _; refine L2.L3.ls2 ?_; exact fun _ _ => rfl)
    have D_l_sums : ∃ f fd, L2.Has (L2.KOf KX) mg "_law_sums" K26.s_l_sums f fd ["script", "start", "many"] := by
      dsimp only [L2.KOf]
      refine' ⟨_, _, L2.has_mk KX G ?a ?l ?c ?k ?b⟩
      (case a => k_is); (case l => k_is); (case c => k_is); (case k => k_is)
      (case b => intro _ _ _ _ _ _; refine L2.L3.ls3 ?_; exact fun _ _ _ => rfl)
    have D_l_take : ∃ f fd, L2.Has (L2.KOf KX) mg "_law_take" K26.s_l_take f fd ["pot", "many"] := by
      dsimp only [L2.KOf]
      refine' ⟨_, _, L2.has_mk KX G ?a ?l ?c ?k ?b⟩
      (case a => k_is); (case l => k_is); (case c => k_is); (case k => k_is)
      (case b => intro _ _ _ _ _ _; refine L2.L3.ls2 ?_; exact fun _ _ => rfl)
    have D_l_openings : ∃ f fd, L2.Has (L2.KOf KX) mg "_law_openings" K26.s_l_openings f fd ["pot", "people"] := by
      dsimp only [L2.KOf]
      refine' ⟨_, _, L2.has_mk KX G ?a ?l ?c ?k ?b⟩
      (case a => k_is); (case l => k_is); (case c => k_is); (case k => k_is)
      (case b => intro _ _ _ _ _ _; refine L2.L3.ls2 ?_; exact fun _ _ => rfl)
    have D_l_tree : ∃ f fd, L2.Has (L2.KOf KX) mg "_law_tree" K26.s_l_tree f fd ["pot", "people", "left", "boxes", "names", "thin"] := by
      dsimp only [L2.KOf]
      refine' ⟨_, _, L2.has_mk KX G ?a ?l ?c ?k ?b⟩
      (case a => k_is); (case l => k_is); (case c => k_is); (case k => k_is)
      (case b => intro _ _ _ _ _ _; refine L2.L3.ls6 ?_; exact fun _ _ _ _ _ _ => rfl)
    have D_l_plan : ∃ f fd, L2.Has (L2.KOf KX) mg "_law_plan" K26.s_l_plan f fd ["script", "people", "openings"] := by
      dsimp only [L2.KOf]
      refine' ⟨_, _, L2.has_mk KX G ?a ?l ?c ?k ?b⟩
      (case a => k_is); (case l => k_is); (case c => k_is); (case k => k_is)
      (case b => intro _ _ _ _ _ _; refine L2.L3.ls3 ?_; exact fun _ _ _ => rfl)
    have D_l_ground : ∃ f fd, L2.Has (L2.KOf KX) mg "_law_ground" K26.s_l_ground f fd ["script"] := by
      dsimp only [L2.KOf]
      refine' ⟨_, _, L2.has_mk KX G ?a ?l ?c ?k ?b⟩
      (case a => k_is); (case l => k_is); (case c => k_is); (case k => k_is)
      (case b => intro _ _ _ _ _ _; refine L2.L3.ls1 ?_; exact fun _ => rfl)
    have D_l_whole : ∃ f fd, L2.Has (L2.KOf KX) mg "_law_whole" K26.s_l_whole f fd ["found"] := by
      dsimp only [L2.KOf]
      refine' ⟨_, _, L2.has_mk KX G ?a ?l ?c ?k ?b⟩
      (case a => k_is); (case l => k_is); (case c => k_is); (case k => k_is)
      (case b => intro _ _ _ _ _ _; refine L2.L3.ls1 ?_; exact fun _ => rfl)
    have D_l_down : ∃ f fd, L2.Has (L2.KOf KX) mg "_law_down" K26.s_l_down f fd ["tree", "order"] := by
      dsimp only [L2.KOf]
      refine' ⟨_, _, L2.has_mk KX G ?a ?l ?c ?k ?b⟩
      (case a => k_is); (case l => k_is); (case c => k_is); (case k => k_is)
      (case b => intro _ _ _ _ _ _; refine L2.L3.ls2 ?_; exact fun _ _ => rfl)
    have D_l_all_orders : ∃ f fd, L2.Has (L2.KOf KX) mg "_law_all_orders" K26.s_l_all_orders f fd ["people"] := by
      dsimp only [L2.KOf]
      refine' ⟨_, _, L2.has_mk KX G ?a ?l ?c ?k ?b⟩
      (case a => k_is); (case l => k_is); (case c => k_is); (case k => k_is)
      (case b => intro _ _ _ _ _ _; refine L2.L3.ls1 ?_; exact fun _ => rfl)
    have D_l_is_full : ∃ f fd, L2.Has (L2.KOf KX) mg "_law_is_full" K26.s_l_is_full f fd ["tree", "names", "left"] := by
      dsimp only [L2.KOf]
      refine' ⟨_, _, L2.has_mk KX G ?a ?l ?c ?k ?b⟩
      (case a => k_is); (case l => k_is); (case c => k_is); (case k => k_is)
      (case b => intro _ _ _ _ _ _; refine L2.L3.ls3 ?_; exact fun _ _ _ => rfl)
    have D_l_odd_openings : ∃ f fd, L2.Has (L2.KOf KX) mg "_law_odd_openings" K26.s_l_odd_openings f fd ["plan", "openings"] := by
      dsimp only [L2.KOf]
      refine' ⟨_, _, L2.has_mk KX G ?a ?l ?c ?k ?b⟩
      (case a => k_is); (case l => k_is); (case c => k_is); (case k => k_is)
      (case b => intro _ _ _ _ _ _; refine L2.L3.ls2 ?_; exact fun _ _ => rfl)
    have D_l_refused : ∃ f fd, L2.Has (L2.KOf KX) mg "_law_refused" K26.s_l_refused f fd ["plan", "person"] := by
      dsimp only [L2.KOf]
      refine' ⟨_, _, L2.has_mk KX G ?a ?l ?c ?k ?b⟩
      (case a => k_is); (case l => k_is); (case c => k_is); (case k => k_is)
      (case b => intro _ _ _ _ _ _; refine L2.L3.ls2 ?_; exact fun _ _ => rfl)
    have D_l_counts : ∃ f fd, L2.Has (L2.KOf KX) mg "_law_counts" K26.s_l_counts f fd ["plan", "orders"] := by
      dsimp only [L2.KOf]
      refine' ⟨_, _, L2.has_mk KX G ?a ?l ?c ?k ?b⟩
      (case a => k_is); (case l => k_is); (case c => k_is); (case k => k_is)
      (case b => intro _ _ _ _ _ _; refine L2.L3.ls2 ?_; exact fun _ _ => rfl)
    have D_law : ∃ f fd, L2.Has (L2.KOf KX) mg "law" K26.s_law f fd ["script"] ∧ (∀ (s : Shared) (u : Value), BindsTo s fd ⟨[u], []⟩ [("script", u)]) := by
      dsimp only [L2.KOf]
      refine' ⟨_, _, L2.has_mk KX G ?a ?l ?c ?k ?b, ?d⟩
      (case a => k_is); (case l => k_is); (case c => k_is); (case k => k_is)
      (case b => intro _ _ _ _ _ _; refine L2.L3.ls1 ?_; exact fun _ => rfl)
      (case d => exact fun s u => .of_eq rfl)
    have BIG : ∃ zU vT vV zJ : PySem.Addr, (PySem.W.nsIn (L2.KOf KX) PySem.mainGlobals "BadOpenings" = some (some (.ref zU))) ∧ (PySem.W.nsIn (L2.KOf KX) PySem.mainGlobals "BadOrder" = some (some (.ref vT))) ∧ (PySem.W.nsIn (L2.KOf KX) PySem.mainGlobals "BoxError" = some (some (.ref vV))) ∧ (PySem.W.nsIn (L2.KOf KX) PySem.mainGlobals "NoPerson" = some (some (.ref zJ))) ∧ (PySem.W.excIn (L2.KOf KX) zU L2.L3.bmV "ValueError.__new__" = true) ∧ (PySem.W.findIn (L2.KOf KX) (.ref zU) "__getattribute__" = some (some (.builtin "BaseException.__getattribute__"))) ∧ (PySem.W.findIn (L2.KOf KX) (.ref zU) "__getattr__" = some none) ∧ (PySem.W.findIn (L2.KOf KX) (.ref zU) "__class__" = some (some (.builtin "object.__class__"))) ∧ (PySem.W.kitOne (L2.KOf KX) (.ref zU) (.type "BaseException") = some true) ∧ (PySem.W.kitOne (L2.KOf KX) (.ref zU) (.type "object") = some true) ∧ ((PySem.W.clsIn (L2.KOf KX) zU).isSome = true) ∧ (PySem.W.excIn (L2.KOf KX) zJ L2.L3.bmV "ValueError.__new__" = true) ∧ (PySem.W.findIn (L2.KOf KX) (.ref zJ) "__getattribute__" = some (some (.builtin "BaseException.__getattribute__"))) ∧ (PySem.W.findIn (L2.KOf KX) (.ref zJ) "__getattr__" = some none) ∧ (PySem.W.findIn (L2.KOf KX) (.ref zJ) "__class__" = some (some (.builtin "object.__class__"))) ∧ (PySem.W.kitOne (L2.KOf KX) (.ref zJ) (.type "BaseException") = some true) ∧ (PySem.W.kitOne (L2.KOf KX) (.ref zJ) (.type "object") = some true) ∧ ((PySem.W.clsIn (L2.KOf KX) zJ).isSome = true) ∧ (PySem.W.kitOne (L2.KOf KX) (.type "NoneType") (.ref zU) = some false) ∧ (PySem.W.kitOne (L2.KOf KX) (.ref zU) (.ref zU) = some true) ∧ (PySem.W.kitOne (L2.KOf KX) (.ref zJ) (.ref zU) = some false) ∧ (PySem.W.kitOne (L2.KOf KX) (.type "NoneType") (.ref vT) = some false) ∧ (PySem.W.kitOne (L2.KOf KX) (.ref zU) (.ref vT) = some false) ∧ (PySem.W.kitOne (L2.KOf KX) (.ref zJ) (.ref vT) = some false) ∧ (PySem.W.kitOne (L2.KOf KX) (.type "NoneType") (.ref zJ) = some false) ∧ (PySem.W.kitOne (L2.KOf KX) (.ref zU) (.ref zJ) = some false) ∧ (PySem.W.kitOne (L2.KOf KX) (.ref zJ) (.ref zJ) = some true) ∧ (PySem.W.kitOne (L2.KOf KX) (.type "NoneType") (.type "ValueError") = some false) ∧ (PySem.W.kitOne (L2.KOf KX) (.ref zU) (.type "ValueError") = some true) ∧ (PySem.W.kitOne (L2.KOf KX) (.ref zJ) (.type "ValueError") = some true) ∧ (PySem.W.kitOne (L2.KOf KX) (.ref vV) (.type "BaseException") = some true) ∧ (PySem.W.kitOne (L2.KOf KX) (.ref zU) (.ref vV) = some true) ∧ ((PySem.Value.ref zU == PySem.Value.ref vV) = false) ∧ (PySem.W.kitOne (L2.KOf KX) (.ref zJ) (.ref vV) = some true) ∧ ((PySem.Value.ref zJ == PySem.Value.ref vV) = false) := by
      dsimp only [L2.KOf]
      refine' K26.big_mk ?q_n_BadOpenings ?q_n_BadOrder ?q_n_BoxError ?q_n_NoPerson ?q_o_BadOpenings ?q_g1_BadOpenings ?q_g2_BadOpenings ?q_g3_BadOpenings ?q_g4_BadOpenings ?q_g5_BadOpenings ?q_g6_BadOpenings ?q_o_NoPerson ?q_g1_NoPerson ?q_g2_NoPerson ?q_g3_NoPerson ?q_g4_NoPerson ?q_g5_NoPerson ?q_g6_NoPerson ?q_z_BadOpenings ?q_t_BadOpenings_BadOpenings ?q_t_NoPerson_BadOpenings ?q_z_BadOrder ?q_t_BadOpenings_BadOrder ?q_t_NoPerson_BadOrder ?q_z_NoPerson ?q_t_BadOpenings_NoPerson ?q_t_NoPerson_NoPerson ?q_z_ValueError ?q_t_BadOpenings_ValueError ?q_t_NoPerson_ValueError ?q_b_BoxError ?q_c_BadOpenings_BoxError ?q_d_BadOpenings_BoxError ?q_c_NoPerson_BoxError ?q_d_NoPerson_BoxError
      (case q_n_BadOpenings => k_is)
      (case q_n_BadOrder => k_is)
      (case q_n_BoxError => k_is)
      (case q_n_NoPerson => k_is)
      (case q_o_BadOpenings => k_exc)
      (case q_g1_BadOpenings => k_is)
      (case q_g2_BadOpenings => k_is)
      (case q_g3_BadOpenings => k_is)
      (case q_g4_BadOpenings => kit_is)
      (case q_g5_BadOpenings => kit_is)
      (case q_g6_BadOpenings => first | k_is | rfl | decide +kernel)
      (case q_o_NoPerson => k_exc)
      (case q_g1_NoPerson => k_is)
      (case q_g2_NoPerson => k_is)
      (case q_g3_NoPerson => k_is)
      (case q_g4_NoPerson => kit_is)
      (case q_g5_NoPerson => kit_is)
      (case q_g6_NoPerson => first | k_is | rfl | decide +kernel)
      (case q_z_BadOpenings => kit_is)
      (case q_t_BadOpenings_BadOpenings => kit_is)
      (case q_t_NoPerson_BadOpenings => kit_is)
      (case q_z_BadOrder => kit_is)
      (case q_t_BadOpenings_BadOrder => kit_is)
      (case q_t_NoPerson_BadOrder => kit_is)
      (case q_z_NoPerson => kit_is)
      (case q_t_BadOpenings_NoPerson => kit_is)
      (case q_t_NoPerson_NoPerson => kit_is)
      (case q_z_ValueError => kit_is)
      (case q_t_BadOpenings_ValueError => kit_is)
      (case q_t_NoPerson_ValueError => kit_is)
      (case q_b_BoxError => kit_is)
      (case q_c_BadOpenings_BoxError => kit_is)
      (case q_d_BadOpenings_BoxError => decide)
      (case q_c_NoPerson_BoxError => kit_is)
      (case q_d_NoPerson_BoxError => decide)
    obtain ⟨zU, vT, vV, zJ, n_BadOpenings, n_BadOrder, n_BoxError, n_NoPerson, o_BadOpenings, g1_BadOpenings, g2_BadOpenings, g3_BadOpenings, g4_BadOpenings, g5_BadOpenings, g6_BadOpenings, o_NoPerson, g1_NoPerson, g2_NoPerson, g3_NoPerson, g4_NoPerson, g5_NoPerson, g6_NoPerson, z_BadOpenings, t_BadOpenings_BadOpenings, t_NoPerson_BadOpenings, z_BadOrder, t_BadOpenings_BadOrder, t_NoPerson_BadOrder, z_NoPerson, t_BadOpenings_NoPerson, t_NoPerson_NoPerson, z_ValueError, t_BadOpenings_ValueError, t_NoPerson_ValueError, b_BoxError, c_BadOpenings_BoxError, d_BadOpenings_BoxError, c_NoPerson_BoxError, d_NoPerson_BoxError⟩ := BIG
    have e_BadOpenings : L2.L3.CN.ad "BadOpenings" = zU := L2.L3.cn_ad n_BadOpenings
    have e_BadOrder : L2.L3.CN.ad "BadOrder" = vT := L2.L3.cn_ad n_BadOrder
    have e_BoxError : L2.L3.CN.ad "BoxError" = vV := L2.L3.cn_ad n_BoxError
    have e_NoPerson : L2.L3.CN.ad "NoPerson" = zJ := L2.L3.cn_ad n_NoPerson
    have k_BadOpenings : PySem.ExK (L2.KOf KX) (L2.L3.CN.ad "BadOpenings") := by rw [e_BadOpenings]; exact ⟨g1_BadOpenings, g2_BadOpenings, g3_BadOpenings, L2.L3.subT_of g4_BadOpenings, L2.L3.subT_of g5_BadOpenings, g6_BadOpenings⟩
    have k_NoPerson : PySem.ExK (L2.KOf KX) (L2.L3.CN.ad "NoPerson") := by rw [e_NoPerson]; exact ⟨g1_NoPerson, g2_NoPerson, g3_NoPerson, L2.L3.subT_of g4_NoPerson, L2.L3.subT_of g5_NoPerson, g6_NoPerson⟩
    have T : K26.Txt (L2.KOf KX) mg := by
      dsimp only [L2.KOf]
      refine' ⟨PySem.W.mg_none_of KX G ?z0, PySem.W.mg_none_of KX G ?z1, PySem.W.mg_none_of KX G ?z2, PySem.W.mg_none_of KX G ?z3, PySem.W.mg_none_of KX G ?z4, PySem.W.mg_none_of KX G ?z5, PySem.W.mg_none_of KX G ?z6, PySem.W.mg_none_of KX G ?z7, PySem.W.mg_none_of KX G ?z8, PySem.W.mg_none_of KX G ?z9, PySem.W.mg_none_of KX G ?z10, PySem.W.mg_none_of KX G ?z11, ⟨_, PySem.W.mg_of KX G ?y0, ?x0⟩, ⟨_, PySem.W.mg_of KX G ?y1, ?x1⟩, ⟨?k0_0, ?k0_1, ?k0_2, ?k0_3, ?k0_4, ?k0_5⟩, ⟨?k1_0, ?k1_1, ?k1_2, ?k1_3, ?k1_4, ?k1_5⟩, D_many_orders, D_made_openings, D_check_person, D_openings_of_a_plan, D_following_tree, D_following_plan, D_is_full_tree, D_is_full, D_many_found_down, D_finds_in, D_l_cell_at, D_l_sums, D_l_take, D_l_openings, D_l_tree, D_l_plan, D_l_ground, D_l_whole, D_l_down, D_l_all_orders, D_l_is_full, D_l_odd_openings, D_l_refused, D_l_counts, (let ⟨f, fd, h, _⟩ := D_law; ⟨f, fd, h⟩), ?xa0, ?xa1, ?xa2, ?xa3, ?xb0, ?xb1, ?xc0, ?xc1, ?xc2, ?xd0, ?xe0, ?xf0⟩
      (case z0 => k_is)
      (case z1 => k_is)
      (case z2 => k_is)
      (case z3 => k_is)
      (case z4 => k_is)
      (case z5 => k_is)
      (case z6 => k_is)
      (case z7 => k_is)
      (case z8 => k_is)
      (case z9 => k_is)
      (case z10 => k_is)
      (case z11 => k_is)
      (case y0 => k_is); (case x0 => exact ⟨_, rfl⟩)
      (case y1 => k_is); (case x1 => exact ⟨_, rfl⟩)
      (case k0_0 => first | kit_is | rfl)
      (case k0_1 => first | kit_is | rfl)
      (case k0_2 => first | kit_is | rfl)
      (case k0_3 => first | kit_is | rfl)
      (case k0_4 => first | kit_is | rfl)
      (case k0_5 => first | kit_is | rfl)
      (case k1_0 => first | kit_is | rfl)
      (case k1_1 => first | kit_is | rfl)
      (case k1_2 => first | kit_is | rfl)
      (case k1_3 => first | kit_is | rfl)
      (case k1_4 => first | kit_is | rfl)
      (case k1_5 => first | kit_is | rfl)
      (case xa0 => rw [e_BadOpenings]; exact PySem.W.mg_of KX G n_BadOpenings)
      (case xa1 => rw [e_BadOrder]; exact PySem.W.mg_of KX G n_BadOrder)
      (case xa2 => rw [e_BoxError]; exact PySem.W.mg_of KX G n_BoxError)
      (case xa3 => rw [e_NoPerson]; exact PySem.W.mg_of KX G n_NoPerson)
      (case xb0 => unfold L2.L3.OwnX; rw [e_BadOpenings]; exact o_BadOpenings)
      (case xb1 => unfold L2.L3.OwnX; rw [e_NoPerson]; exact o_NoPerson)
      (case xc0 => exact L2.L3.isK_of (by rw [e_BadOpenings]; exact z_BadOpenings) (List.forall_mem_cons.2 ⟨⟨k_BadOpenings, by rw [e_BadOpenings]; exact t_BadOpenings_BadOpenings.trans (congrArg some (by decide))⟩, (List.forall_mem_cons.2 ⟨⟨k_NoPerson, by rw [e_NoPerson, e_BadOpenings]; exact t_NoPerson_BadOpenings.trans (congrArg some (by decide))⟩, (fun _ h => nomatch h)⟩)⟩))
      (case xc1 => exact L2.L3.isK_of (by rw [e_BadOrder]; exact z_BadOrder) (List.forall_mem_cons.2 ⟨⟨k_BadOpenings, by rw [e_BadOpenings, e_BadOrder]; exact t_BadOpenings_BadOrder.trans (congrArg some (by decide))⟩, (List.forall_mem_cons.2 ⟨⟨k_NoPerson, by rw [e_NoPerson, e_BadOrder]; exact t_NoPerson_BadOrder.trans (congrArg some (by decide))⟩, (fun _ h => nomatch h)⟩)⟩))
      (case xc2 => exact L2.L3.isK_of (by rw [e_NoPerson]; exact z_NoPerson) (List.forall_mem_cons.2 ⟨⟨k_BadOpenings, by rw [e_BadOpenings, e_NoPerson]; exact t_BadOpenings_NoPerson.trans (congrArg some (by decide))⟩, (List.forall_mem_cons.2 ⟨⟨k_NoPerson, by rw [e_NoPerson]; exact t_NoPerson_NoPerson.trans (congrArg some (by decide))⟩, (fun _ h => nomatch h)⟩)⟩))
      (case xd0 => exact L2.L3.isK_of z_ValueError (List.forall_mem_cons.2 ⟨⟨k_BadOpenings, by rw [e_BadOpenings]; exact t_BadOpenings_ValueError.trans (congrArg some (by decide))⟩, (List.forall_mem_cons.2 ⟨⟨k_NoPerson, by rw [e_NoPerson]; exact t_NoPerson_ValueError.trans (congrArg some (by decide))⟩, (fun _ h => nomatch h)⟩)⟩))
      (case xe0 => exact L2.L3.kx_of (List.forall_mem_cons.2 ⟨by rw [e_BadOpenings, e_BoxError]; exact L2.L3.kitCls_of c_BadOpenings_BoxError d_BadOpenings_BoxError, (List.forall_mem_cons.2 ⟨by rw [e_NoPerson, e_BoxError]; exact L2.L3.kitCls_of c_NoPerson_BoxError d_NoPerson_BoxError, (fun _ h => nomatch h)⟩)⟩))
      (case xf0 => rw [e_BoxError]; exact L2.L3.subT_of b_BoxError)
    obtain ⟨fl, fdl, HL, HB⟩ := D_law
    have e0 := hmg.symm.trans HL.m
    cases e0
    exact ⟨fdl, HB, fun base kb nb => K26.ok_law T HL⟩
#print axioms PySem.Challenge.cw_ownboxes_k26_full_plans_and_shares_holds