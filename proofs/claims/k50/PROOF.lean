import PyProof.Rows.All
import Wide.All
import OpenK.AllK
import Wide.FinOn
import Lean
import PyProof.EqAt
import PyProof.EqKinds
import PyProof.TupleCall
import KE.KIntText
import PySem.Challenge.RW_ownboxes_k50_plans_written
set_option compiler.extract_closed false
theorem autoK1 (_h : True := by first | exact .inl rfl | exact .inr rfl | assumption) : True := trivial
theorem autoK2 (_h : True := by decide) : True := trivial
theorem autoK4 (_h : True := by intro _; rfl) : True := trivial
theorem autoK5 (_h : True := by rfl) : True := trivial
theorem autoK7 (_h : True := by with_unfolding_all rfl) : True := trivial
theorem autoK8 (_h : True := by first | exact Or.inl rfl | exact Or.inr (Or.inl rfl) | exact Or.inr (Or.inr rfl)) : True := trivial
theorem autoK9 (_h : True := by exact fun _ _ => rfl) : True := trivial
theorem autoK10 (_h : True := by first | exact nomark _ | rfl) : True := trivial
theorem autoK11 (_h : True := by first | exact Or.inl rfl | exact Or.inr rfl) : True := trivial
theorem autoK12 (_h : True := by first | exact .inl rfl | exact .inr rfl) : True := trivial
theorem autoK13 (_h : True := by exact PassesOwn.never) : True := trivial
local macro_rules | `(tactic| bv_omega) => `(tactic| first | lia | omega)
set_option Elab.async false
set_option linter.all false
set_option maxRecDepth 100000
namespace L2
open PySem PySem.Spec PyProof.Rows
noncomputable abbrev Key := Sum Int Str
noncomputable def keyIs : Key → Value → Bool
  | .inl k, v => Value.isInt k v
  | .inr x, v => Value.isStrOf x v
noncomputable def keyH (w : World) : Key → Int
  | .inl k => hashInt k
  | .inr x => hashStr w x
theorem keyIs_shape : ∀ {k : Key} {v : Value}, keyIs k v = true → (∃ i t, k = Sum.inl i ∧ v = Value.int i t) ∨ (∃ x t, k = Sum.inr x ∧ v = Value.str x t)
  | .inl i, v, h => by
    obtain ⟨t, e⟩ := Value.isInt_shape (k := i) (v := v) h
    exact .inl ⟨i, t, rfl, e⟩
  | .inr x, v, h => by
    obtain ⟨t, e⟩ := Value.isStrOf_shape (x := x) (v := v) h
    exact .inr ⟨x, t, rfl, e⟩
theorem key_ll (a b : Int) : decide ((Sum.inl a : Key) = Sum.inl b) = (a == b) := by
  by_cases e : a = b
  · subst e; simp
  · have h : ¬ (Sum.inl a : Key) = Sum.inl b := fun q => e (Sum.inl.inj q)
    rw [decide_eq_false h]
    exact (beq_eq_false_iff_ne.mpr e).symm
theorem key_rr (a b : Str) : decide ((Sum.inr a : Key) = Sum.inr b) = decide (a = b) := by
  by_cases e : a = b
  · subst e; simp
  · have h : ¬ (Sum.inr a : Key) = Sum.inr b := fun q => e (Sum.inr.inj q)
    rw [decide_eq_false h, decide_eq_false e]
theorem key_lr (a : Int) (b : Str) : decide ((Sum.inl a : Key) = Sum.inr b) = false := decide_eq_false (fun q => nomatch q)
theorem key_rl (a : Str) (b : Int) : decide ((Sum.inr a : Key) = Sum.inl b) = false := decide_eq_false (fun q => nomatch q)
noncomputable def mixKind (prog : Program) (w : World) : PySem.KeyKind prog w Key where
  is := keyIs
  hash := keyH w
  inj := fun v a b ha hb => by
    rcases keyIs_shape ha with ⟨i, t, rfl, rfl⟩ | ⟨x, t, rfl, rfl⟩
    · rcases keyIs_shape hb with ⟨j, u, rfl, e⟩ | ⟨y, u, rfl, e⟩
      · injection e with e1 _; rw [e1]
      · exact nomatch e
    · rcases keyIs_shape hb with ⟨j, u, rfl, e⟩ | ⟨y, u, rfl, e⟩
      · exact nomatch e
      · injection e with e1 _; rw [e1]
  byValue := fun k v h => by
    rcases keyIs_shape h with ⟨i, t, rfl, rfl⟩ | ⟨x, t, rfl, rfl⟩ <;> rfl
  pyHash := fun hv h => by
    rcases keyIs_shape hv with ⟨i, t, rfl, rfl⟩ | ⟨x, t, rfl, rfl⟩
    · exact wpAny_pyHash_int h
    · exact wpAny_pyHash_str h
  eqBool := fun hu hv h => by
    rcases keyIs_shape hu with ⟨i, t, rfl, rfl⟩ | ⟨x, t, rfl, rfl⟩
    · rcases keyIs_shape hv with ⟨j, u, rfl, rfl⟩ | ⟨y, u, rfl, rfl⟩
      · rw [key_ll] at h; exact wpAny_eqBool_int h
      · rw [key_lr] at h; exact SeqAt.EqAt.int_str i t y u _ _ _ _ h
    · rcases keyIs_shape hv with ⟨j, u, rfl, rfl⟩ | ⟨y, u, rfl, rfl⟩
      · rw [key_rl] at h; exact SeqAt.EqAt.str_int x t j u _ _ _ _ h
      · rw [key_rr] at h; exact wpAny_eqBool_str h
  «strs» := fun k x t v h => by
    rcases keyIs_shape h with ⟨i, u, rfl, e⟩ | ⟨y, u, rfl, e⟩
    · exact nomatch e
    · injection e with e1 _
      subst e1
      cases v <;> rfl
end L2
namespace L2
open PySem PySem.Spec PyProof.Rows
inductive V where
  | non | bl (b : Bool) | int (i : Int) | str (x : Str) | byt (b : Array UInt8) | flt (b : UInt64) | ref (a : Addr) | ty (n : String)
  deriving DecidableEq
noncomputable def RelV : V → Value → Prop
  | .non, u => u = Value.none
  | .bl b, u => u = Value.bool b
  | .int i, u => ∃ t, u = Value.int i t
  | .str x, u => ∃ t, u = Value.str x t
  | .byt b, u => ∃ t, u = Value.bytes b t
  | .flt b, u => ∃ t, u = Value.float b t
  | .ref a, u => u = Value.ref a
  | .ty n, u => u = Value.type n
noncomputable abbrev Vals : List V → List Value → Prop := Paired RelV
theorem Vals.length {xs : List V} {us : List Value} (r : Vals xs us) : xs.length = us.length := Paired.length r
theorem Vals.get : ∀ {xs : List V} {us : List Value} {i : Nat} {x : V}, Vals xs us → xs[i]? = some x → ∃ u, us[i]? = some u ∧ RelV x u
  | _, _, _, _, .nil, e => by simp at e
  | _, _, 0, _, .cons r _, e => by simp at e; subst e; exact ⟨_, rfl, r⟩
  | _, _, i + 1, x, .cons _ t, e => by
    obtain ⟨u, h1, h2⟩ := Vals.get (i := i) (x := x) t (by simpa using e)
    exact ⟨u, by simpa using h1, h2⟩
theorem Vals.set {x : V} {u : Value} (r : RelV x u) : ∀ {xs : List V} {us : List Value} (i : Nat), Vals xs us → Vals (xs.set i x) (us.set i u)
  | _, _, _, .nil => .nil
  | _, _, 0, .cons _ t => .cons r t
  | _, _, i + 1, .cons q t => .cons q (Vals.set r i t)
theorem Vals.append : ∀ {xs ys : List V} {us ws : List Value}, Vals xs us → Vals ys ws → Vals (xs ++ ys) (us ++ ws)
  | _, _, _, _, .nil, s => s
  | _, _, _, _, .cons r t, s => .cons r (Vals.append t s)
theorem Vals.take : ∀ {xs : List V} {us : List Value} (n : Nat), Vals xs us → Vals (xs.take n) (us.take n)
  | _, _, 0, _ => .nil
  | _, _, _ + 1, .nil => .nil
  | _, _, n + 1, .cons r t => .cons r (Vals.take n t)
theorem Vals.drop : ∀ {xs : List V} {us : List Value} (n : Nat), Vals xs us → Vals (xs.drop n) (us.drop n)
  | _, _, 0, r => r
  | _, _, _ + 1, .nil => .nil
  | _, _, n + 1, .cons _ t => Vals.drop n t
theorem Vals.none_of : ∀ {xs : List V} {us : List Value} {i : Nat}, Vals xs us → xs[i]? = none → us[i]? = none := fun {xs us i} r e => by
  have h1 := r.length
  have h2 : xs.length ≤ i := List.getElem?_eq_none_iff.mp e
  exact List.getElem?_eq_none_iff.mpr (by bv_omega)
noncomputable def RelO : Option V → Option Value → Prop
  | some v, some u => RelV v u
  | none, none => True
  | _, _ => False
noncomputable def KV {κ : Type} : List (κ × V) → List (κ × Value) → Prop := Paired fun (p : κ × V) (q : κ × Value) => p.1 = q.1 ∧ RelV p.2 q.2
noncomputable def kV : Key → V
  | .inl i => .int i
  | .inr x => .str x
inductive HO where
  | lst (xs : List V)
  | tup (xs : List V)
  | dK (kvs : List (Key × V)) | dT (kvs : List (List Key × V))
  | set (S : Int → Bool) (n : Nat)
  | ins (C dx : Addr) (fs : List (Str × V))
  | own (x : Addr)
  | xd (fs : List (Str × V))
  | met (f x : Addr)
  | rng (lo hi : Int)
  | frz (o : Obj) (u : HO)
  | tbl (ps : Array Value)
  | ext (φ : Heap → Prop)
noncomputable abbrev Hp := Addr → Option HO
noncomputable def upd (H : Hp) (a : Addr) (o : HO) : Hp := fun b => if b = a then some o else H b
theorem upd_same {H : Hp} {a : Addr} {o : HO} : upd H a o a = some o := by unfold upd; rw [if_pos rfl]
theorem upd_ne {H : Hp} {a b : Addr} {o : HO} (h : b ≠ a) : upd H a o b = H b := by unfold upd; rw [if_neg h]
theorem ne_of_none {H : Hp} {a b : Addr} {o : HO} (h : H a = some o) (h' : H b = none) : a ≠ b := by
  intro e; subst e; rw [h] at h'; cases h'
noncomputable def TupAt (h : Heap) (a : Addr) (its : Array Value) : Prop := ∃ o, h.get? a = some o ∧ o.cls = .type "tuple" ∧ (∃ n, o.data = .seq its n) ∧ o.dict = none
theorem TupAt.tup {h : Heap} {a : Addr} {its : Array Value} (x : TupAt h a its) : IsTup h a its := by
  obtain ⟨o, e, c, d, _⟩ := x
  exact ⟨o, e, c, d⟩
theorem TupAt.new (h : Heap) (its : Array Value) : TupAt (h.push { cls := .type "tuple", data := .seq its }) h.objs.size its := ⟨_, Heap.get?_push_size _ rfl, rfl, ⟨_, rfl⟩, rfl⟩
section
variable (P : Program) (w : World)
noncomputable def ObjOk (H : Hp) (h : Heap) (a : Addr) : HO → Prop
  | .lst xs => xs.length ≤ sizeLine ∧ ∃ (its : List Value) (n : Nat), Vals xs its ∧ h.get? a = some { cls := .type "list", data := .seq its.toArray n }
  | .tup xs => xs.length ≤ sizeLine ∧ ∃ its : List Value, Vals xs its ∧ TupAt h a its.toArray
  | .dK kvs => kvs.length ≤ sizeLine ∧ (a == sysModules) = false ∧ ∃ vs, KV kvs vs ∧ h.DictOf (mixKind P w) a vs
  | .dT kvs => kvs.length ≤ sizeLine ∧ (a == sysModules) = false ∧ ∃ xs : List (List Key × Addr × Value),
      Paired (fun (p : List Key × V) (q : List Key × Addr × Value) => p.1 = q.1 ∧ H q.2.1 = some (.tup (p.1.map kV)) ∧ RelV p.2 q.2.2) kvs xs ∧
      ∃ o es ep, h.get? a = some o ∧ o.ExactDict ∧ o.data = .dict es ep ∧ es.toList = xs.map (entryOfKey (tupleKind (mixKind P w))) ∧ (xs.map (·.1)).Nodup
  | .set S n => h.SetOf (intKind P w) a S n
  | .ins C dx fs => H dx = some (.own a) ∧ fs.length ≤ 1000 ∧ dx ≠ a ∧ h.get? a = some (PySem.W.instObj C dx) ∧
      ∃ mA, h.Ns1 dx mA ∧ (∀ f, RelO (fs.lookup f) (mA f)) ∧ PySem.Within mA (fs.map (·.1))
  | .own _ => ∃ o, h.get? a = some o
  | .xd fs => ∃ mA, h.Ns1 a mA ∧ ∀ f, RelO (fs.lookup f) (mA f)
  | .rng lo hi => ∃ t u v, h.get? a = some { cls := .type "range", data := .fields #[.int lo t, .int hi u, .int 1 v] }
  | .frz o u => h.get? a = some o ∧ ObjOk H h a u
  | .tbl ps => h.get? a = some { cls := .none, data := .fields ps }
  | .met f x => h.get? a = some (PySem.W.methodObj (.ref f) (.ref x))
  | .ext φ => φ h ∧ (∃ o, h.get? a = some o) ∧ ∀ h1 h2 : Heap, φ h1 → (∀ o, h1.get? a = some o → h2.get? a = some o) → φ h2
noncomputable def HOk (H : Hp) (h : Heap) : Prop := ∀ a o, H a = some o → ObjOk P w H h a o
end
section
variable {P : Program} {w : World} {H H' : Hp} {h h' : Heap} {a : Addr} {o : HO}
theorem ObjOk.lt (x : ObjOk P w H h a o) : a < h.objs.size := by
  cases o with
  | lst xs => obtain ⟨_, _, _, _, e⟩ := x; exact Heap.lt_size e
  | tup xs => obtain ⟨_, _, _, p⟩ := x; exact p.tup.lt
  | dK kvs => obtain ⟨_, _, _, _, o, _, _, e, _⟩ := x; exact Heap.lt_size e
  | dT kvs => obtain ⟨_, _, _, _, o, _, _, e, _⟩ := x; exact Heap.lt_size e
  | set S n => obtain ⟨o, _, _, _, e, _⟩ := x; exact Heap.lt_size e
  | ins C dx fs => obtain ⟨_, _, _, e, _⟩ := x; exact Heap.lt_size e
  | own y => obtain ⟨_, e⟩ := x; exact Heap.lt_size e
  | xd fs => obtain ⟨_, ⟨_, _, _, e, _⟩, _⟩ := x; exact Heap.lt_size e
  | rng lo hi => obtain ⟨_, _, _, e⟩ := x; exact Heap.lt_size e
  | frz ob u => obtain ⟨e, _⟩ := x; exact Heap.lt_size e
  | tbl ps => exact Heap.lt_size (show h.get? a = some _ from x)
  | met f y => exact Heap.lt_size (show h.get? a = some _ from x)
  | ext φ => obtain ⟨_, ⟨_, e⟩, _⟩ := x; exact Heap.lt_size e
theorem Paired.mapP {α β : Type} {F G : α → β → Prop} : ∀ {l₁ : List α} {l₂ : List β}, Paired F l₁ l₂ → (∀ a b, F a b → G a b) → Paired G l₁ l₂
  | _, _, .nil, _ => .nil
  | _, _, .cons r t, f => .cons (f _ _ r) (Paired.mapP t f)
theorem ObjOk.stay (x : ObjOk P w H h a o) (k : ∀ b u, (b = a ∨ H b = some (.own a)) → h.get? b = some u → h'.get? b = some u)
    (ho : ∀ b, H b = some (.own a) → H' b = some (.own a)) (ht : ∀ b xs, H b = some (.tup xs) → H' b = some (.tup xs)) : ObjOk P w H' h' a o := by
  induction o with
  | lst xs => obtain ⟨z, its, n, r, e⟩ := x; exact ⟨z, its, n, r, k _ _ (.inl rfl) e⟩
  | tup xs => obtain ⟨z, its, r, ob, e, c⟩ := x; exact ⟨z, its, r, ob, k _ _ (.inl rfl) e, c⟩
  | dK kvs => obtain ⟨z, y, vs, r, ob, es, ep, e, c⟩ := x; exact ⟨z, y, vs, r, ob, es, ep, k _ _ (.inl rfl) e, c⟩
  | dT kvs =>
    obtain ⟨z, y, xs, r, ob, es, ep, e, c⟩ := x
    exact ⟨z, y, xs, Paired.mapP r fun p q z => ⟨z.1, ht _ _ z.2.1, z.2.2⟩, ob, es, ep, k _ _ (.inl rfl) e, c⟩
  | set S n => obtain ⟨ob, es, ep, t, e, c⟩ := x; exact ⟨ob, es, ep, t, k _ _ (.inl rfl) e, c⟩
  | ins C dx fs =>
    obtain ⟨d, z, ne, e, mA, ⟨od, es, ep, e2, c⟩, r⟩ := x
    exact ⟨ho _ d, z, ne, k _ _ (.inl rfl) e, mA, ⟨od, es, ep, k _ _ (.inr d) e2, c⟩, r⟩
  | own y => obtain ⟨ob, e⟩ := x; exact ⟨ob, k _ _ (.inl rfl) e⟩
  | xd fs => obtain ⟨mA, ⟨od, es, ep, e, c⟩, r⟩ := x; exact ⟨mA, ⟨od, es, ep, k _ _ (.inl rfl) e, c⟩, r⟩
  | rng lo hi => obtain ⟨t, u, v, e⟩ := x; exact ⟨t, u, v, k _ _ (.inl rfl) e⟩
  | frz ob u ih => obtain ⟨e, q⟩ := x; exact ⟨k _ _ (.inl rfl) e, ih q⟩
  | tbl ps =>
    have e : h.get? a = some { cls := .none, data := .fields ps } := x
    show h'.get? a = some { cls := .none, data := .fields ps }
    exact k a _ (.inl rfl) e
  | met f y =>
    have e : h.get? a = some (PySem.W.methodObj (.ref f) (.ref y)) := x
    show h'.get? a = some (PySem.W.methodObj (.ref f) (.ref y))
    exact k a _ (.inl rfl) e
  | ext φ => obtain ⟨p, ⟨o, e⟩, st⟩ := x; exact ⟨st _ _ p fun o q => k _ _ (.inl rfl) q, ⟨o, k _ _ (.inl rfl) e⟩, st⟩
theorem HOk.lt (x : HOk P w H h) (e : H a = some o) : a < h.objs.size := (x a o e).lt
theorem HOk.fresh (x : HOk P w H h) (e : h.objs.size ≤ a) : H a = none := by
  cases q : H a with
  | none => rfl
  | some u => exact absurd (Nat.lt_of_lt_of_le (x.lt q) e) (Nat.lt_irrefl _)
theorem HOk.kept (x : HOk P w H h) (k : ∀ b u, h.get? b = some u → h'.get? b = some u) : HOk P w H h' := fun a o e =>
  (x a o e).stay (fun b u _ q => k b u q) (fun _ q => q) fun _ _ q => q
theorem HOk.laid (x : HOk P w H h) (k : ∀ b u, h.get? b = some u → h'.get? b = some u) (hp : h.objs.size ≤ a) (new : ObjOk P w (upd H a o) h' a o) : HOk P w (upd H a o) h' := fun b u e => by
  have hn := x.fresh hp
  by_cases hb : b = a
  · subst hb; rw [upd_same] at e; cases e; exact new
  · rw [upd_ne hb] at e
    exact (x b u e).stay (fun c v _ q => k c v q) (fun c q => by rw [upd_ne (ne_of_none q hn)]; exact q) fun c xs q => by rw [upd_ne (ne_of_none q hn)]; exact q
end
noncomputable def Rd (H : Hp) (a : Addr) (u : HO) : Prop := H a = some u ∨ ∃ o, H a = some (.frz o u)
theorem Rd.of {H : Hp} {a : Addr} {u : HO} (h : H a = some u) : Rd H a u := .inl h
theorem Rd.ok {P : Program} {w : World} {H : Hp} {h : Heap} {a : Addr} {u : HO} (r : Rd H a u) (x : HOk P w H h) : ObjOk P w H h a u := by
  rcases r with r | ⟨o, r⟩
  · exact x a u r
  · obtain ⟨_, q⟩ := x a _ r
    exact q
noncomputable def Mut : Option HO → Prop
  | some (.lst _) => True
  | some (.dK _) => True
  | some (.dT _) => True
  | some (.set _ _) => True
  | some (.ins _ _ _) => True
  | some (.ext _) => True
  | _ => False
section
variable {P : Program} {w : World} {H : Hp} {h h' : Heap} {x e : Addr} {o' : HO}
theorem HOk.write (ok : HOk P w H h) (mu : Mut (H x)) (he : e = x ∨ H e = some (.own x)) (k : ∀ b u, b ≠ e → h.get? b = some u → h'.get? b = some u) (heo : ∃ u, h'.get? e = some u)
    (new : ObjOk P w (upd H x o') h' x o') : HOk P w (upd H x o') h' := fun b u q => by
  have nown : ∀ c y, H c = some (.own y) → c ≠ x := fun c y r z => by subst z; rw [r] at mu; exact mu
  have ntup : ∀ c xs, H c = some (.tup xs) → c ≠ x := fun c xs r z => by subst z; rw [r] at mu; exact mu
  by_cases hb : b = x
  · subst hb; rw [upd_same] at q; cases q; exact new
  · rw [upd_ne hb] at q
    by_cases hbe : b = e
    · have q' : H b = some (.own x) := by
        rcases he with z | z
        · exact absurd (hbe.trans z) hb
        · rw [hbe]; exact z
      rw [q] at q'; cases q'
      obtain ⟨v, hv⟩ := heo
      exact ⟨v, by rw [hbe]; exact hv⟩
    · refine (ok b u q).stay (fun c v hc r => k c v ?_ r) (fun c r => by rw [upd_ne (nown c b r)]; exact r) fun c xs r => by rw [upd_ne (ntup c xs r)]; exact r
      rcases hc with rfl | hc
      · exact hbe
      · rintro rfl
        rcases he with z | z
        · exact nown c b hc z
        · rw [hc] at z; cases z; exact hb rfl
end
structure Un (fs ex : List Addr) (H H' : Hp) (h h' : Heap) : Prop where
  keep : ∀ b o, h.get? b = some o → H b = none → b ∉ fs → b ∉ ex → h'.get? b = some o
  slot : ∀ b o, h.get? b = some o → H b = none → b ∈ fs → b ∉ ex → ∃ sl, h'.get? b = some { o with slots := sl }
  free : ∀ b o, h.get? b = some o → H b = none → b ∉ ex → H' b = none
  there : ∀ b o, h.get? b = some o → b ∉ ex → ∃ o', h'.get? b = some o'
  tups : ∀ b xs, H b = some (.tup xs) → H' b = some (.tup xs)
  frzs : ∀ b o u, H b = some (.frz o u) → H' b = some (.frz o u)
  tbls : ∀ b ps, H b = some (.tbl ps) → ∃ more, H' b = some (.tbl (ps ++ more))
section
variable {fs fs' ex ex' : List Addr} {H H1 H2 : Hp} {h h1 h2 h' : Heap} {a x e : Addr} {o : HO}
theorem Un.any (u : Un fs ex H H1 h h1) {b : Addr} {ob : Obj} (q : h.get? b = some ob) (n : H b = none) (hx : b ∉ ex) : ∃ sl, h1.get? b = some { ob with slots := sl } := by
  by_cases hb : b ∈ fs
  · exact u.slot b ob q n hb hx
  · exact ⟨ob.slots, u.keep b ob q n hb hx⟩
theorem Un.trans (a : Un fs ex H H1 h h1) (b : Un fs ex H1 H2 h1 h2) : Un fs ex H H2 h h2 where
  keep := fun c ob q n hc hx => b.keep c ob (a.keep c ob q n hc hx) (a.free c ob q n hx) hc hx
  slot := fun c ob q n hc hx => by
    obtain ⟨sl, e1⟩ := a.slot c ob q n hc hx
    obtain ⟨sl', e2⟩ := b.slot c _ e1 (a.free c ob q n hx) hc hx
    exact ⟨sl', e2⟩
  free := fun c ob q n hx => by
    obtain ⟨o', e1⟩ := a.there c ob q hx
    exact b.free c o' e1 (a.free c ob q n hx) hx
  there := fun c ob q hx => by
    obtain ⟨o', e1⟩ := a.there c ob q hx
    exact b.there c o' e1 hx
  tups := fun c xs q => b.tups c xs (a.tups c xs q)
  frzs := fun c ob xs q => b.frzs c ob xs (a.frzs c ob xs q)
  tbls := fun c ps q => by
    obtain ⟨m1, e1⟩ := a.tbls c ps q
    obtain ⟨m2, e2⟩ := b.tbls c _ e1
    exact ⟨m1 ++ m2, by rw [e2, Array.append_assoc]⟩
theorem Un.kept (k : ∀ b u, h.get? b = some u → h'.get? b = some u) : Un fs ex H H h h' :=
  ⟨fun b ob q _ _ _ => k b ob q, fun b ob q _ _ _ => ⟨ob.slots, k b ob q⟩, fun _ _ _ n _ => n, fun b ob q _ => ⟨ob, k b ob q⟩, fun _ _ q => q, fun _ _ _ q => q, fun _ ps q => ⟨#[], by rw [q]; simp⟩⟩
theorem Un.refl : Un fs ex H H h h := Un.kept fun _ _ q => q
theorem Un.laid (k : ∀ b u, h.get? b = some u → h'.get? b = some u) (hp : h.objs.size ≤ a) (hn : H a = none) : Un fs ex H (upd H a o) h h' where
  keep := fun b u q _ _ _ => k b u q
  slot := fun b u q _ _ _ => ⟨u.slots, k b u q⟩
  free := fun b u q n _ => by rw [upd_ne (Nat.ne_of_lt (Nat.lt_of_lt_of_le (Heap.lt_size q) hp))]; exact n
  there := fun b u q _ => ⟨u, k b u q⟩
  tups := fun b xs q => by rw [upd_ne (ne_of_none q hn)]; exact q
  frzs := fun b u xs q => by rw [upd_ne (ne_of_none q hn)]; exact q
  tbls := fun b ps q => ⟨#[], by rw [upd_ne (ne_of_none q hn), q]; simp⟩
theorem Un.write (mu : Mut (H x)) (he : e = x ∨ H e = some (.own x)) (k : ∀ b u, b ≠ e → h.get? b = some u → h'.get? b = some u) (heo : ∃ u, h'.get? e = some u) : Un fs ex H (upd H x o) h h' := by
  have hx : ∀ b, H b = none → b ≠ x := fun b n z => by subst z; rw [n] at mu; exact mu
  have hb : ∀ b, H b = none → b ≠ e := fun b n z => by
    subst z
    rcases he with r | r
    · exact hx b n r
    · rw [n] at r; cases r
  have hm : ∀ b u, H b = some u → ¬ Mut (some u) → b ≠ x := fun b u q nm z => by subst z; rw [q] at mu; exact nm mu
  refine ⟨fun b u q n _ _ => k b u (hb b n) q, fun b u q n _ _ => ⟨u.slots, k b u (hb b n) q⟩, fun b u q n _ => by rw [upd_ne (hx b n)]; exact n, fun b u q _ => ?_,
    fun b xs q => by rw [upd_ne (hm b _ q fun z => z)]; exact q, fun b u xs q => by rw [upd_ne (hm b _ q fun z => z)]; exact q, fun b ps q => ⟨#[], by rw [upd_ne (hm b _ q fun z => z), q]; simp⟩⟩
  by_cases hbe : b = e
  · subst hbe; exact heo
  · exact ⟨u, k b u hbe q⟩
theorem Un.mono (u : Un fs ex H H1 h h1) (hs : ∀ b ∈ fs, b ∈ fs') (hx : ∀ b ∈ ex, b ∈ ex') : Un fs' ex' H H1 h h1 :=
  ⟨fun b ob q n hb he => u.keep b ob q n (fun z => hb (hs b z)) fun z => he (hx b z), fun _ _ q n _ he => u.any q n fun z => he (hx _ z), fun b ob q n he => u.free b ob q n fun z => he (hx b z), fun b ob q he => u.there b ob q fun z => he (hx b z), u.tups, u.frzs, u.tbls⟩
end
noncomputable def trk (h : Heap) (H : Hp) : List Addr := (List.range h.objs.size).filter fun a => (H a).isSome
noncomputable def hidT (h : Heap) (H : Hp) : Heap := PySem.W.hideAll h (trk h H)
theorem hidT_size (h : Heap) (H : Hp) : (hidT h H).objs.size = h.objs.size := PySem.W.hideAll_size _ _
theorem hidT_get {h : Heap} {H : Hp} {b : Addr} {o : Obj} (e : h.get? b = some o) (n : H b = none) : (hidT h H).get? b = some o :=
  PySem.W.hideAll_get _ e fun hm => by
    have q : (H b).isSome = true := (List.mem_filter.mp hm).2
    rw [n] at q; simp at q
theorem of_hidT {h : Heap} {H : Hp} {b : Addr} {o : Obj} (e : (hidT h H).get? b = some o) : h.get? b = some o ∧ H b = none := by
  have e' : h.get? b = some o := PySem.W.of_hideAll (trk h H) e
  refine ⟨e', ?_⟩
  cases q : H b with
  | none => rfl
  | some x =>
    have hm : b ∈ trk h H := List.mem_filter.mpr ⟨List.mem_range.mpr (Heap.lt_size e'), by simp [q]⟩
    have z : (hidT h H).get? b = none := PySem.W.hideAll_none (trk h H) hm
    rw [z] at e; cases e
noncomputable def allNews (g h : Heap) (L : Addr) : List (Addr × Obj) := (List.range h.objs.size).filterMap fun a => if a = L ∨ (g.get? a).isSome = true then none else (h.get? a).map fun o => (a, o)
noncomputable def rest (g h : Heap) (L d : Addr) : List (Addr × Obj) := (allNews g h L).filter fun p => decide (p.1 ≠ d)
end L2
namespace L2
open PySem PySem.Spec PyProof.Rows
structure Mod (K : PySem.W.Frag) (mg : Str → Option Value) (base : Heap) : Prop where
  kin : K.In base
  glob : base.Ns mainGlobals mg
  blt : ∃ mb, base.Ns builtinsNs mb ∧ ∀ x : Str, x ≠ "__name__" → mb x = bootBuiltins x
  nolimit : base.NoLimit
structure Cx where
  prog : Program
  w : World
  K : PySem.W.Frag
  mg : Str → Option Value
  base : Heap
  A : Around
  N : List Str
  s₀ : Shared
  H₀ : Hp
  env : Env
  outer : List Env
  stack : List Env
  ex : List Addr
  fn : Str → Bool
  calm : Bool
  pn : List (Addr × Obj)
  xe : Value → Shared → Prop
noncomputable def frs (l : List Env) : List Addr := l.filterMap (·.frame)
noncomputable abbrev Cx.fs (X : Cx) : List Addr := frs X.outer
noncomputable def Vis (sc : Scope) (x : Str) : Prop := sc.names.lookup x = some .local ∨ sc.names.lookup x = some .cell ∨ sc.names.lookup x = some .free
noncomputable def Loc (sc : Scope) (x : Str) : Prop := sc.names.lookup x = some .local ∨ sc.names.lookup x = some .cell
noncomputable def Look (env : Env) (h : Heap) (m : Str → Option Value) (x : Str) (u : Value) : Prop :=
  (env.kindOf x = some .local ∧ m x = some u) ∨ ((env.kindOf x = some .cell ∨ env.kindOf x = some .free) ∧ ∃ c, env.cells.lookup x = some c ∧ h.IsCell c (some u))
structure Cx.Ok (X : Cx) : Prop where
  mod : Mod X.K X.mg X.base
  kind : X.env.scope.kind = .function
  glob : X.env.globals = mainGlobals
  blt : X.env.builtins = builtinsNs
  above : X.s₀.heap.objs.size ≤ X.env.locals
  inj : ∀ x y c, X.env.cells.lookup x = some c → X.env.cells.lookup y = some c → x = y
  has : ∀ x, (X.env.kindOf x = some .cell ∨ X.env.kindOf x = some .free) → ∃ c, X.env.cells.lookup x = some c
  cab : ∀ x c, X.fn x = true → X.env.cells.lookup x = some c → X.s₀.heap.objs.size ≤ c
  hd : X.calm = true → X.A.handled = none
  frames : X.A.frames = some X.stack
  stk : X.stack = X.outer ∨ (X.stack = X.env :: X.outer ∧ X.env.frame = some X.env.locals)
  exf : ∀ b ∈ X.ex, b ≠ X.env.locals ∧ ∀ x c, X.env.cells.lookup x = some c → c ≠ b
  bs : ∀ b o, X.base.get? b = some o → X.s₀.heap.get? b = some o ∧ X.H₀ b = none
  bsz : X.base.objs.size ≤ X.s₀.heap.objs.size
  noex : ∀ b o, X.base.get? b = some o → b ∉ X.ex
  exfs : ∀ b ∈ X.ex, b ∉ X.fs
  funs : X.s₀.heap.FunFrames X.base X.outer
  frf : ∀ b ∈ X.fs, X.H₀ b = none
structure Inv (X : Cx) (pins : List (Addr × Obj)) (σ : List (Option V)) (H : Hp) (s : Shared) : Prop where
  ok : X.Ok
  os : s.os = X.s₀.os
  bare : AllBare s.gens
  base : Un X.fs X.ex X.H₀ H X.s₀.heap s.heap
  loc : ∃ m, s.heap.Ns X.env.locals m ∧ ∀ (i : Nat) (x : Str) (v : V), X.N[i]? = some x → σ[i]? = some (some v) → Vis X.env.scope x → ∃ u, RelV v u ∧ Look X.env s.heap m x u
  cell : ∀ x c, X.env.cells.lookup x = some c → ∃ v, s.heap.IsCell c v
  free : H X.env.locals = none
  freeC : ∀ x c, X.env.cells.lookup x = some c → H c = none
  pin : ∀ p ∈ X.pn ++ pins, s.heap.get? p.1 = some p.2 ∧ H p.1 = none ∧ p.1 ≠ X.env.locals ∧ p.1 ∉ X.fs ∧ ∀ v, p.2.data ≠ .cell v
  hok : HOk X.prog X.w H s.heap
  len : σ.length = X.N.length
section
variable {X : Cx} {pins : List (Addr × Obj)} {σ : List (Option V)} {H H' : Hp} {s : Shared} {h' : Heap}
theorem Cx.Ok.nofr (ok : X.Ok) {b : Addr} {o : Obj} (e : X.base.get? b = some o) : b ∉ X.fs := fun hb => by
  have := (ok.funs.mem hb).1
  rw [e] at this; cases this
theorem Inv.bs (I : Inv X pins σ H s) : ∀ b o, X.base.get? b = some o → s.heap.get? b = some o ∧ H b = none := fun b o e =>
  ⟨I.base.keep b o (I.ok.bs b o e).1 (I.ok.bs b o e).2 (I.ok.nofr e) (I.ok.noex b o e), I.base.free b o (I.ok.bs b o e).1 (I.ok.bs b o e).2 (I.ok.noex b o e)⟩
theorem Inv.bk (I : Inv X pins σ H s) : ∀ b o, X.base.get? b = some o → s.heap.get? b = some o := fun b o e => (I.bs b o e).1
theorem Inv.mod (I : Inv X pins σ H s) : Mod X.K X.mg X.base := I.ok.mod
theorem Inv.kIn (I : Inv X pins σ H s) : X.K.In s.heap := I.ok.mod.kin.keeps I.bk
theorem Inv.nolimit (I : Inv X pins σ H s) : s.heap.NoLimit := I.ok.mod.nolimit.keeps I.bk
theorem Inv.fr (I : Inv X pins σ H s) : ∃ m, Fr X.base X.env.locals s.heap m :=
  let ⟨m, hn, _⟩ := I.loc
  ⟨m, hn, I.bk, Nat.le_trans I.ok.bsz I.ok.above⟩
theorem Inv.lt (I : Inv X pins σ H s) : X.env.locals < s.heap.objs.size := let ⟨_, hn, _⟩ := I.loc; hn.lt
theorem Inv.sz (I : Inv X pins σ H s) : X.s₀.heap.objs.size ≤ s.heap.objs.size := Nat.le_trans I.ok.above (Nat.le_of_lt I.lt)
theorem Inv.nofs (I : Inv X pins σ H s) {a : Addr} (h : s.heap.objs.size ≤ a) : a ∉ X.fs := fun hb => by
  obtain ⟨_, o, ho, _⟩ := I.ok.funs.mem hb
  exact absurd (Nat.lt_of_lt_of_le (Heap.lt_size ho) (Nat.le_trans I.sz h)) (Nat.lt_irrefl _)
theorem Inv.cne (I : Inv X pins σ H s) : ∀ x c, X.env.cells.lookup x = some c → c ≠ X.env.locals := fun x c e z => by
  obtain ⟨v, o, ho, hd⟩ := I.cell x c e
  obtain ⟨m, ⟨o', es, ep, ho', hd', _⟩, _⟩ := I.loc
  rw [z, ho'] at ho; cases ho; rw [hd'] at hd; cases hd
theorem Inv.funs (I : Inv X pins σ H s) : s.heap.FunFrames X.base X.outer := by
  have all : ∀ (l : List Env), (∀ b ∈ frs l, b ∈ X.fs) → X.s₀.heap.FunFrames X.base l → s.heap.FunFrames X.base l := by
    intro l
    induction l with
    | nil => intro _ _; trivial
    | cons env r ih =>
      intro hs hl
      obtain ⟨hk, ⟨L, o, hf, hn, ho, hd⟩, hr⟩ := hl
      have hL : L ∈ X.fs := hs L (by unfold frs; rw [List.filterMap_cons, hf]; exact List.mem_cons_self)
      obtain ⟨sl, e⟩ := I.base.slot L o ho (I.ok.frf L hL) hL fun z => I.ok.exfs L z hL
      exact ⟨hk, ⟨L, _, hf, hn, e, hd⟩, ih (fun b hb => hs b (by unfold frs; rw [List.filterMap_cons, hf]; exact List.mem_cons_of_mem _ hb)) hr⟩
  exact all X.outer (fun _ hb => hb) I.ok.funs
theorem Inv.stack (I : Inv X pins σ H s) : s.heap.FunFrames X.base X.stack := by
  rcases I.ok.stk with e | ⟨e, hf⟩
  · rw [e]; exact I.funs
  · rw [e]
    obtain ⟨m, hn, _⟩ := I.loc
    refine .cons (by rw [I.ok.kind]; decide) hf hn ?_ I.funs
    exact Heap.get?_none_of_le (Nat.le_trans I.ok.bsz I.ok.above)
theorem Inv.stkSub (I : Inv X pins σ H s) : ∀ b ∈ frs X.stack, b ∈ X.env.locals :: X.fs := fun b hb => by
  rcases I.ok.stk with e | ⟨e, hf⟩
  · rw [e] at hb; exact List.mem_cons_of_mem _ hb
  · rw [e] at hb
    unfold frs at hb
    rw [List.filterMap_cons, hf] at hb
    exact hb
theorem Inv.stkFree (I : Inv X pins σ H s) : ∀ b ∈ frs X.stack, H b = none := fun b hb => by
  rcases List.mem_cons.mp (I.stkSub b hb) with e | hb
  · rw [e]; exact I.free
  · obtain ⟨_, o, ho, _⟩ := I.ok.funs.mem hb
    exact I.base.free b o ho (I.ok.frf b hb) fun z => I.ok.exfs b z hb
theorem Inv.step {g' : Array GenState} {t' : Nat} {d' : Drawn} {ch : List Addr} (I : Inv X pins σ H s)
    (hch : ∀ b ∈ ch, (b ∈ X.ex ∨ X.s₀.heap.objs.size ≤ b) ∧ b ≠ X.env.locals ∧ (∀ x c, X.env.cells.lookup x = some c → c ≠ b) ∧ ∀ p ∈ X.pn ++ pins, p.1 ≠ b)
    (keep : ∀ b o, b ≠ X.env.locals → b ∉ X.fs → b ∉ ch → s.heap.get? b = some o → H b = none → h'.get? b = some o)
    (slot : ∀ b o, b ≠ X.env.locals → b ∈ X.fs → b ∉ ch → s.heap.get? b = some o → H b = none → ∃ sl, h'.get? b = some { o with slots := sl }) (free : ∀ b o, b ∉ ch → s.heap.get? b = some o → H b = none → H' b = none)
    (there : ∀ b o, b ∉ ch → s.heap.get? b = some o → ∃ o', h'.get? b = some o')
    (tups : ∀ b xs, H b = some (.tup xs) → H' b = some (.tup xs)) (frzs : ∀ b o u, H b = some (.frz o u) → H' b = some (.frz o u)) (tbls : ∀ b ps, H b = some (.tbl ps) → ∃ more, H' b = some (.tbl (ps ++ more)))
    (ns : ∀ m, s.heap.Ns X.env.locals m → h'.Ns X.env.locals m) (hok : HOk X.prog X.w H' h') (hg : AllBare g') :
    Inv X pins σ H' { s with heap := h', gens := g', drawn := d', toks := t' } := by
  have neL : ∀ b o, X.s₀.heap.get? b = some o → b ≠ X.env.locals := fun b o e => Nat.ne_of_lt (Nat.lt_of_lt_of_le (Heap.lt_size e) I.ok.above)
  have neC : ∀ b o, X.s₀.heap.get? b = some o → b ∉ X.ex → b ∉ ch := fun b o e hx hb => by
    rcases (hch b hb).1 with z | z
    · exact hx z
    · exact absurd (Nat.lt_of_lt_of_le (Heap.lt_size e) z) (Nat.lt_irrefl _)
  have cellK : ∀ x c, X.env.cells.lookup x = some c → ∀ v, s.heap.IsCell c v → h'.IsCell c v := fun x c e v ⟨o, ho, hd⟩ => by
    have nch : c ∉ ch := fun z => (hch c z).2.2.1 x c e rfl
    by_cases hc : c ∈ X.fs
    · obtain ⟨sl, q⟩ := slot c o (I.cne x c e) hc nch ho (I.freeC x c e)
      exact ⟨_, q, hd⟩
    · exact ⟨o, keep c o (I.cne x c e) hc nch ho (I.freeC x c e), hd⟩
  refine ⟨I.ok, I.os, hg, ⟨fun b o e n hb hx => ?_, fun b o e n hb hx => ?_, fun b o e n hx => ?_, fun b o e hx => ?_, fun b xs e => tups b xs (I.base.tups b xs e), fun b o xs e => frzs b o xs (I.base.frzs b o xs e), fun b ps e => ?_⟩, ?_, fun x c e => ?_, ?_, fun x c e => ?_, fun p hp => ?_, hok, I.len⟩
  · exact keep b o (neL b o e) hb (neC b o e hx) (I.base.keep b o e n hb hx) (I.base.free b o e n hx)
  · obtain ⟨sl, e1⟩ := I.base.slot b o e n hb hx
    obtain ⟨sl', e2⟩ := slot b _ (neL b o e) hb (neC b o e hx) e1 (I.base.free b o e n hx)
    exact ⟨sl', e2⟩
  · obtain ⟨o', e1⟩ := I.base.there b o e hx
    exact free b o' (neC b o e hx) e1 (I.base.free b o e n hx)
  · obtain ⟨o', e1⟩ := I.base.there b o e hx
    exact there b o' (neC b o e hx) e1
  · obtain ⟨m1, e1⟩ := I.base.tbls b ps e
    obtain ⟨m2, e2⟩ := tbls b _ e1
    exact ⟨m1 ++ m2, by rw [e2, Array.append_assoc]⟩
  · obtain ⟨m, hn, hl⟩ := I.loc
    refine ⟨m, ns m hn, fun i x v e1 e2 e3 => ?_⟩
    obtain ⟨u, r, l⟩ := hl i x v e1 e2 e3
    refine ⟨u, r, ?_⟩
    rcases l with l | ⟨k, c, e, z⟩
    · exact .inl l
    · exact .inr ⟨k, c, e, cellK x c e _ z⟩
  · obtain ⟨v, z⟩ := I.cell x c e
    exact ⟨v, cellK x c e v z⟩
  · obtain ⟨m, ⟨o, _, _, ho, _⟩, _⟩ := I.loc
    exact free _ o (fun z => (hch _ z).2.1 rfl) ho I.free
  · obtain ⟨v, o, ho, hd⟩ := I.cell x c e
    exact free c o (fun z => (hch c z).2.2.1 x c e rfl) ho (I.freeC x c e)
  · obtain ⟨e, n, ne, nf, d⟩ := I.pin p hp
    have nch : p.1 ∉ ch := fun z => (hch p.1 z).2.2.2 p hp rfl
    exact ⟨keep p.1 p.2 ne nf nch e n, free p.1 p.2 nch e n, ne, nf, d⟩
theorem Inv.un {t' : Nat} (I : Inv X pins σ H s) (u : Un X.fs [] H H' s.heap h') (hok : HOk X.prog X.w H' h') : Inv X pins σ H' { s with heap := h', toks := t' } := by
  obtain ⟨m, ⟨o, es, ep, ho, r⟩, _⟩ := id I.loc
  obtain ⟨sl, hL⟩ := u.any ho I.free (by simp)
  exact I.step (g' := s.gens) (d' := s.drawn) (ch := []) (fun _ z => nomatch z) (fun b o _ hb _ e n => u.keep b o e n hb (by simp)) (fun b o _ hb _ e n => u.slot b o e n hb (by simp)) (fun b o _ e n => u.free b o e n (by simp)) (fun b o _ e => u.there b o e (by simp)) u.tups u.frzs u.tbls (fun m' hm => by
    obtain ⟨o', es', ep', ho', r'⟩ := hm
    rw [ho] at ho'; cases ho'
    exact ⟨_, es', ep', hL, r'⟩) hok I.bare
theorem Inv.call {g' : Array GenState} {t' : Nat} {d' : Drawn} {ch : List Addr} (I : Inv X pins σ H s) (u : Un (frs X.stack) ch H H' s.heap h') (hok : HOk X.prog X.w H' h') (hg : AllBare g')
    (hch : ∀ b ∈ ch, (b ∈ X.ex ∨ X.s₀.heap.objs.size ≤ b) ∧ b ≠ X.env.locals ∧ (∀ x c, X.env.cells.lookup x = some c → c ≠ b) ∧ ∀ p ∈ X.pn ++ pins, p.1 ≠ b) :
    Inv X pins σ H' { s with heap := h', gens := g', drawn := d', toks := t' } := by
  obtain ⟨m, ⟨o, es, ep, ho, r⟩, _⟩ := id I.loc
  obtain ⟨sl, hL⟩ := u.any ho I.free fun z => (hch _ z).2.1 rfl
  exact I.step (ch := ch) hch (fun b o hL hb hc e n => u.keep b o e n (fun z => (List.mem_cons.mp (I.stkSub b z)).elim hL hb) hc) (fun b o _ _ hc e n => u.any e n hc) (fun b o hc e n => u.free b o e n hc) (fun b o hc e => u.there b o e hc) u.tups u.frzs u.tbls (fun m' hm => by
    obtain ⟨o', es', ep', ho', r'⟩ := hm
    rw [ho] at ho'; cases ho'
    exact ⟨_, es', ep', hL, r'⟩) hok hg
theorem Inv.turned {t' : Nat} {it : Addr} (I : Inv X pins σ H s) (k : ∀ b o, b ≠ it → s.heap.get? b = some o → h'.get? b = some o) (hn : H it = none) (hL : it ≠ X.env.locals)
    (h1 : it ∈ X.ex ∨ X.s₀.heap.objs.size ≤ it) (h2 : ∀ x c, X.env.cells.lookup x = some c → c ≠ it) (h3 : ∀ p ∈ X.pn ++ pins, p.1 ≠ it) : Inv X pins σ H { s with heap := h', toks := t' } := by
  have nit : ∀ b u, H b = some u → b ≠ it := fun b u e z => by rw [z, hn] at e; cases e
  refine I.step (g' := s.gens) (d' := s.drawn) (ch := [it]) (fun b hb => ?_) (fun b o _ _ hc e _ => k b o (fun z => hc (by simp [z])) e) (fun b o _ _ hc e _ => ⟨o.slots, k b o (fun z => hc (by simp [z])) e⟩) (fun _ _ _ _ n => n)
    (fun b o hc e => ⟨o, k b o (fun z => hc (by simp [z])) e⟩) (fun _ _ e => e) (fun _ _ _ e => e) (fun b ps e => ⟨#[], by rw [e]; simp⟩) (fun m hm => ?_) (fun b u e => ?_) I.bare
  · have e : b = it := by simpa using hb
    subst e
    exact ⟨h1, hL, h2, h3⟩
  · obtain ⟨o, es, ep, ho, r⟩ := hm
    exact ⟨o, es, ep, k _ o (Ne.symm hL) ho, r⟩
  · refine (I.hok b u e).stay (fun c v hc q => k c v ?_ q) (fun _ q => q) fun _ _ q => q
    rcases hc with z | z
    · rw [z]; exact nit b u e
    · exact nit c _ z
theorem Inv.tok (I : Inv X pins σ H s) (t : Nat) : Inv X pins σ H { s with toks := t } := I.un (h' := s.heap) (t' := t) Un.refl I.hok
theorem Inv.kept {t' : Nat} (I : Inv X pins σ H s) (k : ∀ b u, s.heap.get? b = some u → h'.get? b = some u) : Inv X pins σ H { s with heap := h', toks := t' } := I.un (Un.kept k) (I.hok.kept k)
theorem Inv.laid {a : Addr} {o : HO} {t' : Nat} (I : Inv X pins σ H s) (k : ∀ b u, s.heap.get? b = some u → h'.get? b = some u) (hp : s.heap.objs.size ≤ a) (new : ObjOk X.prog X.w (upd H a o) h' a o) :
    Inv X pins σ (upd H a o) { s with heap := h', toks := t' } := I.un (Un.laid k hp (I.hok.fresh hp)) (I.hok.laid k hp new)
theorem Inv.write {x e : Addr} {o : HO} {t' : Nat} (I : Inv X pins σ H s) (mu : Mut (H x)) (he : e = x ∨ H e = some (.own x)) (k : ∀ b u, b ≠ e → s.heap.get? b = some u → h'.get? b = some u) (heo : ∃ u, h'.get? e = some u)
    (new : ObjOk X.prog X.w (upd H x o) h' x o) : Inv X pins σ (upd H x o) { s with heap := h', toks := t' } := I.un (Un.write mu he k heo) (I.hok.write mu he k heo new)
theorem Inv.pins_of {pins' : List (Addr × Obj)} (I : Inv X pins σ H s) (h : ∀ p ∈ pins', s.heap.get? p.1 = some p.2 ∧ H p.1 = none ∧ p.1 ≠ X.env.locals ∧ p.1 ∉ X.fs ∧ ∀ v, p.2.data ≠ .cell v) : Inv X pins' σ H s :=
  ⟨I.ok, I.os, I.bare, I.base, I.loc, I.cell, I.free, I.freeC, fun p hp => (List.mem_append.mp hp).elim (fun z => I.pin p (List.mem_append_left _ z)) (h p), I.hok, I.len⟩
theorem nodup_ix {N : List Str} (hN : N.Nodup) {i j : Nat} {x : Str} (a : N[i]? = some x) (b : N[j]? = some x) : i = j := by
  obtain ⟨h1, e1⟩ := List.getElem?_eq_some_iff.mp a
  obtain ⟨h2, e2⟩ := List.getElem?_eq_some_iff.mp b
  exact (List.getElem_inj hN).mp (e1.trans e2.symm)
theorem store_ok2 {M : Model} {A : Around} {E : Value → Shared → Prop} {i : Nat} {x : Str} {v : V} {u : Value} {Q : Unit → Shared → Prop} (I : Inv X pins σ H s) (hN : X.N.Nodup) (hi : X.N[i]? = some x) (hx : Loc X.env.scope x) (r : RelV v u)
    (h : ∀ s', Inv X pins (σ.set i (some v)) H s' → (∃ a, Heap.SameBut a s.heap s'.heap ∧ (a = X.env.locals ∨ X.env.cells.lookup x = some a)) → Q () s') (hf : autoParam (X.fn x = true ∨ X.env.scope.names.lookup x = some .local) autoK1._auto_1) : wpAny M A (storeName X.env x u) Q E s := by
  obtain ⟨m, hn, hl⟩ := id I.loc
  have hcls : (X.env.scope.kind == .class || (X.env.scope.kind == .module && X.env.locals != X.env.globals)) = false := by rw [I.ok.kind]; rfl
  have hiσ : i < σ.length := by rw [I.len]; exact (List.getElem?_eq_some_iff.mp hi).1
  have cne := I.cne
  have tracked : ∀ {a : Addr} {h' : Heap}, (∃ o, s.heap.get? a = some o ∧ H a = none) → Heap.SameBut a s.heap h' → HOk X.prog X.w H h' := fun {a h'} ha hs b ob e => by
    obtain ⟨_, _, hfree⟩ := ha
    refine (I.hok b ob e).stay (fun c w' hc q => (hs.2 c ?_).trans q) (fun _ q => q) fun _ _ q => q
    rintro rfl
    rcases hc with rfl | hc
    · rw [hfree] at e; cases e
    · rw [hfree] at hc; cases hc
  rcases hx with hk | hk
  · refine wpAny_storeName_local hk hn (fun h' hn' hs => ?_) hcls
    obtain ⟨oL, _, _, hoL, _⟩ := id hn
    refine h _ ⟨I.ok, I.os, I.bare, ⟨fun b o e n hb hx => ?_, fun b o e n hb hx => ?_, I.base.free, fun b o e hx => ?_, I.base.tups, I.base.frzs, I.base.tbls⟩, ⟨_, hn', fun j y v' e1 e2 e3 => ?_⟩, fun y c e => ?_, I.free, I.freeC, fun p hp => ?_, tracked ⟨oL, hoL, I.free⟩ hs, by simpa using I.len⟩ ⟨_, hs, .inl rfl⟩
    · exact (hs.2 b (Nat.ne_of_lt (Nat.lt_of_lt_of_le (Heap.lt_size e) I.ok.above))).trans (I.base.keep b o e n hb hx)
    · obtain ⟨sl, e1⟩ := I.base.slot b o e n hb hx
      exact ⟨sl, (hs.2 b (Nat.ne_of_lt (Nat.lt_of_lt_of_le (Heap.lt_size e) I.ok.above))).trans e1⟩
    · obtain ⟨o', e1⟩ := I.base.there b o e hx
      exact ⟨o', (hs.2 b (Nat.ne_of_lt (Nat.lt_of_lt_of_le (Heap.lt_size e) I.ok.above))).trans e1⟩
    · by_cases hj : j = i
      · subst hj
        rw [hi] at e1; cases e1
        rw [List.getElem?_set_self hiσ] at e2
        cases e2
        exact ⟨u, r, .inl ⟨hk, by simp⟩⟩
      · rw [List.getElem?_set_ne (Ne.symm hj)] at e2
        obtain ⟨u', r', q⟩ := hl j y v' e1 e2 e3
        refine ⟨u', r', ?_⟩
        rcases q with ⟨k, e⟩ | ⟨k, c, e, z⟩
        · refine .inl ⟨k, ?_⟩
          have : y ≠ x := fun e => hj (nodup_ix hN e1 (e ▸ hi))
          simp [this, e]
        · exact .inr ⟨k, c, e, z.sameBut hs (cne y c e)⟩
    · obtain ⟨w', z⟩ := I.cell y c e
      exact ⟨w', z.sameBut hs (cne y c e)⟩
    · obtain ⟨e, n, ne, nf, d⟩ := I.pin p hp
      exact ⟨(hs.2 p.1 ne).trans e, n, ne, nf, d⟩
  · have hfn : X.fn x = true := by
      rcases hf with z | z
      · exact z
      · rw [z] at hk; cases hk
    obtain ⟨c, hc⟩ := I.ok.has x (.inl hk)
    obtain ⟨w', z⟩ := I.cell x c hc
    refine wpAny_storeName_cell I.ok.kind hk hc z (fun h' hc' hs => ?_)
    obtain ⟨oc, hoc, hocd⟩ := id z
    refine h { s with heap := h' } ⟨I.ok, I.os, I.bare, ⟨fun b o e n hb hx => ?_, fun b o e n hb hx => ?_, I.base.free, fun b o e hx => ?_, I.base.tups, I.base.frzs, I.base.tbls⟩, ⟨m, hn.sameBut hs (Ne.symm (cne x c hc)), fun j y v' e1 e2 e3 => ?_⟩, fun y c' e => ?_, I.free, I.freeC, fun p hp => ?_, tracked ⟨oc, hoc, I.freeC x c hc⟩ hs, by simpa using I.len⟩ ⟨c, hs, .inr hc⟩
    · exact (hs.2 b (Nat.ne_of_lt (Nat.lt_of_lt_of_le (Heap.lt_size e) (I.ok.cab x c hfn hc)))).trans (I.base.keep b o e n hb hx)
    · obtain ⟨sl, e1⟩ := I.base.slot b o e n hb hx
      exact ⟨sl, (hs.2 b (Nat.ne_of_lt (Nat.lt_of_lt_of_le (Heap.lt_size e) (I.ok.cab x c hfn hc)))).trans e1⟩
    · obtain ⟨o', e1⟩ := I.base.there b o e hx
      exact ⟨o', (hs.2 b (Nat.ne_of_lt (Nat.lt_of_lt_of_le (Heap.lt_size e) (I.ok.cab x c hfn hc)))).trans e1⟩
    · by_cases hj : j = i
      · subst hj
        rw [hi] at e1; cases e1
        rw [List.getElem?_set_self hiσ] at e2
        cases e2
        exact ⟨u, r, .inr ⟨.inl hk, c, hc, hc'⟩⟩
      · rw [List.getElem?_set_ne (Ne.symm hj)] at e2
        obtain ⟨u', r', q⟩ := hl j y v' e1 e2 e3
        refine ⟨u', r', ?_⟩
        rcases q with q | ⟨k, c', e, z'⟩
        · exact .inl q
        · refine .inr ⟨k, c', e, z'.sameBut hs ?_⟩
          rintro rfl
          exact hj (nodup_ix hN e1 (I.ok.inj _ _ _ e hc ▸ hi))
    · by_cases hcc : c' = c
      · subst hcc; exact ⟨_, hc'⟩
      · obtain ⟨w2, z2⟩ := I.cell y c' e
        exact ⟨w2, z2.sameBut hs hcc⟩
    · obtain ⟨e, n, ne, nf, d⟩ := I.pin p hp
      refine ⟨(hs.2 p.1 ?_).trans e, n, ne, nf, d⟩
      intro q
      rw [q, hoc] at e
      have q' : oc = p.2 := Option.some.inj e
      exact d w' (by rw [← q']; exact hocd)
theorem store_ok {M : Model} {A : Around} {E : Value → Shared → Prop} {i : Nat} {x : Str} {v : V} {u : Value} {Q : Unit → Shared → Prop} (I : Inv X pins σ H s) (hN : X.N.Nodup) (hi : X.N[i]? = some x) (hx : Loc X.env.scope x) (r : RelV v u)
    (h : ∀ s', Inv X pins (σ.set i (some v)) H s' → Q () s') (hf : autoParam (X.fn x = true ∨ X.env.scope.names.lookup x = some .local) autoK1._auto_1) : wpAny M A (storeName X.env x u) Q E s :=
  store_ok2 I hN hi hx r (fun s' I' _ => h s' I') hf
theorem Inv.call' {s' : Shared} {ch : List Addr} (I : Inv X pins σ H s) (ho : s'.os = s.os) (u : Un (frs X.stack) ch H H' s.heap s'.heap) (hok : HOk X.prog X.w H' s'.heap) (hg : AllBare s'.gens)
    (hch : ∀ b ∈ ch, (b ∈ X.ex ∨ X.s₀.heap.objs.size ≤ b) ∧ b ≠ X.env.locals ∧ (∀ x c, X.env.cells.lookup x = some c → c ≠ b) ∧ ∀ p ∈ X.pn ++ pins, p.1 ≠ b) : Inv X pins σ H' s' := by
  obtain ⟨h', g', d', t', o'⟩ := s'
  have e : o' = s.os := ho
  subst e
  exact I.call (g' := g') (t' := t') (d' := d') u hok hg hch
end
noncomputable abbrev XK := Value → Option Addr → Hp → Prop
noncomputable abbrev St := List (Option V)
noncomputable abbrev VK := V → Hp → Prop
noncomputable abbrev TE := St → Hp → VK → Prop
noncomputable abbrev TT := St → Hp → (Bool → Hp → Prop) → Prop
noncomputable abbrev TA := St → Hp → (List V → Hp → Prop) → Prop
structure Ends where
  nx : St → Hp → Prop
  rt : VK
  bk : St → Hp → Prop := fun _ _ => False
  ct : St → Hp → Prop := fun _ _ => False
noncomputable abbrev TS := Ends → St → Hp → Prop
noncomputable def EP (X : Cx) (pins : List (Addr × Obj)) (σ : St) (Q : VK) (u : Value) (s' : Shared) : Prop := ∃ v H', Inv X pins σ H' s' ∧ RelV v u ∧ Q v H'
noncomputable def TP (X : Cx) (pins : List (Addr × Obj)) (σ : St) (Q : Bool → Hp → Prop) (b : Bool) (s' : Shared) : Prop := ∃ H', Inv X pins σ H' s' ∧ Q b H'
noncomputable def AP (X : Cx) (pins : List (Addr × Obj)) (σ : St) (Q : List V → Hp → Prop) (us : List Value) (s' : Shared) : Prop := ∃ vs H', Inv X pins σ H' s' ∧ Vals vs us ∧ Q vs H'
noncomputable def SP (X : Cx) (pins : List (Addr × Obj)) (D : Ends) (f : Flow) (s' : Shared) : Prop :=
  match f with
  | .next => ∃ σ' H', Inv X pins σ' H' s' ∧ D.nx σ' H'
  | .brk => ∃ σ' H', Inv X pins σ' H' s' ∧ D.bk σ' H'
  | .cont => ∃ σ' H', Inv X pins σ' H' s' ∧ D.ct σ' H'
  | .ret u => ∃ v σ' H', Inv X pins σ' H' s' ∧ RelV v u ∧ D.rt v H'
noncomputable def PE (X : Cx) (e : Expr) (t : TE) : Prop :=
  ∀ (pins : List (Addr × Obj)) (s : Shared) (σ : St) (H : Hp) (Q : VK), Inv X pins σ H s → t σ H Q → wpAny (model X.prog X.w) X.A (eval e X.env) (EP X pins σ Q) X.xe s
noncomputable def PT (X : Cx) (e : Expr) (t : TT) : Prop :=
  ∀ (pins : List (Addr × Obj)) (s : Shared) (σ : St) (H : Hp) (Q : Bool → Hp → Prop), Inv X pins σ H s → t σ H Q → wpAny (model X.prog X.w) X.A (isTrue e X.env (eval e X.env)) (TP X pins σ Q) X.xe s
noncomputable def PW (X : Cx) (e : Expr) (t : TT) : Prop :=
  ∀ (whole : Sem Value) (pins : List (Addr × Obj)) (s : Shared) (σ : St) (H : Hp) (Q : Bool → Hp → Prop), Inv X pins σ H s → t σ H Q → wpAny (model X.prog X.w) X.A (isTrue e X.env whole) (TP X pins σ Q) X.xe s
theorem PW.pt {X : Cx} {e : Expr} {t : TT} (h : PW X e t) : PT X e t := h _
noncomputable def PA (X : Cx) (es : List Expr) (t : TA) : Prop :=
  ∀ (pos : Pos) (pins : List (Addr × Obj)) (s : Shared) (σ : St) (H : Hp) (Q : List V → Hp → Prop), Inv X pins σ H s → t σ H Q → wpAny (model X.prog X.w) X.A (spliced (backTo pos (starEach es X.env))) (AP X pins σ Q) X.xe s
noncomputable def PS (X : Cx) (st : Stmt) (t : TS) : Prop :=
  ∀ (pins : List (Addr × Obj)) (s : Shared) (σ : St) (H : Hp) (D : Ends), Inv X pins σ H s → t D σ H → wpAny (model X.prog X.w) X.A (exec st X.env) (SP X pins D) X.xe s
noncomputable def PSs (X : Cx) (st : List Stmt) (t : TS) : Prop :=
  ∀ (pins : List (Addr × Obj)) (s : Shared) (σ : St) (H : Hp) (D : Ends), Inv X pins σ H s → t D σ H → wpAny (model X.prog X.w) X.A (execs st X.env) (SP X pins D) X.xe s
theorem thn {α : Type} {t : Sem α} {Q Q' : α → Shared → Prop} {M : Model} {A : Around} {E : Value → Shared → Prop} {s : Shared} (h : wpAny M A t Q E s) (hQ : ∀ a s, Q a s → Q' a s) : wpAny M A t Q' E s := wpAny_mono h hQ fun _ _ x => x
end L2
namespace L2
open PySem PySem.Spec PyProof.Rows
section
variable {X : Cx}
noncomputable def tVar (i : Nat) : TE := fun σ H Q => ∃ v, σ[i]? = some (some v) ∧ Q v H
noncomputable def tC (v : V) : TE := fun _ H Q => Q v H
theorem pe_var {i : Nat} {x : Str} {pos : Pos} (hN : X.N[i]? = some x) (hv : Vis X.env.scope x) (hd : autoParam ((x == ("__debug__" : Str)) = false) autoK2._auto_1) (hcd : autoParam ((x == ("__classdict__" : Str)) = false) autoK2._auto_1) : PE X (.Name x pos) (tVar i) := by
  intro pins s σ H Q I h
  obtain ⟨v, e, h⟩ := h
  obtain ⟨m, hn, hl⟩ := I.loc
  obtain ⟨u, r, l⟩ := hl i x v hN e hv
  have fin : EP X pins σ Q u s := ⟨v, H, I, r, h⟩
  rcases l with ⟨hk, hm⟩ | ⟨hk, c, hc, hcell⟩
  · exact wpAny_Name (wpAny_loadName_local I.ok.kind hk hn hm fin) hd
  · rcases hk with hk | hk
    · exact wpAny_Name (wpAny_loadName_cell I.ok.kind hk hc hcell fin) hd
    · exact wpAny_Name (wpAny_loadName_free I.ok.kind hk hc hcell fin hcd) hd
theorem pe_int {i j pos} : PE X (.Constant (.int i) j pos) (tC (.int i)) := fun _ _ _ H _ I h => wpAny_Constant_int ⟨.int i, H, I.tok _, ⟨_, rfl⟩, h⟩
theorem pe_bl {b j pos} : PE X (.Constant (.bool b) j pos) (tC (.bl b)) := fun _ _ _ H _ I h => Constant_bool ⟨.bl b, H, I, rfl, h⟩
theorem pe_non {j pos} : PE X (.Constant .none j pos) (tC .non) := fun _ _ _ H _ I h => Constant_none ⟨.non, H, I, rfl, h⟩
theorem pe_str {x j pos} : PE X (.Constant (.str x) j pos) (tC (.str x)) := fun _ _ _ H _ I h => Calls.Constant_str ⟨.str x, H, I.tok _, ⟨_, rfl⟩, h⟩
noncomputable def Gl (X : Cx) (x : Str) : Prop := X.env.kindOf x = some .globalImplicit
theorem ld_glob {E : Value → Shared → Prop} {pins : List (Addr × Obj)} {s : Shared} {σ : St} {H : Hp} {x : Str} {u : Value} {pos : Pos} {Q : Value → Shared → Prop} (I : Inv X pins σ H s) (hg : Gl X x) (hm : X.mg x = some u) (h : Q u s)
    (hd : autoParam ((x == ("__debug__" : Str)) = false) autoK2._auto_1) : wpAny (model X.prog X.w) X.A (eval (.Name x pos) X.env) Q E s :=
  Calls.Name_function_global I.ok.kind hg (Calls.loadGlobal_global (by rw [I.ok.glob]; exact I.mod.glob.keeps I.bk) hm h) hd
theorem ld_blt {E : Value → Shared → Prop} {pins : List (Addr × Obj)} {s : Shared} {σ : St} {H : Hp} {x : Str} {u : Value} {pos : Pos} {Q : Value → Shared → Prop} (I : Inv X pins σ H s) (hg : Gl X x) (hm : X.mg x = none) (hv : bootBuiltins x = some u) (h : Q u s)
    (hn : autoParam (x ≠ "__name__") autoK2._auto_1) (hd : autoParam ((x == ("__debug__" : Str)) = false) autoK2._auto_1) : wpAny (model X.prog X.w) X.A (eval (.Name x pos) X.env) Q E s := by
  obtain ⟨mb, h1, h2⟩ := I.mod.blt
  exact Calls.Name_function_global I.ok.kind hg (Calls.loadGlobal_builtin (by rw [I.ok.glob]; exact I.mod.glob.keeps I.bk) hm (by rw [I.ok.blt]; exact h1.keeps I.bk) ((h2 x hn).trans hv) h) hd
theorem pe_glob {x : Str} {v : V} {u : Value} {pos : Pos} (hg : Gl X x) (hm : X.mg x = some u) (r : RelV v u) (hd : autoParam ((x == ("__debug__" : Str)) = false) autoK2._auto_1) : PE X (.Name x pos) (tC v) :=
  fun _ _ _ H _ I h => ld_glob I hg hm ⟨v, H, I, r, h⟩ hd
theorem pe_bltn {x : Str} {v : V} {u : Value} {pos : Pos} (hg : Gl X x) (hm : X.mg x = none) (hv : bootBuiltins x = some u) (r : RelV v u) (hn : autoParam (x ≠ "__name__") autoK2._auto_1) (hd : autoParam ((x == ("__debug__" : Str)) = false) autoK2._auto_1) : PE X (.Name x pos) (tC v) :=
  fun _ _ _ H _ I h => ld_blt I hg hm hv ⟨v, H, I, r, h⟩ hn hd
variable {a b : Expr} {ta tb : TE} {pos : Pos}
noncomputable def tB (t : TE) : TT := fun σ H Q => t σ H fun x H1 => ∃ c, x = .bl c ∧ Q c H1
theorem pt_val {e : Expr} {t : TE} (h : PE X e t) (he : autoParam (∀ whole, isTrue e X.env whole = (do let v ← whole; standAt e.pos; holding [v] (truthy v))) autoK4._auto_1) : PT X e (tB t) := by
  intro pins s σ H Q I hw
  refine isTrue_plain (thn (h pins s σ H _ I hw) fun v s1 ⟨x, H1, I1, r1, q1⟩ => ?_) (he _)
  obtain ⟨d, rfl, q⟩ := q1
  cases r1
  exact wpAny_truthy_bool ⟨H1, I1, q⟩
variable {tA tB' : TT} {rest : List Expr}
noncomputable def tAnd (t u : TT) : TT := fun σ H Q => t σ H fun c H1 => if c = true then u σ H1 Q else Q false H1
noncomputable def tOr (t u : TT) : TT := fun σ H Q => t σ H fun c H1 => if c = true then Q true H1 else u σ H1 Q
noncomputable def tNot (t : TT) : TT := fun σ H Q => t σ H fun c H1 => Q (!c) H1
theorem pw_and1 (ha : PT X a tA) : PW X (.BoolOp .And [a] pos) tA := by
  intro wh pins s σ H Q I h
  refine isTrue_and (thn (ha pins s σ H Q I h) fun c s1 e => ?_)
  cases c with
  | true => exact isTrue_and_nil e
  | false => exact e
theorem pw_or1 (ha : PT X a tA) : PW X (.BoolOp .Or [a] pos) tA := by
  intro wh pins s σ H Q I h
  refine isTrue_or (thn (ha pins s σ H Q I h) fun c s1 e => ?_)
  cases c with
  | false => exact isTrue_or_nil e
  | true => exact e
theorem pw_and (ha : PT X a tA) (hb : PW X (.BoolOp .And (b :: rest) pos) tB') : PW X (.BoolOp .And (a :: b :: rest) pos) (tAnd tA tB') := by
  intro wh pins s σ H Q I h
  refine isTrue_and (thn (ha pins s σ H _ I h) fun c s1 ⟨H1, I1, q1⟩ => ?_)
  cases c with
  | true => exact hb wh pins s1 σ H1 Q I1 q1
  | false => exact ⟨H1, I1, q1⟩
theorem pw_or (ha : PT X a tA) (hb : PW X (.BoolOp .Or (b :: rest) pos) tB') : PW X (.BoolOp .Or (a :: b :: rest) pos) (tOr tA tB') := by
  intro wh pins s σ H Q I h
  refine isTrue_or (thn (ha pins s σ H _ I h) fun c s1 ⟨H1, I1, q1⟩ => ?_)
  cases c with
  | true => exact ⟨H1, I1, q1⟩
  | false => exact hb wh pins s1 σ H1 Q I1 q1
theorem pt_not (ha : PT X a tA) : PT X (.UnaryOp .Not a pos) (tNot tA) := by
  intro pins s σ H Q I h
  exact isTrue_not (ha pins s σ H (fun c H1 => Q (!c) H1) I h)
noncomputable def tAndV (ta tb : TE) : TE := fun σ H Q => ta σ H fun x H1 => ∃ c, x = .bl c ∧ if c = true then tb σ H1 Q else Q (.bl false) H1
noncomputable def tNotV (ta : TE) : TE := fun σ H Q => ta σ H fun x H1 => ∃ c, x = .bl c ∧ Q (.bl (!c)) H1
theorem pe_one {op} {t : TE} (h : PE X a t) : PE X (.BoolOp op [a] pos) t := fun pins s σ H Q I hw => BoolOp_one (h pins s σ H Q I hw)
theorem pe_and (ha : PE X a ta) (hb : PE X (.BoolOp .And (b :: rest) pos) tb) : PE X (.BoolOp .And (a :: b :: rest) pos) (tAndV ta tb) := by
  intro pins s σ H Q I h
  refine BoolOp_and (thn (ha pins s σ H _ I h) fun v s1 ⟨x, H1, I1, r1, q1⟩ => ?_)
  obtain ⟨c, rfl, q1⟩ := q1
  cases r1
  refine wpAny_truthy_bool ?_
  cases c with
  | true => exact hb pins s1 σ H1 Q I1 q1
  | false => exact ⟨.bl false, H1, I1, rfl, q1⟩
theorem pe_not (ha : PE X a ta) : PE X (.UnaryOp .Not a pos) (tNotV ta) := by
  intro pins s σ H Q I h
  refine UnaryOp_ (thn (ha pins s σ H _ I h) fun v s1 ⟨x, H1, I1, r1, q1⟩ => ?_)
  obtain ⟨c, rfl, q1⟩ := q1
  cases r1
  exact not_of (wpAny_truthy_bool ⟨.bl (!c), H1, I1, rfl, q1⟩)
end
end L2
namespace L2
open PySem PySem.Spec PyProof.Rows
noncomputable def SqL (K : PySem.W.Frag) (H : Hp) (a : Addr) (xs : List V) : Prop :=
  Rd H a (.lst xs) ∨
    ∃ (o : Obj) (its : Array Value) (n : Nat), K.lookup a = some o ∧ o.cls = .type "list" ∧ o.dict = none ∧ o.data = .seq its n ∧ its.size ≤ sizeLine ∧ Vals xs its.toList
noncomputable def SqT (K : PySem.W.Frag) (H : Hp) (a : Addr) (xs : List V) : Prop :=
  Rd H a (.tup xs) ∨
    ∃ (o : Obj) (its : Array Value) (n : Nat), K.lookup a = some o ∧ o.cls = .type "tuple" ∧ o.data = .seq its n ∧ its.size ≤ sizeLine ∧ Vals xs its.toList
noncomputable def absV : Value → Option V
  | .none => some .non
  | .bool b => some (.bl b)
  | .int i _ => some (.int i)
  | .str x _ => some (.str x)
  | .bytes b _ => some (.byt b)
  | .float b _ => some (.flt b)
  | .ref a => some (.ref a)
  | .type n => some (.ty n)
  | _ => none
theorem RelV.abs {x : V} {u : Value} (r : RelV x u) : absV u = some x := by
  cases x with
  | non => cases r; rfl
  | bl _ => cases r; rfl
  | int _ => obtain ⟨t, rfl⟩ := r; rfl
  | str _ => obtain ⟨t, rfl⟩ := r; rfl
  | byt _ => obtain ⟨t, rfl⟩ := r; rfl
  | flt _ => obtain ⟨t, rfl⟩ := r; rfl
  | ref _ => cases r; rfl
  | ty _ => cases r; rfl
theorem RelV.inj {x y : V} {u : Value} (r : RelV x u) (q : RelV y u) : x = y := Option.some.inj (r.abs.symm.trans q.abs)
theorem Vals.inj : ∀ {xs ys : List V} {us : List Value}, Vals xs us → Vals ys us → xs = ys
  | _, _, _, .nil, .nil => rfl
  | _, _, _, .cons r t, .cons r' t' => by rw [r.inj r', Vals.inj t t']
section
variable {X : Cx} {pins : List (Addr × Obj)} {σ : St} {H : Hp} {s : Shared} {a : Addr} {xs ys : List V}
theorem SqL.of {K : PySem.W.Frag} (h : H a = some (.lst xs)) : SqL K H a xs := .inl (.inl h)
theorem SqT.of {K : PySem.W.Frag} (h : H a = some (.tup xs)) : SqT K H a xs := .inl (.inl h)
theorem Inv.list (I : Inv X pins σ H s) (h : SqL X.K H a xs) : ∃ its : List Value, Vals xs its ∧ PlainL s.heap a its.toArray ∧ xs.length ≤ sizeLine := by
  rcases h with h | ⟨o, its, n, hk, hc, hd, hs, hz, r⟩
  · obtain ⟨z, its, n, r, e⟩ := h.ok I.hok
    exact ⟨its, r, ⟨_, n, e, rfl, rfl, rfl⟩, z⟩
  · refine ⟨its.toList, r, ⟨o, n, I.kIn a o hk, hc, hd, by simpa using hs⟩, ?_⟩
    have e := r.length
    simp only [Array.length_toList] at e
    bv_omega
theorem Inv.tuple (I : Inv X pins σ H s) (h : SqT X.K H a xs) : ∃ its : List Value, Vals xs its ∧ IsTup s.heap a its.toArray ∧ xs.length ≤ sizeLine := by
  rcases h with h | ⟨o, its, n, hk, hc, hs, hz, r⟩
  · obtain ⟨z, its, r, p⟩ := h.ok I.hok
    exact ⟨its, r, p.tup, z⟩
  · refine ⟨its.toList, r, ⟨o, I.kIn a o hk, hc, n, by simpa using hs⟩, ?_⟩
    have e := r.length
    simp only [Array.length_toList] at e
    bv_omega
theorem Inv.list_inj (I : Inv X pins σ H s) (h : SqL X.K H a xs) (h' : SqL X.K H a ys) : xs = ys := by
  obtain ⟨its, r, ⟨o, n, e, _, _, d⟩, _⟩ := I.list h
  obtain ⟨its', r', ⟨o', n', e', _, _, d'⟩, _⟩ := I.list h'
  rw [e] at e'; cases e'
  rw [d] at d'
  injection d' with d1 _
  have : its = its' := by simpa using congrArg Array.toList d1
  subst this
  exact r.inj r'
theorem Inv.tuple_inj (I : Inv X pins σ H s) (h : SqT X.K H a xs) (h' : SqT X.K H a ys) : xs = ys := by
  obtain ⟨its, r, ⟨o, e, _, n, d⟩, _⟩ := I.tuple h
  obtain ⟨its', r', ⟨o', e', _, n', d'⟩, _⟩ := I.tuple h'
  rw [e] at e'; cases e'
  rw [d] at d'
  injection d' with d1 _
  have : its = its' := by simpa using congrArg Array.toList d1
  subst this
  exact r.inj r'
end
noncomputable abbrev Cx.wish (X : Cx) (E : Value → Shared → Prop) : Cx := { X with xe := E }
noncomputable abbrev Cx.nox (X : Cx) : Cx := X.wish fun _ _ => False
theorem Cx.Ok.wish {X : Cx} (ok : X.Ok) (E : Value → Shared → Prop) : (X.wish E).Ok :=
  ⟨ok.mod, ok.kind, ok.glob, ok.blt, ok.above, ok.inj, ok.has, ok.cab, ok.hd, ok.frames, ok.stk, ok.exf, ok.bs, ok.bsz, ok.noex, ok.exfs, ok.funs, ok.frf⟩
theorem Cx.Ok.unwish {X : Cx} {E : Value → Shared → Prop} (ok : (X.wish E).Ok) : X.Ok :=
  ⟨ok.mod, ok.kind, ok.glob, ok.blt, ok.above, ok.inj, ok.has, ok.cab, ok.hd, ok.frames, ok.stk, ok.exf, ok.bs, ok.bsz, ok.noex, ok.exfs, ok.funs, ok.frf⟩
section
variable {X : Cx} {pins : List (Addr × Obj)} {σ : St} {H : Hp} {s : Shared} {E : Value → Shared → Prop}
theorem Inv.wish (I : Inv X pins σ H s) (E : Value → Shared → Prop) : Inv (X.wish E) pins σ H s := ⟨I.ok.wish E, I.os, I.bare, I.base, I.loc, I.cell, I.free, I.freeC, I.pin, I.hok, I.len⟩
theorem Inv.unwish (I : Inv (X.wish E) pins σ H s) : Inv X pins σ H s := ⟨I.ok.unwish, I.os, I.bare, I.base, I.loc, I.cell, I.free, I.freeC, I.pin, I.hok, I.len⟩
theorem SP.unwish {D : Ends} {f : Flow} {s' : Shared} (h : SP (X.wish E) pins D f s') : SP X pins D f s' := by
  cases f with
  | next => obtain ⟨σ', H', I, q⟩ := h; exact ⟨σ', H', I.unwish, q⟩
  | brk => obtain ⟨σ', H', I, q⟩ := h; exact ⟨σ', H', I.unwish, q⟩
  | cont => obtain ⟨σ', H', I, q⟩ := h; exact ⟨σ', H', I.unwish, q⟩
  | ret u => obtain ⟨v, σ', H', I, r, q⟩ := h; exact ⟨v, σ', H', I.unwish, r, q⟩
theorem PE.nox {e : Expr} {t : TE} (h : PE X.nox e t) : PE X e t := fun pins s σ H Q I hw =>
  wpAny_mono (h pins s σ H Q (I.wish _) hw) (fun _ _ ⟨v, H', I', r, q⟩ => ⟨v, H', I'.unwish, r, q⟩) fun _ _ z => False.elim z
theorem PT.nox {e : Expr} {t : TT} (h : PT X.nox e t) : PT X e t := fun pins s σ H Q I hw =>
  wpAny_mono (h pins s σ H Q (I.wish _) hw) (fun _ _ ⟨H', I', q⟩ => ⟨H', I'.unwish, q⟩) fun _ _ z => False.elim z
theorem PSs.nox {st : List Stmt} {t : TS} (h : PSs X.nox st t) : PSs X st t := fun pins s σ H D I hw =>
  wpAny_mono (h pins s σ H D (I.wish _) hw) (fun _ _ q => q.unwish) fun _ _ z => False.elim z
end
section
variable {X : Cx} {st : Stmt} {rest : List Stmt} {t u : TS} {e : Expr} {te : TE} {pos : Pos}
noncomputable def tNext : TS := fun D σ H => D.nx σ H
noncomputable def tSeq (t u : TS) : TS := fun D σ H => t { D with nx := u D } σ H
theorem pss_nil : PSs X [] tNext := fun _ _ σ H _ I h => wpAny_execs_nil ⟨σ, H, I, h⟩
theorem pss_cons (h1 : PS X st t) (h2 : PSs X rest u) : PSs X (st :: rest) (tSeq t u) := by
  intro pins s σ H D I h
  refine wpAny_execs_cons (thn (h1 pins s σ H { D with nx := u D } I h) fun f s1 q => ?_)
  cases f with
  | next =>
    obtain ⟨σ', H', I', q⟩ := q
    exact h2 pins s1 σ' H' D I' q
  | ret v => exact q
  | brk => exact q
  | cont => exact q
theorem pss_one (h1 : PS X st t) : PSs X [st] t := by
  intro pins s σ H D I h
  refine wpAny_execs_cons (thn (h1 pins s σ H D I h) fun f s1 q => ?_)
  cases f with
  | next => exact wpAny_execs_nil q
  | ret v => exact q
  | brk => exact q
  | cont => exact q
theorem Inv.quiet {pins : List (Addr × Obj)} {σ : St} {H : Hp} {s : Shared} (I : Inv X pins σ H s) : interactive X.env = false := by simp [interactive, I.ok.kind]
noncomputable def tDrop (te : TE) : TS := fun D σ H => te σ H fun _ H1 => D.nx σ H1
theorem ps_expr (he : PE X e te) (hs : autoParam (swapsWith e none pos.line X.env = pure false) autoK5._auto_1) : PS X (.Expr e pos) (tDrop te) := by
  intro pins s σ H D I h
  exact wpAny_Expr_any (thn (he pins s σ H _ I h) fun v s1 ⟨x, H1, I1, r1, q1⟩ => ⟨σ, H1, I1, q1⟩) I.quiet hs
noncomputable def tRet (te : TE) : TS := fun D σ H => te σ H D.rt
theorem ps_ret (he : PE X e te) : PS X (.Return (some e) pos) (tRet te) := by
  intro pins s σ H D I h
  exact wpAny_Return_some (thn (he pins s σ H _ I h) fun v s1 ⟨x, H1, I1, r1, q1⟩ => ⟨x, σ, H1, I1, r1, q1⟩)
noncomputable def tIfS (c : TT) (t u : TS) : TS := fun D σ H => c σ H fun b H1 => if b = true then t D σ H1 else u D σ H1
theorem ps_if {c : Expr} {a b : List Stmt} {tc : TT} (hc : PT X c tc) (ha : PSs X a t) (hb : PSs X b u) : PS X (.If c a b pos) (tIfS tc t u) := by
  intro pins s σ H D I h
  refine wpAny_If (thn (hc pins s σ H _ I h) fun d s1 ⟨H1, I1, q1⟩ => ?_)
  cases d with
  | true => exact ha pins s1 σ H1 D I1 q1
  | false => exact hb pins s1 σ H1 D I1 q1
noncomputable def tNever : TS := fun _ _ _ => False
theorem ps_never : PS X st tNever := fun _ _ _ _ _ _ h => h.elim
end
noncomputable abbrev TG := V → St → Hp → (St → Hp → Prop) → Prop
noncomputable abbrev TGs := List V → St → Hp → (St → Hp → Prop) → Prop
noncomputable def PG (X : Cx) (target : Expr) (t : TG) : Prop :=
  ∀ (pins : List (Addr × Obj)) (s : Shared) (σ : St) (H : Hp) (v : V) (u : Value) (Q : St → Hp → Prop), Inv X pins σ H s → RelV v u → t v σ H Q →
    wpAny (model X.prog X.w) X.A (assign target X.env u) (fun _ s' => ∃ σ' H', Inv X pins σ' H' s' ∧ Q σ' H') X.xe s
noncomputable def PGs (X : Cx) (ts : List Expr) (t : TGs) : Prop :=
  ∀ (pins : List (Addr × Obj)) (s : Shared) (σ : St) (H : Hp) (vs : List V) (us : List Value) (Q : St → Hp → Prop), Inv X pins σ H s → Vals vs us → t vs σ H Q →
    wpAny (model X.prog X.w) X.A (assignInOrder ((assignEach ts X.env).map (·.2)) us) (fun _ s' => ∃ σ' H', Inv X pins σ' H' s' ∧ Q σ' H') X.xe s
noncomputable abbrev TSet := V → V → V → Hp → (Hp → Prop) → Prop
noncomputable def PSet (X : Cx) (t : TSet) : Prop :=
  ∀ (pins : List (Addr × Obj)) (s : Shared) (σ : St) (H : Hp) (o i v : V) (ov iv u : Value) (Q : Hp → Prop), Inv X pins σ H s → RelV o ov → RelV i iv → RelV v u → t o i v H Q →
    wpAny (model X.prog X.w) X.A (setItem ov iv u) (fun _ s' => ∃ H', Inv X pins σ H' s' ∧ Q H') X.xe s
section
variable {X : Cx} {pos : Pos}
noncomputable def gName (i : Nat) : TG := fun v σ H Q => Q (σ.set i (some v)) H
theorem pg_name {i : Nat} {x : Str} (hN : X.N.Nodup) (hi : X.N[i]? = some x) (hx : Loc X.env.scope x) (hf : autoParam (X.fn x = true ∨ X.env.scope.names.lookup x = some .local) autoK1._auto_1) : PG X (.Name x pos) (gName i) := by
  intro pins s σ H v u Q I r h
  exact wpAny_assign_Name (store_ok I hN hi hx r (fun s' I' => ⟨_, H, I', h⟩) hf)
noncomputable def gNil : TGs := fun vs σ H Q => vs = [] ∧ Q σ H
noncomputable def gCons (t : TG) (u : TGs) : TGs := fun vs σ H Q => ∃ v r, vs = v :: r ∧ t v σ H fun σ' H' => u r σ' H' Q
theorem pgs_nil : PGs X [] gNil := by
  intro pins s σ H vs us Q I r h
  obtain ⟨e, h⟩ := h
  subst e
  cases r
  exact assignInOrder_nil ⟨σ, H, I, h⟩
theorem pgs_cons {e : Expr} {es : List Expr} {t : TG} {u : TGs} (h1 : PG X e t) (h2 : PGs X es u)
    (hs : autoParam ((assignEach (e :: es) X.env).map (·.2) = assign e X.env :: (assignEach es X.env).map (·.2)) autoK5._auto_1) : PGs X (e :: es) (gCons t u) := by
  intro pins s σ H vs us Q I r h
  obtain ⟨v, vr, e1, h⟩ := h
  subst e1
  cases r with
  | cons r rr =>
    rw [hs]
    refine assignInOrder_cons (thn (h1 pins s σ H _ _ _ I r h) fun _ s1 ⟨σ1, H1, I1, q1⟩ => ?_)
    exact h2 pins s1 σ1 H1 _ _ Q I1 rr q1
noncomputable def gTup (K : PySem.W.Frag) (n : Nat) (t : TGs) : TG := fun v σ H Q => ∃ a xs, v = .ref a ∧ SqT K H a xs ∧ xs.length = n ∧ t xs σ H Q
theorem pg_tup {es : List Expr} {k : Nat} {t : TGs} {n : Nat} (hc : X.calm = true) (h : PGs X es t)
    (hn : autoParam ((assignEach es X.env).length = n) autoK5._auto_1) (hst : autoParam ((assignEach es X.env).findIdx? (·.1) = none) autoK5._auto_1) : PG X (.Tuple es k pos) (gTup X.K n t) := by
  intro pins s σ H v u Q I r hw
  obtain ⟨a, xs, e1, hq, hl, hw⟩ := hw
  subst e1
  cases r
  obtain ⟨its, rv, ht, hz⟩ := I.tuple hq
  refine assign_Tuple_tuple (I.ok.hd hc) ht (by simp [hn, ← hl, rv.length]) hst fun h' hx => ?_
  have I1 : Inv X pins σ H { s with heap := h' } := I.kept (t' := s.toks) fun b o e => hx b o (Nat.ne_of_lt (Heap.lt_size e)) e
  exact h pins _ σ H xs _ Q I1 (by simpa using rv) hw
noncomputable def gSub (to ti : TE) (t : TSet) : TG := fun v σ H Q => to σ H fun o H1 => ti σ H1 fun i H2 => t o i v H2 fun H3 => Q σ H3
theorem pg_sub {o i : Expr} {to ti : TE} {t : TSet} (ho : PE X o to) (hi : PE X i ti) (hs : PSet X t)
    (ha : ∀ v, assign (.Subscript o i pos) X.env v = (do
      let ov ← holding [v] (eval o X.env)
      let iv ← holding [v, ov] (eval i X.env)
      standAt pos
      holding [v, ov, iv] (setItem ov iv v)
      release [v, ov, iv] []) := by intro _; rfl) : PG X (.Subscript o i pos) (gSub to ti t) := by
  intro pins s σ H v u Q I r h
  rw [ha]
  refine wpAny_bind (wpAny_holding (thn (ho pins s σ H _ I h) fun ov s1 ⟨x, H1, I1, r1, q1⟩ => ?_))
  refine wpAny_bind (wpAny_holding (thn (hi pins s1 σ H1 _ I1 q1) fun iv s2 ⟨y, H2, I2, r2, q2⟩ => ?_))
  refine wpAny_bind (wpAny_standAt (wpAny_bind (wpAny_holding (thn (hs pins s2 σ H2 x y v ov iv u _ I2 r1 r2 r q2) fun _ s3 ⟨H3, I3, q3⟩ => ?_))))
  exact wpAny_release ⟨σ, H3, I3, q3⟩
noncomputable def tAsg (te : TE) (g : TG) : TS := fun D σ H => te σ H fun x H1 => g x σ H1 D.nx
theorem ps_asg {tg e : Expr} {te : TE} {g : TG} (he : PE X e te) (hg : PG X tg g) (hs : autoParam (swapsWithSole [tg] e pos.line X.env = pure false) autoK5._auto_1) (hw : autoParam (swappedStores [tg] e X.env = pure none) autoK5._auto_1)
    (h1 : autoParam ((assignEach [tg] X.env).map (·.2) = [assign tg X.env]) autoK5._auto_1) : PS X (.Assign [tg] e pos) (tAsg te g) := by
  intro pins s σ H D I h
  refine wpAny_Assign_stores (thn (he pins s σ H _ I h) fun v s1 ⟨x, H1, I1, r1, q1⟩ => ?_) hs hw
  rw [h1]
  exact thn (hg pins s1 σ H1 x v _ I1 r1 q1) fun _ s2 q => q
theorem ps_set {i : Nat} {x : Str} {e : Expr} {te : TE} {pos' : Pos} (hN : X.N.Nodup) (hi : X.N[i]? = some x) (hx : Loc X.env.scope x) (he : PE X e te) (hs : autoParam (swapsWith e (some (.Name x pos')) pos.line X.env = pure false) autoK5._auto_1) (hf : autoParam (X.fn x = true ∨ X.env.scope.names.lookup x = some .local) autoK1._auto_1) :
    PS X (.Assign [.Name x pos'] e pos) (tAsg te (gName i)) := by
  intro pins s σ H D I h
  refine wpAny_Assign_Name (thn (he pins s σ H _ I h) fun v s1 ⟨y, H1, I1, r1, q1⟩ => ?_) hs
  exact store_ok I1 hN hi hx r1 (fun s2 I2 => ⟨_, H1, I2, q1⟩) hf
end
section
variable {X : Cx} {pos : Pos}
noncomputable def tWhile (c : TT) (tb : TS) : TS := fun D σ H => ∃ W : Nat → St → Hp → Prop, (∃ m, W m σ H) ∧ ∀ m σ H, W m σ H →
  c σ H fun b H1 => if b = true then ∃ N : St → Hp → Prop, (∀ σ' H', N σ' H' → ∃ m', m' < m ∧ W m' σ' H') ∧ tb { D with nx := N, ct := N, bk := D.nx } σ H1 else D.nx σ H1
theorem ps_while {c : Expr} {body : List Stmt} {tc : TT} {tb : TS} (hp : PassesOwn (model X.prog X.w) X.A X.env X.xe) (hc : PT X c tc) (hb : PSs X body tb) : PS X (.While c body [] pos) (tWhile tc tb) := by
  intro pins s σ H D I h
  obtain ⟨W, ⟨m0, w0⟩, turn⟩ := h
  refine wpAny_While (codeAny_whileLoop (fun n s' => ∃ σ' H', Inv X pins σ' H' s' ∧ W n σ' H') ?_ m0 ⟨σ, H, I, w0⟩)
  rintro n s1 ⟨σ1, H1, I1, w1⟩
  refine wpAny_passesOwn hp (thn (hc pins s1 σ1 H1 _ I1 (turn n σ1 H1 w1)) fun b s2 ⟨H2, I2, q2⟩ => ?_)
  cases b with
  | true =>
    obtain ⟨N, hN, q2⟩ := q2
    rw [if_pos rfl]
    refine wpAny_passesOwn hp (thn (hb pins s2 σ1 H2 _ I2 q2) fun f s3 q3 => ?_)
    cases f with
    | next =>
      obtain ⟨σ3, H3, I3, n3⟩ := q3
      obtain ⟨m', hm, w3⟩ := hN σ3 H3 n3
      exact ⟨m', hm, σ3, H3, I3, w3⟩
    | cont =>
      obtain ⟨σ3, H3, I3, n3⟩ := q3
      obtain ⟨m', hm, w3⟩ := hN σ3 H3 n3
      exact ⟨m', hm, σ3, H3, I3, w3⟩
    | brk => exact q3
    | ret v => exact q3
  | false =>
    rw [if_neg Bool.false_ne_true]
    exact wpAny_execs_nil ⟨σ1, H2, I2, q2⟩
end
structure It where
  go : Nat → Hp → Prop
  yld : Nat → Hp → V → Hp → Prop
  stop : Nat → Hp → Prop
noncomputable def FpOk (X : Cx) (pins : List (Addr × Obj)) (H : Hp) (b : Addr) : Prop :=
  H b = none ∧ b ≠ X.env.locals ∧ b ∉ X.fs ∧ (b ∈ X.ex ∨ X.s₀.heap.objs.size ≤ b) ∧ (∀ x c, X.env.cells.lookup x = some c → c ≠ b) ∧ ∀ p ∈ X.pn ++ pins, p.1 ≠ b
theorem Inv.fpOk {X : Cx} {pins : List (Addr × Obj)} {σ : St} {H H' : Hp} {s : Shared} {b : Addr} (I : Inv X pins σ H s) (hb : s.heap.objs.size ≤ b) (hn : H' b = none) : FpOk X pins H' b := by
  refine ⟨hn, Nat.ne_of_gt (Nat.lt_of_lt_of_le I.lt hb), I.nofs hb, .inr (Nat.le_trans I.sz hb), fun x c e z => ?_, fun p hp z => ?_⟩
  · obtain ⟨v, q⟩ := I.cell x c e
    exact absurd (Nat.lt_of_lt_of_le q.lt (by rw [z]; exact hb)) (Nat.lt_irrefl _)
  · exact absurd (Nat.lt_of_lt_of_le (Heap.lt_size (I.pin p hp).1) (by rw [z]; exact hb)) (Nat.lt_irrefl _)
structure Turn (P : Program) (w : World) (K : PySem.W.Frag) (tg : Expr) (J : It) (fp : List Addr) (it : Addr) (tn : Nat → Heap → Prop) : Prop where
  mem : it ∈ fp
  obj : ∀ i h, tn i h → ∀ b ∈ fp, ∃ o, h.get? b = some o ∧ ∀ v, o.data ≠ .cell v
  keep : ∀ i h h', tn i h → (∀ b ∈ fp, ∀ o, h.get? b = some o → h'.get? b = some o) → tn i h'
  item : ∀ (X : Cx), X.prog = P → X.w = w → X.K = K → X.calm = true → ∀ (i : Nat) (pins : List (Addr × Obj)) (s : Shared) (σ : St) (H : Hp) (E : Value → Shared → Prop), Inv X pins σ H s → (∀ b ∈ fp, FpOk X pins H b) → tn i s.heap → J.go i H →
    wpAny (model P w) X.A (pyNext (.ref it)) (fun r s1 => ∃ u, r = some u ∧
      wpAny (model P w) X.A (letOwnedTupleGo tg (.ref it) u) (fun _ s2 => ∃ x H', Inv X pins σ H' s2 ∧ RelV x u ∧ J.yld i H x H' ∧ tn (i + 1) s2.heap ∧ ∀ b ∈ fp, H' b = none) E s1) E s
  done : ∀ (X : Cx), X.prog = P → X.w = w → X.K = K → X.calm = true → ∀ (i : Nat) (pins : List (Addr × Obj)) (s : Shared) (σ : St) (H : Hp) (E : Value → Shared → Prop), Inv X pins σ H s → (∀ b ∈ fp, FpOk X pins H b) → tn i s.heap → J.stop i H →
    wpAny (model P w) X.A (pyNext (.ref it)) (fun r s1 => r = none ∧ Inv X pins σ H s1) E s
  self : ∀ (A : Around) (i : Nat) (s : Shared) (Q : Value → Shared → Prop) (E : Value → Shared → Prop), tn i s.heap → Q (.ref it) s → wpAny (model P w) A (pyIter (.ref it)) Q E s
noncomputable abbrev TI := St → Hp → (It → Hp → Prop) → Prop
noncomputable def PIE (X : Cx) (pins : List (Addr × Obj)) (σ : St) (tg : Expr) (R : It → Hp → Prop) (itv : Value) (s2 : Shared) : Prop :=
  ∃ (it : Addr) (fp : List Addr) (tn : Nat → Heap → Prop) (J : It) (H' : Hp), itv = .ref it ∧ Inv X pins σ H' s2 ∧ Turn X.prog X.w X.K tg J fp it tn ∧ tn 0 s2.heap ∧ (∀ b ∈ fp, FpOk X pins H' b) ∧ R J H'
noncomputable def PI (X : Cx) (tg iter : Expr) (wi : TI) : Prop :=
  ∀ (pins : List (Addr × Obj)) (s : Shared) (σ : St) (H : Hp) (R : It → Hp → Prop), Inv X pins σ H s → wi σ H R →
    wpAny (model X.prog X.w) X.A (eval iter X.env) (fun v s1 => wpAny (model X.prog X.w) X.A (pyIter v) (PIE X pins σ tg R) X.xe s1) X.xe s
theorem go_of {M : Model} {A : Around} {E : Value → Shared → Prop} {s : Shared} {tg : Expr} {it : Addr} {u : Value} {o : Obj} {n : String} {vs : Array Value} {Q : Unit → Shared → Prop} (ho : s.heap.get? it = some o) (hc : o.cls = .type n) (hd : o.data = .fields vs)
    (hn : ["enumerate", "zip", "dict_itemiterator", "dict_reverseitemiterator", "odict_iterator", "itertools.zip_longest", "itertools.pairwise"].contains n = false) (hQ : Q () s) : wpAny M A (letOwnedTupleGo tg (.ref it) u) Q E s := by
  unfold letOwnedTupleGo
  cases tg <;> first
    | exact wpAny_pure hQ
    | (cases u <;> first
        | exact wpAny_pure hQ
        | (refine wpAny_bind (wpAny_load ho ?_)
           rw [hc, hd]
           show wpAny M A (if (["enumerate", "zip", "dict_itemiterator", "dict_reverseitemiterator", "odict_iterator", "itertools.zip_longest", "itertools.pairwise"].contains n && vs[0]? == some (rawInt _)) = true then _ else _) Q E s
           rw [if_neg (by intro h; rw [hn, Bool.false_and] at h; cases h)]
           exact wpAny_pure hQ))
noncomputable def Itl (K : PySem.W.Frag) (a : Addr) : It :=
  ⟨fun i H => ∃ xs x, SqL K H a xs ∧ xs[i]? = some x, fun i H x H' => H' = H ∧ ∀ xs, SqL K H a xs → xs[i]? = some x, fun i H => ∃ xs, SqL K H a xs ∧ xs.length ≤ i⟩
noncomputable def Itt (K : PySem.W.Frag) (a : Addr) : It :=
  ⟨fun i H => ∃ xs x, SqT K H a xs ∧ xs[i]? = some x, fun i H x H' => H' = H ∧ ∀ xs, SqT K H a xs → xs[i]? = some x, fun i H => ∃ xs, SqT K H a xs ∧ xs.length ≤ i⟩
noncomputable def Itr (lo : Int) (n : Nat) : It := ⟨fun i _ => i < n, fun i H x H' => H' = H ∧ x = .int (lo + i), fun i _ => n ≤ i⟩
theorem turn_list {P : Program} {w : World} {K : PySem.W.Frag} {tg : Expr} (a it : Addr) : Turn P w K tg (Itl K a) [it] it (fun i h => h.IsListIter it a i) where
  mem := by simp
  obj := fun i h st b hb => by
    have e : b = it := by simpa using hb
    subst e
    obtain ⟨o, e, c, d⟩ := st
    exact ⟨o, e, fun v z => by rw [d] at z; cases z⟩
  keep := fun i h h' st k => st.at fun o e => k it (by simp) o e
  item := by
    intro X hP hw hK hc i pins s σ H E I hf st hg
    subst hP hw hK
    obtain ⟨xs, x, hq, hx⟩ := hg
    obtain ⟨its, rv, p, hz⟩ := I.list hq
    obtain ⟨u, hu, ru⟩ := rv.get hx
    obtain ⟨f0, f1, f2, f3, f4, f5⟩ := hf it (by simp)
    refine wpAny_pyNext_list_item st p.isList (x := u) (by simpa using hu) fun h' st' sb => ?_
    have I1 : Inv X pins σ H { s with heap := h' } := I.turned (t' := s.toks) (fun b o hb e => (sb.2 b hb).trans e) f0 f1 f3 f4 f5
    obtain ⟨o, e, c, d⟩ := id st'
    exact ⟨u, rfl, go_of (s := { s with heap := h' }) e c d (by decide) ⟨x, H, I1, ru, ⟨rfl, fun ys hy => by rw [I.list_inj hy hq]; exact hx⟩, st', fun b hb => (hf b hb).1⟩⟩
  done := by
    intro X hP hw hK hc i pins s σ H E I hf st hg
    subst hP hw hK
    obtain ⟨xs, hq, hx⟩ := hg
    obtain ⟨its, rv, p, hz⟩ := I.list hq
    obtain ⟨f0, f1, f2, f3, f4, f5⟩ := hf it (by simp)
    have hl := rv.length
    exact wpAny_pyNext_list_end (I.ok.hd hc) st p.isList (by simp; bv_omega) fun h' eb => ⟨rfl, I.turned (t' := s.toks) (fun b o hb e => eb b o hb e) f0 f1 f3 f4 f5⟩
  self := fun _ _ _ _ _ st h => wpAny_pyIter_listiter st h
theorem turn_tuple {P : Program} {w : World} {K : PySem.W.Frag} {tg : Expr} (a it : Addr) : Turn P w K tg (Itt K a) [it] it (fun i h => h.IsTupleIter it a i) where
  mem := by simp
  obj := fun i h st b hb => by
    have e : b = it := by simpa using hb
    subst e
    obtain ⟨o, e, c, d⟩ := st
    exact ⟨o, e, fun v z => by rw [d] at z; cases z⟩
  keep := fun i h h' st k => st.at fun o e => k it (by simp) o e
  item := by
    intro X hP hw hK hc i pins s σ H E I hf st hg
    subst hP hw hK
    obtain ⟨xs, x, hq, hx⟩ := hg
    obtain ⟨its, rv, p, hz⟩ := I.tuple hq
    obtain ⟨u, hu, ru⟩ := rv.get hx
    obtain ⟨f0, f1, f2, f3, f4, f5⟩ := hf it (by simp)
    refine wpAny_pyNext_tuple_item st (show s.heap.IsTuple a its.toArray from p) (x := u) (by simpa using hu) fun h' st' sb => ?_
    have I1 : Inv X pins σ H { s with heap := h' } := I.turned (t' := s.toks) (fun b o hb e => (sb.2 b hb).trans e) f0 f1 f3 f4 f5
    obtain ⟨o, e, c, d⟩ := id st'
    exact ⟨u, rfl, go_of (s := { s with heap := h' }) e c d (by decide) ⟨x, H, I1, ru, ⟨rfl, fun ys hy => by rw [I.tuple_inj hy hq]; exact hx⟩, st', fun b hb => (hf b hb).1⟩⟩
  done := by
    intro X hP hw hK hc i pins s σ H E I hf st hg
    subst hP hw hK
    obtain ⟨xs, hq, hx⟩ := hg
    obtain ⟨its, rv, p, hz⟩ := I.tuple hq
    obtain ⟨f0, f1, f2, f3, f4, f5⟩ := hf it (by simp)
    have hl := rv.length
    exact wpAny_pyNext_tuple_end (I.ok.hd hc) st (show s.heap.IsTuple a its.toArray from p) (by simp; bv_omega) fun h' eb => ⟨rfl, I.turned (t' := s.toks) (fun b o hb e => eb b o hb e) f0 f1 f3 f4 f5⟩
  self := fun _ _ _ _ _ st h => wpAny_pyIter_tupleiter st h
theorem turn_range {P : Program} {w : World} {K : PySem.W.Frag} {tg : Expr} (it : Addr) (lo : Int) (n : Nat) : Turn P w K tg (Itr lo n) [it] it (fun i h => IsRangeIter h it (lo + (i : Nat) * 1) ((n : Int) - (i : Nat)) 1) where
  mem := by simp
  obj := fun i h st b hb => by
    have e : b = it := by simpa using hb
    subst e
    exact ⟨_, st, fun v z => by
      have z' : Data.fields _ = Data.cell v := z
      cases z'⟩
  keep := fun i h h' st k => k it (by simp) _ st
  item := by
    intro X hP hw hK hc i pins s σ H E I hf st hg
    subst hP hw hK
    obtain ⟨f0, f1, f2, f3, f4, f5⟩ := hf it (by simp)
    have W := Walks.range (prog := X.prog) (w := X.w) (I.ok.hd hc) it lo 1 n
    refine W.item i s _ _ hg st fun v h' tk hv st' kk => ?_
    obtain ⟨t, rfl⟩ := hv
    have I1 : Inv X pins σ H { s with heap := h', toks := tk } := I.turned (fun b o hb e => kk b o (by simpa using hb) e) f0 f1 f3 f4 f5
    refine ⟨_, rfl, go_of (s := { s with heap := h', toks := tk }) (n := "range_iterator") st' rfl rfl (by decide) ⟨.int (lo + i), H, I1, ⟨t, ?_⟩, ⟨rfl, rfl⟩, st', fun b hb => (hf b hb).1⟩⟩
    rw [Int.mul_one]
  done := by
    intro X hP hw hK hc i pins s σ H E I hf st hg
    subst hP hw hK
    obtain ⟨f0, f1, f2, f3, f4, f5⟩ := hf it (by simp)
    exact wpAny_pyNext_range_end (I.ok.hd hc) st (by have : n ≤ i := hg; bv_omega) fun h' eb => ⟨rfl, I.turned (t' := s.toks) (fun b o hb e => eb b o hb e) f0 f1 f3 f4 f5⟩
  self := fun _ _ _ _ _ st h => wpAny_pyIter_rangeiter st h
end L2
namespace L2
open PySem PySem.Spec PyProof.Rows
section
variable {X : Cx} {tg : Expr}
noncomputable def iList (K : PySem.W.Frag) (tl : TE) : TI := fun σ H R => tl σ H fun x H1 => ∃ a, x = .ref a ∧ (∃ xs, SqL K H1 a xs) ∧ R (Itl K a) H1
theorem pi_list {l : Expr} {tl : TE} (hl : PE X l tl) : PI X tg l (iList X.K tl) := by
  intro pins s σ H R I h
  refine thn (hl pins s σ H _ I h) fun v s1 ⟨x, H1, I1, r1, q1⟩ => ?_
  obtain ⟨a, e, ⟨xs, hq⟩, q⟩ := q1
  subst e
  cases r1
  obtain ⟨its, rv, p, hz⟩ := I1.list hq
  refine wpAny_pyIter_list p.isList ?_
  refine ⟨s1.heap.objs.size, [s1.heap.objs.size], _, _, H1, rfl, I1.kept (t' := s1.toks) fun b o e => Heap.get?_push_of_some _ e, turn_list a _, ⟨_, Heap.get?_push_size _ rfl, rfl, rfl⟩, fun b hb => ?_, q⟩
  have e : b = s1.heap.objs.size := by simpa using hb
  subst e
  exact I1.fpOk (Nat.le_refl _) (I1.hok.fresh (Nat.le_refl _))
theorem range_it {pins : List (Addr × Obj)} {σ : St} {H : Hp} {s : Shared} {R : It → Hp → Prop} {E : Value → Shared → Prop} {lo hi : Int} {t u v : Tok} {tk : Nat} (I : Inv X pins σ H s) (h1 : -(2 ^ 62) ≤ lo) (h2 : lo < 2 ^ 62) (h3 : -(2 ^ 62) ≤ hi) (h4 : hi < 2 ^ 62)
    (q : R (Itr lo (hi - lo).toNat) H) : wpAny (model X.prog X.w) X.A (pyIter (.ref s.heap.objs.size)) (PIE X pins σ tg R) E { s with heap := s.heap.push { cls := .type "range", data := .fields #[.int lo t, .int hi u, .int 1 v] }, toks := tk } := by
  refine wpAny_pyIter_range (IsRange.new ..) (small_one h1 h2 h3 h4) ?_
  have I1 : Inv X pins σ H { s with heap := s.heap.push { cls := .type "range", data := .fields #[.int lo t, .int hi u, .int 1 v] }, toks := tk } := I.kept fun b o e => Heap.get?_push_of_some _ e
  refine ⟨(s.heap.push { cls := .type "range", data := .fields #[.int lo t, .int hi u, .int 1 v] }).objs.size, [(s.heap.push { cls := .type "range", data := .fields #[.int lo t, .int hi u, .int 1 v] }).objs.size], _, _, H, rfl,
    I1.kept (t' := tk) fun b o e => Heap.get?_push_of_some _ e, turn_range _ lo (hi - lo).toNat, ?_, fun b hb => ?_, q⟩
  · have e1 : lo + ((0 : Nat) : Int) * 1 = lo := by simp
    have e2 : (((hi - lo).toNat : Nat) : Int) - ((0 : Nat) : Int) = Builtin.Range.rangeSize lo hi 1 := by rw [rangeSize_one]; split <;> bv_omega
    show IsRangeIter _ _ (lo + ((0 : Nat) : Int) * 1) ((((hi - lo).toNat : Nat) : Int) - ((0 : Nat) : Int)) 1
    rw [e1, e2]
    exact Heap.get?_push_size _ rfl
  · have e : b = (s.heap.push { cls := .type "range", data := .fields #[.int lo t, .int hi u, .int 1 v] }).objs.size := by simpa using hb
    subst e
    exact I1.fpOk (Nat.le_refl _) (I1.hok.fresh (Nat.le_refl _))
noncomputable def iRng1 (ta : TA) : TI := fun σ H R => ta σ H fun vs H1 => ∃ j : Int, vs = [.int j] ∧ -(2 ^ 62) ≤ j ∧ j < 2 ^ 62 ∧ R (Itr 0 j.toNat) H1
theorem pi_range1 {a : Expr} {ta : TA} {p pos : Pos} (hg : Gl X "range") (hm : X.mg "range" = none) (ha : PA X [a] ta) (hs : autoParam (starEach [a] X.env = [(false, eval a X.env)]) autoK5._auto_1) : PI X tg (.Call (.Name "range" p) [a] [] pos) (iRng1 ta) := by
  intro pins s σ H R I h
  refine Call_ (ld_blt I hg hm boot_range (PyProof.Rows.callWith_type1 (thn (ha pos pins s σ H _ I h) fun us s1 ⟨vs, H1, I1, r1, q1⟩ => ?_) hs rfl))
  obtain ⟨j, e, q1, q2, q⟩ := q1
  subst e
  cases r1 with
  | cons r rr =>
    cases rr
    obtain ⟨t, rfl⟩ := r
    exact call_range_1 (range_it I1 (by bv_omega) (by bv_omega) q1 q2 (by simpa using q))
noncomputable def tFor (wi : TI) (g : TG) (tb : TS) : TS := fun D σ H => wi σ H fun J H1 => ∃ W : Nat → Nat → St → Hp → Prop, (∃ m, W 0 m σ H1) ∧ ∀ i m σ H, W i m σ H →
  (J.stop i H ∧ D.nx σ H) ∨ (J.go i H ∧ ∃ N : St → Hp → Prop, (∀ σ' H', N σ' H' → ∃ m', m' < m ∧ W (i + 1) m' σ' H') ∧ ∀ x H', J.yld i H x H' → g x σ H' fun σ2 H2 => tb { D with nx := N, ct := N, bk := D.nx } σ2 H2)
noncomputable def pinsAt (fp : List Addr) (h : Heap) : List (Addr × Obj) := fp.filterMap fun b => (h.get? b).map fun o => (b, o)
theorem mem_pinsAt {fp : List Addr} {h : Heap} {b : Addr} {o : Obj} (hb : b ∈ fp) (e : h.get? b = some o) : (b, o) ∈ pinsAt fp h := List.mem_filterMap.mpr ⟨b, hb, by rw [e]; rfl⟩
theorem of_pinsAt {fp : List Addr} {h : Heap} {p : Addr × Obj} (hp : p ∈ pinsAt fp h) : p.1 ∈ fp ∧ h.get? p.1 = some p.2 := by
  obtain ⟨b, hb, e⟩ := List.mem_filterMap.mp hp
  cases q : h.get? b with
  | none => rw [q] at e; cases e
  | some o =>
    rw [q] at e
    have e' : (b, o) = p := Option.some.inj e
    subst e'
    exact ⟨hb, q⟩
theorem Inv.pinned {pins : List (Addr × Obj)} {σ : St} {H : Hp} {s : Shared} {fp : List Addr} (I : Inv X pins σ H s) (hf : ∀ b ∈ fp, FpOk X pins H b) (ho : ∀ b ∈ fp, ∃ o, s.heap.get? b = some o ∧ ∀ v, o.data ≠ .cell v) : Inv X (pins ++ pinsAt fp s.heap) σ H s :=
  I.pins_of fun p hp => (List.mem_append.mp hp).elim (fun z => I.pin p (List.mem_append_right _ z)) fun z => by
    obtain ⟨hb, e⟩ := of_pinsAt z
    obtain ⟨f0, f1, f2, _⟩ := hf p.1 hb
    obtain ⟨o, e', d⟩ := ho p.1 hb
    rw [e] at e'; cases e'
    exact ⟨e, f0, f1, f2, d⟩
theorem Inv.unpinned {pins pl : List (Addr × Obj)} {σ : St} {H : Hp} {s : Shared} (I : Inv X (pins ++ pl) σ H s) : Inv X pins σ H s := I.pins_of fun p hp => I.pin p (List.mem_append_right _ (List.mem_append_left _ hp))
theorem ps_for {iter : Expr} {body : List Stmt} {wi : TI} {g : TG} {tb : TS} {pos : Pos} (hp : PassesOwn (model X.prog X.w) X.A X.env X.xe) (hc : X.calm = true) (hi : PI X tg iter wi) (hg : PG X tg g) (hb : PSs X body tb)
    (hs : autoParam (∀ x, foldedSetIterable iter X.env x = pure x) autoK4._auto_1) : PS X (.For tg iter body [] pos) (tFor wi g tb) := by
  intro pins s σ H D I h
  refine wpAny_For (thn (hi pins s σ H _ I h) fun v s1 h1 => thn h1 fun itv s2 h2 => ?_) hs
  obtain ⟨it, fp, tn, J, H2, e, I2, T, st2, f2, W, ⟨m0, w0⟩, turn⟩ := h2
  subst e
  have stat : ∀ {H' : Hp}, (∀ b ∈ fp, H' b = none) → ∀ b ∈ fp, FpOk X pins H' b := fun hn b hb => ⟨hn b hb, (f2 b hb).2⟩
  refine codeAny_forLoop_any (fun n s' => ∃ i σ' H', Inv X pins σ' H' s' ∧ tn i s'.heap ∧ (∀ b ∈ fp, H' b = none) ∧ W i n σ' H') ?_ m0 ⟨0, σ, H2, I2, st2, fun b hb => (f2 b hb).1, w0⟩
  rintro n s3 ⟨i, σ3, H3, I3, st3, fr3, w3⟩
  rcases turn i n σ3 H3 w3 with ⟨stop, qn⟩ | ⟨go, N, hN, step⟩
  · refine wpAny_passesOwn hp (thn (T.done X rfl rfl rfl hc i pins s3 σ3 H3 X.xe I3 (stat fr3) st3 stop) fun r s4 ⟨hr, I4⟩ => ?_)
    subst hr
    exact wpAny_execs_nil ⟨σ3, H3, I4, qn⟩
  · refine wpAny_passesOwn hp (thn (T.item X rfl rfl rfl hc i pins s3 σ3 H3 X.xe I3 (stat fr3) st3 go) fun r s4 ⟨u, hr, h4⟩ => ?_)
    subst hr
    refine wpAny_passesOwn hp (thn h4 fun _ s5 ⟨x, H5, I5, r5, y5, st5, fr5⟩ => ?_)
    have I5' := I5.pinned (stat fr5) (T.obj _ _ st5)
    refine wpAny_passesOwn hp (thn (hg _ s5 σ3 H5 x u _ I5' r5 (step x H5 y5)) fun _ s6 ⟨σ6, H6, I6, q6⟩ => ?_)
    refine wpAny_passesOwn hp (thn (hb _ s6 σ6 H6 _ I6 q6) fun f s7 q7 => ?_)
    have again : ∀ {σ7 : St} {H7 : Hp}, Inv X (pins ++ pinsAt fp s5.heap) σ7 H7 s7 → N σ7 H7 → ∃ m, m < n ∧ ∃ i σ' H', Inv X pins σ' H' s7 ∧ tn i s7.heap ∧ (∀ b ∈ fp, H' b = none) ∧ W i m σ' H' := fun {σ7 H7} I7 n7 => by
      obtain ⟨m', hm, w7⟩ := hN σ7 H7 n7
      refine ⟨m', hm, i + 1, σ7, H7, I7.unpinned, T.keep _ _ _ st5 fun b hb o e => (I7.pin (b, o) (List.mem_append_right _ (List.mem_append_right _ (mem_pinsAt hb e)))).1, fun b hb => ?_, w7⟩
      obtain ⟨o, e, d⟩ := T.obj _ _ st5 b hb
      exact (I7.pin (b, o) (List.mem_append_right _ (List.mem_append_right _ (mem_pinsAt hb e)))).2.1
    cases f with
    | next => obtain ⟨σ7, H7, I7, n7⟩ := q7; exact again I7 n7
    | cont => obtain ⟨σ7, H7, I7, n7⟩ := q7; exact again I7 n7
    | brk => obtain ⟨σ7, H7, I7, q7⟩ := q7; exact ⟨σ7, H7, I7.unpinned, q7⟩
    | ret v => obtain ⟨x7, σ7, H7, I7, r7, q7⟩ := q7; exact ⟨x7, σ7, H7, I7.unpinned, r7, q7⟩
end
theorem for_range {lo : Int} {n : Nat} {g : TG} {tb : TS} {D : Ends} {σ : St} {H : Hp} (Pv : Nat → St → Hp → Prop) (h0 : Pv 0 σ H)
    (hs : ∀ i σ H, i < n → Pv i σ H → g (.int (lo + i)) σ H fun σ2 H2 => tb { D with nx := Pv (i + 1), ct := Pv (i + 1), bk := D.nx } σ2 H2) (hd : ∀ σ H, Pv n σ H → D.nx σ H) :
    ∃ W : Nat → Nat → St → Hp → Prop, (∃ m, W 0 m σ H) ∧ ∀ i m σ H, W i m σ H →
      ((Itr lo n).stop i H ∧ D.nx σ H) ∨ ((Itr lo n).go i H ∧ ∃ N : St → Hp → Prop, (∀ σ' H', N σ' H' → ∃ m', m' < m ∧ W (i + 1) m' σ' H') ∧ ∀ x H', (Itr lo n).yld i H x H' → g x σ H' fun σ2 H2 => tb { D with nx := N, ct := N, bk := D.nx } σ2 H2) := by
  refine ⟨fun i m σ H => m = n - i ∧ i ≤ n ∧ Pv i σ H, ⟨n, by simp, Nat.zero_le _, h0⟩, ?_⟩
  rintro i m σ H ⟨rfl, hi, p⟩
  by_cases hlt : i < n
  · refine .inr ⟨hlt, Pv (i + 1), fun σ' H' p' => ⟨n - (i + 1), by bv_omega, rfl, hlt, p'⟩, fun x H' y => ?_⟩
    obtain ⟨e, y⟩ := y
    subst e y
    exact hs i σ _ hlt p
  · have e : i = n := by bv_omega
    subst e
    exact .inl ⟨Nat.le_refl _, hd σ H p⟩
end L2
namespace L2
open PySem PySem.Spec PyProof.Rows
noncomputable abbrev R2 := V → V → Hp → VK → Prop
noncomputable def OpR (X : Cx) (f : Value → Value → Sem Value) (r : R2) : Prop :=
  ∀ (pins : List (Addr × Obj)) (s : Shared) (σ : St) (H : Hp) (x y : V) (v u : Value) (Q : VK), Inv X pins σ H s → RelV x v → RelV y u → r x y H Q →
    wpAny (model X.prog X.w) X.A (f v u) (EP X pins σ Q) X.xe s
noncomputable def UnR (X : Cx) (f : Value → Sem Value) (r : V → Hp → VK → Prop) : Prop :=
  ∀ (pins : List (Addr × Obj)) (s : Shared) (σ : St) (H : Hp) (x : V) (v : Value) (Q : VK), Inv X pins σ H s → RelV x v → r x H Q →
    wpAny (model X.prog X.w) X.A (f v) (EP X pins σ Q) X.xe s
noncomputable def CallR (X : Cx) (f : Value) (r : List V → Hp → VK → Prop) : Prop :=
  ∀ (pins : List (Addr × Obj)) (s : Shared) (σ : St) (H : Hp) (xs : List V) (us : List Value) (Q : VK), Inv X pins σ H s → Vals xs us → r xs H Q →
    wpAny (model X.prog X.w) X.A (call f us) (EP X pins σ Q) X.xe s
noncomputable def tOp (r : R2) (ta tb : TE) : TE := fun σ H Q => ta σ H fun x H1 => tb σ H1 fun y H2 => r x y H2 Q
noncomputable def tUn (r : V → Hp → VK → Prop) (ta : TE) : TE := fun σ H Q => ta σ H fun x H1 => r x H1 Q
noncomputable def rI (C : Int → Int → Prop) (g : Int → Int → V) : R2 := fun x y H Q => ∃ i j, x = .int i ∧ y = .int j ∧ C i j ∧ Q (g i j) H
noncomputable def rI0 (g : Int → Int → V) : R2 := fun x y H Q => ∃ i j, x = .int i ∧ y = .int j ∧ Q (g i j) H
noncomputable def rU (g : Int → V) : V → Hp → VK → Prop := fun x H Q => ∃ i, x = .int i ∧ Q (g i) H
section
variable {X : Cx} {a b c : Expr} {ta tb tc : TE} {pos : Pos}
theorem binT (ha : PE X a ta) (hb : PE X b tb) {pins : List (Addr × Obj)} {s : Shared} {σ : St} {H : Hp} {R : V → V → Hp → Prop} (I : Inv X pins σ H s)
    (h : ta σ H fun x H1 => tb σ H1 fun y H2 => R x y H2) {Q : Value → Shared → Prop} {f : Value → Value → Sem Value}
    (hf : ∀ v u s2 x y H2, Inv X pins σ H2 s2 → RelV x v → RelV y u → R x y H2 → wpAny (model X.prog X.w) X.A (f v u) Q X.xe s2) :
    wpAny (model X.prog X.w) X.A (eval a X.env) (fun v s₁ => wpAny (model X.prog X.w) X.A (eval b X.env) (fun u s₂ => wpAny (model X.prog X.w) X.A (f v u) Q X.xe s₂) X.xe s₁) X.xe s := by
  refine thn (ha pins s σ H _ I h) fun v s1 ⟨x, H1, I1, r1, q1⟩ => ?_
  refine thn (hb pins s1 σ H1 _ I1 q1) fun u s2 ⟨y, H2, I2, r2, q2⟩ => ?_
  exact hf v u s2 x y H2 I2 r1 r2 q2
theorem pe_op {op : Operator} {r : R2} (ho : OpR X (binaryOp op) r) (ha : PE X a ta) (hb : PE X b tb) : PE X (.BinOp a op b pos) (tOp r ta tb) := by
  intro pins s σ H Q I h
  exact wpAny_BinOp (binT ha hb I h fun v u s2 x y H2 I2 rx ry q => ho pins s2 σ H2 x y v u Q I2 rx ry q)
theorem pe_un {op : UnaryOp} {r : V → Hp → VK → Prop} (ho : UnR X (unaryOp op) r) (ha : PE X a ta) : PE X (.UnaryOp op a pos) (tUn r ta) := by
  intro pins s σ H Q I h
  exact UnaryOp_ (thn (ha pins s σ H _ I h) fun v s1 ⟨x, H1, I1, r1, q1⟩ => ho pins s1 σ H1 x v Q I1 r1 q1)
theorem opI {f : Value → Value → Sem Value} {C : Int → Int → Prop} {g : Int → Int → Int}
    (rule : ∀ (i j : Int) (t u : Tok) (s : Shared) (Q : Value → Shared → Prop) (E : Value → Shared → Prop), C i j → Q (.int (g i j) s.toks) { s with toks := s.toks + 1 } → wpAny (model X.prog X.w) X.A (f (.int i t) (.int j u)) Q E s) :
    OpR X f (rI C fun i j => .int (g i j)) := by
  intro pins s σ H x y v u Q I rx ry h
  obtain ⟨i, j, rfl, rfl, hc, q⟩ := h
  obtain ⟨t, rfl⟩ := rx
  obtain ⟨t', rfl⟩ := ry
  exact rule i j t t' s _ _ hc ⟨.int (g i j), H, I.tok _, ⟨_, rfl⟩, q⟩
theorem opI0 {f : Value → Value → Sem Value} {g : Int → Int → Int}
    (rule : ∀ (i j : Int) (t u : Tok) (s : Shared) (Q : Value → Shared → Prop) (E : Value → Shared → Prop), Q (.int (g i j) s.toks) { s with toks := s.toks + 1 } → wpAny (model X.prog X.w) X.A (f (.int i t) (.int j u)) Q E s) :
    OpR X f (rI0 fun i j => .int (g i j)) := by
  intro pins s σ H x y v u Q I rx ry h
  obtain ⟨i, j, rfl, rfl, q⟩ := h
  obtain ⟨t, rfl⟩ := rx
  obtain ⟨t', rfl⟩ := ry
  exact rule i j t t' s _ _ ⟨.int (g i j), H, I.tok _, ⟨_, rfl⟩, q⟩
theorem opB0 {f : Value → Value → Sem Value} {g : Int → Int → Bool}
    (rule : ∀ (i j : Int) (t u : Tok) (s : Shared) (Q : Value → Shared → Prop) (E : Value → Shared → Prop), Q (.bool (g i j)) s → wpAny (model X.prog X.w) X.A (f (.int i t) (.int j u)) Q E s) :
    OpR X f (rI0 fun i j => .bl (g i j)) := by
  intro pins s σ H x y v u Q I rx ry h
  obtain ⟨i, j, rfl, rfl, q⟩ := h
  obtain ⟨t, rfl⟩ := rx
  obtain ⟨t', rfl⟩ := ry
  exact rule i j t t' s _ _ ⟨.bl (g i j), H, I, rfl, q⟩
noncomputable def CMul (i j : Int) : Prop := (-(2 ^ 64) < i ∧ i < 2 ^ 64) ∨ (-(2 ^ 64) < j ∧ j < 2 ^ 64)
theorem CMul.ok {i j : Int} (h : CMul i j) : IntMulOk i j := by
  rcases h with ⟨h1, h2⟩ | ⟨h1, h2⟩
  · exact .of_left (intBits_le_64 h1 h2)
  · exact .of_right (intBits_le_64 h1 h2)
theorem op_add : OpR X (binaryOp .Add) (rI0 fun i j => .int (i + j)) := opI0 fun _ _ _ _ _ _ _ q => add_int q
theorem op_sub : OpR X (binaryOp .Sub) (rI0 fun i j => .int (i - j)) := opI0 fun _ _ _ _ _ _ _ q => sub_int q
theorem op_mod : OpR X (binaryOp .Mod) (rI (fun _ j => 0 < j) fun i j => .int (i % j)) := opI fun i j _ _ _ _ _ hc q => by
  have h1 : (0 : Int) < j := hc
  exact mod_int' (by bv_omega) (by rw [Int.fmod_eq_emod_of_nonneg i (by bv_omega)]; exact q)
theorem unI {f : Value → Sem Value} {g : Int → Int}
    (rule : ∀ (i : Int) (t : Tok) (s : Shared) (Q : Value → Shared → Prop) (E : Value → Shared → Prop), Q (.int (g i) s.toks) { s with toks := s.toks + 1 } → wpAny (model X.prog X.w) X.A (f (.int i t)) Q E s) :
    UnR X f (rU fun i => .int (g i)) := by
  intro pins s σ H x v Q I rx h
  obtain ⟨i, rfl, q⟩ := h
  obtain ⟨t, rfl⟩ := rx
  exact rule i t s _ _ ⟨.int (g i), H, I.tok _, ⟨_, rfl⟩, q⟩
theorem un_neg : UnR X (unaryOp .USub) (rU fun i => .int (-i)) := unI fun _ _ _ _ _ q => neg_int q
end
section
variable {X : Cx} {a b c : Expr} {ta tb tc : TE} {pos : Pos}
theorem fin_bl {pins : List (Addr × Obj)} {σ : St} {H : Hp} {s : Shared} {Q : VK} {k k' : Bool} (I : Inv X pins σ H s) (q : Q (.bl k) H) (e : k = k') : EP X pins σ Q (.bool k') s := by
  subst e
  exact ⟨.bl k, H, I, rfl, q⟩
theorem op_lt : OpR X (compareOp .Lt) (rI0 fun i j => .bl (decide (i < j))) := opB0 fun _ _ _ _ _ _ _ q => lt_int q
theorem op_le : OpR X (compareOp .LtE) (rI0 fun i j => .bl (decide (i ≤ j))) := opB0 fun _ _ _ _ _ _ _ q => le_int q
theorem op_gt : OpR X (compareOp .Gt) (rI0 fun i j => .bl (decide (j < i))) := opB0 fun _ _ _ _ _ _ _ q => gt_int q
theorem op_isN : OpR X (compareOp .Is) (fun x y H Q => y = .non ∧ Q (.bl (decide (x = .non))) H) := by
  intro pins s σ H x y v u Q I rx ry h
  obtain ⟨rfl, q⟩ := h
  cases ry
  refine is_none_gen (fin_bl I q ?_)
  cases x <;> first
    | (cases rx; rfl)
    | (obtain ⟨t, rfl⟩ := rx; rfl)
theorem op_notN : OpR X (compareOp .IsNot) (fun x y H Q => y = .non ∧ Q (.bl (!decide (x = .non))) H) := by
  intro pins s σ H x y v u Q I rx ry h
  obtain ⟨rfl, q⟩ := h
  cases ry
  refine isnot_none_gen (fin_bl I q ?_)
  cases x <;> first
    | (cases rx; rfl)
    | (obtain ⟨t, rfl⟩ := rx; rfl)
noncomputable def isObj : HO → Bool
  | .lst _ => true
  | .ins _ _ _ => true
  | _ => false
theorem obj_there {pins : List (Addr × Obj)} {s : Shared} {σ : St} {H : Hp} {a : Addr} {o : HO} (I : Inv X pins σ H s) (h : H a = some o) (p : isObj o = true) : ∃ ob, s.heap.get? a = some ob ∧ ob.cls ≠ .type "tuple" := by
  cases o with
  | lst xs =>
    obtain ⟨_, its, n, _, e⟩ : xs.length ≤ sizeLine ∧ ∃ (its : List Value) (n : Nat), Vals xs its ∧ s.heap.get? a = some { cls := .type "list", data := .seq its.toArray n } := I.hok a _ h
    exact ⟨_, e, (by show Value.type "list" ≠ .type "tuple"; decide +kernel)⟩
  | ins C dx fs =>
    have x := I.hok a _ h
    obtain ⟨_, _, _, e, _⟩ := x
    exact ⟨_, e, (by show Value.ref C ≠ .type "tuple"; exact fun z => by cases z)⟩
  | _ => exact absurd (show false = true from p) Bool.false_ne_true
theorem OpR.or {f : Value → Value → Sem Value} {r r' : R2} (h : OpR X f r) (h' : OpR X f r') : OpR X f (fun x y H Q => r x y H Q ∨ r' x y H Q) := by
  intro pins s σ H x y v u Q I rx ry q
  rcases q with q | q
  · exact h pins s σ H x y v u Q I rx ry q
  · exact h' pins s σ H x y v u Q I rx ry q
theorem nomark (b : Expr) {op : CmpOp} (h : autoParam (op ≠ .In) autoK2._auto_1) (h2 : autoParam (op ≠ .NotIn) autoK2._auto_1) : behindInMarks op b = false := by
  have e1 : (op == CmpOp.In) = false := by cases op <;> first | rfl | exact absurd rfl h
  have e2 : (op == CmpOp.NotIn) = false := by cases op <;> first | rfl | exact absurd rfl h2
  cases b <;> simp [behindInMarks, e1, e2]
theorem pe_cmpR {op : CmpOp} {r : R2} (ho : OpR X (compareOp op) r) (ha : PE X a ta) (hb : PE X b tb) (hm : behindInMarks op b = false) : PE X (.Compare a [op] [b] pos) (tOp r ta tb) := by
  intro pins s σ H Q I h
  exact wpAny_Compare1 (binT ha hb I h fun v u s2 x y H2 I2 rx ry q => ho pins s2 σ H2 x y v u Q I2 rx ry q) hm
noncomputable def tTest (t : TE) : TT := fun σ H Q => t σ H fun x H' => ∃ k, x = .bl k ∧ Q k H'
theorem pt_cmpR {op : CmpOp} {r : R2} (ho : OpR X (compareOp op) r) (ha : PE X a ta) (hb : PE X b tb) (hm : behindInMarks op b = false) : PT X (.Compare a [op] [b] pos) (tTest (tOp r ta tb)) := by
  intro pins s σ H Q I h
  refine wpAny_isTrue_Compare1 (thn (ha pins s σ H _ I h) fun v s1 ⟨x, H1, I1, r1, q1⟩ => thn (hb pins s1 σ H1 _ I1 q1) fun u s2 ⟨y, H2, I2, r2, q2⟩ =>
    thn (ho pins s2 σ H2 x y v u _ I2 r1 r2 q2) fun c s3 ⟨z, H3, I3, r3, k, e, q3⟩ => ?_) hm
  subst e
  cases r3
  exact wpAny_truthy_bool ⟨H3, I3, q3⟩
noncomputable def tChain (r r' : R2) (ta tb tc : TE) : TE := fun σ H Q => ta σ H fun x H1 => tb σ H1 fun y H2 => r x y H2 fun z H3 => ∃ k, z = .bl k ∧
  (if k = true then tc σ H3 fun w' H4 => r' y w' H4 Q else Q (.bl false) H3)
theorem pt_chain {op op' : CmpOp} {r r' : R2} (ho : OpR X (compareOp op) r) (ho' : OpR X (compareOp op') r') (ha : PE X a ta) (hb : PE X b tb) (hc : PE X c tc)
    (hm : autoParam (lastMarks [op, op'] [b, c] = false) autoK7._auto_1) : PT X (.Compare a [op, op'] [b, c] pos) (tTest (tChain r r' ta tb tc)) := by
  intro pins s σ H Q I h
  refine isTrue_chain (thn (ha pins s σ H _ I h) fun v s1 ⟨x, H1, I1, r1, q1⟩ => test_link (thn (hb pins s1 σ H1 _ I1 q1) fun u s2 ⟨y, H2, I2, r2, q2⟩ =>
    thn (ho pins s2 σ H2 x y v u _ I2 r1 r2 q2) fun d s3 ⟨z, H3, I3, r3, k, e, q3⟩ => ?_)) hm
  subst e
  cases r3
  refine wpAny_truthy_bool ?_
  cases k with
  | false =>
    obtain ⟨k', e', q'⟩ := q3
    cases e'
    exact ite_ff ⟨H3, I3, q'⟩
  | true =>
    refine ite_tt (test_last (thn (hc pins s3 σ H3 _ I3 q3) fun w' s4 ⟨z', H4, I4, r4, q4⟩ => thn (ho' pins s4 σ H4 y z' u w' _ I4 r2 r4 q4) fun d' s5 ⟨z2, H5, I5, r5, k2, e2, q5⟩ => ?_))
    subst e2
    cases r5
    exact wpAny_truthy_bool ⟨H5, I5, q5⟩
theorem line63 : (sizeLine : Nat) < 2 ^ 63 := by rw [sizeLine_eq]; decide
theorem op_add_str : OpR X (binaryOp .Add) (fun x y H Q => ∃ i j, x = .str i ∧ y = .str j ∧ i.length + j.length ≤ sizeLine ∧ Q (.str (i ++ j)) H) := by
  intro pins s σ H x y v u Q I rx ry h
  obtain ⟨i, j, rfl, rfl, hz, q⟩ := h
  obtain ⟨t, rfl⟩ := rx
  obtain ⟨t', rfl⟩ := ry
  exact add_str (fun t' tk => ⟨.str (i ++ j), H, I.tok _, ⟨_, rfl⟩, q⟩) hz
theorem vals1 {x : V} {us : List Value} (r : Vals [x] us) : ∃ u, us = [u] ∧ RelV x u := by
  cases r with
  | cons r1 r2 => cases r2; exact ⟨_, rfl, r1⟩
theorem vals2 {x y : V} {us : List Value} (r : Vals [x, y] us) : ∃ u w', us = [u, w'] ∧ RelV x u ∧ RelV y w' := by
  cases r with
  | cons r1 r2 =>
    cases r2 with
    | cons r3 r4 => cases r4; exact ⟨_, _, rfl, r1, r3⟩
theorem call_min2 (hc : X.calm = true) : CallR X (.builtin "min") (fun xs H Q => ∃ i j, xs = [.int i, .int j] ∧ Q (.int (if j < i then j else i)) H) := by
  intro pins s σ H xs us Q I r h
  obtain ⟨i, j, rfl, q⟩ := h
  obtain ⟨u, w', rfl, ⟨t, rfl⟩, ⟨t', rfl⟩⟩ := vals2 r
  refine min_two_ints (I.ok.hd hc) fun h' tk k => ⟨_, H, I.kept k, ?_, q⟩
  by_cases hj : j < i
  · rw [if_pos hj, if_pos hj]; exact ⟨_, rfl⟩
  · rw [if_neg hj, if_neg hj]; exact ⟨_, rfl⟩
theorem call_str_int : CallR X (.type "str") (fun xs H Q => ∃ i, xs = [.int i] ∧ i.natAbs.log2 < 1920 ∧ Q (.str (toString i)) H) := by
  intro pins s σ H xs us Q I r h
  obtain ⟨i, rfl, hz, q⟩ := h
  obtain ⟨u, rfl, t, rfl⟩ := vals1 r
  exact PySem.P.str_of_int hz ⟨.str _, H, I.tok _, ⟨_, rfl⟩, q⟩
end
end L2
namespace L2
open PySem PySem.Spec PyProof.Rows
structure ObjM (h : Heap) (x dx C : Addr) (mA : Str → Option Value) : Prop where
  obj : h.get? x = some (PySem.W.instObj C dx)
  ns : h.Ns1 dx mA
  ne : dx ≠ x
theorem lookIn_ns {h : Heap} {dx : Addr} {mA : Str → Option Value} (n : h.Ns1 dx mA) : ∃ od, h.get? dx = some od ∧ ∀ name, PySem.W.lookIn name od = some (mA name) := by
  obtain ⟨o, es, ep, ho, hd, hk, _, hm⟩ := n
  refine ⟨o, ho, fun name => ?_⟩
  have e := hm name
  unfold nsFind findBy at e
  rw [← Array.find?_toList] at e
  unfold PySem.W.lookIn
  rw [hd]
  dsimp only
  split
  · rename_i y q
    rw [q] at e
    exact congrArg some e
  · rename_i q
    rw [q] at e
    have a : es.toList.any (·.refKey) = false := by
      rw [List.any_eq_false]
      intro y hy
      obtain ⟨z, t, hkey⟩ := hk y (Array.mem_toList_iff.mp hy)
      simp [DictEntry.refKey, hkey]
    have a' : ¬ es.toList.any (·.refKey) = true := by rw [a]; exact Bool.false_ne_true
    rw [if_neg a']
    exact congrArg some e
theorem ObjM.look {h : Heap} {x dx C : Addr} {mA : Str → Option Value} (I : ObjM h x dx C mA) : ∃ od, PySem.W.InstAt h x (PySem.W.instObj C dx) C (some od) ∧ ∀ name, PySem.W.lookIn name od = some (mA name) :=
  let ⟨od, ho, hl⟩ := lookIn_ns I.ns
  ⟨od, ⟨I.obj, rfl, rfl, ho⟩, hl⟩
section
variable {prog : Program} {w : World} {A : Around} {E : Value → Shared → Prop} {s : Shared} {K : PySem.W.Frag} {x dx C f : Addr} {mA : Str → Option Value} {name : Str} {v : Value}
end
theorem RelO.none_of {o : Option Value} (r : RelO none o) : o = none := by
  cases o with
  | none => rfl
  | some u => exact (show False from r).elim
section
variable {P : Program} {w : World} {H H' : Hp} {h h' : Heap} {a C dx : Addr} {fs fs' : List (Str × V)}
theorem ins_get (hok : HOk P w H h) (e : H a = some (.ins C dx fs)) : ∃ mA, ObjM h a dx C mA ∧ (∀ f, RelO (fs.lookup f) (mA f)) ∧ PySem.Within mA (fs.map (·.1)) ∧ fs.length ≤ 1000 ∧ H dx = some (.own a) := by
  obtain ⟨d, z, ne, ob, mA, n, r, q⟩ := (show ObjOk P w H h a (.ins C dx fs) from hok a _ e)
  exact ⟨mA, ⟨ob, n, ne⟩, r, q, z, d⟩
end
structure Cls (K : PySem.W.Frag) (C : Addr) : Prop where
  pg : PySem.W.plainGet K C Str.empty = true
  hd : PySem.W.hasDictIn K C = true
  po : PySem.W.plainOver K C = true
  sa : PySem.W.findIn K (.ref C) "__setattr__" = some (some (.builtin "object.__setattr__"))
theorem Cls.get {K : PySem.W.Frag} {C : Addr} (c : Cls K C) (f : Str) : PySem.W.plainGet K C f = true := c.pg
structure Con (K : PySem.W.Frag) (C : Addr) (f : Str) (v : V) (u : Value) : Prop where
  at_ : PySem.W.findIn K (.ref C) f = some (some u)
  rel : RelV v u
  get : PySem.W.specialIn K u "__get__" = some none
  cp : PySem.W.copiedNames.contains f = false
structure Meth (K : PySem.W.Frag) (C : Addr) (m : Str) (f : Addr) : Prop where
  at_ : PySem.W.findIn K (.ref C) m = some (some (.ref f))
  fn : PySem.W.isFn K (.ref f) = true
  kp : PySem.W.keepIn K (.ref f) = true
section
variable {X : Cx} {pins : List (Addr × Obj)} {σ : St} {H : Hp} {s : Shared} {a C dx : Addr} {fs : List (Str × V)} {f : Str} {v : V} {A : Around} {E : Value → Shared → Prop}
end
section
variable {X : Cx} {o e value : Expr} {f : Str} {pos pos' tpos : Pos} {ta tv : TE}
noncomputable def rAdd : V → V → Hp → VK → Prop := fun x y H Q => ∃ i j, x = .int i ∧ y = .int j ∧ Q (.int (i + j)) H
noncomputable def rSub : V → V → Hp → VK → Prop := fun x y H Q => ∃ i j, x = .int i ∧ y = .int j ∧ Q (.int (i - j)) H
end
section
variable {X : Cx} {pins : List (Addr × Obj)} {σ : St} {H : Hp} {s : Shared} {A : Around} {E : Value → Shared → Prop} {Q : Value → Shared → Prop} {c : Value} {b : Bool}
inductive TyOf (K : PySem.W.Frag) (H : Hp) : V → Value → Prop where
  | non : TyOf K H .non (.type "NoneType")
  | bl (x : Bool) : TyOf K H (.bl x) (.type "bool")
  | int (i : Int) : TyOf K H (.int i) (.type "int")
  | str (x : Str) : TyOf K H (.str x) (.type "str")
  | flt (x : UInt64) : TyOf K H (.flt x) (.type "float")
  | lst {a : Addr} {xs : List V} (e : H a = some (.lst xs)) : TyOf K H (.ref a) (.type "list")
  | frz {a : Addr} {o : Obj} {xs : List V} (e : H a = some (.frz o (.lst xs))) : TyOf K H (.ref a) (.type "list")
  | tup {a : Addr} {xs : List V} (e : H a = some (.tup xs)) : TyOf K H (.ref a) (.type "tuple")
  | dK {a : Addr} {kvs : List (Key × V)} (e : H a = some (.dK kvs)) : TyOf K H (.ref a) (.type "dict")
  | dT {a : Addr} {kvs : List (List Key × V)} (e : H a = some (.dT kvs)) : TyOf K H (.ref a) (.type "dict")
  | ins {a C dx : Addr} {fs : List (Str × V)} (e : H a = some (.ins C dx fs)) (cl : Cls K C) (ha : PySem.W.findIn K (.ref C) "__class__" = some (some (.builtin "object.__class__")))
      (hn : PySem.W.specialIn K (.builtin "object.__class__") "__get__" = some (some (.builtin "getset_descriptor.__get__"))) (htk : PySem.W.takesIn K (.builtin "object.__class__") = some true)
      (hm : PySem.W.mroIn K C (.type "object") = some true) : TyOf K H (.ref a) (.ref C)
theorem isinst_ok {x : V} {u t : Value} (I : Inv X pins σ H s) (rx : RelV x u) (ty : TyOf X.K H x t) (e : PySem.W.kitOne X.K t c = some b) (h : ∀ tk, Q (.bool b) { s with toks := tk }) :
    wpAny (model X.prog X.w) A (call (.builtin "isinstance") [u, c]) Q E s := by
  cases ty with
  | non => cases (show u = Value.none from rx); exact PySem.W.kia_one PySem.W.kitx_none I.kIn True.intro e (fun z => nomatch z) h
  | bl y => cases (show u = Value.bool y from rx); exact PySem.W.kia_one PySem.W.kitx_bool I.kIn True.intro e (fun z => nomatch z) h
  | int i => obtain ⟨t, q⟩ := (show ∃ t, u = Value.int i t from rx); cases q; exact PySem.W.kia_one PySem.W.kitx_int I.kIn True.intro e (fun z => nomatch z) h
  | str y => obtain ⟨t, q⟩ := (show ∃ t, u = Value.str y t from rx); cases q; exact PySem.W.kia_one PySem.W.kitx_str I.kIn True.intro e (fun z => nomatch z) h
  | flt y => obtain ⟨t, q⟩ := (show ∃ t, u = Value.float y t from rx); cases q; exact PySem.W.kia_one PySem.W.kitx_float I.kIn True.intro e (fun z => nomatch z) h
  | @lst a xs ea =>
    cases (show u = Value.ref a from rx)
    obtain ⟨_, _, n, _, h1⟩ := (show ObjOk X.prog X.w H s.heap a (.lst xs) from I.hok a _ ea)
    exact PySem.W.kia_one PySem.W.kitx_list I.kIn ⟨_, h1, rfl⟩ e (fun z => nomatch z) h
  | @frz a ob xs ea =>
    cases (show u = Value.ref a from rx)
    obtain ⟨_, _, _, n, _, h1⟩ := (show ObjOk X.prog X.w H s.heap a (.frz ob (.lst xs)) from I.hok a _ ea)
    exact PySem.W.kia_one PySem.W.kitx_list I.kIn ⟨_, h1, rfl⟩ e (fun z => nomatch z) h
  | @tup a xs ea =>
    cases (show u = Value.ref a from rx)
    obtain ⟨_, _, _, p⟩ := (show ObjOk X.prog X.w H s.heap a (.tup xs) from I.hok a _ ea)
    obtain ⟨o, h1, h2, _⟩ := p
    exact PySem.W.kia_one PySem.W.kitx_tuple I.kIn ⟨o, h1, h2⟩ e (fun z => nomatch z) h
  | @dK a kvs ea =>
    cases (show u = Value.ref a from rx)
    obtain ⟨_, _, vs, _, p⟩ := (show ObjOk X.prog X.w H s.heap a (.dK kvs) from I.hok a _ ea)
    obtain ⟨o, es, ep, h1, h2, _⟩ := p
    exact PySem.W.kia_one PySem.W.kitx_dict I.kIn ⟨o, h1, h2.1⟩ e (fun z => nomatch z) h
  | @dT a kvs ea =>
    cases (show u = Value.ref a from rx)
    obtain ⟨_, _, xs, _, o, es, ep, h1, h2, _⟩ := (show ObjOk X.prog X.w H s.heap a (.dT kvs) from I.hok a _ ea)
    exact PySem.W.kia_one PySem.W.kitx_dict I.kIn ⟨o, h1, h2.1⟩ e (fun z => nomatch z) h
  | @ins a C dx fs ea cl ha hn htk hm =>
    cases (show u = Value.ref a from rx)
    obtain ⟨mA, O, _⟩ := ins_get I.hok ea
    obtain ⟨od, J, _⟩ := O.look
    exact PySem.W.kia_one (PySem.W.kitx_own (cl.get _) cl.hd ha hn htk hm) I.kIn J e (fun z => nomatch z) h
end
end L2
namespace L2
open PySem PySem.Spec PyProof.Rows
structure Room (k : Nat) (A : Around) : Prop where
  hd : A.handled = none
  dp : A.depth + 3 * k + 5 < recursionLimit
  un : A.units + 16 * k + 200 < cLine
theorem Room.mono {j k : Nat} {A : Around} (r : Room k A) (h : j ≤ k) : Room j A := ⟨r.hd, by have := r.dp; bv_omega, by have := r.un; bv_omega⟩
theorem Room.deeper {k : Nat} {A : Around} (r : Room (k + 1) A) (env : Env) : Room k (A.deeper env) :=
  ⟨r.hd, by have := r.dp; show A.depth + 1 + 3 * k + 5 < _; bv_omega, by have := r.un; show A.units + 3 + 16 * k + 200 < _; bv_omega⟩
theorem Room.in1 {k : Nat} {A : Around} (r : Room (k + 1) A) : Room k A.in1 :=
  ⟨r.hd, by have := r.dp; show A.depth + 3 * k + 5 < _; bv_omega, by have := r.un; show A.units + 1 + 16 * k + 200 < _; bv_omega⟩
theorem make_depth {A : Around} {C : Addr} {us : List Value} {kw : List (Str × Value)} : (A.under (.builtin "type.__call__" ⟨.ref C :: us, kw⟩)).depth = A.depth + 1 := by
  first | rfl | simp [Around.under, Code.weight, Code.isCreation, Code.isGuard, Code.isCaller, Code.frames, Code.isFrame, guardIds]
theorem make_units {A : Around} {C : Addr} {us : List Value} {kw : List (Str × Value)} : (A.under (.builtin "type.__call__" ⟨.ref C :: us, kw⟩)).units = A.units + 1 := by
  first | rfl | simp [Around.under, Code.cUnits, Code.frames, Code.isFrame]
theorem Room.make {k : Nat} {A : Around} (r : Room (k + 1) A) (C : Addr) (us : List Value) (kw : List (Str × Value)) : Room k (A.under (.builtin "type.__call__" ⟨.ref C :: us, kw⟩)) :=
  ⟨r.hd, by have := r.dp; rw [make_depth]; bv_omega, by have := r.un; rw [make_units]; bv_omega⟩
theorem Room.depth {k : Nat} {A : Around} (r : Room k A) : A.depth < recursionLimit := by have := r.dp; bv_omega
theorem Room.units {k : Nat} {A : Around} (r : Room k A) : A.units + 64 < cLine := by have := r.un; bv_omega
noncomputable def tNil : TA := fun _ H Q => Q [] H
noncomputable def tCons (ta : TE) (tr : TA) : TA := fun σ H Q => ta σ H fun x H1 => tr σ H1 fun xs H2 => Q (x :: xs) H2
section
variable {X : Cx} {e : Expr} {es : List Expr} {te : TE} {t : TA} {pos : Pos}
theorem pa_nil : PA X [] tNil := fun _ _ _ _ H Q I h => Calls.spliced_nil ⟨[], H, I, .nil, h⟩
theorem pa_cons (ha : PE X e te) (hr : PA X es t) (hs : autoParam (starEach (e :: es) X.env = (false, eval e X.env) :: starEach es X.env) autoK5._auto_1) : PA X (e :: es) (tCons te t) := by
  intro pos pins s σ H Q I h
  rw [hs]
  show wpAny _ _ (spliced ((false, eval e X.env) :: backTo pos (starEach es X.env))) _ _ s
  refine Calls.spliced_cons (thn (ha pins s σ H _ I h) fun u s1 ⟨x, H1, I1, r1, q1⟩ => ?_)
  exact thn (hr pos pins s1 σ H1 _ I1 q1) fun us s2 ⟨xs, H2, I2, r2, q2⟩ => ⟨x :: xs, H2, I2, .cons r1 r2, q2⟩
noncomputable def tTup (t : TA) : TE := fun σ H Q => t σ H fun xs H1 => xs.length ≤ sizeLine ∧ ∀ p, H1 p = none → Q (.ref p) (upd H1 p (.tup xs))
noncomputable def tLst (t : TA) : TE := fun σ H Q => t σ H fun xs H1 => xs.length ≤ sizeLine ∧ ∀ p, H1 p = none → Q (.ref p) (upd H1 p (.lst xs))
theorem pe_tup {x1} (h : PA X es t) : PE X (.Tuple es x1 pos) (tTup t) := by
  intro pins s σ H Q I hq
  refine wpAny_Tuple_spliced (thn (h pos pins s σ H _ I hq) fun us s1 ⟨xs, H1, I1, r, z, q⟩ => ⟨by rw [← r.length]; exact z, ?_⟩)
  have hf : H1 s1.heap.objs.size = none := I1.hok.fresh (Nat.le_refl _)
  refine ⟨.ref s1.heap.objs.size, upd H1 s1.heap.objs.size (.tup xs), I1.laid (t' := s1.toks) (fun b u e => Heap.get?_push_of_some _ e) (Nat.le_refl _) ?_, rfl, q _ hf⟩
  exact ⟨z, us, r, TupAt.new _ _⟩
theorem pe_lst (h : PA X es t) : PE X (.List es pos) (tLst t) := by
  intro pins s σ H Q I hq
  refine wpAny_List_spliced (thn (h pos pins s σ H _ I hq) fun us s1 ⟨xs, H1, I1, r, z, q⟩ => ⟨by rw [← r.length]; exact z, ?_⟩)
  have hf : H1 s1.heap.objs.size = none := I1.hok.fresh (Nat.le_refl _)
  refine ⟨.ref s1.heap.objs.size, upd H1 s1.heap.objs.size (.lst xs), I1.laid (t' := s1.toks) (fun b u e => Heap.get?_push_of_some _ e) (Nat.le_refl _) ?_, rfl, q _ hf⟩
  exact ⟨z, us, 0, r, Heap.get?_push_size _ rfl⟩
end
noncomputable abbrev Sp := List V → Hp → VK → XK → Prop
noncomputable abbrev CXT := List Env → Hp → Shared → XK → Value → Shared → Prop
structure Env0 (P : Program) (w : World) (K : PySem.W.Frag) (mg : Str → Option Value) (base : Heap) (A : Around) (outer : List Env) (s : Shared) (H : Hp) : Prop where
  frames : A.frames = some outer
  mod : Mod K mg base
  bs : ∀ b o, base.get? b = some o → s.heap.get? b = some o ∧ H b = none
  bsz : base.objs.size ≤ s.heap.objs.size
  funs : s.heap.FunFrames base outer
  frf : ∀ b ∈ frs outer, H b = none
  hok : HOk P w H s.heap
  bare : AllBare s.gens
noncomputable def CE (outer : List Env) (P : Program) (w : World) (H : Hp) (s : Shared) (Q : VK) (u : Value) (s' : Shared) : Prop :=
  ∃ v H', s'.os = s.os ∧ AllBare s'.gens ∧ Un (frs outer) [] H H' s.heap s'.heap ∧ HOk P w H' s'.heap ∧ RelV v u ∧ Q v H'
noncomputable def CR (CX : CXT) (outer : List Env) (P : Program) (w : World) (H : Hp) (s : Shared) (Q : VK) (E : XK) (r : Result) (s' : Shared) : Prop :=
  match r with
  | .ok (.ret u) => CE outer P w H s Q u s'
  | .ok _ => False
  | .error e => CX outer H s E e s'
structure FnOk (P : Program) (w : World) (K : PySem.W.Frag) (mg : Str → Option Value) (base : Heap) (CX : CXT) (k : Nat) (f : Addr) (fd : FuncData) (ps : List Str) (sp : Sp) : Prop where
  len : ∀ vs H Q E, sp vs H Q E → vs.length = ps.length
  run : ∀ (A : Around) (outer : List Env) (s : Shared) (H : Hp) (args : Args) (us : List Value) (vs : List V) (Q : VK) (E : XK), Room k A → Env0 P w K mg base A outer s H → BindsTo s fd args (ps.zip us) → Vals vs us → sp vs H Q E →
    codeAny (model P w) A (.call (.ref f) args) (CR CX outer P w H s Q E) s
theorem FnOk.mono {P : Program} {w : World} {K : PySem.W.Frag} {mg : Str → Option Value} {base : Heap} {CX : CXT} {j k : Nat} {f : Addr} {fd : FuncData} {ps : List Str} {sp : Sp} (F : FnOk P w K mg base CX j f fd ps sp) (h : j ≤ k) :
    FnOk P w K mg base CX k f fd ps sp := ⟨F.len, fun A outer s H args us vs Q E hr => F.run A outer s H args us vs Q E (hr.mono h)⟩
theorem FnOk.imp {P : Program} {w : World} {K : PySem.W.Frag} {mg : Str → Option Value} {base : Heap} {CX : CXT} {k : Nat} {f : Addr} {fd : FuncData} {ps : List Str} {sp sp' : Sp} (F : FnOk P w K mg base CX k f fd ps sp)
    (h : ∀ vs H Q E, sp' vs H Q E → sp vs H Q E) : FnOk P w K mg base CX k f fd ps sp' :=
  ⟨fun vs H Q E q => F.len vs H Q E (h _ _ _ _ q), fun A outer s H args us vs Q E hr he hb hv hs => F.run A outer s H args us vs Q E hr he hb hv (h _ _ _ _ hs)⟩
theorem Env0.make {P : Program} {w : World} {K : PySem.W.Frag} {mg : Str → Option Value} {base : Heap} {A : Around} {outer : List Env} {s : Shared} {H : Hp} (e : Env0 P w K mg base A outer s H) (C : Addr) (us : List Value) (kw : List (Str × Value)) :
    Env0 P w K mg base (A.under (.builtin "type.__call__" ⟨.ref C :: us, kw⟩)) outer s H := ⟨by first | exact e.frames | (simpa [Around.under, Code.envs, Code.isFrame, pushEnvs] using e.frames), e.mod, e.bs, e.bsz, e.funs, e.frf, e.hok, e.bare⟩
theorem Env0.in1 {P : Program} {w : World} {K : PySem.W.Frag} {mg : Str → Option Value} {base : Heap} {A : Around} {outer : List Env} {s : Shared} {H : Hp} (e : Env0 P w K mg base A outer s H) :
    Env0 P w K mg base A.in1 outer s H := ⟨e.frames, e.mod, e.bs, e.bsz, e.funs, e.frf, e.hok, e.bare⟩
section
variable {X : Cx} {pins : List (Addr × Obj)} {σ : St} {H : Hp} {s s' : Shared}
theorem Inv.env0 (I : Inv X pins σ H s) : Env0 X.prog X.w X.K X.mg X.base X.A X.stack s H :=
  ⟨I.ok.frames, I.ok.mod, I.bs, Nat.le_trans I.ok.bsz I.sz, I.stack, I.stkFree, I.hok, I.bare⟩
theorem Inv.after {Q : VK} {u : Value} (I : Inv X pins σ H s) (h : CE X.stack X.prog X.w H s Q u s') : EP X pins σ Q u s' := by
  obtain ⟨v, H', os, bare, un, hok, r, q⟩ := h
  obtain ⟨hh, g, d, t, os'⟩ := s'
  obtain rfl : os' = s.os := os
  exact ⟨v, H', I.call (h' := hh) (g' := g) (d' := d) (t' := t) (ch := []) un hok bare (fun b z => absurd z (by simp)), r, q⟩
end
noncomputable def tCall (sp : Sp) (dvs : List V) (E : XK) (t : TA) : TE := fun σ H Q => t σ H fun vs H1 => sp (vs ++ dvs) H1 Q E
noncomputable def Binds (K : PySem.W.Frag) (fd : FuncData) (ps : List Str) (ds : List Value) : Prop :=
  ∀ (s : Shared) (us : List Value), K.In s.heap → (us ++ ds).length = ps.length → BindsTo s fd ⟨us, []⟩ (ps.zip (us ++ ds))
theorem Binds.all {K : PySem.W.Frag} {fd : FuncData} {ps : List Str} (h : ∀ us : List Value, us.length = ps.length → bindArgs fd ⟨us, []⟩ = pure (ps.zip us)) : Binds K fd ps [] := fun s us _ hl => by
  rw [List.append_nil] at hl ⊢
  exact .of_eq (h us hl)
noncomputable def Passes (CX : CXT) (X : Cx) (E : XK) : Prop := ∀ (pins : List (Addr × Obj)) (σ : St) (H : Hp) (s : Shared) (e : Value) (s' : Shared), Inv X pins σ H s → CX X.stack H s E e s' → X.xe e s'
section
variable {X : Cx} {CX : CXT} {k : Nat} {f C : Addr} {fd : FuncData} {ps : List Str} {sp : Sp} {dvs : List V} {ds : List Value} {E : XK} {x m : Str} {p pos apos : Pos} {e o : Expr} {es : List Expr} {ta : TE} {t : TA}
theorem run_fn {pins : List (Addr × Obj)} {σ : St} {H : Hp} {s : Shared} {Q : VK} {us : List Value} {vs : List V} (F : FnOk X.prog X.w X.K X.mg X.base CX k f fd ps sp) (hr : Room k X.A) (hb : Binds X.K fd ps ds) (hd : Vals dvs ds) (hx : Passes CX X E)
    (I : Inv X pins σ H s) (r : Vals vs us) (h : sp (vs ++ dvs) H Q E) : wpAny (model X.prog X.w) X.A (call (.ref f) us) (EP X pins σ Q) X.xe s := by
  have r2 : Vals (vs ++ dvs) (us ++ ds) := r.append hd
  have hl : (us ++ ds).length = ps.length := by rw [← r2.length]; exact F.len _ _ _ _ h
  refine wpAny_call (codeAny_mono (F.run X.A X.stack s H ⟨us, []⟩ (us ++ ds) (vs ++ dvs) Q E hr I.env0 (hb s us I.kIn hl) r2 h) fun r s' hq => ?_)
  cases r with
  | error e => exact hx pins σ H s e s' I hq
  | ok fl =>
    cases fl with
    | ret u => exact I.after hq
    | next => exact False.elim hq
    | brk => exact False.elim hq
    | cont => exact False.elim hq
theorem pe_call (F : FnOk X.prog X.w X.K X.mg X.base CX k f fd ps sp) (hr : Room k X.A) (hg : Gl X x) (hm : X.mg x = some (.ref f)) (hk : PySem.W.keepIn X.K (.ref f) = true) (hb : Binds X.K fd ps ds) (hd : Vals dvs ds) (hx : Passes CX X E)
    (ha : PA X (e :: es) t) (hdb : autoParam ((x == ("__debug__" : Str)) = false) autoK2._auto_1) (he : autoParam (starEach (e :: es) X.env = (false, eval e X.env) :: starEach es X.env) autoK5._auto_1) (hpl : autoParam ((backTo pos (starEach es X.env)).any (·.1) = false) autoK5._auto_1) :
    PE X (.Call (.Name x p) (e :: es) [] pos) (tCall sp dvs E t) := by
  intro pins s σ H Q I h
  refine wpAny_Call_Name_kw (ld_glob I hg hm ?_ hdb)
  refine PySem.W.callWith_K (h₀ := X.base) I.ok.mod.kin hk (thn (ha pos pins s σ H _ I h) fun us s1 ⟨vs, H1, I1, r, q⟩ => ⟨I1.kIn, ?_⟩) he hpl
  exact run_fn F hr hb hd hx I1 r q
structure Mk (K : PySem.W.Frag) (C f : Addr) : Prop where
  makes : PySem.W.makesIn K C = true
  init : PySem.W.findIn K (.ref C) "__init__" = some (some (.ref f))
  fn : PySem.W.isFn K (.ref f) = true
  kp : PySem.W.keepIn K (.ref C) = true
end
section
variable {X : Cx} {CX : CXT} {k : Nat} {f C : Addr} {fd : FuncData} {ps ks : List Str} {sp : Sp} {E : XK} {x m : Str} {p pos apos kpos : Pos} {e o : Expr} {es : List Expr} {kws : List Keyword} {te ta : TE} {t tk : TA} {nm : Option Str}
structure KBinds (K : PySem.W.Frag) (fd : FuncData) (ps ks : List Str) (g : List Value → List Value → List Value) (gV : List V → List V → List V) : Prop where
  to : ∀ (s : Shared) (us ws : List Value), K.In s.heap → (g us ws).length = ps.length → BindsTo s fd ⟨us, ks.zip ws⟩ (ps.zip (g us ws))
  rel : ∀ {vs : List V} {us : List Value} {zs : List V} {ws : List Value}, Vals vs us → Vals zs ws → Vals (gV vs zs) (g us ws)
variable {g : List Value → List Value → List Value} {gV : List V → List V → List V}
end
structure FnScope (N P : List Str) (sc : Scope) : Prop where
  kind : sc.kind = .function
  co : sc.isCoroutine = false
  gen : sc.isGenerator = false
  nd : N.Nodup
  pre : N.take P.length = P
  par : ∀ x ∈ P, sc.names.lookup x = some .local ∨ sc.names.lookup x = some .cell
  nofree : ∀ y ∈ sc.names, y.2 ≠ .free
theorem bindL_out {kindOf : Str → Option NameKind} {x : Str} : ∀ {binds : List (Str × Value)} {m : Str → Option Value}, (∀ v, (x, v) ∉ binds) → bindL kindOf binds m x = m x
  | [], _, _ => rfl
  | (n, v) :: r, m, h => by
    unfold bindL
    rw [bindL_out fun w hw => h w (List.mem_cons_of_mem _ hw)]
    split
    · have : x ≠ n := by rintro rfl; exact h v List.mem_cons_self
      simp [this]
    · rfl
theorem bindC_out {kindOf : Str → Option NameKind} {x : Str} : ∀ {binds : List (Str × Value)} {m : Str → Option Value}, (∀ v, (x, v) ∉ binds) → bindC kindOf binds m x = m x
  | [], _, _ => rfl
  | (n, v) :: r, m, h => by
    unfold bindC
    rw [bindC_out fun w hw => h w (List.mem_cons_of_mem _ hw)]
    split
    · rfl
    · have : x ≠ n := by rintro rfl; exact h v List.mem_cons_self
      simp [this]
theorem bindL_get {kindOf : Str → Option NameKind} {x : Str} {v : Value} : ∀ {P : List Str} {vs : List Value} {i : Nat} {m : Str → Option Value}, P.Nodup → P[i]? = some x → vs[i]? = some v → kindOf x = some .local →
    bindL kindOf (P.zip vs) m x = some v
  | [], _, _, _, _, h, _, _ => by simp at h
  | _ :: _, [], _, _, _, _, h, _ => by simp at h
  | p :: P, w :: vs, 0, m, nd, h1, h2, hk => by
    simp at h1 h2; subst h1; subst h2
    show bindL kindOf ((p, w) :: P.zip vs) m p = _
    unfold bindL
    rw [bindL_out fun v hv => (List.nodup_cons.mp nd).1 (List.of_mem_zip hv).1, if_pos hk]
    simp
  | p :: P, w :: vs, i + 1, m, nd, h1, h2, hk => by
    show bindL kindOf ((p, w) :: P.zip vs) m x = _
    unfold bindL
    exact bindL_get (i := i) (List.nodup_cons.mp nd).2 (by simpa using h1) (by simpa using h2) hk
theorem bindC_get {kindOf : Str → Option NameKind} {x : Str} {v : Value} : ∀ {P : List Str} {vs : List Value} {i : Nat} {m : Str → Option Value}, P.Nodup → P[i]? = some x → vs[i]? = some v → kindOf x ≠ some .local →
    bindC kindOf (P.zip vs) m x = some v
  | [], _, _, _, _, h, _, _ => by simp at h
  | _ :: _, [], _, _, _, _, h, _ => by simp at h
  | p :: P, w :: vs, 0, m, nd, h1, h2, hk => by
    simp at h1 h2; subst h1; subst h2
    show bindC kindOf ((p, w) :: P.zip vs) m p = _
    unfold bindC
    rw [bindC_out fun v hv => (List.nodup_cons.mp nd).1 (List.of_mem_zip hv).1, if_neg hk]
    simp
  | p :: P, w :: vs, i + 1, m, nd, h1, h2, hk => by
    show bindC kindOf ((p, w) :: P.zip vs) m x = _
    unfold bindC
    exact bindC_get (i := i) (List.nodup_cons.mp nd).2 (by simpa using h1) (by simpa using h2) hk
noncomputable def start (N : List Str) (vs : List V) : St := vs.map some ++ List.replicate (N.length - vs.length) none
noncomputable def cxOf (CX : CXT) (P : Program) (w : World) (K : PySem.W.Frag) (mg : Str → Option Value) (base : Heap) (N : List Str) (qual : Str) (scope : Scope) (f : Addr) (cd : Value) (A : Around) (outer : List Env) (s : Shared) (H : Hp) (E : XK) : Cx where
  prog := P
  w := w
  K := K
  mg := mg
  base := base
  A := A.deeper (envOfC qual scope s.heap.objs.size f cd)
  N := N
  s₀ := s
  H₀ := H
  env := envOfC qual scope s.heap.objs.size f cd
  outer := outer
  stack := envOfC qual scope s.heap.objs.size f cd :: outer
  ex := []
  calm := true
  fn := fun _ => true
  pn := []
  xe := fun e s' => wpAny (model P w) (A.deeper (envOfC qual scope s.heap.objs.size f cd)) (leaving (envOfC qual scope s.heap.objs.size f cd) e) (fun _ s'' => CX outer H s E e s'') (fun e' s'' => CX outer H s E e' s'') s'
theorem cell_has {sc : Scope} {n : Nat} {x : Str} (h : sc.names.lookup x = some .cell) : ∃ c, (cellsFrom n sc.names []).lookup x = some c := by
  have q := PySem.W.cellsFrom_some sc.names n [] (.inl h)
  exact Option.isSome_iff_exists.mp q
theorem inv_start {CX : CXT} {P : Program} {w : World} {K : PySem.W.Frag} {mg : Str → Option Value} {base : Heap} {N ps : List Str} {qual : Str} {scope : Scope} {f : Addr} {cd : Value} {A : Around} {outer : List Env} {s s1 : Shared} {H : Hp} {E : XK} {us : List Value} {vs : List V}
    (S : FnScope N ps scope) (hd : A.handled = none) (e0 : Env0 P w K mg base A outer s H) (hl : vs.length = ps.length) (r : Vals vs us)
    (x : InCallC s s.heap.objs.size (bindL (envOfC qual scope s.heap.objs.size f cd).kindOf (ps.zip us) fun _ => none) (cellsFrom (s.heap.objs.size + 1) scope.names []) (bindC (envOfC qual scope s.heap.objs.size f cd).kindOf (ps.zip us) fun _ => none) s1) :
    Inv (cxOf CX P w K mg base N qual scope f cd A outer s H E) [] (start N vs) H s1 := by
  have hpl : ps.length ≤ N.length := by have := congrArg List.length S.pre; rw [List.length_take] at this; bv_omega
  obtain ⟨h1, tk, rfl, hk⟩ := x.done
  have noA : ∀ b : Addr, b ∉ (cxOf CX P w K mg base N qual scope f cd A outer s H E).ex := fun b z => absurd (show b ∈ ([] : List Addr) from z) (by simp)
  refine ⟨⟨e0.mod, S.kind, rfl, rfl, Nat.le_refl _, fun y z c h1 h2 => ?_, fun y hy => ?_, fun y c _ h => ?_, fun _ => hd, Around.frames_deeper e0.frames, .inr ⟨rfl, rfl⟩, fun b z => absurd z (noA b), e0.bs, e0.bsz, fun b _ _ => noA b, fun b z => absurd z (noA b), e0.funs, e0.frf⟩,
    rfl, e0.bare, Un.kept hk, ⟨_, x.toInCall.ns, fun i y v h1 h2 h3 => ?_⟩, fun y c h => ⟨_, x.cell y c h⟩, e0.hok.fresh (Nat.le_refl _), fun y c h => ?_, fun p hp => absurd (show p ∈ ([] : List (Addr × Obj)) from hp) (by simp), e0.hok.kept hk, ?_⟩
  · exact name_of_addr x.apart (PySem.mem_of_lookup h1) (PySem.mem_of_lookup h2)
  · have hy : scope.names.lookup y = some .cell ∨ scope.names.lookup y = some .free := hy
    rcases hy with hy | hy
    · exact cell_has hy
    · exact absurd rfl (S.nofree _ (PySem.mem_of_lookup hy))
  · exact Nat.le_of_lt (x.above y c (PySem.mem_of_lookup h))
  · have hi : i < vs.length := by
      unfold start at h2
      by_cases hi : i < vs.length
      · exact hi
      · rw [List.getElem?_append_right (by simpa using hi)] at h2
        rw [List.getElem?_replicate] at h2
        split at h2 <;> cases h2
    have ha : vs[i]? = some v := by
      unfold start at h2
      rw [List.getElem?_append_left (by simpa using hi), List.getElem?_map] at h2
      cases e : vs[i]? with
      | none => rw [e] at h2; cases h2
      | some a => rw [e] at h2; cases h2; rfl
    obtain ⟨u, hu, rv⟩ := r.get ha
    have hp : ps[i]? = some y := by
      rw [← S.pre, List.getElem?_take_of_lt (by bv_omega)]; exact h1
    have ndP : ps.Nodup := by rw [← S.pre]; exact S.nd.sublist (List.take_sublist _ _)
    refine ⟨u, rv, ?_⟩
    rcases S.par y (List.mem_of_getElem? hp) with k | k
    · exact .inl ⟨k, bindL_get ndP hp hu k⟩
    · obtain ⟨c, e⟩ := cell_has (n := s.heap.objs.size + 1) k
      refine .inr ⟨.inl k, c, e, ?_⟩
      have q := x.cell y c e
      rw [bindC_get ndP hp hu (by show scope.names.lookup y ≠ _; rw [k]; decide)] at q
      exact q
  · exact e0.hok.fresh (Nat.le_of_lt (x.above y c (PySem.mem_of_lookup h)))
  · unfold start
    show _ = N.length
    rw [List.length_append, List.length_map, List.length_replicate]
    bv_omega
theorem fn_of {CX : CXT} {P : Program} {w : World} {K : PySem.W.Frag} {mg : Str → Option Value} {base : Heap} {k : Nat} {f : Addr} {name qual : Str} {params : Arguments} {body : List Stmt} {scope : Scope} {dV kV doc pm cdv ct oc : Value} {an od : Option Addr}
    {osl : Array (Option Value)} {N ps : List Str} {sp : Sp} (lk : K.lookup f = some ⟨oc, od, .func (PySem.W.fnOf name qual params body scope dV kV doc pm an cdv ct), osl⟩) (hcd : PySem.W.codeIn K cdv qual = true) (S : FnScope N ps scope)
    (len : ∀ vs H Q E, sp vs H Q E → vs.length = ps.length)
    (hbody : ∀ (A : Around) (outer : List Env) (s : Shared) (H : Hp) (vs : List V) (Q : VK) (E : XK), Room k (A.deeper (envOfC qual scope s.heap.objs.size f cdv)) → sp vs H Q E →
      ∃ t, PSs (cxOf CX P w K mg base N qual scope f cdv A outer s H E) body t ∧ t { nx := fun _ H' => Q .non H', rt := Q } (start N vs) H) :
    FnOk P w K mg base CX (k + 1) f (PySem.W.fnOf name qual params body scope dV kV doc pm an cdv ct) ps sp := by
  refine ⟨len, fun A outer s H args us vs Q E hr e0 hb r hsp => ?_⟩
  have hl := len _ _ _ _ hsp
  have KX : K.In s.heap := e0.mod.kin.keeps fun b o e => (e0.bs b o e).1
  have lim : s.heap.NoLimit := e0.mod.nolimit.keeps fun b o e => (e0.bs b o e).1
  have hkind : ∀ y ∈ ps.zip us, scope.names.lookup y.1 = some .local ∨ (scope.names.lookup y.1 = some .cell ∧ ((cellsFrom (s.heap.objs.size + 1) scope.names []).lookup y.1).isSome = true) := fun ⟨n, v⟩ hy => by
    rcases S.par n (List.of_mem_zip hy).1 with q | q
    · exact .inl q
    · exact .inr ⟨q, PySem.W.cellsFrom_some _ _ _ (.inl q)⟩
  refine codeAny_call_function hr.depth (KX _ _ lk) rfl S.co S.gen rfl (PySem.W.codeRec_of KX hcd) (hb _ _ _ _ ?_)
  refine wpAny_newFunctionEnv_cells S.kind hkind fun env he s1 x => ?_
  subst he
  refine ⟨lim.keeps x.toInCall.keep, codeAny_func ?_⟩
  obtain ⟨t, ht, hq⟩ := hbody A outer s H vs Q E (hr.deeper _) hsp
  have I : Inv (cxOf CX P w K mg base N qual scope f cdv A outer s H E) [] (start N vs) H s1 := inv_start S hr.hd e0 hl r x
  refine wpAny_mono (ht [] s1 (start N vs) H _ I hq) (fun fl s' hs => ?_) fun e s' hs => hs
  have fin : ∀ {σ' : St} {H' : Hp} {v : V} {u : Value}, Inv (cxOf CX P w K mg base N qual scope f cdv A outer s H E) [] σ' H' s' → RelV v u → Q v H' → CE outer P w H s Q u s' :=
    fun {σ' H' v u} J rv q => ⟨v, H', J.os, J.bare, J.base, J.hok, rv, q⟩
  cases fl with
  | ret u =>
    obtain ⟨v, σ', H', J, rv, q⟩ := hs
    exact fin J rv q
  | next =>
    obtain ⟨σ', H', J, q⟩ := hs
    exact fin (v := V.non) (u := Value.none) J rfl q
  | brk =>
    obtain ⟨_, _, _, q⟩ := hs
    exact False.elim q
  | cont =>
    obtain ⟨_, _, _, q⟩ := hs
    exact False.elim q
end L2
namespace L2
open PySem PySem.Spec PyProof.Rows
section
variable {X : Cx} {x : Str} {p pos : Pos} {e : Expr} {es : List Expr} {t : TA} {id T : String} {r : List V → Hp → VK → Prop}
noncomputable def tCB (r : List V → Hp → VK → Prop) (t : TA) : TE := fun σ H Q => t σ H fun vs H1 => r vs H1 Q
theorem pe_callB (hc : CallR X (.builtin id) r) (hg : Gl X x) (hm : X.mg x = none) (hv : bootBuiltins x = some (.builtin id)) (ha : PA X (e :: es) t) (hn : autoParam (x ≠ "__name__") autoK2._auto_1) (hdb : autoParam ((x == ("__debug__" : Str)) = false) autoK2._auto_1)
    (he : autoParam (starEach (e :: es) X.env = (false, eval e X.env) :: starEach es X.env) autoK5._auto_1) (hpl : autoParam ((backTo pos (starEach es X.env)).any (·.1) = false) autoK5._auto_1) : PE X (.Call (.Name x p) (e :: es) [] pos) (tCB r t) := by
  intro pins s σ H Q I h
  refine wpAny_Call_Name_kw (ld_blt I hg hm hv ?_ hn hdb)
  exact PyProof.Rows.callWith_builtin1 (thn (ha pos pins s σ H _ I h) fun us s1 ⟨vs, H1, I1, r1, q1⟩ => hc pins s1 σ H1 vs us Q I1 r1 q1) he hpl
theorem pe_callTy (hc : CallR X (.type T) r) (hg : Gl X x) (hm : X.mg x = none) (hv : bootBuiltins x = some (.type T)) (ha : PA X (e :: es) t) (hn : autoParam (x ≠ "__name__") autoK2._auto_1) (hdb : autoParam ((x == ("__debug__" : Str)) = false) autoK2._auto_1)
    (he : autoParam (starEach (e :: es) X.env = (false, eval e X.env) :: starEach es X.env) autoK5._auto_1) (hpl : autoParam ((backTo pos (starEach es X.env)).any (·.1) = false) autoK5._auto_1) : PE X (.Call (.Name x p) (e :: es) [] pos) (tCB r t) := by
  intro pins s σ H Q I h
  refine wpAny_Call_Name_kw (ld_blt I hg hm hv ?_ hn hdb)
  exact PyProof.Rows.callWith_type1 (thn (ha pos pins s σ H _ I h) fun us s1 ⟨vs, H1, I1, r1, q1⟩ => hc pins s1 σ H1 vs us Q I1 r1 q1) he hpl
end
end L2
namespace HT
open PySem PyProof.Rows
section
open PySem.SeqAt
open PySem.AutoSeq1 (wpAny_loadPart')
open PySem.MeetsSeq PySem.MeetsSeq2 PySem.MeetsSeq3
end
section
variable {prog : Program} {w : World} {A : Around} {E : Value → Shared → Prop} {s : Shared}
noncomputable def sIx (n d : Nat) : Option Int → Nat
  | none => d
  | some v => if v < 0 then (v + (n : Int)).toNat else min v.toNat n
theorem sIx_none (n d : Nat) : sIx n d none = d := rfl
theorem sIx_nat (n d k : Nat) : sIx n d (some (k : Int)) = min k n := by
  show (if (k : Int) < 0 then ((k : Int) + (n : Int)).toNat else min (k : Int).toNat n) = min k n
  rw [if_neg (by bv_omega), Int.toNat_natCast]
theorem sIx_le (n d : Nat) (hd : d ≤ n) (o : Option Int) : sIx n d o ≤ n := by
  cases o with
  | none => exact hd
  | some v =>
    show (if v < 0 then (v + (n : Int)).toNat else min v.toNat n) ≤ n
    by_cases hv : v < 0
    · rw [if_pos hv]; bv_omega
    · rw [if_neg hv]; exact Nat.min_le_right _ _
theorem clip_eq (v : Int) (n d : Nat) : (if v < 0 then max (v + (n : Int)) 0 else min v (n : Int)) = ((sIx n d (some v) : Nat) : Int) := by
  show (if v < 0 then max (v + (n : Int)) 0 else min v (n : Int)) = (((if v < 0 then (v + (n : Int)).toNat else min v.toNat n) : Nat) : Int)
  by_cases hv : v < 0
  · simp only [if_pos hv]; bv_omega
  · simp only [if_neg hv]; bv_omega
theorem adjust_gen (lo hi : Option Int) (n : Nat) : Builtin.Slice.sliceAdjust lo hi 1 (n : Int) = (((sIx n 0 lo : Nat) : Int), ((sIx n n hi : Nat) : Int)) := by
  have h1 : ¬ ((1 : Int) < 0) := by bv_omega
  unfold Builtin.Slice.sliceAdjust
  simp only [h1, if_false]
  refine Prod.ext ?_ ?_
  · cases lo with
    | none => rfl
    | some v => exact clip_eq v n 0
  · cases hi with
    | none => rfl
    | some v => exact clip_eq v n n
theorem places_gen (i j : Nat) : Builtin.Slice.slicePlaces (i : Int) (j : Int) 1 = j - i := by
  unfold Builtin.Slice.slicePlaces
  have h1 : (1 : Int) > 0 := by bv_omega
  simp only [h1, if_true, Int.ediv_one]
  split <;> bv_omega
theorem slicePart_ {v : Value} {o : Option Int} {Q : Option Int → Shared → Prop} (p : IsPart v o) (h : Q o s) : wpAny (model prog w) A (Builtin.Slice.slicePartIndex v) Q E s := by
  cases p with
  | none => exact slicePart_none h
  | int i t => exact slicePart_int h
theorem sliceApplied_gen {sl : Addr} {vl vu : Value} {lo hi : Option Int} {n : Nat} {Q : Int × Int × Nat → Shared → Prop} (hs : s.heap.IsSliceOf sl vl vu .none) (pl : IsPart vl lo) (pu : IsPart vu hi)
    (h : Q (((sIx n 0 lo : Nat) : Int), 1, sIx n n hi - sIx n 0 lo) s) : wpAny (model prog w) A (Builtin.Slice.sliceApplied (.ref sl) (pure (n : Int))) Q E s := by
  obtain ⟨os, hos, hcs, hds⟩ := id hs
  unfold Builtin.Slice.sliceApplied Builtin.Slice.sliceFields
  refine wpAny_bind (wpAny_bind (wpAny_field hos hds (x := vl) rfl (wpAny_bind (wpAny_field hos hds (x := vu) rfl (wpAny_bind (wpAny_field hos hds (x := .none) rfl (wpAny_pure ?_)))))))
  refine wpAny_bind (slicePart_none ?_)
  show wpAny _ _ (if ((1 : Int) == 0) = true then _ else _) _ _ s
  rw [if_neg (by decide)]
  refine wpAny_bind (slicePart_ pl (wpAny_bind (slicePart_ pu (wpAny_bind (wpAny_pure ?_)))))
  show wpAny _ _ (match Builtin.Slice.sliceAdjust lo hi 1 (n : Int) with | (lo, hi) => pure (lo, (1 : Int), Builtin.Slice.slicePlaces lo hi 1)) _ _ s
  rw [adjust_gen lo hi n]
  show wpAny _ _ (pure (((sIx n 0 lo : Nat) : Int), (1 : Int), Builtin.Slice.slicePlaces ((sIx n 0 lo : Nat) : Int) ((sIx n n hi : Nat) : Int) 1)) _ _ s
  rw [places_gen]
  exact wpAny_pure h
theorem pick_gen (xs : Array Value) (i k : Nat) : ((List.range k).filterMap fun (m : Nat) => xs[((i : Int) + (m : Int) * 1).toNat]?).toArray = ((xs.toList.drop i).take k).toArray := by
  have e : (fun (m : Nat) => xs[((i : Int) + (m : Int) * 1).toNat]?) = fun m => xs[i + m]? := by
    funext m
    have : ((i : Int) + (m : Int) * 1).toNat = i + m := by bv_omega
    rw [this]
  rw [e]
  have := pick_run xs i k
  rw [List.filterMap_map] at this
  have e2 : ((fun x => xs[x]?) ∘ fun x => i + x) = fun m => xs[i + m]? := rfl
  rw [e2] at this
  rw [this]
theorem getItem_tuple_cut {t sl : Addr} {items : Array Value} {vl vu : Value} {lo hi : Option Int} {Q : Value → Shared → Prop} (ht : IsTup s.heap t items) (hs : s.heap.IsSliceOf sl vl vu .none) (pl : IsPart vl lo) (pu : IsPart vu hi)
    (hw : ¬ (sIx items.size 0 lo = 0 ∧ sIx items.size items.size hi = items.size))
    (h : Q (.ref s.heap.objs.size) { s with heap := s.heap.push { cls := .type "tuple", data := .seq ((items.toList.drop (sIx items.size 0 lo)).take (sIx items.size items.size hi - sIx items.size 0 lo)).toArray } })
    (hsz : items.size ≤ sizeLine) : wpAny (model prog w) A (getItem (.ref t) (.ref sl)) Q E s := by
  have htake : sizeOk (.seq ((items.toList.drop (sIx items.size 0 lo)).take (sIx items.size items.size hi - sIx items.size 0 lo)).toArray) := by
    show ((items.toList.drop (sIx items.size 0 lo)).take (sIx items.size items.size hi - sIx items.size 0 lo)).toArray.size ≤ sizeLine
    rw [List.size_toArray, List.length_take, List.length_drop, Array.length_toList]
    bv_omega
  have hj : sIx items.size items.size hi ≤ items.size := sIx_le _ _ (Nat.le_refl _) hi
  obtain ⟨os, hos, hcs, hds⟩ := id hs
  have hTs : s.TypeIs (.ref sl) "slice" := ⟨os, hos, hcs⟩
  unfold getItem
  try with_reducible refine wpAny_holding ?_
  first | refine wpAny_bind (wpAny_pure ?_) | skip
  refine wpAny_bind (wpAny_sequenceKey ht.typeIs (by decide) ?_)
  refine wpAny_bind (wpAny_callSpecial?_slot (name := Str.ofString "__getitem__") ht.typeIs PyProof.Rows.slot_tuple_getitem
    (wpAny_call_entry PyProof.Rows.slot_tuple_getitem ht.typeIs entry_tuple_getitem ?_ (args_tuple_getitem _ _)))
  show wpAny _ _ (Builtin.Tuple.tupleItemsOf (.ref t) >>= _) _ _ s
  refine wpAny_bind (tupleItemsOf_ ht ?_)
  refine wpAny_bind (wpAny_typeOf hTs ?_)
  rw [if_pos (by decide)]
  refine wpAny_bind (sliceApplied_gen hs pl pu ?_)
  have hno : ¬ ((((sIx items.size 0 lo : Nat) : Int) == 0 && (1 : Int) == 1 && (sIx items.size items.size hi - sIx items.size 0 lo) == items.size) = true) := by
    intro q
    rw [Bool.and_eq_true, Bool.and_eq_true] at q
    have q1 : ((sIx items.size 0 lo : Nat) : Int) = 0 := eq_of_beq q.1.1
    have q2 : sIx items.size items.size hi - sIx items.size 0 lo = items.size := eq_of_beq q.2
    exact hw ⟨by bv_omega, by bv_omega⟩
  show wpAny _ _ (if (((sIx items.size 0 lo : Nat) : Int) == 0 && (1 : Int) == 1 && (sIx items.size items.size hi - sIx items.size 0 lo) == items.size) = true then _ else _) _ _ s
  rw [if_neg hno, pick_gen]
  first
    | exact wpAny_bind (m := Builtin.Tuple.tupleExact _) (wpAny_newObj_type (wpAny_pure ⟨_, rfl, wpAny_pure h⟩) htake)
    | exact wpAny_bind (m := Builtin.Tuple.tupleExact _) (wpAny_newObj_type (wpAny_bind (wpAny_pure (wpAny_pure ⟨_, rfl, wpAny_pure h⟩))) htake)
    | exact wpAny_bind (wpAny_bind (m := Builtin.Tuple.tupleExact _) (wpAny_newObj_type (wpAny_pure (wpAny_pure ⟨_, rfl, wpAny_pure h⟩)) htake))
    | exact wpAny_bind (wpAny_bind (m := Builtin.Tuple.tupleExact _) (wpAny_newObj_type (wpAny_pure ⟨_, rfl, wpAny_pure h⟩) htake))
end
end HT
namespace L2
open PySem PySem.Spec PyProof.Rows
noncomputable abbrev TO := St → Hp → (Option Int → Hp → Prop) → Prop
noncomputable def PO (X : Cx) (e : Option Expr) (t : TO) : Prop :=
  ∀ (pins : List (Addr × Obj)) (s : Shared) (σ : St) (H : Hp) (Q : Option Int → Hp → Prop), Inv X pins σ H s → t σ H Q →
    wpAny (model X.prog X.w) X.A (evalPart e X.env) (fun u s' => ∃ o H', Inv X pins σ H' s' ∧ IsPart u o ∧ Q o H') X.xe s
noncomputable def tNoPart : TO := fun _ H Q => Q none H
noncomputable def tPart (t : TE) : TO := fun σ H Q => t σ H fun x H1 => ∃ i, x = .int i ∧ Q (some i) H1
theorem intsAre_of {ns : List Int} : ∀ {us : List Value}, Vals (ns.map V.int) us → IntsAre us ns := by
  induction ns with
  | nil => intro us r; rw [List.map_nil] at r; cases r; exact .nil
  | cons n ns ih =>
    intro us r
    rw [List.map_cons] at r
    cases r with
    | cons r1 r2 =>
      obtain ⟨t, e⟩ := r1
      subst e
      exact .cons n t (ih r2)
section
variable {X : Cx} {e : Expr} {te : TE} {lo hi : Option Expr} {tl th : TO} {pos p2 : Pos}
theorem po_none : PO X none tNoPart := by
  intro pins s σ H Q I h
  rw [evalPart_none]
  exact wpAny_pure ⟨none, H, I, .none, h⟩
theorem po_some (h : PE X e te) : PO X (some e) (tPart te) := by
  intro pins s σ H Q I hw
  rw [evalPart_some]
  refine thn (h pins s σ H _ I hw) fun u s1 ⟨x, H1, I1, r1, q1⟩ => ?_
  obtain ⟨i, rfl, q⟩ := q1
  obtain ⟨t, rfl⟩ := r1
  exact ⟨some i, H1, I1, .int i t, q⟩
noncomputable def SlR (X : Cx) (r : V → Option Int → Option Int → Hp → VK → Prop) : Prop :=
  ∀ (pins : List (Addr × Obj)) (s : Shared) (σ : St) (H : Hp) (x : V) (v vl vu : Value) (lo hi : Option Int) (sl : Addr) (Q : VK), Inv X pins σ H s → RelV x v → s.heap.IsSliceOf sl vl vu .none → IsPart vl lo → IsPart vu hi → r x lo hi H Q →
    ∃ T id, typeLookup (.type T) "__getitem__" = pure (some (.builtin id)) ∧ s.TypeIs v T ∧ wpAny (model X.prog X.w) X.A (getItem v (.ref sl)) (EP X pins σ Q) X.xe s
theorem SlR.or {r r' : V → Option Int → Option Int → Hp → VK → Prop} (h : SlR X r) (h' : SlR X r') : SlR X (fun x lo hi H Q => r x lo hi H Q ∨ r' x lo hi H Q) := by
  intro pins s σ H x v vl vu lo hi sl Q I rx hs pl pu q
  rcases q with q | q
  · exact h pins s σ H x v vl vu lo hi sl Q I rx hs pl pu q
  · exact h' pins s σ H x v vl vu lo hi sl Q I rx hs pl pu q
noncomputable def tSl (r : V → Option Int → Option Int → Hp → VK → Prop) (te : TE) (tl th : TO) : TE := fun σ H Q => te σ H fun x H1 => tl σ H1 fun l H2 => th σ H2 fun u H3 => r x l u H3 Q
theorem pe_slice {r : V → Option Int → Option Int → Hp → VK → Prop} (hr : SlR X r) (he : PE X e te) (hl : PO X lo tl) (hu : PO X hi th) : PE X (.Subscript e (.Slice lo hi none p2) pos) (tSl r te tl th) := by
  intro pins s σ H Q I h
  refine Subscript_ (thn (he pins s σ H _ I h) fun v s1 ⟨x, H1, I1, r1, q1⟩ => ?_)
  refine wpAny_Slice (thn (hl pins s1 σ H1 _ I1 q1) fun vl s2 ⟨l, H2, I2, pl, q2⟩ => thn (hu pins s2 σ H2 _ I2 q2) fun vu s3 ⟨u, H3, I3, pu, q3⟩ => ?_)
  rw [evalPart_none]
  refine wpAny_pure ?_
  have I4 : Inv X pins σ H3 { s3 with heap := s3.heap.push { cls := .type "slice", data := .fields #[vl, vu, .none] } } := I3.kept (t' := s3.toks) fun b ob q => Heap.get?_push_of_some _ q
  obtain ⟨T, id, hT, ht, hg⟩ := hr pins { s3 with heap := s3.heap.push { cls := .type "slice", data := .fields #[vl, vu, .none] } } σ H3 x v vl vu l u s3.heap.objs.size Q I4 r1 (Heap.IsSliceOf.new ..) pl pu q3
  show wpAny (model X.prog X.w) X.A (subscriptTail e (.Slice lo hi none p2) v (.ref s3.heap.objs.size)) (EP X pins σ Q) X.xe { s3 with heap := s3.heap.push { cls := .type "slice", data := .fields #[vl, vu, .none] } }
  exact tail_any (ops := [.ref s3.heap.objs.size, v]) ht hT hg (by with_unfolding_all rfl)
noncomputable def cutV (xs : List V) (lo hi : Option Int) : List V := (xs.drop (HT.sIx xs.length 0 lo)).take (HT.sIx xs.length xs.length hi - HT.sIx xs.length 0 lo)
theorem cutV_length (xs : List V) (lo hi : Option Int) : (cutV xs lo hi).length ≤ xs.length := by
  unfold cutV
  rw [List.length_take, List.length_drop]
  bv_omega
noncomputable def rSlT (K : PySem.W.Frag) : V → Option Int → Option Int → Hp → VK → Prop := fun x lo hi H Q => ∃ a xs, x = .ref a ∧ SqT K H a xs ∧
  ¬ (HT.sIx xs.length 0 lo = 0 ∧ HT.sIx xs.length xs.length hi = xs.length) ∧ ∀ p, H p = none → Q (.ref p) (upd H p (.tup (cutV xs lo hi)))
theorem sl_tup : SlR X (rSlT X.K) := by
  intro pins s σ H x v vl vu lo hi sl Q I rx hs pl pu h
  obtain ⟨a, xs, rfl, hx, hw, q⟩ := h
  cases rx
  obtain ⟨its, r, ht, hz⟩ := I.tuple hx
  have hlen : its.toArray.size = xs.length := by rw [List.size_toArray]; exact r.length.symm
  refine ⟨"tuple", _, PyProof.Rows.slot_tuple_getitem.lookup, ht.typeIs, ?_⟩
  refine HT.getItem_tuple_cut ht hs pl pu (by rw [hlen]; exact hw) ?_ (by rw [hlen]; exact hz)
  rw [hlen]
  refine ⟨.ref s.heap.objs.size, _, I.laid (t' := s.toks) (o := .tup (cutV xs lo hi)) (fun b ob q => Heap.get?_push_of_some _ q) (Nat.le_refl _) ?_, rfl, q _ (I.hok.fresh (Nat.le_refl _))⟩
  exact ⟨Nat.le_trans (cutV_length xs lo hi) hz, _, (r.drop (HT.sIx xs.length 0 lo)).take (HT.sIx xs.length xs.length hi - HT.sIx xs.length 0 lo), TupAt.new _ _⟩
end
end L2
namespace L2
open PySem PySem.Spec PyProof.Rows
noncomputable def ixN (n : Nat) (i : Int) : Option Nat := if 0 ≤ i then (if i < n then some i.toNat else none) else if -(n : Int) ≤ i then some (i + n).toNat else none
noncomputable def atI {α : Type} (xs : List α) (i : Int) : Option α := (ixN xs.length i).bind fun j => xs[j]?
theorem ixN_seq {n : Nat} {i : Int} {j : Nat} (h : ixN n i = some j) : seqIndex? i n = some j ∧ j < n ∧ -(n : Int) ≤ i ∧ i < n := by
  unfold ixN at h
  by_cases h0 : 0 ≤ i
  · rw [if_pos h0] at h
    by_cases h1 : i < n
    · rw [if_pos h1] at h
      have e : i.toNat = j := Option.some.inj h
      exact ⟨by rw [seqIndex_of h0 h1, e], by bv_omega, by bv_omega, h1⟩
    · rw [if_neg h1] at h; cases h
  · rw [if_neg h0] at h
    by_cases h1 : -(n : Int) ≤ i
    · rw [if_pos h1] at h
      have e : (i + n).toNat = j := Option.some.inj h
      exact ⟨by rw [seqIndex_neg (by bv_omega) h1, e], by bv_omega, h1, by bv_omega⟩
    · rw [if_neg h1] at h; cases h
theorem atI_get {α : Type} {xs : List α} {i : Int} {v : α} (h : atI xs i = some v) : ∃ j, seqIndex? i xs.length = some j ∧ xs[j]? = some v ∧ j < xs.length ∧ -(xs.length : Int) ≤ i ∧ i < xs.length := by
  unfold atI at h
  cases e : ixN xs.length i with
  | none => rw [e] at h; cases h
  | some j =>
    rw [e] at h
    obtain ⟨h1, h2, h3, h4⟩ := ixN_seq e
    exact ⟨j, h1, h, h2, h3, h4⟩
theorem atI_nat {α : Type} {xs : List α} {j : Nat} {v : α} (h : xs[j]? = some v) : atI xs (j : Int) = some v := by
  have hj : j < xs.length := (List.getElem?_eq_some_iff.mp h).1
  have e : ixN xs.length (j : Int) = some j := by
    unfold ixN
    rw [if_pos (by bv_omega), if_pos (by bv_omega)]; simp
  unfold atI; rw [e]; exact h
theorem atI_last {α : Type} (xs : List α) (v : α) : atI (xs ++ [v]) (-1) = some v := by
  have hl : (xs ++ [v]).length = xs.length + 1 := by simp
  have e : ixN (xs ++ [v]).length (-1) = some xs.length := by
    unfold ixN
    rw [hl, if_neg (by decide), if_pos (by bv_omega)]
    congr 1
    bv_omega
  unfold atI
  rw [e]
  show (xs ++ [v])[xs.length]? = some v
  simp
noncomputable def PlainIx (b : Expr) : Prop := ∀ o i, subscripted b false o i = operate [o, i] (getItem o i)
noncomputable def IxR (X : Cx) (r : R2) : Prop :=
  ∀ (value slice : Expr) (pins : List (Addr × Obj)) (s : Shared) (σ : St) (H : Hp) (x y : V) (v u : Value) (Q : VK), Inv X pins σ H s → RelV x v → RelV y u → r x y H Q →
    subscripted slice false v u = operate [v, u] (getItem v u) → wpAny (model X.prog X.w) X.A (subscriptTail value slice v u) (EP X pins σ Q) X.xe s
noncomputable def MtR (X : Cx) (id : String) (r : V → List V → Hp → VK → Prop) : Prop :=
  ∀ (pins : List (Addr × Obj)) (s : Shared) (σ : St) (H : Hp) (x : V) (xs : List V) (v : Value) (us : List Value) (Q : VK), Inv X pins σ H s → RelV x v → Vals xs us → r x xs H Q →
    wpAny (model X.prog X.w) X.A (call (.builtin id) (v :: us)) (EP X pins σ Q) X.xe s
section
variable {X : Cx} {a b : Expr} {ta tb : TE} {pos : Pos}
theorem IxR.or {r r' : R2} (h : IxR X r) (h' : IxR X r') : IxR X (fun x y H Q => r x y H Q ∨ r' x y H Q) := by
  intro value slice pins s σ H x y v u Q I rx ry q hs
  rcases q with q | q
  · exact h value slice pins s σ H x y v u Q I rx ry q hs
  · exact h' value slice pins s σ H x y v u Q I rx ry q hs
theorem MtR.or {id : String} {r r' : V → List V → Hp → VK → Prop} (h : MtR X id r) (h' : MtR X id r') : MtR X id (fun x xs H Q => r x xs H Q ∨ r' x xs H Q) := by
  intro pins s σ H x xs v us Q I rx rs q
  rcases q with q | q
  · exact h pins s σ H x xs v us Q I rx rs q
  · exact h' pins s σ H x xs v us Q I rx rs q
theorem pe_ix {r : R2} (hr : IxR X r) (ha : PE X a ta) (hb : PE X b tb) (hs : PlainIx b) : PE X (.Subscript a b pos) (tOp r ta tb) := by
  intro pins s σ H Q I h
  exact Subscript_ (binT ha hb I h fun v u s2 x y H2 I2 rx ry q => hr a b pins s2 σ H2 x y v u Q I2 rx ry q (hs _ _))
noncomputable def rIxL (K : PySem.W.Frag) : R2 := fun x y H Q => ∃ p xs i v, x = .ref p ∧ y = .int i ∧ SqL K H p xs ∧ atI xs i = some v ∧ Q v H
noncomputable def rIxT (K : PySem.W.Frag) : R2 := fun x y H Q => ∃ p xs i v, x = .ref p ∧ y = .int i ∧ SqT K H p xs ∧ atI xs i = some v ∧ Q v H
noncomputable def rIxS : R2 := fun x y H Q => ∃ z i c, x = .str z ∧ y = .int i ∧ z.length ≤ sizeLine ∧ atI z.cps.toList i = some c ∧ Q (.str ⟨#[c]⟩) H
theorem ix_list : IxR X (rIxL X.K) := by
  intro value slice pins s σ H x y v u Q I rx ry h hs
  obtain ⟨p, xs, i, z, rfl, rfl, hq, he, q⟩ := h
  cases rx
  obtain ⟨t, rfl⟩ := ry
  obtain ⟨its, r, pl, hz⟩ := I.list hq
  obtain ⟨j, h1, h2, h3, h4, h5⟩ := atI_get he
  obtain ⟨w, ew, rw'⟩ := r.get h2
  have hl := r.length
  have hn := line63
  have fin : EP X pins σ Q w s := ⟨z, H, I, rw', q⟩
  by_cases h0 : 0 ≤ i
  · have hj : i.toNat = j := by
      rw [seqIndex_of h0 h5] at h1
      exact Option.some.inj h1
    exact item_listR pl.isList h0 (by bv_omega) (by rw [hj]; simpa using ew) fin hs
  · have hj : (i + (its.toArray.size : Int)).toNat = j := by
      rw [seqIndex_neg (by bv_omega) h4] at h1
      rw [List.size_toArray, ← hl]
      exact Option.some.inj h1
    exact subscriptTail_builtinR (x := w) pl.isList.typeIs slot_list_getitem.lookup
      (wpAny_getItem_list_neg (Q := fun r s' => r = w ∧ EP X pins σ Q r s') pl.isList (by bv_omega) (by rw [List.size_toArray] <;> bv_omega) (by bv_omega) (by rw [hj]; simpa using ew) ⟨rfl, fin⟩) hs
theorem ix_tup : IxR X (rIxT X.K) := by
  intro value slice pins s σ H x y v u Q I rx ry h hs
  obtain ⟨p, xs, i, z, rfl, rfl, hq, he, q⟩ := h
  cases rx
  obtain ⟨t, rfl⟩ := ry
  obtain ⟨its, r, pl, hz⟩ := I.tuple hq
  obtain ⟨j, h1, h2, h3, h4, h5⟩ := atI_get he
  obtain ⟨w, ew, rw'⟩ := r.get h2
  have hl := r.length
  have hn := line63
  have fin : EP X pins σ Q w s := ⟨z, H, I, rw', q⟩
  exact subscriptTail_builtinR (x := w) pl.typeIs slot_tuple_getitem.lookup
    (getItem_tuple (j := j) (Q := fun r s' => r = w ∧ EP X pins σ Q r s') pl (by bv_omega) (by bv_omega) (by rw [List.size_toArray, ← hl]; exact h1) (by simpa using ew) ⟨rfl, fin⟩) hs
theorem ix_str : IxR X rIxS := by
  intro value slice pins s σ H x y v u Q I rx ry h hs
  obtain ⟨z, i, c, rfl, rfl, hz, he, q⟩ := h
  obtain ⟨t, rfl⟩ := rx
  obtain ⟨t', rfl⟩ := ry
  obtain ⟨j, h1, h2, h3, h4, h5⟩ := atI_get he
  have hl : z.cps.toList.length = z.length := by simp [Str.length]
  rw [hl] at h1 h4 h5
  have hn := line63
  exact tail_any (typeIs_str s z t) slot_str_getitem.lookup (getItem_str (c := c) (by
    have e1 : decide (i < -(2 ^ 63 : Int)) = false := decide_eq_false (by bv_omega)
    have e2 : decide (i ≥ 2 ^ 63) = false := decide_eq_false (by bv_omega)
    rw [e1, e2, Bool.or_false]) (by rw [h1]; simpa using h2) ⟨.str ⟨#[c]⟩, H, I.tok _, ⟨_, rfl⟩, q⟩) hs
noncomputable def rIx (K : PySem.W.Frag) : R2 := fun x y H Q => rIxL K x y H Q ∨ rIxT K x y H Q ∨ rIxS x y H Q
theorem ix_seq : IxR X (rIx X.K) := ix_list.or (ix_tup.or ix_str)
theorem mapSeq_set (its : List Value) (n j : Nat) (u : Value) : Obj.mapSeq (·.setIfInBounds j u) { cls := .type "list", data := .seq its.toArray n } = { cls := .type "list", data := .seq (its.set j u).toArray n } := by
  simp [Obj.mapSeq]
theorem Inv.lst {pins : List (Addr × Obj)} {σ : St} {H : Hp} {s : Shared} {p : Addr} {xs : List V} (I : Inv X pins σ H s) (h : H p = some (.lst xs)) :
    ∃ (its : List Value) (n : Nat), Vals xs its ∧ s.heap.get? p = some { cls := .type "list", data := .seq its.toArray n } ∧ xs.length ≤ sizeLine := by
  obtain ⟨z, its, n, r, e⟩ := I.hok p _ h
  exact ⟨its, n, r, e, z⟩
theorem Inv.lstUpd {pins : List (Addr × Obj)} {σ : St} {H : Hp} {s : Shared} {p : Addr} {xs ys : List V} {its its' : List Value} {n n' : Nat} {f : Obj → Obj} (I : Inv X pins σ H s) (h : H p = some (.lst xs))
    (ho : s.heap.get? p = some { cls := .type "list", data := .seq its.toArray n }) (hf : f { cls := .type "list", data := .seq its.toArray n } = { cls := .type "list", data := .seq its'.toArray n' }) (r : Vals ys its') (hz : ys.length ≤ sizeLine) (t : Nat) :
    Inv X pins σ (upd H p (.lst ys)) { s with heap := s.heap.update p f, toks := t } := by
  have e : (s.heap.update p f).get? p = some { cls := .type "list", data := .seq its'.toArray n' } := by
    rw [Heap.get?_update_self f ho (by rw [hf] <;> rfl), hf]
  refine I.write (x := p) (e := p) (by rw [h]; trivial) (.inl rfl) (fun b u hb q => (Heap.get?_update_other _ _ (Ne.symm hb)).trans q) ⟨_, e⟩ ?_
  exact ⟨hz, its', n', r, e⟩
noncomputable def rSetL : V → V → V → Hp → (Hp → Prop) → Prop := fun o i v H Q => ∃ p xs k j, o = .ref p ∧ i = .int k ∧ H p = some (.lst xs) ∧ ixN xs.length k = some j ∧ Q (upd H p (.lst (xs.set j v)))
theorem set_list : PSet X rSetL := by
  intro pins s σ H o i v ov iv u Q I ro ri rv h
  obtain ⟨p, xs, k, j, rfl, rfl, hp, hj, q⟩ := h
  cases ro
  obtain ⟨t, rfl⟩ := ri
  obtain ⟨its, n, r, ho, hz⟩ := I.lst hp
  obtain ⟨h1, h2, h3, h4⟩ := ixN_seq hj
  have hl := r.length
  have hn := line63
  have I' : Inv X pins σ (upd H p (.lst (xs.set j v))) { s with heap := s.heap.update p (Obj.mapSeq (·.setIfInBounds j u)) } :=
    I.lstUpd hp ho (mapSeq_set its n j u) (r.set rv j) (by rw [List.length_set]; exact hz) s.toks
  by_cases h0 : 0 ≤ k
  · have hk : k.toNat = j := by
      rw [seqIndex_of h0 h4] at h1
      exact Option.some.inj h1
    exact PySem.W.ki_setAt ho h0 (by bv_omega) (by rw [List.size_toArray, ← hl]; exact h4) (by rw [hk]; exact ⟨_, I', q⟩)
  · have hk : (k + (its.toArray.size : Int)).toNat = j := by
      rw [seqIndex_neg (by bv_omega) h3] at h1
      rw [List.size_toArray, ← hl]
      exact Option.some.inj h1
    exact PySem.W.ki_setBack ho (by bv_omega) (by rw [List.size_toArray, ← hl]; exact h3) (by bv_omega) (by rw [hk]; exact ⟨_, I', q⟩)
theorem slice_bounds (lo hi : Option Int) (n : Nat) : (sliceBounds lo hi none n).1 = ((HT.sIx n 0 lo : Nat) : Int) ∧ (sliceBounds lo hi none n).2.1 = ((HT.sIx n n hi : Nat) : Int) ∧ (sliceBounds lo hi none n).2.2 = 1 := by
  refine ⟨?_, ?_, rfl⟩
  · cases lo with
    | none => simp [sliceBounds, HT.sIx]
    | some i =>
      simp only [sliceBounds, HT.sIx, Option.getD_none, show (1 : Int) > 0 by decide, if_true]
      by_cases h : i < 0
      · simp only [h, if_true] <;> bv_omega
      · simp only [h, if_false] <;> bv_omega
  · cases hi with
    | none => simp [sliceBounds, HT.sIx]
    | some i =>
      simp only [sliceBounds, HT.sIx, Option.getD_none, show (1 : Int) > 0 by decide, if_true]
      by_cases h : i < 0
      · simp only [h, if_true] <;> bv_omega
      · simp only [h, if_false] <;> bv_omega
theorem slicePick_cut (its : List Value) (lo hi : Option Int) : slicePick its.toArray lo hi none = ((its.drop (HT.sIx its.length 0 lo)).take (HT.sIx its.length its.length hi - HT.sIx its.length 0 lo)).toArray := by
  obtain ⟨h1, h2, h3⟩ := slice_bounds lo hi its.toArray.size
  unfold slicePick
  rw [h1, h2, h3]
  simp only [sliceRange_one, pick_run, List.size_toArray] <;> rfl
noncomputable def rSlL (K : PySem.W.Frag) : V → Option Int → Option Int → Hp → VK → Prop := fun x lo hi H Q => ∃ a xs, x = .ref a ∧ SqL K H a xs ∧ ∀ p, H p = none → Q (.ref p) (upd H p (.lst (cutV xs lo hi)))
theorem sl_list : SlR X (rSlL X.K) := by
  intro pins s σ H x v vl vu lo hi sl Q I rx hs pl pu h
  obtain ⟨a, xs, rfl, hx, q⟩ := h
  cases rx
  obtain ⟨its, r, ht, hz⟩ := I.list hx
  have hlen := r.length
  refine ⟨"list", _, slot_list_getitem.lookup, ht.isList.typeIs, ?_⟩
  refine wpAny_getItem_list_slice ht.isList hs pl pu .none (by simp) ?_ (by rw [List.size_toArray] <;> bv_omega)
  rw [slicePick_cut, ← hlen]
  refine ⟨.ref s.heap.objs.size, _, I.laid (t' := s.toks) (o := .lst (cutV xs lo hi)) (fun b ob q => Heap.get?_push_of_some _ q) (Nat.le_refl _) ?_, rfl, q _ (I.hok.fresh (Nat.le_refl _))⟩
  exact ⟨Nat.le_trans (cutV_length xs lo hi) hz, _, 0, (r.drop (HT.sIx xs.length 0 lo)).take (HT.sIx xs.length xs.length hi - HT.sIx xs.length 0 lo), Heap.get?_push_size _ rfl⟩
noncomputable def flatV : V → Bool
  | .non => true
  | .bl _ => true
  | .int _ => true
  | .str _ => true
  | _ => false
noncomputable def eqV : V → V → Bool
  | .non, .non => true
  | .bl a, .bl b => a == b
  | .bl a, .int b => (if a then 1 else 0) == b
  | .int a, .bl b => a == (if b then 1 else 0)
  | .int a, .int b => a == b
  | .str a, .str b => a == b
  | _, _ => false
theorem eqAt_V {A : Around} {s : Shared} {y x : V} {u v : Value} (ry : RelV y u) (rx : RelV x v) (fy : flatV y = true) (fx : flatV x = true) : SeqAt.EqAt A s u v (eqV y x) := by
  cases y with
  | non =>
    cases ry
    cases x with
    | non => cases rx; exact SeqAt.EqAt.same _
    | bl b => cases rx; exact SeqAt.EqAt.none_bool b
    | int b => obtain ⟨t, rfl⟩ := rx; exact SeqAt.EqAt.none_int b t
    | str b => obtain ⟨t, rfl⟩ := rx; exact SeqAt.EqAt.none_str b t
    | _ => exact absurd (show false = true from fx) Bool.false_ne_true
  | bl a =>
    cases ry
    cases x with
    | non => cases rx; exact SeqAt.EqAt.bool_none a
    | bl b => cases rx; exact SeqAt.EqAt.bool_bool a b
    | int b => obtain ⟨t, rfl⟩ := rx; exact SeqAt.EqAt.bool_int a b t
    | str b => obtain ⟨t, rfl⟩ := rx; exact SeqAt.EqAt.bool_str a b t
    | _ => exact absurd (show false = true from fx) Bool.false_ne_true
  | int a =>
    obtain ⟨t', rfl⟩ := ry
    cases x with
    | non => cases rx; exact SeqAt.EqAt.int_none a t'
    | bl b => cases rx; exact SeqAt.EqAt.int_bool a t' b
    | int b => obtain ⟨t, rfl⟩ := rx; exact SeqAt.EqAt.int_int a t' b t
    | str b => obtain ⟨t, rfl⟩ := rx; exact SeqAt.EqAt.int_str a t' b t
    | _ => exact absurd (show false = true from fx) Bool.false_ne_true
  | str a =>
    obtain ⟨t', rfl⟩ := ry
    cases x with
    | non => cases rx; exact SeqAt.EqAt.str_none a t'
    | bl b => cases rx; exact SeqAt.EqAt.str_bool a t' b
    | int b => obtain ⟨t, rfl⟩ := rx; exact SeqAt.EqAt.str_int a t' b t
    | str b => obtain ⟨t, rfl⟩ := rx; exact SeqAt.EqAt.str_str a t' b t
    | _ => exact absurd (show false = true from fx) Bool.false_ne_true
  | _ => exact absurd (show false = true from fy) Bool.false_ne_true
noncomputable def eqU (x : V) (u : Value) : Bool := match u with
  | .none => eqV .non x
  | .bool b => eqV (.bl b) x
  | .int i _ => eqV (.int i) x
  | .str z _ => eqV (.str z) x
  | _ => false
theorem eqU_of {x y : V} {u : Value} (r : RelV y u) (f : flatV y = true) : eqU x u = eqV y x := by
  cases y with
  | non => cases r; rfl
  | bl b => cases r; rfl
  | int i => obtain ⟨t, rfl⟩ := r; rfl
  | str z => obtain ⟨t, rfl⟩ := r; rfl
  | _ => exact absurd (show false = true from f) Bool.false_ne_true
theorem any_eqU {x : V} : ∀ {xs : List V} {us : List Value}, Vals xs us → xs.all flatV = true → us.any (eqU x) = xs.any fun y => eqV y x
  | _, _, .nil, _ => rfl
  | y :: xs, u :: us, .cons r t, f => by
    rw [List.all_cons, Bool.and_eq_true] at f
    rw [List.any_cons, List.any_cons, eqU_of r f.1, any_eqU t f.2]
theorem mem_eqAt {A : Around} {s : Shared} {x : V} {v : Value} (rx : RelV x v) (fx : flatV x = true) : ∀ {xs : List V} {us : List Value}, Vals xs us → xs.all flatV = true → ∀ u ∈ us, SeqAt.EqAt A s u v (eqU x u)
  | _, _, .nil, _ => fun u hu => by cases hu
  | y :: xs, u :: us, .cons r t, f => fun u' hu => by
    rw [List.all_cons, Bool.and_eq_true] at f
    rcases List.mem_cons.mp hu with rfl | hu
    · rw [eqU_of r f.1]; exact eqAt_V r rx f.1 fx
    · exact mem_eqAt rx fx t f.2 u' hu
noncomputable def inV (x : V) (xs : List V) : Bool := xs.any fun y => eqV y x
noncomputable def rIn (K : PySem.W.Frag) (neg : Bool) : R2 := fun x y H Q => ∃ p xs, y = .ref p ∧ (SqL K H p xs ∨ SqT K H p xs) ∧ flatV x = true ∧ xs.all flatV = true ∧ Q (.bl (if neg then !inV x xs else inV x xs)) H
theorem op_in_seq : OpR X (compareOp .In) (rIn X.K false) := by
  intro pins s σ H x y v u Q I rx ry h
  obtain ⟨p, xs, rfl, hq, fx, fs, q⟩ := h
  cases ry
  rcases hq with hq | hq
  · obtain ⟨its, r, pl, hz⟩ := I.list hq
    refine SeqAt.in_listAt (eqU x) pl.isList (fun w hw => mem_eqAt rx fx r fs w (by simpa using hw)) ⟨.bl _, H, I, rfl, ?_⟩
    rw [show its.toArray.any (eqU x) = its.any (eqU x) by simp, any_eqU r fs]
    exact q
  · obtain ⟨its, r, pl, hz⟩ := I.tuple hq
    refine SeqAt.in_tupleAt (eqU x) pl (fun w hw => mem_eqAt rx fx r fs w (by simpa using hw)) ⟨.bl _, H, I, rfl, ?_⟩
    rw [show its.toArray.any (eqU x) = its.any (eqU x) by simp, any_eqU r fs]
    exact q
theorem op_notIn_seq : OpR X (compareOp .NotIn) (rIn X.K true) := by
  intro pins s σ H x y v u Q I rx ry h
  obtain ⟨p, xs, rfl, hq, fx, fs, q⟩ := h
  cases ry
  rcases hq with hq | hq
  · obtain ⟨its, r, pl, hz⟩ := I.list hq
    refine SeqAt.notIn_listAt (eqU x) pl.isList (fun w hw => mem_eqAt rx fx r fs w (by simpa using hw)) ⟨.bl _, H, I, rfl, ?_⟩
    rw [show its.toArray.any (eqU x) = its.any (eqU x) by simp, any_eqU r fs]
    exact q
  · obtain ⟨its, r, pl, hz⟩ := I.tuple hq
    refine SeqAt.notIn_tupleAt (eqU x) pl (fun w hw => mem_eqAt rx fx r fs w (by simpa using hw)) ⟨.bl _, H, I, rfl, ?_⟩
    rw [show its.toArray.any (eqU x) = its.any (eqU x) by simp, any_eqU r fs]
    exact q
theorem call_len_seq : CallR X (.builtin "len") (fun xs H Q => ∃ p ys, xs = [.ref p] ∧ (SqL X.K H p ys ∨ SqT X.K H p ys) ∧ Q (.int ys.length) H) := by
  intro pins s σ H xs us Q I r h
  obtain ⟨p, ys, rfl, hq, q⟩ := h
  obtain ⟨u, rfl, rx⟩ := vals1 r
  cases rx
  have hn := line63
  rcases hq with hq | hq
  · obtain ⟨its, r', pl, hz⟩ := I.list hq
    have hlen := r'.length
    exact Calls.call_len_list pl.isList (by simp only [List.size_toArray] <;> bv_omega) ⟨.int ys.length, H, I.tok _, ⟨s.toks + 1, by rw [List.size_toArray, hlen]⟩, q⟩
  · obtain ⟨its, r', pl, hz⟩ := I.tuple hq
    have hlen := r'.length
    exact len_tuple pl (by simp only [List.size_toArray] <;> bv_omega) ⟨.int ys.length, H, I.tok _, ⟨s.toks + 1, by rw [List.size_toArray, hlen]⟩, q⟩
theorem call_len_str : CallR X (.builtin "len") (fun xs H Q => ∃ z, xs = [.str z] ∧ z.length ≤ sizeLine ∧ Q (.int z.length) H) := by
  intro pins s σ H xs us Q I r h
  obtain ⟨z, rfl, hz, q⟩ := h
  obtain ⟨u, rfl, t, rfl⟩ := vals1 r
  have hn := line63
  exact len_str (by bv_omega) ⟨.int z.length, H, I.tok _, ⟨_, rfl⟩, q⟩
theorem CallR.or {f : Value} {r r' : List V → Hp → VK → Prop} (h : CallR X f r) (h' : CallR X f r') : CallR X f (fun xs H Q => r xs H Q ∨ r' xs H Q) := by
  intro pins s σ H xs us Q I rs q
  rcases q with q | q
  · exact h pins s σ H xs us Q I rs q
  · exact h' pins s σ H xs us Q I rs q
theorem call_tuple_of : CallR X (.type "tuple") (fun xs H Q => ∃ p ys, xs = [.ref p] ∧ ((SqL X.K H p ys ∧ ∀ l, H l = none → Q (.ref l) (upd H l (.tup ys))) ∨ (SqT X.K H p ys ∧ Q (.ref p) H))) := by
  intro pins s σ H xs us Q I r h
  obtain ⟨p, ys, rfl, h⟩ := h
  obtain ⟨u, rfl, rx⟩ := vals1 r
  cases rx
  rcases h with ⟨hq, q⟩ | ⟨hq, q⟩
  · obtain ⟨its, r', pl, hz⟩ := I.list hq
    have hlen := r'.length
    refine call_tuple_list pl.isList (fun h' kp => ?_) (by simp only [List.size_toArray] <;> bv_omega)
    have I1 : Inv X pins σ H { s with heap := h' } := I.kept (t' := s.toks) kp
    have I2 : Inv X pins σ (upd H h'.objs.size (.tup ys)) { s with heap := h'.push { cls := .type "tuple", data := .seq its.toArray } } :=
      I1.laid (t' := s.toks) (fun b o e => Heap.get?_push_of_some _ e) (Nat.le_refl _) (show ObjOk X.prog X.w _ _ _ (.tup ys) from ⟨hz, its, r', TupAt.new _ _⟩)
    exact ⟨.ref h'.objs.size, _, I2, rfl, q _ (I1.hok.fresh (Nat.le_refl _))⟩
  · obtain ⟨its, r', pl, hz⟩ := I.tuple hq
    exact call_tuple_same pl ⟨.ref p, H, I, rfl, q⟩
noncomputable def tyV (K : PySem.W.Frag) (T : String) (x : V) (H : Hp) : Prop := match x with
  | .str _ => T = "str"
  | .int _ => T = "int"
  | .ref p => (T = "list" ∧ ∃ xs, SqL K H p xs) ∨ (T = "tuple" ∧ ((∃ o, K.lookup p = some o ∧ o.cls = .type "tuple" ∧ o.dict = none) ∨ ∃ xs, Rd H p (.tup xs))) ∨
      (T = "dict" ∧ ((∃ kvs, H p = some (.dK kvs)) ∨ ∃ kvs, H p = some (.dT kvs))) ∨ (T = "set" ∧ ∃ S n, H p = some (.set S n))
  | _ => False
theorem tyV_is {pins : List (Addr × Obj)} {σ : St} {H : Hp} {s : Shared} {T : String} {x : V} {v : Value} (I : Inv X pins σ H s) (r : RelV x v) (ty : tyV X.K T x H) :
    s.TypeIs v T ∧ ∀ a, v = .ref a → ∃ ob, s.heap.get? a = some ob ∧ ob.dict = none := by
  cases x with
  | str z =>
    obtain ⟨t, rfl⟩ := r
    cases (show T = "str" from ty)
    exact ⟨typeIs_str s z t, fun _ e => nomatch e⟩
  | int i =>
    obtain ⟨t, rfl⟩ := r
    cases (show T = "int" from ty)
    exact ⟨typeIs_int s i t, fun _ e => nomatch e⟩
  | ref p =>
    cases r
    rcases ty with ⟨rfl, xs, hq⟩ | ⟨rfl, ⟨o, hk, hc, hd⟩ | ⟨xs, hq⟩⟩ | ⟨rfl, hk⟩ | ⟨rfl, S, n, hk⟩
    · obtain ⟨its, _, pl, _⟩ := I.list hq
      refine ⟨pl.isList.typeIs, fun a e => ?_⟩
      cases e
      obtain ⟨o, n, e, c, hd, _⟩ := pl
      exact ⟨o, e, hd⟩
    · refine ⟨⟨o, I.kIn p o hk, hc⟩, fun a e => ?_⟩
      cases e
      exact ⟨o, I.kIn _ o hk, hd⟩
    · obtain ⟨_, its, _, o, e, c, _, hd⟩ := hq.ok I.hok
      refine ⟨⟨o, e, c⟩, fun a e2 => ?_⟩
      cases e2
      exact ⟨o, e, hd⟩
    · have z : ∃ o, s.heap.get? p = some o ∧ o.ExactDict := by
        rcases hk with ⟨kvs, hk⟩ | ⟨kvs, hk⟩
        · obtain ⟨_, _, _, _, o, _, _, e, ex, _⟩ := I.hok p _ hk
          exact ⟨o, e, ex⟩
        · obtain ⟨_, _, _, _, o, _, _, e, ex, _⟩ := I.hok p _ hk
          exact ⟨o, e, ex⟩
      obtain ⟨o, e, ex⟩ := z
      refine ⟨⟨o, e, ex.1⟩, fun a e2 => ?_⟩
      cases e2
      exact ⟨o, e, ex.2.1⟩
    · obtain ⟨o, _, _, _, e, ex, _⟩ := I.hok p _ hk
      refine ⟨⟨o, e, ex.1⟩, fun a e2 => ?_⟩
      cases e2
      exact ⟨o, e, ex.2.1⟩
  | _ => exact False.elim ty
noncomputable def tBM0 (K : PySem.W.Frag) (T : String) (r : V → List V → Hp → VK → Prop) (to : TE) : TE := fun σ H Q => to σ H fun x H1 => tyV K T x H1 ∧ r x [] H1 Q
noncomputable def tBM (K : PySem.W.Frag) (T : String) (r : V → List V → Hp → VK → Prop) (to : TE) (t : TA) : TE := fun σ H Q => to σ H fun x H1 => tyV K T x H1 ∧ t σ H1 fun xs H2 => r x xs H2 Q
variable {o e : Expr} {es : List Expr} {to : TE} {t : TA} {name : Str} {apos cpos : Pos} {T id : String} {r : V → List V → Hp → VK → Prop}
theorem pe_bm0 (pa : PlainAttrs T) (slot : Slot T name id) (hty : typeOf (.builtin id) = pure (.type "method_descriptor")) (hm : MtR X id r) (ho : PE X o to)
    (hbase : autoParam (attributeBase o name X.env (eval o X.env) = eval o X.env) autoK5._auto_1) (hline : autoParam ((apos.endLine == cpos.line) = true) autoK5._auto_1) : PE X (.Call (.Attribute o name apos) [] [] cpos) (tBM0 X.K T r to) := by
  intro pins s σ H Q I h
  refine wpAny_Call_method0_late hbase hline (thn (ho pins s σ H _ I h) fun v s1 ⟨x, H1, I1, r1, ty, q1⟩ => ?_)
  obtain ⟨h1, h2⟩ := tyV_is I1 r1 ty
  exact ⟨T, id, pa, slot, hty, h1, h2, Calls.callWith_builtin rfl (PySem.evalArgs_none (hm pins s1 σ H1 x [] v [] Q I1 r1 .nil q1))⟩
theorem pe_bm (pa : PlainAttrs T) (slot : Slot T name id) (hty : typeOf (.builtin id) = pure (.type "method_descriptor")) (hm : MtR X id r) (ho : PE X o to) (ha : PA X (e :: es) t)
    (hbase : autoParam (attributeBase o name X.env (eval o X.env) = eval o X.env) autoK5._auto_1)
    (hfew : ((backTo cpos (starEach (e :: es) X.env)).all (fun x => !x.1) && (backToKw cpos (keywordEach [] X.env)).all (fun x => x.1.isSome)
      && decide ((e :: es).length + ([] : List Keyword).length + (if ([] : List Keyword).isEmpty then 0 else 1) < 30)) = true := by rfl)
    (hline : autoParam ((apos.endLine == cpos.line) = true) autoK5._auto_1) (hs : autoParam (starEach (e :: es) X.env = (false, eval e X.env) :: starEach es X.env) autoK5._auto_1) (hplain : autoParam ((backTo cpos (starEach es X.env)).any (·.1) = false) autoK5._auto_1) :
    PE X (.Call (.Attribute o name apos) (e :: es) [] cpos) (tBM X.K T r to t) := by
  intro pins s σ H Q I h
  refine wpAny_Call_method_late hbase hfew hline rfl (thn (ho pins s σ H _ I h) fun v s1 ⟨x, H1, I1, r1, ty, q1⟩ => ?_)
  obtain ⟨h1, h2⟩ := tyV_is I1 r1 ty
  refine ⟨T, id, pa, slot, hty, h1, h2, ?_⟩
  have hA := ha cpos pins s1 σ H1 _ I1 q1
  rw [hs] at hA ⊢
  refine Calls.callWith_builtin (by show (false || (backTo cpos (starEach es X.env)).any (·.1)) = false; rw [hplain] <;> rfl) (Calls.evalArgs_plain ?_)
  exact thn hA fun us s2 ⟨vs, H2, I2, r2, q2⟩ => hm pins s2 σ H2 x vs v us Q I2 r1 r2 q2
end
end L2
namespace L2
open PySem PySem.Spec PyProof.Rows
noncomputable def MtM (X : Cx) (id : String) (r : V → List V → Hp → VK → Prop) : Prop :=
  ∀ (pins : List (Addr × Obj)) (s : Shared) (σ : St) (H : Hp) (x : V) (xs : List V) (v : Value) (us : List Value) (Q : VK), Inv X pins σ H s → RelV x v → Vals xs us → r x xs H Q →
    wpAny (model X.prog X.w) X.A (call (.builtin id) (v :: us)) (EP X pins σ Q) X.xe s
theorem Vals.one : ∀ {x : V} {us : List Value}, Vals [x] us → ∃ u, us = [u] ∧ RelV x u
  | _, _, .cons r .nil => ⟨_, rfl, r⟩
theorem Vals.two : ∀ {x y : V} {us : List Value}, Vals [x, y] us → ∃ u v, us = [u, v] ∧ RelV x u ∧ RelV y v
  | _, _, _, .cons r (.cons q .nil) => ⟨_, _, rfl, r, q⟩
theorem Vals.zero : ∀ {us : List Value}, Vals [] us → us = []
  | _, .nil => rfl
theorem Vals.dropLast {xs : List V} {us : List Value} (h : Vals xs us) : Vals xs.dropLast us.dropLast := by
  induction h with
  | nil => exact .nil
  | cons r t ih =>
    cases t with
    | nil => exact .nil
    | cons q t' => exact .cons r ih
theorem Vals.eraseIdx : ∀ {xs : List V} {us : List Value} (i : Nat), Vals xs us → Vals (xs.eraseIdx i) (us.eraseIdx i)
  | _, _, _, .nil => .nil
  | _, _, 0, .cons _ t => t
  | _, _, i + 1, .cons r t => .cons r (Vals.eraseIdx i t)
theorem Vals.reverse {xs : List V} {us : List Value} (h : Vals xs us) : Vals xs.reverse us.reverse := by
  induction h with
  | nil => exact .nil
  | cons r t ih => rw [List.reverse_cons, List.reverse_cons]; exact Vals.append ih (.cons r .nil)
theorem Vals.rep {xs : List V} {us : List Value} (h : Vals xs us) : ∀ k : Nat, Vals (List.replicate k xs).flatten (List.replicate k us).flatten
  | 0 => .nil
  | k + 1 => by
    rw [List.replicate_succ, List.replicate_succ, List.flatten_cons, List.flatten_cons]
    exact Vals.append h (Vals.rep h k)
theorem erase_last {α : Type} (l : List α) : l.eraseIdx (l.length - 1) = l.dropLast := by
  induction l with
  | nil => rfl
  | cons a r ih =>
    cases r with
    | nil => rfl
    | cons b r =>
      have e : (a :: b :: r).length - 1 = ((b :: r).length - 1) + 1 := by
        have h1 : (a :: b :: r).length = r.length + 2 := rfl
        have h2 : (b :: r).length = r.length + 1 := rfl
        bv_omega
      rw [e, List.eraseIdx_cons_succ, ih]
      all_goals rfl
section
variable {X : Cx} {pins : List (Addr × Obj)} {σ : St} {H : Hp} {s : Shared} {l b : Addr} {xs ys zs : List V}
theorem Inv.lset {its its' : List Value} {n : Nat} {f : Array Value → Array Value} {t' : Nat} (I : Inv X pins σ H s) (hH : H l = some (.lst xs))
    (e : s.heap.get? l = some { cls := .type "list", data := .seq its.toArray n }) (hf : f its.toArray = its'.toArray) (hv : Vals ys its') (hz : ys.length ≤ sizeLine) :
    Inv X pins σ (upd H l (.lst ys)) { s with heap := s.heap.update l (Obj.mapSeq f), toks := t' } := by
  have q := PySem.IsL.update e f
  rw [hf] at q
  refine I.write (x := l) (e := l) (by rw [hH]; exact trivial) (.inl rfl) (fun b' u hb hu => (Heap.get?_update_other s.heap (Obj.mapSeq f) (Ne.symm hb)).trans hu) ⟨_, q⟩ ?_
  exact ⟨hz, its', _, hv, q⟩
theorem Inv.lnew {its : List Value} {t' : Nat} (I : Inv X pins σ H s) (hv : Vals ys its) (hz : ys.length ≤ sizeLine) :
    Inv X pins σ (upd H s.heap.objs.size (.lst ys)) { s with heap := s.heap.push { cls := .type "list", data := .seq its.toArray }, toks := t' } :=
  I.laid (fun _ _ q => Heap.get?_push_of_some _ q) (Nat.le_refl _) ⟨hz, its, 0, hv, Heap.get?_push_size _ rfl⟩
theorem Inv.fresh (I : Inv X pins σ H s) : H s.heap.objs.size = none := I.hok.fresh (Nat.le_refl _)
theorem Inv.lstM (I : Inv X pins σ H s) (hH : H l = some (.lst xs)) : xs.length ≤ sizeLine ∧ ∃ (its : List Value) (n : Nat), Vals xs its ∧ xs.length = its.length ∧ s.heap.get? l = some { cls := .type "list", data := .seq its.toArray n } := by
  obtain ⟨z, its, n, r, e⟩ := I.hok l _ hH
  exact ⟨z, its, n, r, r.length, e⟩
end
section
variable {X : Cx}
noncomputable def rAppend : V → List V → Hp → VK → Prop := fun x vs H Q => ∃ l xs y, x = .ref l ∧ vs = [y] ∧ H l = some (.lst xs) ∧ xs.length < sizeLine ∧ Q .non (upd H l (.lst (xs ++ [y])))
theorem mt_append : MtM X "list.append" rAppend := by
  intro pins s σ H x vs v us Q I rx rv h
  obtain ⟨l, xs, y, rfl, rfl, hH, hz, q⟩ := h
  cases rx
  obtain ⟨u, rfl, ru⟩ := rv.one
  obtain ⟨z, its, n, r, hl, e⟩ := I.lstM hH
  refine call_meets F.slot_list_append ⟨_, e, rfl⟩ F.entry_list_append (F.args_list_append_2 _ _) (PySem.list_append l its.toArray n u (by rw [List.size_toArray]; bv_omega)) ⟨e, ?_⟩
  refine ⟨.non, _, I.lset (its' := its ++ [u]) hH e (by simp) (r.append (.cons ru .nil)) ?_, rfl, q⟩
  rw [List.length_append, List.length_singleton]
  bv_omega
noncomputable def rPop : V → List V → Hp → VK → Prop := fun x vs H Q => ∃ l xs y, x = .ref l ∧ vs = [] ∧ H l = some (.lst xs) ∧ xs[xs.length - 1]? = some y ∧ Q y (upd H l (.lst xs.dropLast))
theorem mt_pop : MtM X "list.pop" rPop := by
  intro pins s σ H x vs v us Q I rx rv h
  obtain ⟨l, xs, y, rfl, rfl, hH, hy, q⟩ := h
  cases rx
  have hus := rv.zero
  subst hus
  obtain ⟨z, its, n, r, hl, e⟩ := I.lstM hH
  obtain ⟨u, hu, ru⟩ := r.get hy
  have hy' : its.toArray[its.toArray.size - 1]? = some u := by
    show its.toArray[its.length - 1]? = some u
    rw [← Array.getElem?_toList, ← hl]
    exact hu
  refine call_meets F.slot_list_pop ⟨_, e, rfl⟩ F.entry_list_pop (F.args_list_pop_1 _) (MeetsSeq.list_pop_last l its.toArray n u hy' (by rw [List.size_toArray]; bv_omega)) ⟨e, ?_⟩
  refine ⟨y, _, I.lset (its' := its.dropLast) hH e ?_ r.dropLast ?_, ru, q⟩
  · show its.toArray.eraseIdxIfInBounds (its.toArray.size - 1) = its.dropLast.toArray
    rw [List.size_toArray, List.eraseIdxIfInBounds_toArray, erase_last]
  · rw [List.length_dropLast]
    bv_omega
end
section
variable {prog : Program} {w : World} {A : Around} {E : Value → Shared → Prop} {s : Shared}
end
section
variable {X : Cx}
end
end L2
namespace Att
open PySem PySem.W PySem.Calls PyProof.Rows
theorem ints_of_wellAll {P : Params} {h : Heap} : ∀ (ns : List Int) (vs : List Value), WellAll P h vs (ns.map WData.int) → IntsAre vs ns := by
  intro ns
  induction ns with
  | nil =>
    intro vs w
    rw [List.map_nil] at w
    cases w
    exact .nil
  | cons n ns ih =>
    intro vs w
    rw [List.map_cons] at w
    cases w with
    | cons a b =>
      cases a
      exact .cons _ _ (ih _ b)
theorem script_of {l : OpenLaw} {n : Nat} (hn : l.most = some n) {P : Params} {h : Heap} {args : List WData} {vals : List Value}
    (hpre : l.row.toRowW.claim.pre args = true) (hwl : WellAll P h vals args) :
    ∃ a vs ns, vals = [Value.ref a] ∧ args = [WData.list (ns.map WData.int)] ∧ h.get? a = some { cls := .type "list", data := .seq vs.toArray } ∧ IntsAre vs ns ∧ ns.length ≤ n := by
  have hsh : WShape.hasAll [] args [.list .int] = true := (pre_splitW hpre).1
  have hc : l.pre.holds [] { args := args } = true := (pre_splitW hpre).2
  obtain ⟨d, r, rfl, h1, h2⟩ := hasAllW_cons hsh
  obtain rfl := hasAllW_nil h2
  obtain ⟨xs, rfl, h3⟩ := hasW_list h1
  obtain ⟨ns, rfl⟩ := items_int h3
  have hlen : ns.length ≤ n := by
    unfold OpenLaw.pre at hc
    have h4 : (WTm.not (.lt (.lit (.int (n : Int))) (.len (.arg 0)))).holds [] { args := [.list (ns.map .int)] } = true := by
      have h4 := (holds_andW hc).1
      rw [hn] at h4
      exact h4
    have h5 := condW_of h4 (w_not (w_lt w_lit (w_len_list (w_arg rfl))))
    rw [List.length_map] at h5
    refine Nat.le_of_not_lt fun q => ?_
    have q' : (n : Int) < ((ns.length : Nat) : Int) := by bv_omega
    first
      | (rw [decide_eq_true q'] at h5; exact absurd h5 (by decide))
      | (simp at h5; bv_omega)
  cases hwl with
  | cons w1 w2 =>
    cases w2
    cases w1 with
    | list ho hall => exact ⟨_, _, ns, rfl, rfl, ho, ints_of_wellAll ns _ hall, hlen⟩
theorem post_true (l : OpenLaw) (args : List WData) : l.row.toRowW.claim.post args (.bool true) args = true :=
  postW_of (r := l.row.toRowW) (X := (true == true))
    (show WShape.has [] (.bool true) .bool = true by first | rfl | decide | simp [WShape.has, WShape.arms, WShape.armsAll])
    (show (WTm.eq .res (.lit (.bool true))).value [] { args := args, res := some (.bool true), after := args } = some (.bool (true == true)) from w_eq_bool (w_res rfl) w_lit) rfl
theorem attach_call {l : OpenLaw} {n : Nat} {q : Program} {loose : List Str} {XP : (Str → Option Value) → Heap → Prop} {YP : World → Heap → Prop} {d : DefRec}
    (hn : l.most = some n) (hdf : d.params.defaults = [])
    (call : ∀ (w : World) (s₀ s₁ : Shared) (mg mb : Str → Option Value) (fa : Addr) (o : Obj) (pm cd doc : Value) (a : Addr) (vs : List Value) (ns : List Int),
      Ground q loose [] XP w s₀ mg mb s₁.heap → YP w s₁.heap →
      s₁.heap.get? fa = some o → o.data = .func (docDef d.name d.params d.body d.scope pm cd doc) → s₁.heap.CodeRec cd d.name → mg d.name = some (.ref fa) →
      s₁.heap.get? a = some { cls := .type "list", data := .seq vs.toArray } → IntsAre vs ns → ns.length ≤ n → s₁.gens = #[] →
      codeAny (model l.prog w) callerA (.call (.ref fa) ⟨[.ref a], []⟩) (fun r s' => r = .ok (.ret (.bool true)) ∧ OldK s₁.heap s'.heap ∧ s'.os = s₁.os ∧ AllBare s'.gens) s₁) :
    WalkO q loose XP YP l.row.toRowW d [] (fun f vs => PySem.call f vs) := by
  intro w s₀ s₁ mg mb G Y fa o pm cd doc dV kV ho hd hcd hD hmg hg args vals as hpre hlay hrd hwl hlo
  obtain rfl : dV = .none := Dflts.none hD hdf
  obtain rfl : kV = .none := Dflts.noKw hD
  obtain ⟨a, vs, ns, rfl, rfl, hobj, hints, hlen⟩ := script_of hn hpre hwl
  refine enter_call (codeAny_mono (call w s₀ s₁ mg mb fa o pm cd doc a vs ns G Y ho (fd_plain hd) hcd hmg hobj hints hlen hg) fun r s' hq => ?_)
  obtain ⟨rfl, h2, h3, h4⟩ := hq
  exact ⟨.inl ⟨.bool true, .bool true, [], rfl, fun _ => rfl, .bool true, post_true l _, fun _ => ⟨List.Pairwise.nil, fun _ hm => (nomatch hm)⟩⟩, h2, h3, h4⟩
section
variable {prog : Program} {w : World} {A : Around} {E : Value → Shared → Prop} {s : Shared} {K : Frag}
end
end Att
namespace L2
open PySem PySem.Spec PyProof.Rows
theorem vals_ints : ∀ {vs : List Value} {ns : List Int}, IntsAre vs ns → Vals (ns.map V.int) vs
  | _, _, .nil => .nil
  | _, _, .cons n t h => .cons ⟨t, rfl⟩ (vals_ints h)
noncomputable def Only (H : Hp) : Prop := ∀ b, H b = none ∨ ∃ o xs, H b = some (.frz o (.lst xs))
theorem law_call {P : Program} {w : World} {K : PySem.W.Frag} {mg mb : Str → Option Value} {CX : CXT} {k : Nat} {fa a : Addr} {fd : FuncData} {x : Str} {sp : Sp} {s₁ : Shared} {vs : List Value} {ns : List Int}
    (KX : K.In s₁.heap) (hns : s₁.heap.Ns mainGlobals mg) (hb : s₁.heap.Ns builtinsNs mb) (hbb : ∀ x : Str, x ≠ "__name__" → mb x = bootBuiltins x) (hlim : s₁.heap.NoLimit) (hg : s₁.gens = #[])
    (ha : s₁.heap.get? a = some { cls := .type "list", data := .seq vs.toArray }) (hi : IntsAre vs ns) (hl : ns.length ≤ sizeLine) (hr : Room k callerA)
    (F : ∀ base : Heap, K.In base → base.Ns mainGlobals mg → FnOk P w K mg base CX k fa fd [x] sp) (hbind : ∀ (s : Shared) (u : Value), BindsTo s fd ⟨[u], []⟩ [(x, u)])
    (hsp : ∀ H : Hp, Only H → SqL K H a (ns.map V.int) → sp [.ref a] H (fun v _ => v = .bl true) fun _ _ _ => False)
    (hCX : ∀ H e s', CX [] H s₁ (fun _ _ _ => False) e s' → False) :
    codeAny (model P w) callerA (.call (.ref fa) ⟨[.ref a], []⟩) (fun r s' => r = .ok (.ret (.bool true)) ∧ OldK s₁.heap s'.heap ∧ s'.os = s₁.os ∧ AllBare s'.gens) s₁ := by
  have rv := vals_ints hi
  have lenV := hi.length
  have core : ∀ H : Hp, Only H → SqL K H a (ns.map V.int) → HOk P w H s₁.heap → (∀ b, H b ≠ none → b = a) → (H a ≠ none → K.lookup a = none) →
      codeAny (model P w) callerA (.call (.ref fa) ⟨[.ref a], []⟩) (fun r s' => r = .ok (.ret (.bool true)) ∧ OldK s₁.heap s'.heap ∧ s'.os = s₁.os ∧ AllBare s'.gens) s₁ := by
    intro H hO hS hok hA hK
    have base_of : ∀ {b : Addr} {o : Obj}, s₁.heap.get? b = some o → H b = none → (hidT s₁.heap H).get? b = some o := fun e n => hidT_get e n
    have noA : ∀ {b : Addr} {o : Obj} {es : Array DictEntry} {ep : Nat}, s₁.heap.get? b = some o → o.data = .dict es ep → H b = none := fun {b o es ep} e d => by
      cases q : H b with
      | none => rfl
      | some u =>
        have e' : b = a := hA b (by rw [q]; simp)
        subst e'
        rw [ha] at e; cases e
        have d' : Data.seq vs.toArray _ = Data.dict es ep := d
        cases d'
    have nsK : ∀ {b : Addr} {m : Str → Option Value}, s₁.heap.Ns b m → (hidT s₁.heap H).Ns b m := fun {b m} ⟨o, es, ep, e, d, r⟩ => ⟨o, es, ep, base_of e (noA e d), d, r⟩
    have hKb : K.In (hidT s₁.heap H) := fun b o e => base_of (KX b o e) (by
      cases q : H b with
      | none => rfl
      | some u =>
        have e' : b = a := hA b (by rw [q]; simp)
        subst e'
        rw [hK (by rw [q]; simp)] at e; cases e)
    have hM : Mod K mg (hidT s₁.heap H) := ⟨hKb, nsK hns, ⟨mb, nsK hb, hbb⟩, let ⟨mc, h1, h2⟩ := hlim; ⟨mc, nsK h1, h2⟩⟩
    have e0 : Env0 P w K mg (hidT s₁.heap H) callerA [] s₁ H := ⟨rfl, hM, fun b o e => of_hidT e, Nat.le_of_eq (hidT_size _ _), trivial, fun b hb => absurd (show b ∈ ([] : List Addr) from hb) (by simp), hok, .of_eq hg⟩
    refine codeAny_mono ((F _ hKb (nsK hns)).run callerA [] s₁ H ⟨[.ref a], []⟩ [.ref a] [.ref a] _ _ hr e0 (hbind s₁ (.ref a)) (.cons rfl .nil) (hsp H hO hS)) fun r s' h => ?_
    cases r with
    | error e => exact (hCX H e s' h).elim
    | ok fl =>
      cases fl with
      | next => exact False.elim h
      | brk => exact False.elim h
      | cont => exact False.elim h
      | ret u =>
        obtain ⟨v, H', os, bare, un, hok', r', q⟩ := h
        have q' : v = .bl true := q
        subst q'
        obtain rfl : u = Value.bool true := r'
        refine ⟨rfl, OldK.of_keep fun b o e => ?_, os, bare⟩
        cases q : H b with
        | none => exact un.keep b o e q (by intro z; exact absurd (show b ∈ ([] : List Addr) from z) (by simp)) (by simp)
        | some u =>
          rcases hO b with z | ⟨ob, xs, z⟩
          · rw [q] at z; cases z
          · have z2 := un.frzs b ob _ z
            obtain ⟨e1, _⟩ := hok b _ z
            obtain ⟨e2, _⟩ := hok' b _ z2
            rw [e] at e1; cases e1
            exact e2
  cases hk : K.lookup a with
  | some o =>
    have e := KX a o hk
    rw [ha] at e
    cases e
    refine core (fun _ => none) (fun _ => .inl rfl) (.inr ⟨_, vs.toArray, _, hk, rfl, rfl, rfl, by rw [List.size_toArray, lenV]; exact hl, by simpa using rv⟩) (fun b u z => by have z' : (none : Option HO) = some u := z; cases z') (fun b z => absurd rfl z) fun z => absurd rfl z
  | none =>
    refine core (fun b => if b = a then some (.frz { cls := .type "list", data := .seq vs.toArray } (.lst (ns.map V.int))) else none) (fun b => ?_) (.inl (.inr ⟨{ cls := .type "list", data := .seq vs.toArray }, if_pos rfl⟩)) (fun b u z => ?_) (fun b z => ?_) fun _ => hk
    · by_cases hb : b = a
      · exact .inr ⟨_, _, if_pos hb⟩
      · exact .inl (if_neg hb)
    · by_cases hb : b = a
      · have z' := (if_pos hb).symm.trans z
        cases z'
        subst hb
        exact ⟨ha, by rw [List.length_map]; exact hl, vs, _, rv, ha⟩
      · have z' := (if_neg hb).symm.trans z
        cases z'
    · by_cases hb : b = a
      · exact hb
      · exact absurd (if_neg hb) z
end L2
namespace L2
open PySem PySem.Spec PyProof.Rows
noncomputable abbrev KOf {K : PySem.W.Frag} {h : Heap} (_ : K.In h) : PySem.W.Frag := K
theorem walk_of {l : PySem.W.OpenLaw} {n k : Nat} {q : Program} {loose : List Str} {XP : (Str → Option Value) → Heap → Prop} {YP : World → Heap → Prop} {d : DefRec} {K : Params → PySem.W.Frag} {CX : World → CXT} {sp : World → Sp} {x : Str}
    (hn : l.most = some n) (hn2 : n ≤ sizeLine) (hdf : d.params.defaults = []) (hr : Room k callerA)
    (hY : ∀ (w : World) (h : Heap), YP w h → (K w.params).In h)
    (F : ∀ (w : World) (mg : Str → Option Value) (fa : Addr) (h : Heap), (K w.params).In h → h.Ns mainGlobals mg → mg d.name = some (.ref fa) →
      ∃ fd : FuncData, (∀ (s : Shared) (u : Value), BindsTo s fd ⟨[u], []⟩ [(x, u)]) ∧
        ∀ base : Heap, (K w.params).In base → base.Ns mainGlobals mg → FnOk l.prog w (K w.params) mg base (CX w) k fa fd [x] (sp w))
    (hsp : ∀ (w : World) (H : Hp) (a : Addr) (ns : List Int), ns.length ≤ n → Only H → SqL (K w.params) H a (ns.map V.int) → sp w [.ref a] H (fun v _ => v = .bl true) fun _ _ _ => False)
    (hCX : ∀ (w : World) (H : Hp) (s : Shared) (e : Value) (s' : Shared), CX w [] H s (fun _ _ _ => False) e s' → False) :
    PySem.W.WalkO q loose XP YP l.row.toRowW d [] (fun f vs => PySem.call f vs) := by
  refine Att.attach_call hn hdf fun w s₀ s₁ mg mb fa o pm cd doc a vs ns G Y ho hd hcd hmg hobj hints hlen hg => ?_
  have KX := hY w _ Y
  obtain ⟨fd, hb, hF⟩ := F w mg fa _ KX G.T.g hmg
  exact law_call KX G.T.g G.T.b G.T.builtins G.T.nolimit hg hobj hints (Nat.le_trans hlen hn2) hr hF hb (fun H hO hS => hsp w H a ns hlen hO hS) fun H e s' => hCX w H s₁ e s'
end L2
namespace L2
open PySem PySem.Spec PyProof.Rows
noncomputable def defArgs (s : Stmt) : Arguments := match s with
  | .FunctionDef _ a _ _ _ _ _ _ _ _ => a
  | _ => { posonlyargs := [], args := [], vararg := none, kwonlyargs := [], kw_defaults := [], kwarg := none, defaults := [] }
noncomputable def defBody (s : Stmt) : List Stmt := match s with
  | .FunctionDef _ _ b _ _ _ _ _ _ _ => b
  | _ => []
noncomputable def defScope (s : Stmt) : Scope := match s with
  | .FunctionDef _ _ _ _ _ _ sc _ _ _ => sc
  | _ => { kind := .function, names := [], isGenerator := false, isCoroutine := false }
noncomputable abbrev CX0 : CXT := fun _ _ _ _ _ _ => False
noncomputable abbrev E0 : XK := fun _ _ _ => False
theorem pass0 {X : Cx} : Passes CX0 X E0 := fun _ _ _ _ _ _ _ h => h.elim
structure Fun (K : PySem.W.Frag) (x qual : Str) (st : Stmt) (f : Addr) (fd : FuncData) : Prop where
  ex : ∃ (oc : Value) (od : Option Addr) (kV doc pm : Value) (an : Option Addr) (cdv ct : Value) (osl : Array (Option Value)),
    fd = PySem.W.fnOf x qual (defArgs st) (defBody st) (defScope st) .none kV doc pm an cdv ct ∧ K.lookup f = some ⟨oc, od, .func fd, osl⟩ ∧ PySem.W.codeIn K cdv qual = true
  kp : PySem.W.keepIn K (.ref f) = true
section
variable {P : Program} {w : World} {K : PySem.W.Frag} {mg : Str → Option Value} {base : Heap}
theorem Fun.ok {x qual : Str} {st : Stmt} {f : Addr} {fd : FuncData} {N ps : List Str} {k : Nat} {sp : Sp} (F : Fun K x qual st f fd) (S : FnScope N ps (defScope st)) (len : ∀ vs H Q E, sp vs H Q E → vs.length = ps.length)
    (hbody : ∀ (cdv : Value) (A : Around) (outer : List Env) (s : Shared) (H : Hp) (vs : List V) (Q : VK) (E : XK), Room k (A.deeper (envOfC qual (defScope st) s.heap.objs.size f cdv)) → sp vs H Q E →
      ∃ t, PSs (cxOf CX0 P w K mg base N qual (defScope st) f cdv A outer s H E).nox (defBody st) t ∧ t { nx := fun _ H' => Q .non H', rt := Q } (start N vs) H) : FnOk P w K mg base CX0 (k + 1) f fd ps sp := by
  obtain ⟨oc, od, kV, doc, pm, an, cdv, ct, osl, rfl, lk, hcd⟩ := F.ex
  refine fn_of lk hcd S len fun A outer s H vs Q E hr hsp => ?_
  obtain ⟨t, h, q⟩ := hbody cdv A outer s H vs Q E hr hsp
  exact ⟨t, h.nox, q⟩
theorem Fun.binds {x qual : Str} {st : Stmt} {f : Addr} {fd : FuncData} {ps : List Str} (F : Fun K x qual st f fd)
    (h : ∀ (kV doc pm : Value) (an : Option Addr) (cdv ct : Value) (us : List Value), us.length = ps.length → bindArgs (PySem.W.fnOf x qual (defArgs st) (defBody st) (defScope st) .none kV doc pm an cdv ct) ⟨us, []⟩ = pure (ps.zip us)) : Binds K fd ps [] := by
  obtain ⟨oc, od, kV, doc, pm, an, cdv, ct, osl, rfl, lk, hcd⟩ := F.ex
  exact .all (h kV doc pm an cdv ct)
theorem fun_mk {x qual : Str} {st : Stmt} {f : Addr} {oc : Value} {od an : Option Addr} {osl : Array (Option Value)} {kV doc pm cdv ct : Value} (l : K.lookup f = some ⟨oc, od, .func (PySem.W.fnOf x qual (defArgs st) (defBody st) (defScope st) .none kV doc pm an cdv ct), osl⟩)
    (c : PySem.W.codeIn K cdv qual = true) (k : PySem.W.keepIn K (.ref f) = true) : Fun K x qual st f (PySem.W.fnOf x qual (defArgs st) (defBody st) (defScope st) .none kV doc pm an cdv ct) := ⟨⟨oc, od, kV, doc, pm, an, cdv, ct, osl, rfl, l, c⟩, k⟩
end
theorem small1000 {n : Nat} (h : n ≤ 1000) : n < sizeLine := Nat.lt_of_le_of_lt h (by decide)
section
variable {X : Cx}
theorem pv (i : Nat) {x : Str} {pos : Pos} (hN : autoParam (X.N[i]? = some x) autoK5._auto_1) (hv : autoParam (Vis X.env.scope x) autoK8._auto_1) (hd : autoParam ((x == ("__debug__" : Str)) = false) autoK2._auto_1)
    (hcd : autoParam ((x == ("__classdict__" : Str)) = false) autoK2._auto_1) : PE X (.Name x pos) (tVar i) := pe_var hN hv hd hcd
end
theorem iteF {A B : Prop} (h : B) : if false = true then A else B := by
  rw [if_neg Bool.false_ne_true]
  exact h
theorem iteT {A B : Prop} (h : A) : if true = true then A else B := by
  rw [if_pos rfl]
  exact h
noncomputable def Same (H H' : Hp) : Prop := ∀ b o, H b = some o → H' b = some o
theorem Same.refl (H : Hp) : Same H H := fun _ _ h => h
theorem Same.trans {H H1 H2 : Hp} (a : Same H H1) (b : Same H1 H2) : Same H H2 := fun c o h => b c o (a c o h)
theorem Same.free {H H' : Hp} (e : Same H H') {l : Addr} (h : H' l = Option.none) : H l = Option.none := by
  cases q : H l with
  | none => rfl
  | some o =>
    rw [e l o q] at h
    cases h
theorem Same.seq {K : PySem.W.Frag} {H H' : Hp} {a : Addr} {xs : List V} (e : Same H H') (h : SqL K H a xs) : SqL K H' a xs := by
  rcases h with (h | ⟨o, h⟩) | h
  · exact .inl (.inl (e _ _ h))
  · exact .inl (.inr ⟨o, e _ _ h⟩)
  · exact .inr h
end L2
set_option maxHeartbeats 2000000
namespace PySem
section
variable {prog : Program} {w : World} {A : Around} {E : Value → Shared → Prop} {s : Shared}
theorem walk_list {l : Addr} {its : Array Value} {P : Value → Shared → Prop} (hh : A.handled = none) (hl : s.heap.IsList l its)
    (k : ∀ (I : Addr) (hp : Heap) (St : Nat → Heap → Prop), Walks prog w A I [I, l] [I] its.size (fun i v => its[i]? = some v) St → St 0 hp → I < hp.objs.size → l < hp.objs.size → (∀ b o, s.heap.get? b = some o → b ≠ I ∧ hp.get? b = some o) → P (.ref I) { s with heap := hp }) :
    wpAny (model prog w) A (pyIter (.ref l)) P E s := by
  have on : ∀ {b : Addr} {o : Obj}, s.heap.get? b = some o → b < s.heap.objs.size := fun g => Heap.lt_size g
  have ll : l < s.heap.objs.size := let ⟨_, g, _⟩ := hl; on g
  refine wpAny_pyIter_list hl (k _ _ _ (Walks.list hh _ l (Nat.ne_of_lt ll) its) ⟨⟨_, Heap.get?_push_size _ rfl, rfl, rfl⟩, hl.at fun _ g => Heap.get?_push_of_some _ g⟩ ?_ ?_ fun b o g => ⟨Nat.ne_of_lt (on g), Heap.get?_push_of_some _ g⟩)
  · exact Nat.lt_of_lt_of_eq (Nat.lt_succ_self _) (Heap.size_push ..).symm
  · exact Nat.lt_of_lt_of_eq (Nat.lt_succ_of_lt ll) (Heap.size_push ..).symm
theorem walk_tup {l : Addr} {its : Array Value} {P : Value → Shared → Prop} (hh : A.handled = none) (hl : s.heap.IsTuple l its)
    (k : ∀ (I : Addr) (hp : Heap) (St : Nat → Heap → Prop), Walks prog w A I [I, l] [I] its.size (fun i v => its[i]? = some v) St → St 0 hp → I < hp.objs.size → l < hp.objs.size → (∀ b o, s.heap.get? b = some o → b ≠ I ∧ hp.get? b = some o) → P (.ref I) { s with heap := hp }) :
    wpAny (model prog w) A (pyIter (.ref l)) P E s := by
  have on : ∀ {b : Addr} {o : Obj}, s.heap.get? b = some o → b < s.heap.objs.size := fun g => Heap.lt_size g
  have ll : l < s.heap.objs.size := let ⟨_, g, _⟩ := hl; on g
  refine wpAny_pyIter_tuple hl (k _ _ _ (Walks.tuple hh _ l (Nat.ne_of_lt ll) its) ⟨⟨_, Heap.get?_push_size _ rfl, rfl, rfl⟩, hl.at fun _ g => Heap.get?_push_of_some _ g⟩ ?_ ?_ fun b o g => ⟨Nat.ne_of_lt (on g), Heap.get?_push_of_some _ g⟩)
  · exact Nat.lt_of_lt_of_eq (Nat.lt_succ_self _) (Heap.size_push ..).symm
  · exact Nat.lt_of_lt_of_eq (Nat.lt_succ_of_lt ll) (Heap.size_push ..).symm
theorem tup_next {it : Addr} {P : Value → Shared → Prop} (ty : s.TypeIs (.ref it) "tuple_iterator")
    (k : wpAny (model prog w) A.in1 (Builtin.«tuple_iterator.__next__» ⟨[.ref it], []⟩) (fun f x => ∃ v, f = .done (.ret v) ∧ P v x) E s) : wpAny (model prog w) A (Builtin.SmallTypes.nextOf (.ref it)) P E s := by
  have sl := F.slot_tuple_iterator_next
  have en := F.entry_tuple_iterator_next
  have ok := F.args_tuple_iterator_next_1 (.ref it)
  have c : wpAny (model prog w) A (call (.builtin "tuple_iterator.__next__") [.ref it]) P E s := wpAny_call_entry sl ty en k ok
  unfold Builtin.SmallTypes.nextOf
  exact wpAny_bind (wpAny_callSpecial?_slot ty sl (wpAny_mono c (fun v x z => wpAny_pure z) fun _ _ z => z))
section
variable {it t : Addr} {i : Nat} {its : Array Value}
theorem tup_item {v : Value} {P : Value → Shared → Prop} (hI : s.heap.IsTupleIter it t i) (hT : s.heap.IsTuple t its) (at_ : its[i]? = some v)
    (k : ∀ h', h'.IsTupleIter it t (i + 1) → Heap.SameBut it s.heap h' → P v { s with heap := h' }) : wpAny (model prog w) A (Builtin.SmallTypes.nextOf (.ref it)) P E s := by
  refine tup_next hI.typeIs ?_
  obtain ⟨o, a1, a2, a3⟩ := hI
  obtain ⟨ot, b1, b2, n, b3⟩ := hT
  have f0 : ∀ (P : Value → Shared → Prop) (E' : Value → Shared → Prop), P (.ref t) s → wpAny (model prog w) A.in1 (field (.ref it) 0) P E' s := fun P E' p => wpAny_field a1 a3 rfl p
  have f1 : ∀ (P : Value → Shared → Prop) (E' : Value → Shared → Prop), P (.int i 0) s → wpAny (model prog w) A.in1 (field (.ref it) 1) P E' s := fun P E' p => wpAny_field a1 a3 rfl p
  have at' : its[(i : Int).toNat]? = some v := at_
  wp_walk using f0, f1, wpAny_seqItems b1 b3, wpAny_setField a1 a3
  rw [at']
  refine wpAny_bind (wpAny_setField a1 a3 (by simp) (wpAny_pure ⟨v, rfl, k _ ⟨_, Heap.get?_update_self _ a1 ?_, ?_, ?_⟩ (Heap.SameBut.update ..)⟩))
  · exact Obj.isFreed_of_fields (Obj.data_mapFields a3 _)
  · rw [Obj.cls_mapFields, a2]
  · rw [Obj.data_mapFields a3]; rfl
theorem tup_end {P : Value → Shared → Prop} (hA : A.handled = none) (hI : s.heap.IsTupleIter it t i) (hT : s.heap.IsTuple t its) (at_ : its[i]? = none)
    (k : ∀ h' e, Heap.ExtBut it s.heap h' → (∃ o, h'.get? e = some o ∧ o.cls = .type "StopIteration") → E (.ref e) { s with heap := h' }) : wpAny (model prog w) A (Builtin.SmallTypes.nextOf (.ref it)) P E s := by
  refine tup_next hI.typeIs ?_
  obtain ⟨o, a1, a2, a3⟩ := hI
  obtain ⟨ot, b1, b2, n, b3⟩ := hT
  have f0 : ∀ (P : Value → Shared → Prop) (E' : Value → Shared → Prop), P (.ref t) s → wpAny (model prog w) A.in1 (field (.ref it) 0) P E' s := fun P E' p => wpAny_field a1 a3 rfl p
  have f1 : ∀ (P : Value → Shared → Prop) (E' : Value → Shared → Prop), P (.int i 0) s → wpAny (model prog w) A.in1 (field (.ref it) 1) P E' s := fun P E' p => wpAny_field a1 a3 rfl p
  have at' : its[(i : Int).toNat]? = none := at_
  have hA' : A.in1.handled = none := hA
  wp_walk using f0, f1, wpAny_seqItems b1 b3, wpAny_setField a1 a3, wpAny_raiseNew_none hA'
  rw [at']
  refine wpAny_bind (wpAny_rule (wpAny_bind (wpAny_setField a1 a3 (by simp) ?_)))
  unfold Builtin.SmallTypes.stopIteration
  wp_walk using wpAny_raiseNew_none hA'
  exact k _ _ (((Heap.SameBut.update ..).extBut.push _).push _) ⟨_, Heap.get?_push_size _ rfl, rfl⟩
end
theorem block_new {M : Model} {scope : Scope} {g bi : Addr} {cl : List (Str × Addr)} {qual : Str} {cd : Value} {outer : Env} {P : Value → Env → Shared → Prop} (nocell : ∀ y ∈ scope.names, y.2 ≠ .cell) (kind : scope.kind = .function)
    (k : ∀ (D C : Addr) (hp : Heap) (m : Str → Option Value), s.heap.objs.size ≤ D → s.heap.objs.size ≤ C → D ≠ C → (∀ b o, s.heap.get? b = some o → hp.get? b = some o) → hp.get? D = some { cls := .type "list", data := .seq #[] } → hp.Ns C m → P (.ref D) (newEnv scope C g cl qual none cd (some outer) bi) { s with heap := hp }) :
    wpAny M A (newList []) (fun acc x => wpAny M A (newFunctionEnv scope g cl [] qual none cd (some outer) bi) (fun e y => P acc e y) E x) E s := by
  unfold newList
  refine wpAny_newObj_type (wpAny_newFunctionEnv nocell (fun _ z => nomatch z) (fun hp ns sb => ?_) kind)
  have z : (s.heap.push { cls := .type "list", data := .seq #[] }).objs.size = s.heap.objs.size + 1 := Heap.size_push ..
  have up : ∀ b o, (s.heap.push { cls := .type "list", data := .seq #[] }).get? b = some o → hp.get? b = some o := fun b o q => sb.extBut b o (Nat.ne_of_lt (Heap.lt_size q)) (Heap.get?_push_of_some _ q)
  exact k _ _ hp _ (Nat.le_refl _) (by show _ ≤ (s.heap.push _).objs.size; rw [Heap.size_push]; bv_omega) (by show _ ≠ (s.heap.push _).objs.size; rw [Heap.size_push]; bv_omega) (fun b o q => up b o (Heap.get?_push_of_some _ q)) (up _ _ (Heap.get?_push_size _ rfl)) ns
theorem enum_by {x : Value} {oI : Obj} {Q : Value → Shared → Prop} (alive : oI.isFreed = false) (it : ∀ (B : Around) (P E' : Value → Shared → Prop), P (.ref s.heap.objs.size) { s with heap := s.heap.push oI } → wpAny (model prog w) B (pyIter x) P E' s)
    (k : ∀ h', IsEnum h' (s.heap.objs.size + 1) s.heap.objs.size 0 .none → h'.get? s.heap.objs.size = some oI → (∀ b o, s.heap.get? b = some o → h'.get? b = some o) → Q (.ref (s.heap.objs.size + 1)) { s with heap := h' }) : wpAny (model prog w) A (call (.type "enumerate") [x]) Q E s := by
  refine callType_newIn F.called_enumerate (by decide) (F.typeCall_enumerate_1 _) (F.newCall_enumerate_1 _) (fun o => F.args_object_init_2 o _) F.entry_enumerate_new
    (S := fun B R t => t = s ∧ B = A.in1 ∧ R = wants (fun v y => y.TypeIs v "enumerate" ∧ Q v y) E) (.of_wp fun B R t h => ?_) ⟨rfl, rfl, rfl⟩
  obtain ⟨rfl, rfl, rfl⟩ := h
  have u := sub_enumerate
  have sz : (t.heap.push oI).objs.size = t.heap.objs.size + 1 := Heap.size_push ..
  have fin : ∀ v : Value, v = .ref (t.heap.push oI).objs.size → Q v { t with heap := (t.heap.push oI).push { cls := .type "enumerate", data := .fields #[.none, .bool false, .ref t.heap.objs.size, rawInt 0, .none, .none] } } := fun v e => by
    subst e
    rw [sz]
    exact k _ (by rw [← sz]; exact Heap.get?_push_size _ rfl) (Heap.get?_push_of_some _ (Heap.get?_push_size _ alive)) fun b o g => Heap.get?_push_of_some _ (Heap.get?_push_of_some _ g)
  wp_walk
  refine wpAny_stack_any (fun st => wpAny_pure ?_)
  split
  · generalize (_ == Value.type "enumerate") = b
    cases b
    all_goals
      wp_walk using it A.in1.in1
      exact ⟨_, rfl, ⟨_, Heap.get?_push_size _ rfl, rfl⟩, fin _ rfl⟩
  · wp_walk using it A.in1.in1
    exact ⟨_, rfl, ⟨_, Heap.get?_push_size _ rfl, rfl⟩, fin _ rfl⟩
end
end PySem
set_option maxHeartbeats 2000000
namespace PySem
section
variable {prog : Program} {w : World} {A : Around} {E : Value → Shared → Prop} {s : Shared}
end
end PySem
set_option maxHeartbeats 4000000
namespace L2
open PySem PySem.Spec PyProof.Rows
theorem HOk.track {P : Program} {w : World} {H : Hp} {h : Heap} {a : Addr} {o : HO} (x : HOk P w H h) (hn : H a = none) (new : ObjOk P w (upd H a o) h a o) : HOk P w (upd H a o) h := fun b u e => by
  by_cases hb : b = a
  · subst hb; rw [upd_same] at e; cases e; exact new
  · rw [upd_ne hb] at e
    exact (x b u e).stay (fun c v _ q => q) (fun c q => by rw [upd_ne (ne_of_none q hn)]; exact q) fun c xs q => by rw [upd_ne (ne_of_none q hn)]; exact q
noncomputable def clos (cells : List (Str × Addr)) : List (Str × NameKind) → List (Str × Addr) → List (Str × Addr)
  | [], acc => acc
  | (n, k) :: r, acc => if k == .free then clos cells r ((n, (cells.lookup n).getD 0) :: acc) else clos cells r acc
theorem closureLoop_eq {env : Env} : ∀ (names : List (Str × NameKind)) (acc : List (Str × Addr)), (∀ n, (n, NameKind.free) ∈ names → ∃ c, env.cells.lookup n = some c) →
    (forIn names acc fun (x : Str × NameKind) (r : List (Str × Addr)) => (do
      let (name, kind) := x
      if kind == .free then do
        let c ← cellOf env name
        pure (ForInStep.yield ((name, c) :: r))
      else pure (ForInStep.yield r) : Sem (ForInStep (List (Str × Addr))))) = pure (clos env.cells names acc)
  | [], acc, _ => rfl
  | (n, k) :: r, acc, h => by
    rw [List.forIn_cons]
    by_cases hk : (k == NameKind.free) = true
    · have ek : k = NameKind.free := by simpa using hk
      obtain ⟨c, hc⟩ := h n (by rw [ek]; exact List.mem_cons_self)
      have e1 : cellOf env n = pure c := by unfold cellOf; rw [hc]
      simp only [hk, if_true, e1, pure_bind]
      rw [closureLoop_eq r _ fun m hm => h m (List.mem_cons_of_mem _ hm)]
      show _ = pure (if (k == NameKind.free) = true then clos env.cells r ((n, (env.cells.lookup n).getD 0) :: acc) else clos env.cells r acc)
      rw [if_pos hk, hc]
      rfl
    · simp only [hk, if_false, pure_bind, Bool.false_eq_true]
      rw [closureLoop_eq r _ fun m hm => h m (List.mem_cons_of_mem _ hm)]
      show _ = pure (if (k == NameKind.free) = true then clos env.cells r ((n, (env.cells.lookup n).getD 0) :: acc) else clos env.cells r acc)
      rw [if_neg hk]
theorem closureFor_eq {scope : Scope} {env : Env} (h : ∀ n, (n, NameKind.free) ∈ scope.names → ∃ c, env.cells.lookup n = some c) : closureFor scope env = pure (clos env.cells scope.names []) := by
  unfold closureFor
  have := closureLoop_eq (env := env) scope.names [] h
  simp only [] at this ⊢
  rw [show (forIn scope.names ([] : List (Str × Addr)) fun (x : Str × NameKind) (r : List (Str × Addr)) => (do
      if x.2 == .free then do
        let c ← cellOf env x.1
        pure (ForInStep.yield ((x.1, c) :: r))
      else pure (ForInStep.yield r) : Sem (ForInStep (List (Str × Addr))))) = pure (clos env.cells scope.names []) from this]
  rfl
theorem clos_sub {cells : List (Str × Addr)} : ∀ (names : List (Str × NameKind)) (acc : List (Str × Addr)), (∀ n, (n, NameKind.free) ∈ names → ∃ c, cells.lookup n = some c) → (∀ x c, acc.lookup x = some c → cells.lookup x = some c) →
    ∀ x c, (clos cells names acc).lookup x = some c → cells.lookup x = some c
  | [], acc, _, ha, x, c, e => ha x c e
  | (n, k) :: r, acc, h, ha, x, c, e => by
    unfold clos at e
    by_cases hk : (k == NameKind.free) = true
    · rw [if_pos hk] at e
      have ek : k = NameKind.free := by simpa using hk
      obtain ⟨d, hd⟩ := h n (by rw [ek]; exact List.mem_cons_self)
      refine clos_sub r _ (fun m hm => h m (List.mem_cons_of_mem _ hm)) (fun y z q => ?_) x c e
      rw [hd, Option.getD_some, List.lookup_cons] at q
      by_cases hy : (y == n) = true
      · simp only [hy] at q
        have ey : y = n := by simpa using hy
        cases q
        rw [ey]; exact hd
      · simp only [hy] at q
        exact ha y z q
    · rw [if_neg hk] at e
      exact clos_sub r _ (fun m hm => h m (List.mem_cons_of_mem _ hm)) ha x c e
theorem clos_acc {cells : List (Str × Addr)} : ∀ (names : List (Str × NameKind)) (acc : List (Str × Addr)) (x : Str), (∃ c, acc.lookup x = some c) → ∃ c, (clos cells names acc).lookup x = some c
  | [], acc, x, h => h
  | (n, k) :: r, acc, x, h => by
    unfold clos
    by_cases hk : (k == NameKind.free) = true
    · rw [if_pos hk]
      refine clos_acc r _ x ?_
      rw [List.lookup_cons]
      by_cases hy : (x == n) = true
      · simp only [hy]; exact ⟨_, rfl⟩
      · simp only [hy]; exact h
    · rw [if_neg hk]; exact clos_acc r _ x h
theorem clos_has {cells : List (Str × Addr)} : ∀ (names : List (Str × NameKind)) (acc : List (Str × Addr)) (x : Str), (x, NameKind.free) ∈ names → ∃ c, (clos cells names acc).lookup x = some c
  | (n, k) :: r, acc, x, h => by
    unfold clos
    rcases List.mem_cons.mp h with e | e
    · cases e
      rw [if_pos (by rfl)]
      refine clos_acc r _ _ ?_
      rw [List.lookup_cons]
      simp only [beq_self_eq_true]
      exact ⟨_, rfl⟩
    · by_cases hk : (k == NameKind.free) = true
      · rw [if_pos hk]; exact clos_has r _ x e
      · rw [if_neg hk]; exact clos_has r _ x e
theorem relabel_by (env : Env) : ∃ f : Str × NameKind → Str × NameKind, (∀ sc : Scope, (relabel sc env).names = sc.names.map f) ∧ ∀ q, f q = q ∨ (q.2 = .free ∧ f q = (q.1, .cell)) := by
  refine ⟨_, fun _ => rfl, fun q => ?_⟩
  dsimp only
  split
  · rename_i z
    exact .inr ⟨eq_of_beq (Bool.and_eq_true_iff.mp (Bool.and_eq_true_iff.mp z).1).1, rfl⟩
  · exact .inl rfl
theorem lookup_by {f : Str × NameKind → Str × NameKind} (hf : ∀ q, f q = q ∨ (q.2 = .free ∧ f q = (q.1, .cell))) (x : Str) : ∀ l : List (Str × NameKind), (l.map f).lookup x = l.lookup x ∨ (l.lookup x = some .free ∧ (l.map f).lookup x = some .cell)
  | [] => .inl rfl
  | (n, k) :: r => by
    have ih := lookup_by hf x r
    rw [List.map_cons]
    rcases hf (n, k) with e | ⟨e1, e⟩
    · rw [e]
      cases q : x == n with
      | true => exact .inl (by rw [List.lookup_cons, List.lookup_cons, q])
      | false => simpa only [List.lookup_cons, q] using ih
    · cases e1
      rw [e]
      cases q : x == n with
      | true => exact .inr ⟨by rw [List.lookup_cons, q], by rw [List.lookup_cons, q]⟩
      | false => simpa only [List.lookup_cons, q] using ih
theorem relabel_look (sc : Scope) (env : Env) (x : Str) : (relabel sc env).names.lookup x = sc.names.lookup x ∨ (sc.names.lookup x = some .free ∧ (relabel sc env).names.lookup x = some .cell) := by
  obtain ⟨f, e, hf⟩ := relabel_by env
  rw [e sc]
  exact lookup_by hf x sc.names
theorem relabel_back {sc : Scope} {env : Env} {x : Str} {k : NameKind} (h : (relabel sc env).names.lookup x = some k) : sc.names.lookup x = some k ∨ (k = .cell ∧ sc.names.lookup x = some .free) := by
  rcases relabel_look sc env x with e | ⟨e1, e2⟩
  · exact .inl (e.symm.trans h)
  · exact .inr ⟨Option.some.inj (h.symm.trans e2), e1⟩
theorem relabel_free {sc : Scope} {env : Env} {x : Str} (h : sc.names.lookup x = some .free) : (relabel sc env).names.lookup x = some .cell ∨ (relabel sc env).names.lookup x = some .free := by
  rcases relabel_look sc env x with e | ⟨_, e⟩
  · exact .inr (e.trans h)
  · exact .inl e
noncomputable def cxComp (X : Cx) (N : List Str) (scope : Scope) (C : Addr) (fp : List Addr) (s₂ : Shared) (H : Hp) : Cx where
  prog := X.prog
  w := X.w
  K := X.K
  mg := X.mg
  base := X.base
  A := X.A
  N := N
  s₀ := s₂
  H₀ := H
  env := compEnvC scope (clos X.env.cells scope.names []) C X.env
  outer := X.stack
  stack := X.stack
  ex := fp
  fn := fun _ => false
  calm := X.calm
  pn := []
  xe := fun _ _ => False
structure CompScope (sc0 scope : Scope) (N0 : List Str) (xt : Str) (fs : List Str) (js : List Nat) : Prop where
  kind : scope.kind = .function
  nocell : ∀ y ∈ scope.names, y.2 ≠ .cell
  names : ∀ y ∈ scope.names, y.2 = .local → scope.names.lookup y.1 = some .local
  tgt : scope.names.lookup xt = some .local
  frees : ∀ y ∈ scope.names, y.2 = .free → sc0.names.lookup y.1 = some .cell ∨ sc0.names.lookup y.1 = some .free
  len : js.length = fs.length
  slots : ∀ p ∈ fs.zip js, N0[p.2]? = some p.1 ∧ scope.names.lookup p.1 = some .free
  nd : (xt :: fs).Nodup
theorem zip_mem {α β : Type} : ∀ {fs : List α} {js : List β} {i : Nat} {y : α} {j : β}, fs[i]? = some y → js[i]? = some j → (y, j) ∈ fs.zip js
  | [], _, _, _, _, h, _ => by simp at h
  | _ :: _, [], _, _, _, _, h => by simp at h
  | a :: fs, b :: js, 0, y, j, h, h' => by
    simp at h h'
    subst h h'
    exact List.mem_cons_self
  | a :: fs, b :: js, i + 1, y, j, h, h' => by
    rw [List.zip_cons_cons]
    exact List.mem_cons_of_mem _ (zip_mem (i := i) (by simpa using h) (by simpa using h'))
noncomputable def compSt (σ : St) (js : List Nat) (v : Option V) : St := v :: js.map fun j => (σ[j]?).join
section
variable {X : Cx} {pins : List (Addr × Obj)} {σ : St} {H : Hp} {s₂ s₄ : Shared} {sc0 scope : Scope} {N0 : List Str} {xt : Str} {fs : List Str} {js : List Nat} {fp : List Addr}
theorem CompScope.cells (S : CompScope sc0 scope N0 xt fs js) (h0 : X.env.scope = sc0) (ok : X.Ok) : ∀ n, (n, NameKind.free) ∈ scope.names → ∃ c, X.env.cells.lookup n = some c := fun n hn => ok.has n (by subst h0; exact S.frees _ hn rfl)
theorem CompScope.sub (S : CompScope sc0 scope N0 xt fs js) (h0 : X.env.scope = sc0) (ok : X.Ok) : ∀ x c, (clos X.env.cells scope.names []).lookup x = some c → X.env.cells.lookup x = some c :=
  clos_sub scope.names [] (S.cells h0 ok) fun x c e => by simp at e
theorem Inv.block (S : CompScope sc0 scope N0 xt fs js) (h0 : X.env.scope = sc0) (hN0 : X.N = N0) (I : Inv X pins σ H s₂) (hf : ∀ b ∈ fp, FpOk X pins H b) (hfo : ∀ b ∈ fp, ∃ o, s₂.heap.get? b = some o)
    (hos : s₄.os = s₂.os) (hg : AllBare s₄.gens) (hk : ∀ b o, s₂.heap.get? b = some o → s₄.heap.get? b = some o) {C : Addr} (hC : s₂.heap.objs.size ≤ C) {m : Str → Option Value} (hn : s₄.heap.Ns C m) :
    Inv (cxComp X (xt :: fs) scope C fp s₂ H) [] (compSt σ js none) H s₄ := by
  have sub := S.sub h0 I.ok
  have blt : ∀ b ∈ fp, b < s₂.heap.objs.size := fun b hb => let ⟨o, e⟩ := hfo b hb; Heap.lt_size e
  have ok : (cxComp X (xt :: fs) scope C fp s₂ H).Ok := by
    refine ⟨I.ok.mod, S.kind, I.ok.glob, I.ok.blt, hC, fun x y c h1 h2 => I.ok.inj x y c (sub x c h1) (sub y c h2), fun x hx => ?_, fun x c h => (nomatch h), I.ok.hd, I.ok.frames, .inl rfl, fun b hb => ⟨?_, fun x c h => (hf b hb).2.2.2.2.1 x c (sub x c h)⟩, I.bs, Nat.le_trans I.ok.bsz I.sz, fun b o e hb => ?_, fun b hb hs => ?_, I.stack, I.stkFree⟩
    · have hx : (relabel scope X.env).names.lookup x = some .cell ∨ (relabel scope X.env).names.lookup x = some .free := hx
      have hfree : scope.names.lookup x = some .free := by
        rcases hx with hx | hx
        · rcases relabel_back hx with q | ⟨_, q⟩
          · exact absurd rfl (S.nocell _ (PySem.mem_of_lookup q))
          · exact q
        · rcases relabel_back hx with q | ⟨q, _⟩
          · exact q
          · cases q
      exact clos_has scope.names [] x (PySem.mem_of_lookup hfree)
    · exact Nat.ne_of_lt (Nat.lt_of_lt_of_le (blt b hb) hC)
    · rcases (hf b hb).2.2.2.1 with z | z
      · exact I.ok.noex b o e z
      · exact absurd (Nat.lt_of_lt_of_le (Heap.lt_size (I.ok.bs b o e).1) z) (Nat.lt_irrefl _)
    · rcases List.mem_cons.mp (I.stkSub b hs) with z | z
      · exact (hf b hb).2.1 z
      · exact (hf b hb).2.2.1 z
  refine ⟨ok, hos, hg, Un.kept hk, ⟨m, hn, fun i x v e1 e2 e3 => ?_⟩, fun x c e => ?_, I.hok.fresh hC, fun x c e => I.freeC x c (sub x c e), fun p hp => absurd (show p ∈ ([] : List (Addr × Obj)) from hp) (by simp), I.hok.kept hk, ?_⟩
  · cases i with
    | zero => cases e2
    | succ i =>
      have e1 : fs[i]? = some x := e1
      have e2 : (js.map fun j => (σ[j]?).join)[i]? = some (some v) := e2
      rw [List.getElem?_map] at e2
      cases ej : js[i]? with
      | none => rw [ej] at e2; cases e2
      | some j =>
        rw [ej] at e2
        have e2 : (σ[j]?).join = some v := Option.some.inj e2
        obtain ⟨hN, hfr⟩ := S.slots _ (zip_mem e1 ej)
        have hN : X.N[j]? = some x := by rw [hN0]; exact hN
        have hk2 : X.env.kindOf x = some .cell ∨ X.env.kindOf x = some .free := by subst h0; exact S.frees _ (PySem.mem_of_lookup hfr) rfl
        have hs : σ[j]? = some (some v) := by
          cases q : σ[j]? with
          | none => rw [q] at e2; cases e2
          | some z => rw [q] at e2; rw [show z = some v from e2]
        obtain ⟨m0, hn0, hl⟩ := I.loc
        obtain ⟨u, r, l⟩ := hl j x v hN hs (by rcases hk2 with z | z; exact .inr (.inl z); exact .inr (.inr z))
        refine ⟨u, r, ?_⟩
        rcases l with ⟨hloc, _⟩ | ⟨_, c, hc, hcell⟩
        · rcases hk2 with z | z
          · rw [z] at hloc; cases hloc
          · rw [z] at hloc; cases hloc
        · obtain ⟨c', hc'⟩ := clos_has (cells := X.env.cells) scope.names [] x (PySem.mem_of_lookup hfr)
          have : c' = c := Option.some.inj ((sub x c' hc').symm.trans hc)
          subst this
          exact .inr ⟨relabel_free hfr, c', hc', hcell.keeps hk⟩
  · obtain ⟨v, z⟩ := I.cell x c (sub x c e)
    exact ⟨v, z.keeps hk⟩
  · show (compSt σ js none).length = (xt :: fs).length
    unfold compSt
    rw [List.length_cons, List.length_map, List.length_cons, S.len]
theorem Inv.unblock {pins' : List (Addr × Obj)} {σ' : St} {H' : Hp} {s' : Shared} {h'' : Heap} {C D : Addr} {its : List Value} {n : Nat} {acc : List V} {N : List Str} (I : Inv X pins σ H s₂) (hf : ∀ b ∈ fp, FpOk X pins H b)
    (J : Inv (cxComp X N scope C fp s₂ H) pins' σ' H' s') (hC : s₂.heap.objs.size ≤ C) (hD : s₂.heap.objs.size ≤ D) (hDC : D ≠ C) (hHD : H' D = none)
    (hd : s'.heap.get? D = some { cls := .type "list", data := .seq its.toArray n }) (hv : Vals acc its) (hz : acc.length ≤ sizeLine) (hsb : Heap.SameBut C s'.heap h'') :
    Inv X pins σ (upd H' D (.lst acc)) { s' with heap := h'' } := by
  have hd2 : h''.get? D = some { cls := .type "list", data := .seq its.toArray n } := (hsb.2 D hDC).trans hd
  have keep : ∀ b o, b < s₂.heap.objs.size → s'.heap.get? b = some o → h''.get? b = some o := fun b o hb e => (hsb.2 b (Nat.ne_of_lt (Nat.lt_of_lt_of_le hb hC))).trans e
  have hHC : H' C = none := J.free
  have ok1 : HOk X.prog X.w H' h'' := fun b o e => (J.hok b o e).stay (fun c v hc q => (hsb.2 c (by
      rcases hc with z | z
      · rw [z]; exact fun w => by rw [w, hHC] at e; cases e
      · exact fun w => by rw [w, hHC] at z; cases z)).trans q) (fun _ q => q) fun _ _ q => q
  have ok2 : HOk X.prog X.w (upd H' D (.lst acc)) h'' := ok1.track hHD ⟨hz, its, n, hv, hd2⟩
  have un : Un (frs X.stack) fp H (upd H' D (.lst acc)) s₂.heap h'' := by
    have u := J.base
    refine ⟨fun b o e nb h1 h2 => keep b o (Heap.lt_size e) (u.keep b o e nb h1 h2), fun b o e nb h1 h2 => ?_, fun b o e nb h2 => ?_, fun b o e h2 => ?_, fun b xs e => ?_, fun b o v e => ?_, fun b ps e => ?_⟩
    · obtain ⟨sl, q⟩ := u.slot b o e nb h1 h2
      exact ⟨sl, keep b _ (Heap.lt_size e) q⟩
    · rw [upd_ne (Nat.ne_of_lt (Nat.lt_of_lt_of_le (Heap.lt_size e) hD))]
      exact u.free b o e nb h2
    · obtain ⟨o', q⟩ := u.there b o e h2
      exact ⟨o', keep b _ (Heap.lt_size e) q⟩
    · have q := u.tups b xs e
      rw [upd_ne (ne_of_none q hHD)]; exact q
    · have q := u.frzs b o v e
      rw [upd_ne (ne_of_none q hHD)]; exact q
    · obtain ⟨more, q⟩ := u.tbls b ps e
      exact ⟨more, by rw [upd_ne (ne_of_none q hHD)]; exact q⟩
  obtain ⟨hh, g, d, t, os'⟩ := s'
  obtain rfl : os' = s₂.os := J.os
  exact Inv.call (s := s₂) I (h' := h'') (g' := g) (d' := d) (t' := t) (ch := fp) un ok2 J.bare fun b hb => ⟨(hf b hb).2.2.2.1, (hf b hb).2.1, (hf b hb).2.2.2.2.1, (hf b hb).2.2.2.2.2⟩
end
noncomputable def tTrue : TT := fun _ H Q => Q true H
inductive PTs (X : Cx) : List Expr → TT → Prop
  | nil : PTs X [] tTrue
  | one {c : Expr} {t : TT} : PT X c t → PTs X [c] t
noncomputable def tComp (wi : TI) (tt : Addr → List Addr → Shared → Hp → TT) (te : Addr → List Addr → Shared → Hp → TE) (js : List Nat) : TE := fun σ H Q => wi σ H fun J H1 => ∀ C fp s₂ H₂, ∃ W : Nat → Nat → List V → Hp → Prop, (∃ m, W 0 m [] H1) ∧ ∀ i m acc H, W i m acc H →
  (J.stop i H ∧ ∀ p, H p = none → Q (.ref p) (upd H p (.lst acc))) ∨
  (J.go i H ∧ ∃ N : List V → Hp → Prop, (∀ acc' H', N acc' H' → ∃ m', m' < m ∧ W (i + 1) m' acc' H') ∧
    ∀ x H', J.yld i H x H' → tt C fp s₂ H₂ (compSt σ js (some x)) H' fun b H2 => if b = true then te C fp s₂ H₂ (compSt σ js (some x)) H2 fun v H3 => acc.length < sizeLine ∧ N (acc ++ [v]) H3 else N acc H2)
theorem comp_core {X : Cx} {elt iter : Expr} {ifs : List Expr} {sc0 scope : Scope} {N0 : List Str} {px pos : Pos} {xt : Str} {fs : List Str} {js : List Nat} {wi : TI} {tt : Addr → List Addr → Shared → Hp → TT} {te : Addr → List Addr → Shared → Hp → TE} (S : CompScope sc0 scope N0 xt fs js) (h0 : X.env.scope = sc0) (hN0 : X.N = N0) (hc : X.calm = true)
    (hi : PI X (.Name xt px) iter wi) (ht : ∀ C fp s₂ H, PTs (cxComp X (xt :: fs) scope C fp s₂ H) ifs (tt C fp s₂ H)) (he : ∀ C fp s₂ H, PE (cxComp X (xt :: fs) scope C fp s₂ H) elt (te C fp s₂ H))
    (hs : autoParam (∀ x, foldedSetIterable iter X.env x = pure x) autoK4._auto_1)
    {pins : List (Addr × Obj)} {cpos : Pos} {s : Shared} {σ : St} {H : Hp} {Q : VK} {use : Option (Value → Sem Unit)} {Qv : Value → Shared → Prop} (I : Inv X pins σ H s) (h : tComp wi tt te js σ H Q)
    (hfin : ∀ (s' : Shared) (C D : Addr) (Ha : Hp) (fl : Flow), (∀ h'', Heap.SameBut C s'.heap h'' → Inv X pins σ Ha { s' with heap := h'' }) → (∃ m, s'.heap.Ns C m) → FpOk X pins Ha C → Q (.ref D) Ha → compPost (model X.prog X.w) X.A X.xe use Qv (.ref D) C (.ok fl) s') :
    wpAny (model X.prog X.w) X.A (comprehension (.ListComp elt [⟨.Name xt px, iter, ifs, 0⟩] scope pos) scope X.env cpos (newList []) false (eval iter X.env) use) Qv X.xe s := by
  refine wpAny_comprehension_free (use := use) rfl hs (closureFor_eq (S.cells h0 I.ok)) S.kind S.names ?_
  refine thn (hi pins s σ H _ I h) fun v s1 h1 => thn h1 fun itv s2 h2 => ?_
  obtain ⟨it, fp, tn, J, H2, e, I2, T, st2, f2, hW⟩ := h2
  subst e
  have fo : ∀ b ∈ fp, ∃ o, s2.heap.get? b = some o := fun b hb => let ⟨o, e, _⟩ := T.obj 0 s2.heap st2 b hb; ⟨o, e⟩
  have blt : ∀ b ∈ fp, b < s2.heap.objs.size := fun b hb => let ⟨o, e⟩ := fo b hb; Heap.lt_size e
  refine block_new S.nocell S.kind fun D C h₁ mC hDle hCle hDC old hacc hns₁ => ?_
  have bC : ∀ b o, s2.heap.get? b = some o → b ≠ C := fun b o q z => Nat.not_lt.mpr hCle (z ▸ Heap.lt_size q)
  have bD : ∀ b o, s2.heap.get? b = some o → b ≠ D := fun b o q z => Nat.not_lt.mpr hDle (z ▸ Heap.lt_size q)
  obtain ⟨W, ⟨m0, w0⟩, turn⟩ := hW C fp s2 H2
  have fpk : ∀ {H' : Hp} (ob : Obj), (∀ b ∈ fp, H' b = none) → ∀ b ∈ fp, FpOk (cxComp X (xt :: fs) scope C fp s2 H2) [(D, ob)] H' b := fun {H'} ob hn b hb => by
    refine ⟨hn b hb, Nat.ne_of_lt (Nat.lt_of_lt_of_le (blt b hb) hCle), fun z => ?_, .inl hb, fun x c e => (f2 b hb).2.2.2.2.1 x c (S.sub h0 I2.ok x c e), fun p hp => ?_⟩
    · rcases List.mem_cons.mp (I2.stkSub b z) with q | q
      · exact (f2 b hb).2.1 q
      · exact (f2 b hb).2.2.1 q
    · have : p = (D, ob) := by
        have hp : p ∈ [] ++ [(D, ob)] := hp
        simpa using hp
      subst this
      exact Nat.ne_of_gt (Nat.lt_of_lt_of_le (blt b hb) hDle)
  have loop : codeAny (model X.prog X.w) X.A (.compLoop (.ListComp elt [⟨.Name xt px, iter, ifs, 0⟩] scope pos) 0 (.ref it) (.ref D) (compEnvC scope (clos X.env.cells scope.names []) C X.env))
        (compPost (model X.prog X.w) X.A X.xe use Qv (.ref D) C) { s2 with heap := h₁ } := by
    have J0 : Inv (cxComp X (xt :: fs) scope C fp s2 H2) [] (compSt σ js none) H2 { s2 with heap := h₁ } :=
      Inv.block (s₂ := s2) (s₄ := { s2 with heap := h₁ }) S h0 hN0 I2 f2 fo rfl I2.bare old hCle hns₁
    have H2D : H2 D = none := I2.hok.fresh hDle
    have ofD : D ∉ frs X.stack := fun z => by
      rcases List.mem_cons.mp (I2.stkSub D z) with q | q
      · exact absurd I2.lt (by rw [← q]; exact Nat.not_lt.mpr hDle)
      · exact I2.nofs (a := D) hDle q
    refine codeAny_loop rfl (fun n s' => ∃ (i : Nat) (σ' : St) (H' : Hp) (acc : List V) (its : List Value) (k : Nat), (∃ v0, σ' = compSt σ js v0) ∧ Inv (cxComp X (xt :: fs) scope C fp s2 H2) [] σ' H' s' ∧ tn i s'.heap ∧ (∀ b ∈ fp, H' b = none) ∧ H' D = none ∧
        s'.heap.get? D = some { cls := .type "list", data := .seq its.toArray k } ∧ Vals acc its ∧ acc.length ≤ sizeLine ∧ W i n acc H') ?_ m0
      ⟨0, _, H2, [], [], 0, ⟨none, rfl⟩, J0, T.keep 0 _ _ st2 fun b hb o e => old b o e, fun b hb => (f2 b hb).1, H2D, hacc, .nil, Nat.zero_le _, w0⟩
    rintro n s3 ⟨i, σ3, H3, acc, its, k, ⟨v0, rfl⟩, I3, st3, fr3, hD3, d3, va, hz, w3⟩
    show wpAny _ X.A ((compTurn (.ListComp elt [⟨.Name xt px, iter, ifs, 0⟩] scope pos) 0 (.ref it) (.ref D) (compEnvC scope (clos X.env.cells scope.names []) C X.env)).onRaise (fun x => do noteFrame x (compEnvC scope (clos X.env.cells scope.names []) C X.env); theTreesLotGoes x)) _ _ s3
    refine wpAny_noted ?_
    rw [compTurn_list]
    refine wpAny_bind (wpAny_standAt ?_)
    have pinD : Inv (cxComp X (xt :: fs) scope C fp s2 H2) [(D, { cls := .type "list", data := .seq its.toArray k })] (compSt σ js v0) H3 s3 := I3.pins_of fun p hp => by
      have : p = (D, { cls := .type "list", data := .seq its.toArray k }) := by simpa using hp
      subst this
      exact ⟨d3, hD3, hDC, ofD, fun v z => by cases z⟩
    refine wpAny_bind ?_
    rcases turn i n acc H3 w3 with ⟨stop, qn⟩ | ⟨go, N, hN, step⟩
    · refine thn (T.done (cxComp X (xt :: fs) scope C fp s2 H2) rfl rfl rfl hc i _ s3 _ H3 _ pinD (fpk _ fr3) st3 stop) fun r s4 ⟨hr, I4⟩ => ?_
      subst hr
      refine wpAny_pure ?_
      obtain ⟨m4, hn4, _⟩ := I4.loc
      have hHC : H3 C = none := I4.free
      refine hfin s4 C D (upd H3 D (.lst acc)) _ (fun h'' hsb => I2.unblock f2 I4 hCle hDle hDC hD3 ((I4.pin (D, { cls := .type "list", data := .seq its.toArray k }) (List.mem_append_right _ List.mem_cons_self)).1) va hz hsb) ⟨m4, hn4⟩ (I2.fpOk hCle (by rw [upd_ne (Ne.symm hDC)]; exact hHC)) (qn D hD3)
    · refine thn (T.item (cxComp X (xt :: fs) scope C fp s2 H2) rfl rfl rfl hc i _ s3 _ H3 _ pinD (fpk _ fr3) st3 go) fun r s4 ⟨u, hr, h4⟩ => ?_
      subst hr
      refine wpAny_bind (thn h4 fun _ s5 ⟨x, H5, I5, r5, y5, st5, fr5⟩ => ?_)
      have I5' := I5.pinned (fpk _ fr5) (T.obj _ _ st5)
      have gok : PG (cxComp X (xt :: fs) scope C fp s2 H2) (.Name xt px) (gName 0) := pg_name S.nd rfl (.inl (lookup_relabel_local S.tgt)) (.inr (lookup_relabel_local S.tgt))
      have noE : ∀ (a : Value) (s' : Shared), (cxComp X (xt :: fs) scope C fp s2 H2).xe a s' → notedBy (model X.prog X.w) X.A (compEnvC scope (clos X.env.cells scope.names []) C X.env) (fun e s' => compPost (model X.prog X.w) X.A X.xe use Qv (.ref D) C (.error e) s') a s' := fun _ _ z => False.elim z
      refine wpAny_bind (wpAny_mono (gok _ s5 (compSt σ js v0) H5 x u (fun σ' H' => σ' = compSt σ js (some x) ∧ H' = H5) I5' r5 ⟨rfl, rfl⟩) (fun _ s6 ⟨σ6, H6, I6, e6, e6'⟩ => ?_) noE)
      subst e6 e6'
      have fin : ∀ {acc' : List V} {its' : List Value} {k' : Nat} {H7 : Hp} {s7 : Shared}, Inv (cxComp X (xt :: fs) scope C fp s2 H2) [] (compSt σ js (some x)) H7 s7 → tn (i + 1) s7.heap → (∀ b ∈ fp, H7 b = none) → H7 D = none → s7.heap.get? D = some { cls := .type "list", data := .seq its'.toArray k' } → Vals acc' its' → acc'.length ≤ sizeLine → N acc' H7 →
          ∃ m, m < n ∧ ∃ (i : Nat) (σ' : St) (H' : Hp) (acc : List V) (its : List Value) (k : Nat), (∃ v0, σ' = compSt σ js v0) ∧ Inv (cxComp X (xt :: fs) scope C fp s2 H2) [] σ' H' s7 ∧ tn i s7.heap ∧ (∀ b ∈ fp, H' b = none) ∧ H' D = none ∧
            s7.heap.get? D = some { cls := .type "list", data := .seq its.toArray k } ∧ Vals acc its ∧ acc.length ≤ sizeLine ∧ W i m acc H' := fun {acc' its' k' H7 s7} a1 a2 a3 a4 a5 a6 a7 a8 => by
        obtain ⟨m', hm, w7⟩ := hN _ _ a8
        exact ⟨m', hm, i + 1, _, H7, acc', its', k', ⟨_, rfl⟩, a1, a2, a3, a4, a5, a6, a7, w7⟩
      have rest : ∀ {H7 : Hp} {s7 : Shared}, Inv (cxComp X (xt :: fs) scope C fp s2 H2) ([(D, { cls := .type "list", data := .seq its.toArray k })] ++ pinsAt fp s5.heap) (compSt σ js (some x)) H7 s7 →
          tn (i + 1) s7.heap ∧ (∀ b ∈ fp, H7 b = none) ∧ H7 D = none ∧ s7.heap.get? D = some { cls := .type "list", data := .seq its.toArray k } := fun {H7 s7} I7 => by
        refine ⟨T.keep _ _ _ st5 fun b hb o e => (I7.pin (b, o) (List.mem_append_right _ (List.mem_append_right _ (mem_pinsAt hb e)))).1, fun b hb => ?_, (I7.pin (D, { cls := .type "list", data := .seq its.toArray k }) (List.mem_append_right _ (List.mem_append_left _ List.mem_cons_self))).2.1, (I7.pin (D, { cls := .type "list", data := .seq its.toArray k }) (List.mem_append_right _ (List.mem_append_left _ List.mem_cons_self))).1⟩
        obtain ⟨o, e, d⟩ := T.obj _ _ st5 b hb
        exact (I7.pin (b, o) (List.mem_append_right _ (List.mem_append_right _ (mem_pinsAt hb e)))).2.1
      have elem : ∀ {H7 : Hp} {s7 : Shared}, Inv (cxComp X (xt :: fs) scope C fp s2 H2) ([(D, { cls := .type "list", data := .seq its.toArray k })] ++ pinsAt fp s5.heap) (compSt σ js (some x)) H7 s7 →
          (te C fp s2 H2 (compSt σ js (some x)) H7 fun v H3 => acc.length < sizeLine ∧ N (acc ++ [v]) H3) →
          wpAny (model X.prog X.w) X.A (eval elt (compEnvC scope (clos X.env.cells scope.names []) C X.env)) (fun y s8 => wpAny (model X.prog X.w) X.A (call (.builtin "list.append") [.ref D, y]) (fun _ s9 => ∃ m, m < n ∧ ∃ (i : Nat) (σ' : St) (H' : Hp) (acc : List V) (its : List Value) (k : Nat), (∃ v0, σ' = compSt σ js v0) ∧ Inv (cxComp X (xt :: fs) scope C fp s2 H2) [] σ' H' s9 ∧ tn i s9.heap ∧ (∀ b ∈ fp, H' b = none) ∧ H' D = none ∧
            s9.heap.get? D = some { cls := .type "list", data := .seq its.toArray k } ∧ Vals acc its ∧ acc.length ≤ sizeLine ∧ W i m acc H')
            (fun _ _ => False) s8) (fun _ _ => False) s7 := fun {H7 s7} I7 q7 => by
        refine thn (he C fp s2 H2 _ s7 _ H7 _ I7 q7) fun y s8 ⟨v, H8, I8, r8, hl8, n8⟩ => ?_
        obtain ⟨t8, fr8, hD8, d8⟩ := rest I8
        have hsz := va.length
        refine call_meets F.slot_list_append ⟨_, d8, rfl⟩ F.entry_list_append (F.args_list_append_2 _ _) (PySem.list_append D its.toArray k y (by rw [List.size_toArray]; bv_omega)) ⟨d8, ?_⟩
        have q := PySem.IsL.update d8 (·.push y)
        rw [show (its.toArray.push y) = (its ++ [y]).toArray by simp] at q
        have kk : ∀ b o, b ≠ D → s8.heap.get? b = some o → (s8.heap.update D (Obj.mapSeq (·.push y))).get? b = some o := fun b o hb e => (Heap.get?_update_other s8.heap _ (Ne.symm hb)).trans e
        have I9 : Inv (cxComp X (xt :: fs) scope C fp s2 H2) [] (compSt σ js (some x)) H8 { s8 with heap := s8.heap.update D (Obj.mapSeq (·.push y)) } := by
          refine Inv.turned (it := D) (t' := s8.toks) (I8.pins_of (pins' := []) fun p hp => nomatch hp) kk hD8 hDC (.inr hDle) (fun x c e z => ?_) fun p hp => absurd (show p ∈ ([] : List (Addr × Obj)) from hp) (by simp)
          obtain ⟨v, o, ho, _⟩ := I2.cell x c (S.sub h0 I2.ok x c e)
          exact bD c o ho z
        refine fin I9 (T.keep _ _ _ t8 fun b hb o e => kk b o (Nat.ne_of_lt (Nat.lt_of_lt_of_le (blt b hb) hDle)) e) fr8 hD8 q (va.append (.cons r8 .nil)) ?_ n8
        rw [List.length_append, List.length_singleton]
        bv_omega
      have q6 := step x H6 y5
      have htt := ht C fp s2 H2
      generalize tt C fp s2 H2 = tt' at htt q6
      cases htt with
      | nil =>
        refine wpAny_bind (wpAny_pure ?_)
        dsimp only [tTrue] at q6
        rw [if_pos rfl] at q6
        refine wpAny_mono (wpAny_bind (wpAny_bind (thn (elem I6 q6) fun y s8 h8 => wpAny_bind (thn h8 fun _ s9 h9 => wpAny_pure (wpAny_pure ⟨rfl, h9⟩))))) (fun _ _ z => z) fun _ _ z => False.elim z
      | one ht1 =>
        refine wpAny_bind (wpAny_tests_one (wpAny_mono (ht1 _ s6 _ H6 _ I6 q6) (fun b s7 ⟨H7, I7, q7⟩ => ?_) noE))
        cases b with
        | false =>
          rw [if_neg Bool.false_ne_true] at q7
          obtain ⟨t8, fr8, hD8, d8⟩ := rest I7
          exact wpAny_pure ⟨rfl, fin (I7.pins_of (pins' := []) fun p hp => nomatch hp) t8 fr8 hD8 d8 va hz q7⟩
        | true =>
          rw [if_pos rfl] at q7
          refine wpAny_mono (wpAny_bind (wpAny_bind (thn (elem I7 q7) fun y s8 h8 => wpAny_bind (thn h8 fun _ s9 h9 => wpAny_pure (wpAny_pure ⟨rfl, h9⟩))))) (fun _ _ z => z) fun _ _ z => False.elim z
  exact codeAny_compStart_list loop (T.self X.A 0 _ _ _ (T.keep 0 _ _ st2 fun b hb o e => old b o e) loop)
theorem pe_comp {X : Cx} {elt iter : Expr} {ifs : List Expr} {sc0 scope : Scope} {N0 : List Str} {px pos : Pos} {xt : Str} {fs : List Str} {js : List Nat} {wi : TI} {tt : Addr → List Addr → Shared → Hp → TT} {te : Addr → List Addr → Shared → Hp → TE} (S : CompScope sc0 scope N0 xt fs js) (h0 : X.env.scope = sc0) (hN0 : X.N = N0) (hc : X.calm = true)
    (hi : PI X (.Name xt px) iter wi) (ht : ∀ C fp s₂ H, PTs (cxComp X (xt :: fs) scope C fp s₂ H) ifs (tt C fp s₂ H)) (he : ∀ C fp s₂ H, PE (cxComp X (xt :: fs) scope C fp s₂ H) elt (te C fp s₂ H))
    (hs : autoParam (∀ x, foldedSetIterable iter X.env x = pure x) autoK4._auto_1) :
    PE X (.ListComp elt [⟨.Name xt px, iter, ifs, 0⟩] scope pos) (tComp wi tt te js) := by
  intro pins s σ H Q I h
  rw [eval_ListComp]
  refine comp_core S h0 hN0 hc hi ht he hs (use := none) (Qv := EP X pins σ Q) I h fun s' C D Ha fl hI hns hC q => ?_
  obtain ⟨m, hn⟩ := hns
  exact ⟨m, hn, fun h' hsb => ⟨.ref D, Ha, hI h' hsb, rfl, q⟩⟩
theorem comp_range {lo : Int} {n : Nat} {tt : TT} {te : TE} {js : List Nat} {σ : St} {H : Hp} {Q : VK} (Pv : Nat → List V → Hp → Prop) (h0 : Pv 0 [] H)
    (hs : ∀ i acc H, i < n → Pv i acc H → tt (compSt σ js (some (.int (lo + i)))) H fun b H2 => if b = true then te (compSt σ js (some (.int (lo + i)))) H2 fun v H3 => acc.length < sizeLine ∧ Pv (i + 1) (acc ++ [v]) H3 else Pv (i + 1) acc H2)
    (hd : ∀ acc H, Pv n acc H → ∀ p, H p = none → Q (.ref p) (upd H p (.lst acc))) :
    ∃ W : Nat → Nat → List V → Hp → Prop, (∃ m, W 0 m [] H) ∧ ∀ i m acc H, W i m acc H →
      ((Itr lo n).stop i H ∧ ∀ p, H p = none → Q (.ref p) (upd H p (.lst acc))) ∨
      ((Itr lo n).go i H ∧ ∃ N : List V → Hp → Prop, (∀ acc' H', N acc' H' → ∃ m', m' < m ∧ W (i + 1) m' acc' H') ∧
        ∀ x H', (Itr lo n).yld i H x H' → tt (compSt σ js (some x)) H' fun b H2 => if b = true then te (compSt σ js (some x)) H2 fun v H3 => acc.length < sizeLine ∧ N (acc ++ [v]) H3 else N acc H2) := by
  refine ⟨fun i m acc H => m = n - i ∧ i ≤ n ∧ Pv i acc H, ⟨n, by simp, Nat.zero_le _, h0⟩, ?_⟩
  rintro i m acc H ⟨rfl, hi, p⟩
  by_cases hlt : i < n
  · refine .inr ⟨hlt, Pv (i + 1), fun acc' H' p' => ⟨n - (i + 1), by bv_omega, rfl, hlt, p'⟩, fun x H' y => ?_⟩
    obtain ⟨e, y⟩ := y
    subst e y
    exact hs i acc _ hlt p
  · have e : i = n := by bv_omega
    subst e
    exact .inl ⟨Nat.le_refl _, hd acc H p⟩
theorem comp_list {K : PySem.W.Frag} {a : Addr} {xs : List V} {tt : TT} {te : TE} {js : List Nat} {σ : St} {H : Hp} {Q : VK} (Pv : Nat → List V → Hp → Prop) (h0 : Pv 0 [] H) (hl : ∀ i acc H, i ≤ xs.length → Pv i acc H → SqL K H a xs)
    (hs : ∀ i x acc H, xs[i]? = some x → Pv i acc H → tt (compSt σ js (some x)) H fun b H2 => if b = true then te (compSt σ js (some x)) H2 fun v H3 => acc.length < sizeLine ∧ Pv (i + 1) (acc ++ [v]) H3 else Pv (i + 1) acc H2)
    (hd : ∀ acc H, Pv xs.length acc H → ∀ p, H p = none → Q (.ref p) (upd H p (.lst acc))) :
    ∃ W : Nat → Nat → List V → Hp → Prop, (∃ m, W 0 m [] H) ∧ ∀ i m acc H, W i m acc H →
      ((Itl K a).stop i H ∧ ∀ p, H p = none → Q (.ref p) (upd H p (.lst acc))) ∨
      ((Itl K a).go i H ∧ ∃ N : List V → Hp → Prop, (∀ acc' H', N acc' H' → ∃ m', m' < m ∧ W (i + 1) m' acc' H') ∧
        ∀ x H', (Itl K a).yld i H x H' → tt (compSt σ js (some x)) H' fun b H2 => if b = true then te (compSt σ js (some x)) H2 fun v H3 => acc.length < sizeLine ∧ N (acc ++ [v]) H3 else N acc H2) := by
  refine ⟨fun i m acc H => m = xs.length - i ∧ i ≤ xs.length ∧ Pv i acc H, ⟨xs.length, by simp, Nat.zero_le _, h0⟩, ?_⟩
  rintro i m acc H ⟨rfl, hi, p⟩
  have q := hl i acc H hi p
  by_cases hlt : i < xs.length
  · refine .inr ⟨⟨xs, xs[i], q, by simp [hlt]⟩, Pv (i + 1), fun acc' H' p' => ⟨xs.length - (i + 1), by bv_omega, rfl, hlt, p'⟩, fun x H' y => ?_⟩
    obtain ⟨e, y⟩ := y
    subst e
    exact hs i x acc _ (y xs q) p
  · have e : i = xs.length := by bv_omega
    subst e
    exact .inl ⟨⟨xs, q, Nat.le_refl _⟩, hd acc H p⟩
theorem Same.new {H : Hp} {p : Addr} {o : HO} (h : H p = none) : Same H (upd H p o) := fun b u e => by rw [upd_ne (ne_of_none e h)]; exact e
end L2
set_option maxHeartbeats 4000000
namespace L2
open PySem PySem.Spec PyProof.Rows
noncomputable def Small (i : Int) : Prop := ∃ k, k ≤ 1000000 ∧ i.natAbs < 2 ^ k
theorem Small.bits {i : Int} (h : Small i) : Builtin.Int.intBits i ≤ 2 ^ 20 := by
  obtain ⟨k, hk, hi⟩ := h
  unfold Builtin.Int.intBits
  by_cases h0 : (i == 0) = true
  · rw [if_pos h0]; exact Nat.zero_le _
  · rw [if_neg h0]
    have hn : i.natAbs ≠ 0 := by
      intro z
      have : i = 0 := by bv_omega
      rw [this] at h0
      exact h0 rfl
    have := (Nat.log2_lt hn).mpr hi
    have e : (2 : Nat) ^ 20 = 1048576 := by decide
    bv_omega
section
variable {X : Cx}
noncomputable def clsV : V → Option Value
  | .ty n => some (.type n)
  | .ref a => some (.ref a)
  | _ => none
theorem clsV_rel {c : V} {u cv : Value} (r : RelV c u) (e : clsV c = some cv) : u = cv := by
  cases c with
  | ty n => cases e; exact r
  | ref a => cases e; exact r
  | non => cases e
  | bl _ => cases e
  | int _ => cases e
  | str _ => cases e
  | byt _ => cases e
  | flt _ => cases e
end
end L2
set_option maxHeartbeats 4000000
namespace L2
open PySem PySem.Spec PyProof.Rows
mutual
inductive DatV (K : PySem.W.Frag) (H : Hp) : V → PyData → Prop
  | non : DatV K H .non .none
  | bl (b : Bool) : DatV K H (.bl b) (.bool b)
  | int (i : Int) : DatV K H (.int i) (.int i)
  | str (x : Str) : DatV K H (.str x) (.str x)
  | lst {a : Addr} {xs : List V} {ds : List PyData} : SqL K H a xs → DatAll K H xs ds → DatV K H (.ref a) (.list ds)
  | tup {a : Addr} {xs : List V} {ds : List PyData} : SqT K H a xs → DatAll K H xs ds → DatV K H (.ref a) (.tuple ds)
inductive DatAll (K : PySem.W.Frag) (H : Hp) : List V → List PyData → Prop
  | nil : DatAll K H [] []
  | cons {v : V} {d : PyData} {vs : List V} {ds : List PyData} : DatV K H v d → DatAll K H vs ds → DatAll K H (v :: vs) (d :: ds)
end
section
variable {X : Cx} {pins : List (Addr × Obj)} {σ : St} {H : Hp} {s : Shared}
mutual
theorem Inv.reads (I : Inv X pins σ H s) : ∀ {v : V} {d : PyData} {u : Value}, DatV X.K H v d → RelV v u → ∃ as, Reads s.heap u d as
  | _, _, _, .non, r => by cases r; exact ⟨_, .none⟩
  | _, _, _, .bl b, r => by cases r; exact ⟨_, .bool b⟩
  | _, _, _, .int i, r => by obtain ⟨t, rfl⟩ := r; exact ⟨_, .int i t⟩
  | _, _, _, .str x, r => by obtain ⟨t, rfl⟩ := r; exact ⟨_, .str x t⟩
  | _, _, _, .lst hq ha, r => by
    cases r
    obtain ⟨its, rv, ⟨o, n, ho, hc, _, hd⟩, _⟩ := I.list hq
    obtain ⟨as, z⟩ := Inv.readsAll I ha rv
    exact ⟨_, .list ho hc hd (by simpa using z)⟩
  | _, _, _, .tup hq ha, r => by
    cases r
    obtain ⟨its, rv, ⟨o, ho, hc, n, hd⟩, _⟩ := I.tuple hq
    obtain ⟨as, z⟩ := Inv.readsAll I ha rv
    exact ⟨_, .tuple ho hc hd (by simpa using z)⟩
theorem Inv.readsAll (I : Inv X pins σ H s) : ∀ {vs : List V} {ds : List PyData} {us : List Value}, DatAll X.K H vs ds → Vals vs us → ∃ as, ReadsAll s.heap us ds as
  | _, _, _, .nil, r => by cases r; exact ⟨_, .nil⟩
  | _, _, _, .cons h t, r => by
    cases r with
    | cons r1 r2 =>
      obtain ⟨as, z⟩ := Inv.reads I h r1
      obtain ⟨bs, z'⟩ := Inv.readsAll I t r2
      exact ⟨_, .cons z z'⟩
end
end
section
variable {X : Cx}
noncomputable def rEqD (K : PySem.W.Frag) (neg : Bool) : R2 := fun x y H Q => ∃ dx dy, DatV K H x dx ∧ DatV K H y dy ∧ SeqAt.shaped dx = true ∧ SeqAt.shaped dy = true ∧ Q (.bl (if neg then !PyData.eqv dx dy else PyData.eqv dx dy)) H
theorem op_eqD (hu : X.A.units + 64 < cLine) : OpR X (compareOp .Eq) (rEqD X.K false) := by
  intro pins s σ H x y v u Q I rx ry h
  obtain ⟨dx, dy, h1, h2, s1, s2, q⟩ := h
  obtain ⟨as, z1⟩ := I.reads h1 rx
  obtain ⟨bs, z2⟩ := I.reads h2 ry
  exact eq_dataH z1 z2 s1 s2 hu ⟨.bl _, H, I, rfl, q⟩
theorem op_neD (hu : X.A.units + 64 < cLine) : OpR X (compareOp .NotEq) (rEqD X.K true) := by
  intro pins s σ H x y v u Q I rx ry h
  obtain ⟨dx, dy, h1, h2, s1, s2, q⟩ := h
  obtain ⟨as, z1⟩ := I.reads h1 rx
  obtain ⟨bs, z2⟩ := I.reads h2 ry
  exact ne_dataH z1 z2 s1 s2 hu ⟨.bl _, H, I, rfl, q⟩
end
section
variable {X : Cx}
end
section
variable {X : Cx}
theorem bools_at {bs : List Bool} {its : List Value} (r : Vals (bs.map V.bl) its) {i : Nat} {v : Value} (h : its.toArray[i]? = some v) : v = .bool (bs.getD i false) := by
  have h2 : its[i]? = some v := by simpa using h
  have hi : i < its.length := (List.getElem?_eq_some_iff.mp h2).1
  have hl := r.length
  rw [List.length_map] at hl
  have e : (bs.map V.bl)[i]? = some (V.bl (bs.getD i false)) := by
    rw [List.getElem?_map, List.getElem?_eq_getElem (by bv_omega), List.getD_eq_getElem?_getD, List.getElem?_eq_getElem (by bv_omega)]
    rfl
  obtain ⟨u, hu, ru⟩ := r.get e
  rw [h2] at hu
  cases hu
  exact ru
theorem range_getD (bs : List Bool) : (List.range bs.length).map (fun i => bs.getD i false) = bs := by
  refine List.ext_getElem (by simp) fun i h1 h2 => ?_
  simp [List.getD, h2]
theorem range_all (bs : List Bool) : (List.range bs.length).all (fun i => bs.getD i false) = bs.all id := by
  have z := congrArg (fun l => List.all l id) (range_getD bs)
  simpa [List.all_map, Function.comp_def] using z
theorem call_allB (hc : X.calm = true) : CallR X (.builtin "all") (fun xs H Q => ∃ (p : Addr) (bs : List Bool), xs = [.ref p] ∧ SqL X.K H p (bs.map V.bl) ∧ Q (.bl (bs.all id)) H) := by
  intro pins s σ H xs us Q I r h
  obtain ⟨p, bs, rfl, hq, q⟩ := h
  obtain ⟨u, rfl, ru⟩ := vals1 r
  cases ru
  obtain ⟨its, rv, pl, hz⟩ := I.list hq
  have hl := rv.length
  rw [List.length_map] at hl
  refine call_all_walk (walk_list (A := X.A.in1) (I.ok.hd hc) pl.isList fun J hp St W st _ _ keep => ⟨_, _, _, _, _, _, fun i => bs.getD i false, rfl, W, st, ?_, fun h' tk hk => ?_⟩)
  · intro i v s' Q' E' hP hQ
    rw [bools_at rv hP]
    exact wpAny_truthy_bool hQ
  · rw [List.size_toArray, ← hl, range_all]
    exact ⟨.bl _, H, I.kept fun b o e => hk b o (by simpa using (keep b o e).1) (keep b o e).2, rfl, q⟩
end
end L2
set_option maxHeartbeats 4000000
namespace L2.L3
open PySem PySem.Spec PyProof.Rows
noncomputable abbrev D := PyData
inductive Res (α : Type) where
  | ok (a : α)
  | ex (c : Str)
  | no
namespace Res
noncomputable def bind {α β : Type} : Res α → (α → Res β) → Res β
  | .ok a, f => f a
  | .ex c, _ => .ex c
  | .no, _ => .no
noncomputable def post {α : Type} : Res α → (α → Prop) → (Str → Prop) → Prop
  | .ok a, Q, _ => Q a
  | .ex c, _, E => E c
  | .no, _, _ => False
theorem post_bind {α β : Type} {r : Res α} {f : α → Res β} {Q : β → Prop} {E : Str → Prop} (h : (r.bind f).post Q E) : r.post (fun a => (f a).post Q E) E := by
  cases r <;> exact h
theorem post_mono {α : Type} {r : Res α} {Q Q' : α → Prop} {E E' : Str → Prop} (h : r.post Q E) (hQ : ∀ a, r = .ok a → Q a → Q' a) (hE : ∀ c, E c → E' c) : r.post Q' E' := by
  cases r with
  | ok a => exact hQ a rfl h
  | ex c => exact hE c h
  | no => exact h
noncomputable def lft {α : Type} : Option α → Res α
  | some a => .ok a
  | none => .no
theorem post_lft {α : Type} {o : Option α} {Q : α → Prop} {E : Str → Prop} (h : (lft o).post Q E) : ∃ a, o = some a ∧ Q a := by
  cases o with
  | none => exact h.elim
  | some a => exact ⟨a, rfl, h⟩
@[simp] theorem bind_ok {α β : Type} (a : α) (f : α → Res β) : (Res.ok a).bind f = f a := rfl
@[simp] theorem bind_no {α β : Type} (f : α → Res β) : (Res.no : Res α).bind f = .no := rfl
@[simp] theorem bind_ex {α β : Type} (c : Str) (f : α → Res β) : (Res.ex c : Res α).bind f = .ex c := rfl
@[simp] theorem lft_some {α : Type} (a : α) : lft (some a) = .ok a := rfl
@[simp] theorem lft_none {α : Type} : lft (none : Option α) = .no := rfl
end Res
class CN where
  ad : Str → Addr
noncomputable instance (priority := low) cn0 : CN := ⟨fun _ => 0⟩
variable [CN]
noncomputable def excP (a : Addr) (c : Str) : Heap → Prop := fun h => ∃ o, h.get? a = some o ∧ o.cls = .ref (CN.ad c)
mutual
inductive Rep (H : Hp) (O : Addr → Prop) : V → D → Prop
  | non : Rep H O .non .none
  | bl (b : Bool) : Rep H O (.bl b) (.bool b)
  | int (i : Int) : Rep H O (.int i) (.int i)
  | str (x : Str) : Rep H O (.str x) (.str x)
  | lst {a : Addr} {xs : List V} {ds : List D} : Rd H a (.lst xs) → ¬ O a → Reps H O xs ds → Rep H O (.ref a) (.list ds)
  | tup {a : Addr} {xs : List V} {ds : List D} : Rd H a (.tup xs) → ¬ O a → Reps H O xs ds → Rep H O (.ref a) (.tuple ds)
  | exc {a : Addr} {c : Str} : H a = some (.ext (excP a c)) → ¬ O a → Rep H O (.ref a) (.dict [(.list [], .str c)])
inductive Reps (H : Hp) (O : Addr → Prop) : List V → List D → Prop
  | nil : Reps H O [] []
  | cons {v : V} {d : D} {vs : List V} {ds : List D} : Rep H O v d → Reps H O vs ds → Reps H O (v :: vs) (d :: ds)
end
theorem rd_some {H : Hp} {a : Addr} {u : HO} (h : Rd H a u) : H a ≠ none := by
  rcases h with h | ⟨o, h⟩ <;> (rw [h]; exact fun z => nomatch z)
theorem rd_keep {H H' : Hp} {a : Addr} {u : HO} (h : Rd H a u) (k : ∀ o, H a = some o → H' a = some o) : Rd H' a u := by
  rcases h with h | ⟨o, h⟩
  · exact .inl (k _ h)
  · exact .inr ⟨o, k _ h⟩
section
variable {H H' : Hp} {O O' : Addr → Prop}
mutual
theorem Rep.keep (k : ∀ b o, H b = some o → ¬ O b → H' b = some o) (s : ∀ b, H b ≠ none → O' b → O b) : ∀ {v : V} {d : D}, Rep H O v d → Rep H' O' v d
  | _, _, .non => .non
  | _, _, .bl b => .bl b
  | _, _, .int i => .int i
  | _, _, .str x => .str x
  | _, _, .lst r n t => .lst (rd_keep r fun o e => k _ o e n) (fun z => n (s _ (rd_some r) z)) (Reps.keep k s t)
  | _, _, .tup r n t => .tup (rd_keep r fun o e => k _ o e n) (fun z => n (s _ (rd_some r) z)) (Reps.keep k s t)
  | _, _, .exc r n => .exc (k _ _ r n) (fun z => n (s _ (by rw [r]; exact fun z => nomatch z) z))
theorem Reps.keep (k : ∀ b o, H b = some o → ¬ O b → H' b = some o) (s : ∀ b, H b ≠ none → O' b → O b) : ∀ {vs : List V} {ds : List D}, Reps H O vs ds → Reps H' O' vs ds
  | _, _, .nil => .nil
  | _, _, .cons h t => .cons (Rep.keep k s h) (Reps.keep k s t)
end
mutual
theorem Rep.dat {K : PySem.W.Frag} : ∀ {v : V} {d : D}, Rep H O v d → PyData.canLay0 d = true → DatV K H v d
  | _, _, .non, _ => .non
  | _, _, .bl b, _ => .bl b
  | _, _, .int i, _ => .int i
  | _, _, .str x, _ => .str x
  | _, _, .lst r n t, c => .lst (.inl r) (Reps.dat t c)
  | _, _, .tup r n t, c => .tup (.inl r) (Reps.dat t c)
  | _, _, .exc r n, c => by cases c
theorem Reps.dat {K : PySem.W.Frag} : ∀ {vs : List V} {ds : List D}, Reps H O vs ds → PyData.canLayAll0 ds = true → DatAll K H vs ds
  | _, _, .nil, _ => .nil
  | _, _, .cons h t, c => .cons (Rep.dat h (Bool.and_eq_true_iff.mp c).1) (Reps.dat t (Bool.and_eq_true_iff.mp c).2)
end
theorem Rep.same {v : V} {d : D} (h : Rep H O v d) (s : Same H H') : Rep H' O v d := h.keep (fun b o e _ => s b o e) fun _ _ z => z
theorem Reps.same {v : List V} {d : List D} (h : Reps H O v d) (s : Same H H') : Reps H' O v d := h.keep (fun b o e _ => s b o e) fun _ _ z => z
theorem Rep.less {v : V} {d : D} (h : Rep H O v d) (s : ∀ b, O' b → O b) : Rep H O' v d := h.keep (fun b o e _ => e) fun b _ z => s b z
theorem Reps.less {v : List V} {d : List D} (h : Reps H O v d) (s : ∀ b, O' b → O b) : Reps H O' v d := h.keep (fun b o e _ => e) fun b _ z => s b z
theorem Reps.length : ∀ {vs : List V} {ds : List D}, Reps H O vs ds → vs.length = ds.length
  | _, _, .nil => rfl
  | _, _, .cons _ t => congrArg (· + 1) (Reps.length t)
theorem Reps.get : ∀ {vs : List V} {ds : List D} {i : Nat} {d : D}, Reps H O vs ds → ds[i]? = some d → ∃ v, vs[i]? = some v ∧ Rep H O v d
  | _, _, _, _, .nil, e => by simp at e
  | _, _, 0, _, .cons r _, e => by simp at e; subst e; exact ⟨_, rfl, r⟩
  | _, _, i + 1, d, .cons _ t, e => by
    obtain ⟨u, h1, h2⟩ := Reps.get (i := i) (d := d) t (by simpa using e)
    exact ⟨u, by simpa using h1, h2⟩
theorem Reps.of : ∀ {vs : List V} {ds : List D} {i : Nat} {v : V}, Reps H O vs ds → vs[i]? = some v → ∃ d, ds[i]? = some d ∧ Rep H O v d
  | _, _, _, _, .nil, e => by simp at e
  | _, _, 0, _, .cons r _, e => by simp at e; subst e; exact ⟨_, rfl, r⟩
  | _, _, i + 1, v, .cons _ t, e => by
    obtain ⟨u, h1, h2⟩ := Reps.of (i := i) (v := v) t (by simpa using e)
    exact ⟨u, by simpa using h1, h2⟩
theorem Reps.append : ∀ {vs ws : List V} {ds es : List D}, Reps H O vs ds → Reps H O ws es → Reps H O (vs ++ ws) (ds ++ es)
  | _, _, _, _, .nil, s => s
  | _, _, _, _, .cons r t, s => .cons r (Reps.append t s)
theorem Reps.one {v : V} {d : D} (h : Rep H O v d) : Reps H O [v] [d] := .cons h .nil
theorem Reps.set {x : V} {u : D} (r : Rep H O x u) : ∀ {vs : List V} {ds : List D} (i : Nat), Reps H O vs ds → Reps H O (vs.set i x) (ds.set i u)
  | _, _, _, .nil => .nil
  | _, _, 0, .cons _ t => .cons r t
  | _, _, i + 1, .cons q t => .cons q (Reps.set r i t)
theorem Reps.take : ∀ {vs : List V} {ds : List D} (n : Nat), Reps H O vs ds → Reps H O (vs.take n) (ds.take n)
  | _, _, 0, _ => .nil
  | _, _, _ + 1, .nil => .nil
  | _, _, n + 1, .cons r t => .cons r (Reps.take n t)
theorem Reps.drop : ∀ {vs : List V} {ds : List D} (n : Nat), Reps H O vs ds → Reps H O (vs.drop n) (ds.drop n)
  | _, _, 0, r => r
  | _, _, _ + 1, .nil => .nil
  | _, _, n + 1, .cons _ t => Reps.drop n t
theorem Reps.erase : ∀ {vs : List V} {ds : List D} (i : Nat), Reps H O vs ds → Reps H O (vs.eraseIdx i) (ds.eraseIdx i)
  | _, _, _, .nil => .nil
  | _, _, 0, .cons _ t => t
  | _, _, i + 1, .cons r t => .cons r (Reps.erase i t)
theorem Reps.reverse {vs : List V} {ds : List D} (h : Reps H O vs ds) : Reps H O vs.reverse ds.reverse := by
  induction vs generalizing ds with
  | nil => cases h; exact .nil
  | cons v vs ih =>
    cases h with
    | cons r t =>
      rw [List.reverse_cons, List.reverse_cons]
      exact (ih t).append (.one r)
theorem Reps.rep {vs : List V} {ds : List D} (h : Reps H O vs ds) : ∀ k : Nat, Reps H O (List.replicate k vs).flatten (List.replicate k ds).flatten
  | 0 => .nil
  | k + 1 => by
    rw [List.replicate_succ, List.replicate_succ, List.flatten_cons, List.flatten_cons]
    exact h.append (Reps.rep h k)
theorem reps_ints : ∀ (ns : List Int), Reps H O (ns.map V.int) (ns.map PyData.int)
  | [] => .nil
  | n :: ns => .cons (.int n) (reps_ints ns)
theorem Reps.ints : ∀ {ns : List Int} {vs : List V}, Reps H O vs (ns.map PyData.int) → vs = ns.map V.int
  | [], _, h => by cases h; rfl
  | n :: ns, _, h => by
    cases h with
    | cons r t => cases r; rw [Reps.ints t]; rfl
theorem Reps.bools : ∀ {ns : List Bool} {vs : List V}, Reps H O vs (ns.map PyData.bool) → vs = ns.map V.bl
  | [], _, h => by cases h; rfl
  | n :: ns, _, h => by
    cases h with
    | cons r t => cases r; rw [Reps.bools t]; rfl
end
noncomputable abbrev Ev := List (Option D)
structure Wd where
  o : Addr → Prop
  la : Nat → Addr
noncomputable instance : CoeFun Wd (fun _ => Addr → Prop) := ⟨Wd.o⟩
noncomputable abbrev Uni (Oc : Wd) (Ob : Addr → Prop) : Addr → Prop := fun b => Oc b ∨ Ob b
noncomputable def OwnAt (H : Hp) (Oc : Wd) (Ob : Addr → Prop) (v : V) (d : D) : Prop := ∃ a ys ds, v = .ref a ∧ d = .list ds ∧ H a = some (.lst ys) ∧ Ob a ∧ Reps H (Uni Oc Ob) ys ds
noncomputable def LentAt (i : Nat) (H : Hp) (Oc : Wd) (Ob : Addr → Prop) (v : V) (d : D) : Prop := ∃ ys ds, v = .ref (Oc.la i) ∧ d = .list ds ∧ H (Oc.la i) = some (.lst ys) ∧ Oc (Oc.la i) ∧ Reps H (Uni Oc Ob) ys ds
structure Rel (Oc : Wd) (Ob : Addr → Prop) (om ln : List Nat) (σ : St) (H : Hp) (ρ : Ev) : Prop where
  len : σ.length = ρ.length
  val : ∀ i d, ρ[i]? = some (some d) → i ∉ om → i ∉ ln → ∃ v, σ[i]? = some (some v) ∧ Rep H (Uni Oc Ob) v d
  own : ∀ i d, ρ[i]? = some (some d) → i ∈ om → ∃ v, σ[i]? = some (some v) ∧ OwnAt H Oc Ob v d
  lnt : ∀ i d, ρ[i]? = some (some d) → i ∉ om → i ∈ ln → ∃ v, σ[i]? = some (some v) ∧ LentAt i H Oc Ob v d
  inj : ∀ i j di dj a, ρ[i]? = some (some di) → ρ[j]? = some (some dj) → i ∈ om → j ∈ om → σ[i]? = some (some (.ref a)) → σ[j]? = some (some (.ref a)) → i = j
  oh : ∀ a, Oc a ∨ Ob a → H a ≠ none
  ap : ∀ a, Ob a → ¬ Oc a
section
variable {Oc : Wd} {Ob : Addr → Prop} {om ln : List Nat} {σ : St} {H H' : Hp} {ρ : Ev}
theorem Same.ne {b : Addr} (s : Same H H') (h : H b ≠ none) : H' b ≠ none := by
  cases e : H b with
  | none => exact absurd e h
  | some o => rw [s b o e]; exact fun z => nomatch z
theorem Rel.same (R : Rel Oc Ob om ln σ H ρ) (s : Same H H') : Rel Oc Ob om ln σ H' ρ where
  len := R.len
  val := fun i d e h1 h2 => let ⟨v, a, b⟩ := R.val i d e h1 h2; ⟨v, a, b.same s⟩
  own := fun i d e h1 => let ⟨v, q, a, ys, ds, e1, e2, e3, e4, e5⟩ := R.own i d e h1; ⟨v, q, a, ys, ds, e1, e2, s _ _ e3, e4, e5.same s⟩
  lnt := fun i d e h1 h2 => let ⟨v, q, ys, ds, e1, e2, e3, e4, e5⟩ := R.lnt i d e h1 h2; ⟨v, q, ys, ds, e1, e2, s _ _ e3, e4, e5.same s⟩
  inj := R.inj
  oh := fun a h => Same.ne s (R.oh a h)
  ap := R.ap
end
inductive Md where
  | cl
  | rd
  | any
  | new
noncomputable def VA (Oc : Wd) (Ob : Addr → Prop) (H : Hp) (v : V) (d : D) : Prop :=
  Rep H (Uni Oc Ob) v d ∨ ∃ a ys ds, v = .ref a ∧ d = .list ds ∧ H a = some (.lst ys) ∧ Reps H (Uni Oc Ob) ys ds
noncomputable def VR : Md → Wd → (Addr → Prop) → Hp → Hp → V → D → Prop
  | .cl, Oc, Ob, _, H', v, d => Rep H' (Uni Oc Ob) v d
  | .rd, Oc, Ob, _, H', v, d => Rep H' (Uni Oc Ob) v d ∨ ∃ a ys ds, v = .ref a ∧ d = .list ds ∧ H' a = some (.lst ys) ∧ ¬ Ob a ∧ Reps H' (Uni Oc Ob) ys ds
  | .any, Oc, Ob, _, H', v, d => VA Oc Ob H' v d
  | .new, Oc, Ob, H, H', v, d => ∃ a ys ds, v = .ref a ∧ d = .list ds ∧ H a = none ∧ H' a = some (.lst ys) ∧ Reps H' (fun b => Uni Oc Ob b ∨ b = a) ys ds
section
variable {Oc : Wd} {Ob : Addr → Prop} {H H1 H2 : Hp} {v : V} {d : D} {md : Md}
theorem VR.same (h : VR md Oc Ob H H1 v d) (s : Same H1 H2) : VR md Oc Ob H H2 v d := by
  cases md with
  | cl => exact Rep.same h s
  | rd =>
    rcases h with h | ⟨a, ys, ds, e1, e2, e3, e4, e5⟩
    · exact .inl (Rep.same h s)
    · exact .inr ⟨a, ys, ds, e1, e2, s _ _ e3, e4, e5.same s⟩
  | any =>
    rcases h with h | ⟨a, ys, ds, e1, e2, e3, e5⟩
    · exact .inl (Rep.same h s)
    · exact .inr ⟨a, ys, ds, e1, e2, s _ _ e3, e5.same s⟩
  | new =>
    obtain ⟨a, ys, ds, e1, e2, e3, e4, e5⟩ := h
    exact ⟨a, ys, ds, e1, e2, e3, s _ _ e4, e5.same s⟩
theorem VR.from (h : VR md Oc Ob H1 H2 v d) (s : Same H H1) : VR md Oc Ob H H2 v d := by
  cases md with
  | new =>
    obtain ⟨a, ys, ds, e1, e2, e3, e4, e5⟩ := h
    exact ⟨a, ys, ds, e1, e2, s.free e3, e4, e5⟩
  | _ => exact h
theorem VR.clean (h : VR .new Oc Ob H H1 v d) (oh : ∀ a, Oc a ∨ Ob a → H a ≠ none) : VR .cl Oc Ob H H1 v d := by
  obtain ⟨a, ys, ds, rfl, rfl, e3, e4, e5⟩ := h
  exact .lst (.inl e4) (fun z => oh a z e3) (e5.less fun b z => .inl z)
theorem VR.va (h : VR md Oc Ob H H1 v d) (oh : ∀ a, Oc a ∨ Ob a → H a ≠ none) : VA Oc Ob H1 v d := by
  cases md with
  | cl => exact .inl h
  | rd =>
    rcases h with h | ⟨a, ys, ds, e1, e2, e3, e4, e5⟩
    · exact .inl h
    · exact .inr ⟨a, ys, ds, e1, e2, e3, e5⟩
  | any => exact h
  | new => exact .inl (VR.clean h oh)
theorem VA.dat {K : PySem.W.Frag} (h : VA Oc Ob H v d) (c : PyData.canLay0 d = true) : DatV K H v d := by
  rcases h with h | ⟨a, ys, ds, rfl, rfl, e3, e5⟩
  · exact h.dat c
  · exact .lst (SqL.of e3) (e5.dat c)
theorem VA.datS {K : PySem.W.Frag} (h : VA Oc Ob H v d) (c : SeqAt.shaped d = true) : DatV K H v d := h.dat (SeqAt.canLay_of_shaped c)
theorem VA.list {ds : List D} (h : VA Oc Ob H v (.list ds)) : ∃ a ys, v = .ref a ∧ Rd H a (.lst ys) ∧ Reps H (Uni Oc Ob) ys ds := by
  rcases h with h | ⟨a, ys, ds, rfl, e, e3, e5⟩
  · cases h with
    | lst r n t => exact ⟨_, _, rfl, r, t⟩
  · cases e
    exact ⟨a, ys, rfl, .inl e3, e5⟩
theorem VA.tuple {ds : List D} (h : VA Oc Ob H v (.tuple ds)) : ∃ a ys, v = .ref a ∧ Rd H a (.tup ys) ∧ Reps H (Uni Oc Ob) ys ds := by
  rcases h with h | ⟨a, ys, ds, rfl, e, e3, e5⟩
  · cases h with
    | tup r n t => exact ⟨_, _, rfl, r, t⟩
  · cases e
theorem VA.int {i : Int} (h : VA Oc Ob H v (.int i)) : v = .int i := by
  rcases h with h | ⟨a, ys, ds, rfl, e, e3, e5⟩
  · cases h; rfl
  · cases e
theorem VA.bool {i : Bool} (h : VA Oc Ob H v (.bool i)) : v = .bl i := by
  rcases h with h | ⟨a, ys, ds, rfl, e, e3, e5⟩
  · cases h; rfl
  · cases e
theorem VA.none (h : VA Oc Ob H v .none) : v = .non := by
  rcases h with h | ⟨a, ys, ds, rfl, e, e3, e5⟩
  · cases h; rfl
  · cases e
theorem VA.str {x : Str} (h : VA Oc Ob H v (.str x)) : v = .str x := by
  rcases h with h | ⟨a, ys, ds, rfl, e, e3, e5⟩
  · cases h; rfl
  · cases e
theorem VA.rep (h : VA Oc Ob H v d) : Rep H (fun _ => False) v d := by
  rcases h with h | ⟨a, ys, ds, rfl, rfl, e3, e5⟩
  · exact h.less fun _ z => z.elim
  · exact .lst (.inl e3) (fun z => z) (e5.less fun _ z => z.elim)
end
structure Ct where
  X : Cx
  XE : Str → Hp → Prop
  om : List Nat
  ln : List Nat
noncomputable def RE (C : Ct) (md : Md) (e : Expr) (m : Ev → Res D) : Prop :=
  ∃ t, PE C.X e t ∧ ∀ (Oc : Wd) (Ob : Addr → Prop) (σ : St) (H : Hp) (ρ : Ev) (Q : VK), Rel Oc Ob C.om C.ln σ H ρ →
    (m ρ).post (fun d => ∀ v H', Same H H' → VR md Oc Ob H H' v d → Q v H') (fun c => ∀ H', Same H H' → C.XE c H') → t σ H Q
noncomputable def RT (C : Ct) (e : Expr) (m : Ev → Res Bool) : Prop :=
  ∃ t, PT C.X e t ∧ ∀ (Oc : Wd) (Ob : Addr → Prop) (σ : St) (H : Hp) (ρ : Ev) (Q : Bool → Hp → Prop), Rel Oc Ob C.om C.ln σ H ρ →
    (m ρ).post (fun b => ∀ H', Same H H' → Q b H') (fun c => ∀ H', Same H H' → C.XE c H') → t σ H Q
noncomputable def RW (C : Ct) (e : Expr) (m : Ev → Res Bool) : Prop :=
  ∃ t, PW C.X e t ∧ ∀ (Oc : Wd) (Ob : Addr → Prop) (σ : St) (H : Hp) (ρ : Ev) (Q : Bool → Hp → Prop), Rel Oc Ob C.om C.ln σ H ρ →
    (m ρ).post (fun b => ∀ H', Same H H' → Q b H') (fun c => ∀ H', Same H H' → C.XE c H') → t σ H Q
inductive Out where
  | nx (ρ : Ev)
  | rt (d : D)
noncomputable def Frm (Ob : Addr → Prop) (H H' : Hp) : Prop := ∀ b o, H b = some o → ¬ Ob b → H' b = some o
theorem Same.frm {Ob : Addr → Prop} {H H' : Hp} (s : Same H H') : Frm Ob H H' := fun b o e _ => s b o e
noncomputable def RetOk : Bool → Wd → (Addr → Prop) → Hp → Hp → V → D → Prop
  | true, Oc, Ob, H, H', v, d => ∃ a ys ds, v = .ref a ∧ d = .list ds ∧ (H a = none ∨ Ob a) ∧ ¬ Oc a ∧ H' a = some (.lst ys) ∧ Reps H' (fun b => Oc b ∨ b = a) ys ds
  | false, Oc, _, _, H', v, d => Rep H' Oc.o v d
noncomputable def SPost (C : Ct) (fr : Bool) (Oc : Wd) (Ob : Addr → Prop) (H : Hp) (E : Ends) (r : Res Out) : Prop :=
  r.post (fun o => match o with
    | .nx ρ' => ∀ σ' H' Ob', Rel Oc Ob' C.om C.ln σ' H' ρ' → Frm Ob H H' → (∀ b, Ob' b → Ob b ∨ H b = none) → E.nx σ' H'
    | .rt d => ∀ v H', Frm Ob H H' → RetOk fr Oc Ob H H' v d → E.rt v H') (fun c => ∀ H', Frm Ob H H' → C.XE c H')
noncomputable def RS (C : Ct) (fr : Bool) (st : Stmt) (m : Ev → Res Out) : Prop :=
  ∃ t, PS C.X st t ∧ ∀ (Oc : Wd) (Ob : Addr → Prop) (σ : St) (H : Hp) (ρ : Ev) (E : Ends), Rel Oc Ob C.om C.ln σ H ρ → SPost C fr Oc Ob H E (m ρ) → t E σ H
noncomputable def RSs (C : Ct) (fr : Bool) (st : List Stmt) (m : Ev → Res Out) : Prop :=
  ∃ t, PSs C.X st t ∧ ∀ (Oc : Wd) (Ob : Addr → Prop) (σ : St) (H : Hp) (ρ : Ev) (E : Ends), Rel Oc Ob C.om C.ln σ H ρ → SPost C fr Oc Ob H E (m ρ) → t E σ H
section
variable {C : Ct} {fr : Bool} {Oc : Wd} {Ob Ob1 Ob2 : Addr → Prop} {H H1 H2 : Hp} {E : Ends} {r : Res Out}
theorem Frm.trans (f : Frm Ob H H1) (s : ∀ b, Ob1 b → Ob b ∨ H b = none) (g : Frm Ob1 H1 H2) : Frm Ob H H2 := fun b o e n =>
  g b o (f b o e n) fun z => (s b z).elim n fun q => by rw [e] at q; cases q
theorem Frm.none (f : Frm Ob H H1) {b : Addr} (h : H1 b = none) : Ob b ∨ H b = none := by
  by_cases n : Ob b
  · exact .inl n
  · cases e : H b with
    | none => exact .inr rfl
    | some o => rw [f b o e n] at h; cases h
theorem SPost.step (f : Frm Ob H H1) (s : ∀ b, Ob1 b → Ob b ∨ H b = none) (h : SPost C fr Oc Ob H E r) : SPost C fr Oc Ob1 H1 E r := by
  refine Res.post_mono h (fun o _ q => ?_) fun c q H' g => q H' (f.trans s g)
  cases o with
  | nx ρ' => exact fun σ' H' Ob' R g s' => q σ' H' Ob' R (f.trans s g) fun b z => (s' b z).elim (s b) fun z => f.none z
  | rt d =>
    refine fun v H' g k => q v H' (f.trans s g) ?_
    cases fr with
    | false => exact k
    | true =>
      obtain ⟨a, ys, ds, e1, e2, e3, e4, e5, e6⟩ := k
      refine ⟨a, ys, ds, e1, e2, ?_, e4, e5, e6⟩
      rcases e3 with e3 | e3
      · exact (f.none e3).symm
      · exact (s a e3).symm
theorem SPost.same (f : Same H H1) (h : SPost C fr Oc Ob H E r) : SPost C fr Oc Ob H1 E r := h.step (Same.frm f) fun b z => .inl z
end
end L2.L3
set_option maxHeartbeats 4000000
namespace L2.L3
open PySem PySem.Spec PyProof.Rows
variable [CN]
section
variable {C : Ct} {a b c e : Expr} {es : List Expr} {pos : Pos} {md mda mdb mdc : Md} {ma mb mc : Ev → Res D}
theorem RE.cl (h : RE C .new e ma) : RE C .cl e ma := by
  obtain ⟨t, p, q⟩ := h
  exact ⟨t, p, fun Oc Ob σ H ρ Q R h => q Oc Ob σ H ρ Q R (Res.post_mono h (fun d _ k v H' s r => k v H' s (VR.clean r R.oh)) fun _ z => z)⟩
theorem RE.rd (h : RE C .cl e ma) : RE C .rd e ma := by
  obtain ⟨t, p, q⟩ := h
  exact ⟨t, p, fun Oc Ob σ H ρ Q R h => q Oc Ob σ H ρ Q R (Res.post_mono h (fun d _ k v H' s r => k v H' s (.inl r)) fun _ z => z)⟩
theorem RE.any (h : RE C md e ma) : RE C .any e ma := by
  obtain ⟨t, p, q⟩ := h
  exact ⟨t, p, fun Oc Ob σ H ρ Q R h => q Oc Ob σ H ρ Q R (Res.post_mono h (fun d _ k v H' s r => k v H' s (VR.va r R.oh)) fun _ z => z)⟩
noncomputable def eC (d : D) : Ev → Res D := fun _ => .ok d
theorem re_int {i j} : RE C .cl (.Constant (.int i) j pos) (eC (.int i)) := ⟨_, pe_int, fun Oc Ob σ H ρ Q R h => h _ H (Same.refl H) (Rep.int i)⟩
theorem re_bl {i j} : RE C .cl (.Constant (.bool i) j pos) (eC (.bool i)) := ⟨_, pe_bl, fun Oc Ob σ H ρ Q R h => h _ H (Same.refl H) (Rep.bl i)⟩
theorem re_non {j} : RE C .cl (.Constant .none j pos) (eC .none) := ⟨_, pe_non, fun Oc Ob σ H ρ Q R h => h _ H (Same.refl H) Rep.non⟩
theorem re_str {i j} : RE C .cl (.Constant (.str i) j pos) (eC (.str i)) := ⟨_, pe_str, fun Oc Ob σ H ρ Q R h => h _ H (Same.refl H) (Rep.str i)⟩
noncomputable def eV (i : Nat) : Ev → Res D := fun ρ => match ρ[i]? with
  | some (some d) => .ok d
  | _ => .no
theorem eV_post {i : Nat} {ρ : Ev} {Q : D → Prop} {E : Str → Prop} (h : (eV i ρ).post Q E) : ∃ d, ρ[i]? = some (some d) ∧ Q d := by
  unfold eV at h
  split at h
  · exact ⟨_, by assumption, h⟩
  · exact h.elim
theorem not_mem_of {i : Nat} {l : List Nat} (h : l.contains i = false) : i ∉ l := by
  intro z
  rw [List.contains_iff_mem.mpr z] at h
  cases h
theorem mem_of {i : Nat} {l : List Nat} (h : l.contains i = true) : i ∈ l := List.contains_iff_mem.mp h
theorem re_var (i : Nat) {x : Str} (hN : autoParam (C.X.N[i]? = some x) autoK5._auto_1) (ho : autoParam (C.om.contains i = false) autoK5._auto_1) (hl : autoParam (C.ln.contains i = false) autoK5._auto_1) (hv : autoParam (Vis C.X.env.scope x) autoK8._auto_1) (hd : autoParam ((x == ("__debug__" : Str)) = false) autoK2._auto_1)
    (hcd : autoParam ((x == ("__classdict__" : Str)) = false) autoK2._auto_1) : RE C .cl (.Name x pos) (eV i) := by
  refine ⟨_, pe_var hN hv hd hcd, fun Oc Ob σ H ρ Q R h => ?_⟩
  obtain ⟨d, e, k⟩ := eV_post h
  obtain ⟨v, q, r⟩ := R.val i d e (not_mem_of ho) (not_mem_of hl)
  exact ⟨v, q, k v H (Same.refl H) r⟩
theorem re_own (i : Nat) {x : Str} (hN : autoParam (C.X.N[i]? = some x) autoK5._auto_1) (ho : autoParam (C.om.contains i = true) autoK5._auto_1) (hv : autoParam (Vis C.X.env.scope x) autoK8._auto_1) (hd : autoParam ((x == ("__debug__" : Str)) = false) autoK2._auto_1)
    (hcd : autoParam ((x == ("__classdict__" : Str)) = false) autoK2._auto_1) : RE C .any (.Name x pos) (eV i) := by
  refine ⟨_, pe_var hN hv hd hcd, fun Oc Ob σ H ρ Q R h => ?_⟩
  obtain ⟨d, e, k⟩ := eV_post h
  obtain ⟨v, q, a, ys, ds, e1, e2, e3, e4, e5⟩ := R.own i d e (mem_of ho)
  exact ⟨v, q, k v H (Same.refl H) (.inr ⟨a, ys, ds, e1, e2, e3, e5⟩)⟩
theorem re_globI {x : Str} {i : Int} {u : Value} (hm : C.X.mg x = some u) (r : RelV (.int i) u) (hg : autoParam (Gl C.X x) autoK5._auto_1) (hd : autoParam ((x == ("__debug__" : Str)) = false) autoK2._auto_1) : RE C .cl (.Name x pos) (eC (.int i)) :=
  ⟨_, pe_glob hg hm r hd, fun Oc Ob σ H ρ Q R h => h _ H (Same.refl H) (Rep.int i)⟩
noncomputable def e2 (f : D → D → Option D) (m n : Ev → Res D) : Ev → Res D := fun ρ => (m ρ).bind fun x => (n ρ).bind fun y => Res.lft (f x y)
noncomputable def Pr2 (r : R2) (md : Md) (f : D → D → Option D) : Prop :=
  ∀ (Oc : Wd) (Ob : Addr → Prop) (H : Hp) (x y : V) (dx dy d : D) (Q : VK), (∀ a, Oc a ∨ Ob a → H a ≠ none) → VA Oc Ob H x dx → VA Oc Ob H y dy → f dx dy = some d → (∀ v H', Same H H' → VR md Oc Ob H H' v d → Q v H') → r x y H Q
theorem two {ta tb : TE} {f : D → D → Option D} {r : R2} (ha : ∀ (Oc : Wd) (Ob : Addr → Prop) (σ : St) (H : Hp) (ρ : Ev) (Q : VK), Rel Oc Ob C.om C.ln σ H ρ → (ma ρ).post (fun d => ∀ v H', Same H H' → VR mda Oc Ob H H' v d → Q v H') (fun c => ∀ H', Same H H' → C.XE c H') → ta σ H Q)
    (hb : ∀ (Oc : Wd) (Ob : Addr → Prop) (σ : St) (H : Hp) (ρ : Ev) (Q : VK), Rel Oc Ob C.om C.ln σ H ρ → (mb ρ).post (fun d => ∀ v H', Same H H' → VR mdb Oc Ob H H' v d → Q v H') (fun c => ∀ H', Same H H' → C.XE c H') → tb σ H Q) (hp : Pr2 r md f)
    {Oc : Wd} {Ob : Addr → Prop} {σ : St} {H : Hp} {ρ : Ev} {Q : VK} (R : Rel Oc Ob C.om C.ln σ H ρ) (h : (e2 f ma mb ρ).post (fun d => ∀ v H', Same H H' → VR md Oc Ob H H' v d → Q v H') (fun c => ∀ H', Same H H' → C.XE c H')) :
    ta σ H fun x H1 => tb σ H1 fun y H2 => r x y H2 Q := by
  refine ha Oc Ob σ H ρ _ R (Res.post_mono (Res.post_bind h) (fun dx _ q x H1 s1 vx => ?_) fun _ z => z)
  refine hb Oc Ob σ H1 ρ _ (R.same s1) (Res.post_mono (Res.post_bind q) (fun dy _ q y H2 s2 vy => ?_) fun c z H' s' => z H' (s1.trans s'))
  obtain ⟨d, e, q⟩ := Res.post_lft q
  have oh2 := ((R.same s1).same s2).oh
  refine hp Oc Ob H2 x y dx dy d Q oh2 ((vx.same s2).va R.oh) (vy.va (R.same s1).oh) e fun v H' s3 r => ?_
  exact q v H' ((s1.trans s2).trans s3) (r.from (s1.trans s2))
theorem re_op {op : Operator} {r : R2} {f : D → D → Option D} (ho : OpR C.X (binaryOp op) r) (hp : Pr2 r md f) (ha : RE C mda a ma) (hb : RE C mdb b mb) : RE C md (.BinOp a op b pos) (e2 f ma mb) := by
  obtain ⟨ta, pa, qa⟩ := ha
  obtain ⟨tb, pb, qb⟩ := hb
  exact ⟨_, pe_op ho pa pb, fun Oc Ob σ H ρ Q R h => two qa qb hp R h⟩
theorem re_ix {r : R2} {f : D → D → Option D} (ho : IxR C.X r) (hp : Pr2 r md f) (ha : RE C mda a ma) (hb : RE C mdb b mb) (hs : autoParam (PlainIx b) autoK9._auto_1) : RE C md (.Subscript a b pos) (e2 f ma mb) := by
  obtain ⟨ta, pa, qa⟩ := ha
  obtain ⟨tb, pb, qb⟩ := hb
  exact ⟨_, pe_ix ho pa pb hs, fun Oc Ob σ H ρ Q R h => two qa qb hp R h⟩
noncomputable def PrB (r : R2) (f : D → D → Option Bool) : Prop :=
  ∀ (Oc : Wd) (Ob : Addr → Prop) (H : Hp) (x y : V) (dx dy : D) (k : Bool) (Q : VK), VA Oc Ob H x dx → VA Oc Ob H y dy → f dx dy = some k → Q (.bl k) H → r x y H Q
noncomputable def bD (o : Option Bool) : Option D := o.map PyData.bool
theorem PrB.pr {r : R2} {f : D → D → Option Bool} (h : PrB r f) : Pr2 r .cl (fun x y => bD (f x y)) := by
  intro Oc Ob H x y dx dy d Q oh vx vy e k
  cases ef : f dx dy with
  | none => simp only [ef] at e; cases e
  | some b =>
    simp only [ef] at e
    cases e
    exact h Oc Ob H x y dx dy b Q vx vy ef (k _ H (Same.refl H) (Rep.bl b))
theorem re_cmp {op : CmpOp} {r : R2} {f : D → D → Option Bool} (ho : OpR C.X (compareOp op) r) (hp : PrB r f) (ha : RE C mda a ma) (hb : RE C mdb b mb) (hm : autoParam (behindInMarks op b = false) autoK10._auto_1) : RE C .cl (.Compare a [op] [b] pos) (e2 (fun x y => bD (f x y)) ma mb) := by
  obtain ⟨ta, pa, qa⟩ := ha
  obtain ⟨tb, pb, qb⟩ := hb
  exact ⟨_, pe_cmpR ho pa pb hm, fun Oc Ob σ H ρ Q R h => two qa qb hp.pr R h⟩
noncomputable def b2 (f : D → D → Option Bool) (m n : Ev → Res D) : Ev → Res Bool := fun ρ => (m ρ).bind fun x => (n ρ).bind fun y => Res.lft (f x y)
theorem two_bl {f : D → D → Option Bool} {ρ : Ev} {Q : Bool → Hp → Prop} {H : Hp} {E : Str → Prop} {Oc : Wd} {Ob : Addr → Prop} (h : (b2 f ma mb ρ).post (fun b => ∀ H', Same H H' → Q b H') E) :
    (e2 (fun x y => bD (f x y)) ma mb ρ).post (fun d => ∀ v H', Same H H' → VR .cl Oc Ob H H' v d → ∃ k, v = .bl k ∧ Q k H') E := by
  unfold e2
  unfold b2 at h
  cases ea : ma ρ with
  | no => rw [ea] at h; exact h
  | ex c => rw [ea] at h; exact h
  | ok x =>
    rw [ea] at h
    simp only [Res.bind_ok] at h ⊢
    cases eb : mb ρ with
    | no => rw [eb] at h; exact h
    | ex c => rw [eb] at h; exact h
    | ok y =>
      rw [eb] at h
      simp only [Res.bind_ok] at h ⊢
      obtain ⟨k, ek, q⟩ := Res.post_lft h
      rw [ek]
      intro v H' s r
      have : v = .bl k := by cases r; rfl
      exact ⟨k, this, q H' s⟩
theorem rt_cmp {op : CmpOp} {r : R2} {f : D → D → Option Bool} (ho : OpR C.X (compareOp op) r) (hp : PrB r f) (ha : RE C mda a ma) (hb : RE C mdb b mb) (hm : autoParam (behindInMarks op b = false) autoK10._auto_1) : RT C (.Compare a [op] [b] pos) (b2 f ma mb) := by
  obtain ⟨ta, pa, qa⟩ := ha
  obtain ⟨tb, pb, qb⟩ := hb
  exact ⟨_, pt_cmpR ho pa pb hm, fun Oc Ob σ H ρ Q R h => two qa qb hp.pr R (two_bl h)⟩
noncomputable def b3 (f g : D → D → Option Bool) (m n o : Ev → Res D) : Ev → Res Bool := fun ρ => (m ρ).bind fun x => (n ρ).bind fun y => (Res.lft (f x y)).bind fun k => if k then (o ρ).bind fun z => Res.lft (g y z) else .ok false
theorem chain3 {ta tb tc : TE} {f g : D → D → Option Bool} {r r' : R2} (ha : ∀ (Oc : Wd) (Ob : Addr → Prop) (σ : St) (H : Hp) (ρ : Ev) (Q : VK), Rel Oc Ob C.om C.ln σ H ρ → (ma ρ).post (fun d => ∀ v H', Same H H' → VR mda Oc Ob H H' v d → Q v H') (fun c => ∀ H', Same H H' → C.XE c H') → ta σ H Q)
    (hb : ∀ (Oc : Wd) (Ob : Addr → Prop) (σ : St) (H : Hp) (ρ : Ev) (Q : VK), Rel Oc Ob C.om C.ln σ H ρ → (mb ρ).post (fun d => ∀ v H', Same H H' → VR mdb Oc Ob H H' v d → Q v H') (fun c => ∀ H', Same H H' → C.XE c H') → tb σ H Q)
    (hc : ∀ (Oc : Wd) (Ob : Addr → Prop) (σ : St) (H : Hp) (ρ : Ev) (Q : VK), Rel Oc Ob C.om C.ln σ H ρ → (mc ρ).post (fun d => ∀ v H', Same H H' → VR mdc Oc Ob H H' v d → Q v H') (fun c => ∀ H', Same H H' → C.XE c H') → tc σ H Q) (hp : PrB r f) (hp' : PrB r' g)
    {Oc : Wd} {Ob : Addr → Prop} {σ : St} {H : Hp} {ρ : Ev} {Q : VK} (R : Rel Oc Ob C.om C.ln σ H ρ) (h : (b3 f g ma mb mc ρ).post (fun d => ∀ H', Same H H' → Q (.bl d) H') (fun c => ∀ H', Same H H' → C.XE c H')) :
    tChain r r' ta tb tc σ H Q := by
  refine ha Oc Ob σ H ρ _ R (Res.post_mono (Res.post_bind h) (fun dx _ q x H1 s1 vx => ?_) fun _ z => z)
  refine hb Oc Ob σ H1 ρ _ (R.same s1) (Res.post_mono (Res.post_bind q) (fun dy _ q y H2 s2 vy => ?_) fun c z H' s' => z H' (s1.trans s'))
  obtain ⟨k, e, q⟩ := Res.post_lft (Res.post_bind q)
  have R2 := (R.same s1).same s2
  refine hp Oc Ob H2 x y dx dy k _ ((vx.same s2).va R.oh) (vy.va (R.same s1).oh) e ⟨k, rfl, ?_⟩
  cases k with
  | false => exact iteF (q H2 (s1.trans s2))
  | true =>
    refine iteT (hc Oc Ob σ H2 ρ _ R2 (Res.post_mono (Res.post_bind q) (fun dz _ q z H3 s3 vz => ?_) fun c z H' s' => z H' ((s1.trans s2).trans s')))
    obtain ⟨k, e, q⟩ := Res.post_lft q
    exact hp' Oc Ob H3 y z dy dz k _ ((vy.same s3).va (R.same s1).oh) (vz.va R2.oh) e (q H3 ((s1.trans s2).trans s3))
theorem rt_chain {op op' : CmpOp} {r r' : R2} {f g : D → D → Option Bool} (ho : OpR C.X (compareOp op) r) (ho' : OpR C.X (compareOp op') r') (hp : PrB r f) (hp' : PrB r' g) (ha : RE C mda a ma) (hb : RE C mdb b mb) (hc : RE C mdc c mc)
    (hm : autoParam (lastMarks [op, op'] [b, c] = false) autoK7._auto_1) : RT C (.Compare a [op, op'] [b, c] pos) (b3 f g ma mb mc) := by
  obtain ⟨ta, pa, qa⟩ := ha
  obtain ⟨tb, pb, qb⟩ := hb
  obtain ⟨tc, pc, qc⟩ := hc
  exact ⟨_, pt_chain ho ho' pa pb pc hm, fun Oc Ob σ H ρ Q R h => chain3 qa qb qc hp hp' R (Res.post_mono h (fun b _ q H' s => ⟨b, rfl, q H' s⟩) fun _ z => z)⟩
noncomputable def vB (m : Ev → Res Bool) : Ev → Res D := fun ρ => (m ρ).bind fun b => .ok (.bool b)
variable {ta' tb' : Ev → Res Bool} {rest : List Expr}
noncomputable def isB : D → Option Bool
  | .bool b => some b
  | _ => none
noncomputable def tV (m : Ev → Res D) : Ev → Res Bool := fun ρ => (m ρ).bind fun d => Res.lft (isB d)
theorem isB_some {d : D} {b : Bool} (h : isB d = some b) : d = .bool b := by
  cases d <;> simp [isB] at h ⊢
  exact h
theorem rt_val (h : RE C md a ma) (he : autoParam (∀ whole, isTrue a C.X.env whole = (do let v ← whole; standAt a.pos; holding [v] (truthy v))) autoK4._auto_1) : RT C a (tV ma) := by
  obtain ⟨t, p, q⟩ := h
  refine ⟨_, pt_val p he, fun Oc Ob σ H ρ Q R h => q Oc Ob σ H ρ _ R (Res.post_mono (Res.post_bind h) (fun d _ k v H' s r => ?_) fun _ z => z)⟩
  obtain ⟨b, e, k⟩ := Res.post_lft k
  obtain rfl := isB_some e
  exact ⟨b, (r.va R.oh).bool, k H' s⟩
noncomputable def tNt (m : Ev → Res Bool) : Ev → Res Bool := fun ρ => (m ρ).bind fun b => .ok (!b)
theorem rt_not (h : RT C a ta') : RT C (.UnaryOp .Not a pos) (tNt ta') := by
  obtain ⟨t, p, q⟩ := h
  exact ⟨_, pt_not p, fun Oc Ob σ H ρ Q R h => q Oc Ob σ H ρ _ R (Res.post_mono (Res.post_bind h) (fun d _ k => k) fun _ z => z)⟩
noncomputable def tAn (m n : Ev → Res Bool) : Ev → Res Bool := fun ρ => (m ρ).bind fun b => if b then n ρ else .ok false
noncomputable def tO (m n : Ev → Res Bool) : Ev → Res Bool := fun ρ => (m ρ).bind fun b => if b then .ok true else n ρ
theorem rw_and1 (h : RT C a ta') : RW C (.BoolOp .And [a] pos) ta' := by
  obtain ⟨t, p, q⟩ := h
  exact ⟨_, pw_and1 p, q⟩
theorem rw_or1 (h : RT C a ta') : RW C (.BoolOp .Or [a] pos) ta' := by
  obtain ⟨t, p, q⟩ := h
  exact ⟨_, pw_or1 p, q⟩
theorem rw_and (ha : RT C a ta') (hb : RW C (.BoolOp .And (b :: rest) pos) tb') : RW C (.BoolOp .And (a :: b :: rest) pos) (tAn ta' tb') := by
  obtain ⟨t, p, q⟩ := ha
  obtain ⟨t', p', q'⟩ := hb
  refine ⟨_, pw_and p p', fun Oc Ob σ H ρ Q R h => q Oc Ob σ H ρ _ R (Res.post_mono (Res.post_bind h) (fun b _ k H' s => ?_) fun _ z => z)⟩
  cases b with
  | true => exact iteT (q' Oc Ob σ H' ρ Q (R.same s) (Res.post_mono k (fun b _ k H2 s2 => k H2 (s.trans s2)) fun c z H2 s2 => z H2 (s.trans s2)))
  | false => exact iteF (k H' s)
theorem rw_or (ha : RT C a ta') (hb : RW C (.BoolOp .Or (b :: rest) pos) tb') : RW C (.BoolOp .Or (a :: b :: rest) pos) (tO ta' tb') := by
  obtain ⟨t, p, q⟩ := ha
  obtain ⟨t', p', q'⟩ := hb
  refine ⟨_, pw_or p p', fun Oc Ob σ H ρ Q R h => q Oc Ob σ H ρ _ R (Res.post_mono (Res.post_bind h) (fun b _ k H' s => ?_) fun _ z => z)⟩
  cases b with
  | false => exact iteF (q' Oc Ob σ H' ρ Q (R.same s) (Res.post_mono k (fun b _ k H2 s2 => k H2 (s.trans s2)) fun c z H2 s2 => z H2 (s.trans s2)))
  | true => exact iteT (k H' s)
theorem RW.rt (h : RW C a ta') : RT C a ta' := by
  obtain ⟨t, p, q⟩ := h
  exact ⟨_, p.pt, q⟩
theorem re_one {op} (h : RE C md a ma) : RE C md (.BoolOp op [a] pos) ma := by
  obtain ⟨t, p, q⟩ := h
  exact ⟨_, pe_one p, q⟩
noncomputable def vAn (m n : Ev → Res D) : Ev → Res D := fun ρ => (m ρ).bind fun d => (Res.lft (isB d)).bind fun b => if b then n ρ else .ok (.bool false)
noncomputable def vO (m n : Ev → Res D) : Ev → Res D := fun ρ => (m ρ).bind fun d => (Res.lft (isB d)).bind fun b => if b then .ok (.bool true) else n ρ
noncomputable def vNt (m : Ev → Res D) : Ev → Res D := fun ρ => (m ρ).bind fun d => (Res.lft (isB d)).bind fun b => .ok (.bool (!b))
theorem re_and (ha : RE C mda a ma) (hb : RE C .cl (.BoolOp .And (b :: rest) pos) mb) : RE C .cl (.BoolOp .And (a :: b :: rest) pos) (vAn ma mb) := by
  obtain ⟨t, p, q⟩ := ha
  obtain ⟨t', p', q'⟩ := hb
  refine ⟨_, pe_and p p', fun Oc Ob σ H ρ Q R h => q Oc Ob σ H ρ _ R (Res.post_mono (Res.post_bind h) (fun d _ k v H' s r => ?_) fun _ z => z)⟩
  obtain ⟨b, e, k⟩ := Res.post_lft (Res.post_bind k)
  obtain rfl := isB_some e
  refine ⟨b, (r.va R.oh).bool, ?_⟩
  cases b with
  | true => exact iteT (q' Oc Ob σ H' ρ Q (R.same s) (Res.post_mono k (fun b _ k v H2 s2 r => k v H2 (s.trans s2) r) fun c z H2 s2 => z H2 (s.trans s2)))
  | false => exact iteF (k _ H' s (Rep.bl false))
theorem re_not (ha : RE C mda a ma) : RE C .cl (.UnaryOp .Not a pos) (vNt ma) := by
  obtain ⟨t, p, q⟩ := ha
  refine ⟨_, pe_not p, fun Oc Ob σ H ρ Q R h => q Oc Ob σ H ρ _ R (Res.post_mono (Res.post_bind h) (fun d _ k v H' s r => ?_) fun _ z => z)⟩
  obtain ⟨b, e, k⟩ := Res.post_lft (Res.post_bind k)
  obtain rfl := isB_some e
  exact ⟨b, (r.va R.oh).bool, k _ H' s (Rep.bl _)⟩
noncomputable def eIf (m : Ev → Res Bool) (n o : Ev → Res D) : Ev → Res D := fun ρ => (m ρ).bind fun b => if b then n ρ else o ρ
noncomputable def e1 (f : D → Option D) (m : Ev → Res D) : Ev → Res D := fun ρ => (m ρ).bind fun x => Res.lft (f x)
noncomputable def negD : D → Option D
  | .int i => some (.int (-i))
  | _ => none
end
end L2.L3
set_option maxHeartbeats 4000000
namespace L2.L3
open PySem PySem.Spec PyProof.Rows
variable [CN]
inductive VAs (Oc : Wd) (Ob : Addr → Prop) (H : Hp) : List V → List D → Prop
  | nil : VAs Oc Ob H [] []
  | cons {v : V} {d : D} {vs : List V} {ds : List D} : VA Oc Ob H v d → VAs Oc Ob H vs ds → VAs Oc Ob H (v :: vs) (d :: ds)
section
variable {Oc : Wd} {Ob : Addr → Prop} {H H' : Hp}
theorem VAs.rep : ∀ {vs : List V} {ds : List D}, VAs Oc Ob H vs ds → Reps H (fun _ => False) vs ds
  | _, _, .nil => .nil
  | _, _, .cons h t => .cons h.rep (VAs.rep t)
theorem Reps.va : ∀ {vs : List V} {ds : List D}, Reps H (Uni Oc Ob) vs ds → VAs Oc Ob H vs ds
  | _, _, .nil => .nil
  | _, _, .cons h t => .cons (.inl h) (Reps.va t)
theorem VA.same {v : V} {d : D} (h : VA Oc Ob H v d) (s : Same H H') : VA Oc Ob H' v d := VR.same (md := .any) (H := H) h s
theorem VAs.same (s : Same H H') : ∀ {vs : List V} {ds : List D}, VAs Oc Ob H vs ds → VAs Oc Ob H' vs ds
  | _, _, .nil => .nil
  | _, _, .cons h t => .cons (h.same s) (VAs.same s t)
end
noncomputable def VQ : Bool → Wd → (Addr → Prop) → Hp → List V → List D → Prop
  | true, Oc, Ob, H, vs, ds => Reps H (Uni Oc Ob) vs ds
  | false, Oc, Ob, H, vs, ds => VAs Oc Ob H vs ds
noncomputable def RArg (C : Ct) (cl : Bool) (es : List Expr) (m : Ev → Res (List D)) : Prop :=
  ∃ t, PA C.X es t ∧ ∀ (Oc : Wd) (Ob : Addr → Prop) (σ : St) (H : Hp) (ρ : Ev) (Q : List V → Hp → Prop), Rel Oc Ob C.om C.ln σ H ρ →
    (m ρ).post (fun ds => ∀ vs H', Same H H' → VQ cl Oc Ob H' vs ds → Q vs H') (fun c => ∀ H', Same H H' → C.XE c H') → t σ H Q
section
variable {C : Ct} {a b c e : Expr} {es : List Expr} {pos p : Pos} {md mda mdb mdc : Md} {ma mb mc : Ev → Res D} {ms : Ev → Res (List D)} {cl : Bool}
noncomputable def aN : Ev → Res (List D) := fun _ => .ok []
noncomputable def aC (m : Ev → Res D) (n : Ev → Res (List D)) : Ev → Res (List D) := fun ρ => (m ρ).bind fun x => (n ρ).bind fun xs => .ok (x :: xs)
theorem ra_nil : RArg C cl [] aN := ⟨_, pa_nil, fun Oc Ob σ H ρ Q R h => h [] H (Same.refl H) (by cases cl; exact VAs.nil; exact Reps.nil)⟩
theorem ra_cons (ha : RE C .cl e ma) (hr : RArg C true es ms) (hs : autoParam (starEach (e :: es) C.X.env = (false, eval e C.X.env) :: starEach es C.X.env) autoK5._auto_1) : RArg C true (e :: es) (aC ma ms) := by
  obtain ⟨t, p, q⟩ := ha
  obtain ⟨t', p', q'⟩ := hr
  refine ⟨_, pa_cons p p' hs, fun Oc Ob σ H ρ Q R h => q Oc Ob σ H ρ _ R (Res.post_mono (Res.post_bind h) (fun d _ k v H' s r => ?_) fun _ z => z)⟩
  refine q' Oc Ob σ H' ρ _ (R.same s) (Res.post_mono (Res.post_bind k) (fun ds _ k vs H2 s2 r2 => ?_) fun c z H2 s2 => z H2 (s.trans s2))
  exact k _ H2 (s.trans s2) (Reps.cons (r.same s2) r2)
theorem ra_consA (ha : RE C md e ma) (hr : RArg C false es ms) (hs : autoParam (starEach (e :: es) C.X.env = (false, eval e C.X.env) :: starEach es C.X.env) autoK5._auto_1) : RArg C false (e :: es) (aC ma ms) := by
  obtain ⟨t, p, q⟩ := ha
  obtain ⟨t', p', q'⟩ := hr
  refine ⟨_, pa_cons p p' hs, fun Oc Ob σ H ρ Q R h => q Oc Ob σ H ρ _ R (Res.post_mono (Res.post_bind h) (fun d _ k v H' s r => ?_) fun _ z => z)⟩
  refine q' Oc Ob σ H' ρ _ (R.same s) (Res.post_mono (Res.post_bind k) (fun ds _ k vs H2 s2 r2 => ?_) fun c z H2 s2 => z H2 (s.trans s2))
  exact k _ H2 (s.trans s2) (VAs.cons ((r.va R.oh).same s2) r2)
noncomputable def mkL (ds : List D) : Option D := if ds.length ≤ sizeLine then some (.list ds) else none
noncomputable def mkT (ds : List D) : Option D := if ds.length ≤ sizeLine then some (.tuple ds) else none
noncomputable def eB (f : List D → Option D) (m : Ev → Res (List D)) : Ev → Res D := fun ρ => (m ρ).bind fun ds => Res.lft (f ds)
theorem new_list {Oc : Wd} {Ob : Addr → Prop} {H H1 : Hp} {p : Addr} {vs : List V} {ds : List D} (s : Same H H1) (hp : H1 p = none) (r : Reps H1 (Uni Oc Ob) vs ds) : VR .new Oc Ob H (upd H1 p (.lst vs)) (.ref p) (.list ds) :=
  ⟨p, vs, ds, rfl, rfl, s.free hp, upd_same, r.keep (fun b o e _ => by rw [upd_ne (ne_of_none e hp)]; exact e) fun b n z => z.elim id fun z => by subst z; exact absurd hp n⟩
theorem new_tup {Oc : Wd} {Ob : Addr → Prop} {H1 : Hp} {p : Addr} {vs : List V} {ds : List D} (oh : ∀ a, Oc a ∨ Ob a → H1 a ≠ none) (hp : H1 p = none) (r : Reps H1 (Uni Oc Ob) vs ds) : Rep (upd H1 p (.tup vs)) (Uni Oc Ob) (.ref p) (.tuple ds) :=
  .tup (.inl upd_same) (fun z => oh p z hp) (r.same (Same.new hp))
theorem re_list (h : RArg C true es ms) : RE C .new (.List es pos) (eB mkL ms) := by
  obtain ⟨t, p, q⟩ := h
  refine ⟨_, pe_lst p, fun Oc Ob σ H ρ Q R h => q Oc Ob σ H ρ _ R (Res.post_mono (Res.post_bind h) (fun ds _ k vs H' s r => ?_) fun _ z => z)⟩
  obtain ⟨d, e, k⟩ := Res.post_lft k
  unfold mkL at e
  split at e
  · rename_i hl
    cases e
    exact ⟨by rw [Reps.length r]; exact hl, fun p hp => k _ _ (s.trans (Same.new hp)) (new_list s hp r)⟩
  · cases e
theorem re_tup {x1} (h : RArg C true es ms) : RE C .cl (.Tuple es x1 pos) (eB mkT ms) := by
  obtain ⟨t, p, q⟩ := h
  refine ⟨_, pe_tup p, fun Oc Ob σ H ρ Q R h => q Oc Ob σ H ρ _ R (Res.post_mono (Res.post_bind h) (fun ds _ k vs H' s r => ?_) fun _ z => z)⟩
  obtain ⟨d, e, k⟩ := Res.post_lft k
  unfold mkT at e
  split at e
  · rename_i hl
    cases e
    exact ⟨by rw [Reps.length r]; exact hl, fun p hp => k _ _ (s.trans (Same.new hp)) (new_tup (R.same s).oh hp r)⟩
  · cases e
noncomputable def PrC (r : List V → Hp → VK → Prop) (md : Md) (f : List D → Option D) : Prop :=
  ∀ (Oc : Wd) (Ob : Addr → Prop) (H : Hp) (vs : List V) (ds : List D) (d : D) (Q : VK), (∀ a, Oc a ∨ Ob a → H a ≠ none) → VAs Oc Ob H vs ds → f ds = some d → (∀ v H', Same H H' → VR md Oc Ob H H' v d → Q v H') → r vs H Q
theorem prim_call {t : TA} {r : List V → Hp → VK → Prop} {f : List D → Option D} (q : ∀ (Oc : Wd) (Ob : Addr → Prop) (σ : St) (H : Hp) (ρ : Ev) (Q : List V → Hp → Prop), Rel Oc Ob C.om C.ln σ H ρ →
    (ms ρ).post (fun ds => ∀ vs H', Same H H' → VQ false Oc Ob H' vs ds → Q vs H') (fun c => ∀ H', Same H H' → C.XE c H') → t σ H Q) (hp : PrC r md f)
    {Oc : Wd} {Ob : Addr → Prop} {σ : St} {H : Hp} {ρ : Ev} {Q : VK} (R : Rel Oc Ob C.om C.ln σ H ρ) (h : (eB f ms ρ).post (fun d => ∀ v H', Same H H' → VR md Oc Ob H H' v d → Q v H') (fun c => ∀ H', Same H H' → C.XE c H')) : tCB r t σ H Q := by
  refine q Oc Ob σ H ρ _ R (Res.post_mono (Res.post_bind h) (fun ds _ k vs H' s r => ?_) fun _ z => z)
  obtain ⟨d, e, k⟩ := Res.post_lft k
  exact hp Oc Ob H' vs ds d Q (R.same s).oh r e fun v H2 s2 r2 => k v H2 (s.trans s2) (r2.from s)
theorem re_callB {x : Str} {id : String} {r : List V → Hp → VK → Prop} {f : List D → Option D} (hc : CallR C.X (.builtin id) r) (hp : PrC r md f) (hm : C.X.mg x = none) (hv : bootBuiltins x = some (.builtin id)) (ha : RArg C false (e :: es) ms) (hg : autoParam (Gl C.X x) autoK5._auto_1) (hn : autoParam (x ≠ "__name__") autoK2._auto_1) (hdb : autoParam ((x == ("__debug__" : Str)) = false) autoK2._auto_1)
    (he : autoParam (starEach (e :: es) C.X.env = (false, eval e C.X.env) :: starEach es C.X.env) autoK5._auto_1) (hpl : autoParam ((backTo pos (starEach es C.X.env)).any (·.1) = false) autoK5._auto_1) : RE C md (.Call (.Name x p) (e :: es) [] pos) (eB f ms) := by
  obtain ⟨t, pa, q⟩ := ha
  exact ⟨_, pe_callB hc hg hm hv pa hn hdb he hpl, fun Oc Ob σ H ρ Q R h => prim_call q hp R h⟩
theorem re_callTy {x : Str} {T : String} {r : List V → Hp → VK → Prop} {f : List D → Option D} (hc : CallR C.X (.type T) r) (hp : PrC r md f) (hm : C.X.mg x = none) (hv : bootBuiltins x = some (.type T)) (ha : RArg C false (e :: es) ms) (hg : autoParam (Gl C.X x) autoK5._auto_1) (hn : autoParam (x ≠ "__name__") autoK2._auto_1) (hdb : autoParam ((x == ("__debug__" : Str)) = false) autoK2._auto_1)
    (he : autoParam (starEach (e :: es) C.X.env = (false, eval e C.X.env) :: starEach es C.X.env) autoK5._auto_1) (hpl : autoParam ((backTo pos (starEach es C.X.env)).any (·.1) = false) autoK5._auto_1) : RE C md (.Call (.Name x p) (e :: es) [] pos) (eB f ms) := by
  obtain ⟨t, pa, q⟩ := ha
  exact ⟨_, pe_callTy hc hg hm hv pa hn hdb he hpl, fun Oc Ob σ H ρ Q R h => prim_call q hp R h⟩
noncomputable def Walks (Oc : Wd) (Ob : Addr → Prop) (J : It) (H1 : Hp) (ds : List D) : Prop :=
  ∀ (H2 : Hp) (Ob2 : Addr → Prop), Frm Ob H1 H2 → (∀ b, Ob2 b → Ob b ∨ H1 b = none) → ∀ i, (∀ d, ds[i]? = some d → J.go i H2 ∧ ∀ x H3, J.yld i H2 x H3 → Same H2 H3 ∧ Rep H3 (Uni Oc Ob2) x d) ∧ (ds.length ≤ i → J.stop i H2)
noncomputable def RI (C : Ct) (tg iter : Expr) (m : Ev → Res (List D)) : Prop :=
  ∃ wi, PI C.X tg iter wi ∧ ∀ (Oc : Wd) (Ob : Addr → Prop) (σ : St) (H : Hp) (ρ : Ev) (R : It → Hp → Prop), Rel Oc Ob C.om C.ln σ H ρ →
    (m ρ).post (fun ds => ∀ J H1, Same H H1 → Walks Oc Ob J H1 ds → R J H1) (fun c => ∀ H', Same H H' → C.XE c H') → wi σ H R
noncomputable def iSeq (K : PySem.W.Frag) (tl : TE) : TI := fun σ H R => tl σ H fun x H1 => ∃ a, x = .ref a ∧ (((∃ xs, SqL K H1 a xs) ∧ R (Itl K a) H1) ∨ ((∃ xs, SqT K H1 a xs) ∧ R (Itt K a) H1))
theorem pi_seq {X : Cx} {tg l : Expr} {tl : TE} (hl : PE X l tl) : PI X tg l (iSeq X.K tl) := by
  intro pins s σ H R I h
  refine thn (hl pins s σ H _ I h) fun v s1 ⟨x, H1, I1, r1, q1⟩ => ?_
  obtain ⟨a, e, q1⟩ := q1
  subst e
  cases r1
  rcases q1 with ⟨⟨xs, hq⟩, q⟩ | ⟨⟨xs, hq⟩, q⟩
  · obtain ⟨its, rv, p, hz⟩ := I1.list hq
    refine wpAny_pyIter_list p.isList ?_
    refine ⟨s1.heap.objs.size, [s1.heap.objs.size], _, _, H1, rfl, I1.kept (t' := s1.toks) fun b o e => Heap.get?_push_of_some _ e, turn_list a _, ⟨_, Heap.get?_push_size _ rfl, rfl, rfl⟩, fun b hb => ?_, q⟩
    have e : b = s1.heap.objs.size := by simpa using hb
    subst e
    exact I1.fpOk (Nat.le_refl _) (I1.hok.fresh (Nat.le_refl _))
  · obtain ⟨its, rv, p, hz⟩ := I1.tuple hq
    refine wpAny_pyIter_tuple (show s1.heap.IsTuple a its.toArray from p) ?_
    refine ⟨s1.heap.objs.size, [s1.heap.objs.size], _, _, H1, rfl, I1.kept (t' := s1.toks) fun b o e => Heap.get?_push_of_some _ e, turn_tuple a _, ⟨_, Heap.get?_push_size _ rfl, rfl, rfl⟩, fun b hb => ?_, q⟩
    have e : b = s1.heap.objs.size := by simpa using hb
    subst e
    exact I1.fpOk (Nat.le_refl _) (I1.hok.fresh (Nat.le_refl _))
noncomputable def seqD : D → Option (List D)
  | .list ds => some ds
  | .tuple ds => some ds
  | _ => none
noncomputable def iS (m : Ev → Res D) : Ev → Res (List D) := fun ρ => (m ρ).bind fun d => Res.lft (seqD d)
theorem Reps.step {Oc : Wd} {Ob Ob2 : Addr → Prop} {H1 H2 : Hp} {vs : List V} {ds : List D} (r : Reps H1 (Uni Oc Ob) vs ds) (f : Frm Ob H1 H2) (s : ∀ b, Ob2 b → Ob b ∨ H1 b = none) : Reps H2 (Uni Oc Ob2) vs ds :=
  r.keep (fun b o e n => f b o e fun z => n (.inr z)) fun b n z => z.elim .inl fun z => (s b z).elim .inr fun q => absurd q n
theorem Rep.step {Oc : Wd} {Ob Ob2 : Addr → Prop} {H1 H2 : Hp} {v : V} {d : D} (r : Rep H1 (Uni Oc Ob) v d) (f : Frm Ob H1 H2) (s : ∀ b, Ob2 b → Ob b ∨ H1 b = none) : Rep H2 (Uni Oc Ob2) v d :=
  r.keep (fun b o e n => f b o e fun z => n (.inr z)) fun b n z => z.elim .inl fun z => (s b z).elim .inr fun q => absurd q n
end
theorem walks_list {K : PySem.W.Frag} {Oc : Wd} {Ob : Addr → Prop} {H1 : Hp} {a : Addr} {ys : List V} {ds : List D} (r : Rd H1 a (.lst ys)) (n : ¬ Ob a) (rs : Reps H1 (Uni Oc Ob) ys ds) : Walks Oc Ob (Itl K a) H1 ds := by
  intro H2 Ob2 f s i
  have r2 : Rd H2 a (.lst ys) := rd_keep r fun o e => f a o e n
  have rs2 := rs.step f s
  refine ⟨fun d e => ?_, fun h => ⟨ys, .inl r2, by rw [rs2.length]; exact h⟩⟩
  obtain ⟨v, ev, rv⟩ := rs2.get e
  refine ⟨⟨ys, v, .inl r2, ev⟩, fun x H3 hy => ?_⟩
  obtain ⟨rfl, hy⟩ := hy
  have := hy ys (.inl r2)
  rw [ev] at this
  cases this
  exact ⟨Same.refl _, rv⟩
theorem walks_tuple {K : PySem.W.Frag} {Oc : Wd} {Ob : Addr → Prop} {H1 : Hp} {a : Addr} {ys : List V} {ds : List D} (r : Rd H1 a (.tup ys)) (n : ¬ Ob a) (rs : Reps H1 (Uni Oc Ob) ys ds) : Walks Oc Ob (Itt K a) H1 ds := by
  intro H2 Ob2 f s i
  have r2 : Rd H2 a (.tup ys) := rd_keep r fun o e => f a o e n
  have rs2 := rs.step f s
  refine ⟨fun d e => ?_, fun h => ⟨ys, .inl r2, by rw [rs2.length]; exact h⟩⟩
  obtain ⟨v, ev, rv⟩ := rs2.get e
  refine ⟨⟨ys, v, .inl r2, ev⟩, fun x H3 hy => ?_⟩
  obtain ⟨rfl, hy⟩ := hy
  have := hy ys (.inl r2)
  rw [ev] at this
  cases this
  exact ⟨Same.refl _, rv⟩
theorem walks_range {Oc : Wd} {Ob : Addr → Prop} {H1 : Hp} {lo : Int} {n : Nat} {ds : List D} (e : ds = (List.range n).map fun (i : Nat) => PyData.int (lo + (i : Int))) : Walks Oc Ob (Itr lo n) H1 ds := by
  intro H2 Ob2 f s i
  subst e
  refine ⟨fun d e => ?_, fun h => by show n ≤ i; simpa using h⟩
  rw [List.getElem?_map] at e
  by_cases hi : i < n
  · rw [List.getElem?_range hi] at e
    cases e
    refine ⟨hi, fun x H3 hy => ?_⟩
    obtain ⟨rfl, rfl⟩ := hy
    exact ⟨Same.refl _, .int _⟩
  · rw [List.getElem?_eq_none (by simpa using hi)] at e
    cases e
section
variable {C : Ct} {a b c e : Expr} {es : List Expr} {pos p : Pos} {md mda mdb mdc : Md} {ma mb mc : Ev → Res D} {ms : Ev → Res (List D)} {cl : Bool} {tg : Expr}
theorem ri_seq (h : RE C .rd e ma) : RI C tg e (iS ma) := by
  obtain ⟨t, p, q⟩ := h
  refine ⟨_, pi_seq p, fun Oc Ob σ H ρ W R h => q Oc Ob σ H ρ _ R (Res.post_mono (Res.post_bind h) (fun d _ k v H' s r => ?_) fun _ z => z)⟩
  obtain ⟨ds, e, k⟩ := Res.post_lft k
  rcases r with r | ⟨a, ys, ds', rfl, rfl, e3, e4, e5⟩
  · cases r with
    | lst r n t => cases e; exact ⟨_, rfl, .inl ⟨⟨_, .inl r⟩, k _ H' s (walks_list r (fun z => n (.inr z)) t)⟩⟩
    | tup r n t => cases e; exact ⟨_, rfl, .inr ⟨⟨_, .inl r⟩, k _ H' s (walks_tuple r (fun z => n (.inr z)) t)⟩⟩
    | _ => cases e
  · cases e
    exact ⟨_, rfl, .inl ⟨⟨_, SqL.of e3⟩, k _ H' s (walks_list (.inl e3) e4 e5)⟩⟩
noncomputable def rng1 : List D → Option (List D)
  | [.int j] => if -(2 ^ 62) ≤ j ∧ j < 2 ^ 62 then some ((List.range j.toNat).map fun (i : Nat) => PyData.int (i : Int)) else none
  | _ => none
noncomputable def iR (f : List D → Option (List D)) (m : Ev → Res (List D)) : Ev → Res (List D) := fun ρ => (m ρ).bind fun ds => Res.lft (f ds)
theorem VAs.one {Oc : Wd} {Ob : Addr → Prop} {H : Hp} {vs : List V} {d : D} (h : VAs Oc Ob H vs [d]) : ∃ v, vs = [v] ∧ VA Oc Ob H v d := by
  cases h with
  | cons a t => cases t; exact ⟨_, rfl, a⟩
theorem VAs.two {Oc : Wd} {Ob : Addr → Prop} {H : Hp} {vs : List V} {d d' : D} (h : VAs Oc Ob H vs [d, d']) : ∃ v v', vs = [v, v'] ∧ VA Oc Ob H v d ∧ VA Oc Ob H v' d' := by
  cases h with
  | cons a t =>
    obtain ⟨v, rfl, q⟩ := VAs.one t
    exact ⟨_, _, rfl, a, q⟩
theorem ri_range1 (hm : C.X.mg "range" = none) (ha : RArg C false [a] ms) (hg : autoParam (Gl C.X "range") autoK5._auto_1) (hs : autoParam (starEach [a] C.X.env = [(false, eval a C.X.env)]) autoK5._auto_1) : RI C tg (.Call (.Name "range" p) [a] [] pos) (iR rng1 ms) := by
  obtain ⟨t, pa, q⟩ := ha
  refine ⟨_, pi_range1 hg hm pa hs, fun Oc Ob σ H ρ W R h => q Oc Ob σ H ρ _ R (Res.post_mono (Res.post_bind h) (fun ds _ k vs H' s r => ?_) fun _ z => z)⟩
  obtain ⟨xs, e, k⟩ := Res.post_lft k
  unfold rng1 at e
  split at e
  · split at e
    · rename_i hb
      cases e
      obtain ⟨v, rfl, va⟩ := VAs.one r
      obtain rfl := va.int
      exact ⟨_, rfl, hb.1, hb.2, k _ H' s (walks_range (by simp))⟩
    · cases e
  · cases e
end
end L2.L3
set_option maxHeartbeats 4000000
namespace L2.L3
open PySem PySem.Spec PyProof.Rows
variable [CN]
noncomputable def cEnv (ρ : Ev) (js : List Nat) (x : D) : Ev := some x :: js.map fun j => (ρ[j]?).join
noncomputable def capt (js l : List Nat) : List Nat := ((List.range js.length).filter fun i => l.contains (js.getD i 0)).map (· + 1)
noncomputable def noEx {α : Type} : Res α → Res α
  | .ok a => .ok a
  | _ => .no
theorem noEx_ok {α : Type} {r : Res α} {a : α} (h : noEx r = .ok a) : r = .ok a := by
  cases r with
  | ok b => exact h
  | ex c => cases h
  | no => cases h
noncomputable def compM (t : D → Res Bool) (f : D → Res D) : List D → Res (List D)
  | [] => .ok []
  | x :: xs => (noEx (t x)).bind fun b => if b then (noEx (f x)).bind fun y => (compM t f xs).bind fun ys => .ok (y :: ys) else compM t f xs
noncomputable def eComp (mi : Ev → Res (List D)) (mt : Ev → Res Bool) (me : Ev → Res D) (js : List Nat) : Ev → Res D := fun ρ => (mi ρ).bind fun ds => if ds.length ≤ sizeLine then (compM (fun x => mt (cEnv ρ js x)) (fun x => me (cEnv ρ js x)) ds).bind fun out => .ok (.list out) else .no
theorem capt_mem {js l : List Nat} {i : Nat} (h : i ∈ capt js l) : ∃ k, i = k + 1 ∧ k < js.length ∧ js.getD k 0 ∈ l := by
  unfold capt at h
  obtain ⟨k, hk, rfl⟩ := List.mem_map.mp h
  obtain ⟨h1, h2⟩ := List.mem_filter.mp hk
  exact ⟨k, rfl, List.mem_range.mp h1, List.contains_iff_mem.mp h2⟩
theorem mem_capt {js l : List Nat} {k j : Nat} (h : js[k]? = some j) (hl : j ∈ l) : k + 1 ∈ capt js l := by
  unfold capt
  refine List.mem_map.mpr ⟨k, List.mem_filter.mpr ⟨List.mem_range.mpr ?_, ?_⟩, rfl⟩
  · exact (List.getElem?_eq_some_iff.mp h).1
  · rw [List.getD_eq_getElem?_getD, h]
    exact List.contains_iff_mem.mpr hl
theorem cEnv_succ {ρ : Ev} {js : List Nat} {x d : D} {k : Nat} (h : (cEnv ρ js x)[k + 1]? = some (some d)) : ∃ j, js[k]? = some j ∧ ρ[j]? = some (some d) := by
  unfold cEnv at h
  rw [List.getElem?_cons_succ, List.getElem?_map] at h
  cases e : js[k]? with
  | none => rw [e] at h; cases h
  | some j =>
    rw [e] at h
    refine ⟨j, rfl, ?_⟩
    have h : (ρ[j]?).join = some d := Option.some.inj h
    cases q : ρ[j]? with
    | none => rw [q] at h; cases h
    | some z => rw [q] at h; rw [show z = some d from h]
theorem compSt_succ {σ : St} {js : List Nat} {v0 : Option V} {v : V} {k j : Nat} (h : js[k]? = some j) (e : σ[j]? = some (some v)) : (compSt σ js v0)[k + 1]? = some (some v) := by
  unfold compSt
  rw [List.getElem?_cons_succ, List.getElem?_map, h]
  show some ((σ[j]?).join) = _
  rw [e]
  rfl
noncomputable def adr : Option (Option V) → Addr
  | some (some (.ref a)) => a
  | _ => 0
noncomputable def cW (Oc : Wd) (Ob : Addr → Prop) (σ : St) (js : List Nat) : Wd := ⟨Uni Oc Ob, fun i => adr ((compSt σ js none)[i]?)⟩
theorem Rel.comp {Oc : Wd} {Ob : Addr → Prop} {om ln : List Nat} {σ : St} {H : Hp} {ρ : Ev} {js : List Nat} {x : V} {d : D} (R : Rel Oc Ob om ln σ H ρ) (r : Rep H (Uni Oc Ob) x d) : Rel (cW Oc Ob σ js) (fun _ => False) [] (capt js (om ++ ln)) (compSt σ js (some x)) H (cEnv ρ js d) where
  len := by unfold compSt cEnv; simp
  val := fun i d' e _ hl => by
    cases i with
    | zero =>
      cases e
      exact ⟨x, rfl, r.less fun b z => z.elim id fun z => z.elim⟩
    | succ k =>
      obtain ⟨j, e1, e2⟩ := cEnv_succ e
      have h1 : j ∉ om := fun z => hl (mem_capt e1 (List.mem_append_left _ z))
      have h2 : j ∉ ln := fun z => hl (mem_capt e1 (List.mem_append_right _ z))
      obtain ⟨v, q, rv⟩ := R.val j d' e2 h1 h2
      exact ⟨v, compSt_succ e1 q, rv.less fun b z => z.elim id fun z => z.elim⟩
  own := fun i d' e h => nomatch h
  lnt := fun i d' e _ hl => by
    obtain ⟨k, rfl, hk, hj⟩ := capt_mem hl
    obtain ⟨j, e1, e2⟩ := cEnv_succ e
    rw [List.getD_eq_getElem?_getD, e1, Option.getD_some] at hj
    by_cases ho : j ∈ om
    · obtain ⟨v, q, a, ys, ds, z1, z2, z3, z4, z5⟩ := R.own j d' e2 ho
      have ea : (cW Oc Ob σ js).la (k + 1) = a := by show adr _ = a; rw [compSt_succ e1 q, z1]; rfl
      exact ⟨v, compSt_succ e1 q, ys, ds, by rw [ea]; exact z1, z2, by rw [ea]; exact z3, by rw [ea]; exact .inr z4, z5.less fun b z => z.elim id fun z => z.elim⟩
    · have hl2 : j ∈ ln := (List.mem_append.mp hj).elim (fun z => absurd z ho) id
      obtain ⟨v, q, ys, ds, z1, z2, z3, z4, z5⟩ := R.lnt j d' e2 ho hl2
      have ea : (cW Oc Ob σ js).la (k + 1) = Oc.la j := by show adr _ = _; rw [compSt_succ e1 q, z1]; rfl
      exact ⟨v, compSt_succ e1 q, ys, ds, by rw [ea]; exact z1, z2, by rw [ea]; exact z3, by rw [ea]; exact .inl z4, z5.less fun b z => z.elim id fun z => z.elim⟩
  inj := fun i j di dj a _ _ h => nomatch h
  oh := fun a z => R.oh a (z.elim id fun z => z.elim)
  ap := fun a z => z.elim
noncomputable abbrev cC (C : Ct) (N : List Str) (scope : Scope) (A : Addr) (fp : List Addr) (s₂ : Shared) (H : Hp) (js : List Nat) : Ct := ⟨cxComp C.X N scope A fp s₂ H, fun _ _ => False, [], capt js (C.om ++ C.ln)⟩
noncomputable def RTs (C : Ct) (ifs : List Expr) (m : Ev → Res Bool) : Prop := ∃ t, PTs C.X ifs t ∧ ∀ (Oc : Wd) (Ob : Addr → Prop) (σ : St) (H : Hp) (ρ : Ev) (Q : Bool → Hp → Prop), Rel Oc Ob C.om C.ln σ H ρ →
    (m ρ).post (fun b => ∀ H', Same H H' → Q b H') (fun c => ∀ H', Same H H' → C.XE c H') → t σ H Q
noncomputable def tYes : Ev → Res Bool := fun _ => .ok true
theorem rts_nil {C : Ct} : RTs C [] tYes := ⟨_, .nil, fun Oc Ob σ H ρ Q R h => h H (Same.refl H)⟩
noncomputable def WalksS (Oc : Wd) (Ob : Addr → Prop) (J : It) (H1 : Hp) (ds : List D) : Prop :=
  ∀ (H2 : Hp), Same H1 H2 → ∀ i, (∀ d, ds[i]? = some d → J.go i H2 ∧ ∀ x H3, J.yld i H2 x H3 → Same H2 H3 ∧ Rep H3 (Uni Oc Ob) x d) ∧ (ds.length ≤ i → J.stop i H2)
noncomputable def RIc (C : Ct) (tg iter : Expr) (m : Ev → Res (List D)) : Prop :=
  ∃ wi, PI C.X tg iter wi ∧ ∀ (Oc : Wd) (Ob : Addr → Prop) (σ : St) (H : Hp) (ρ : Ev) (R : It → Hp → Prop), Rel Oc Ob C.om C.ln σ H ρ →
    (m ρ).post (fun ds => ∀ J H1, Same H H1 → WalksS Oc Ob J H1 ds → R J H1) (fun c => ∀ H', Same H H' → C.XE c H') → wi σ H R
theorem RI.c {C : Ct} {tg iter : Expr} {m : Ev → Res (List D)} (h : RI C tg iter m) : RIc C tg iter m := by
  obtain ⟨wi, p, q⟩ := h
  exact ⟨wi, p, fun Oc Ob σ H ρ W R h => q Oc Ob σ H ρ W R (Res.post_mono h (fun ds _ k J H1 s w => k J H1 s fun H2 s2 => w H2 Ob (Same.frm s2) fun b z => .inl z) fun _ z => z)⟩
theorem comp_read {C : Ct} {elt : Expr} {ifs : List Expr} {scope : Scope} {N : List Str} {js : List Nat} {mi : Ev → Res (List D)} {mt : Ev → Res Bool} {me : Ev → Res D} {wi : TI}
    (qi : ∀ (Oc : Wd) (Ob : Addr → Prop) (σ : St) (H : Hp) (ρ : Ev) (R : It → Hp → Prop), Rel Oc Ob C.om C.ln σ H ρ → (mi ρ).post (fun ds => ∀ J H1, Same H H1 → WalksS Oc Ob J H1 ds → R J H1) (fun c => ∀ H', Same H H' → C.XE c H') → wi σ H R)
    (ht : ∀ A fp s₂ H, RTs (cC C N scope A fp s₂ H js) ifs mt) (he : ∀ A fp s₂ H, RE (cC C N scope A fp s₂ H js) .cl elt me)
    {Oc : Wd} {Ob : Addr → Prop} {σ : St} {H : Hp} {ρ : Ev} {Q : VK} (R : Rel Oc Ob C.om C.ln σ H ρ) (h : (eComp mi mt me js ρ).post (fun d => ∀ v H', Same H H' → VR .new Oc Ob H H' v d → Q v H') (fun c => ∀ H', Same H H' → C.XE c H')) :
    tComp wi (fun A fp s H => Classical.choose (ht A fp s H)) (fun A fp s H => Classical.choose (he A fp s H)) js σ H Q := by
  refine qi Oc Ob σ H ρ _ R (Res.post_mono (Res.post_bind h) (fun ds _ k J H1 s1 wk => ?_) fun _ z => z)
  intro A fp s₂ H₂
  have qt := (Classical.choose_spec (ht A fp s₂ H₂)).2
  have qe := (Classical.choose_spec (he A fp s₂ H₂)).2
  have k : (if ds.length ≤ sizeLine then (compM (fun x => mt (cEnv ρ js x)) (fun x => me (cEnv ρ js x)) ds).bind fun out => Res.ok (PyData.list out) else .no).post (fun d => ∀ v H', Same H H' → VR .new Oc Ob H H' v d → Q v H') (fun c => ∀ H', Same H H' → C.XE c H') := k
  by_cases hlen : ds.length ≤ sizeLine
  · rw [if_pos hlen] at k
    generalize hT : (fun x => mt (cEnv ρ js x)) = T at k
    generalize hF : (fun x => me (cEnv ρ js x)) = F at k
    cases ec : compM T F ds with
    | no => rw [ec] at k; exact k.elim
    | ex c =>
      exfalso
      have nex : ∀ xs c, compM T F xs ≠ .ex c := by
        intro xs
        induction xs with
        | nil => intro c z; cases z
        | cons x xs ih =>
          intro c z
          rw [compM] at z
          cases e1 : noEx (T x) with
          | no => rw [e1] at z; cases z
          | ex c' => cases hx : T x <;> rw [hx] at e1 <;> cases e1
          | ok b =>
            rw [e1, Res.bind_ok] at z
            cases b with
            | false => exact ih c z
            | true =>
              simp only [if_true] at z
              cases e2 : noEx (F x) with
              | no => rw [e2] at z; cases z
              | ex c' => cases hx : F x <;> rw [hx] at e2 <;> cases e2
              | ok y =>
                rw [e2, Res.bind_ok] at z
                cases e3 : compM T F xs with
                | no => rw [e3] at z; cases z
                | ex c' => exact ih c' e3
                | ok ys => rw [e3] at z; cases z
      exact nex ds c ec
    | ok out =>
      rw [ec, Res.bind_ok] at k
      refine ⟨fun i m acc H => m = ds.length - i ∧ i ≤ ds.length ∧ Same H1 H ∧ ∃ done rest, Reps H (Uni Oc Ob) acc done ∧ acc.length ≤ i ∧ compM T F (ds.drop i) = .ok rest ∧ done ++ rest = out, ⟨_, rfl, Nat.zero_le _, Same.refl _, [], out, .nil, Nat.le_refl _, ec, rfl⟩, ?_⟩
      rintro i m acc H2 ⟨rfl, hi, s2, done, rest, ra, la, er, eo⟩
      obtain ⟨w1, w2⟩ := wk H2 s2 i
      have R2 := (R.same s1).same s2
      by_cases hlt : i < ds.length
      · obtain ⟨go, yl⟩ := w1 ds[i] (List.getElem?_eq_getElem hlt)
        have ed : ds.drop i = ds[i] :: ds.drop (i + 1) := List.drop_eq_getElem_cons hlt
        rw [ed, compM] at er
        have nxt : ∀ (acc' : List V) (H3 : Hp) (done' rest' : List D), Same H2 H3 → Reps H3 (Uni Oc Ob) acc' done' → acc'.length ≤ i + 1 → compM T F (ds.drop (i + 1)) = .ok rest' → done' ++ rest' = out →
            ∃ m', m' < ds.length - i ∧ (m' = ds.length - (i + 1) ∧ i + 1 ≤ ds.length ∧ Same H1 H3 ∧ ∃ done rest, Reps H3 (Uni Oc Ob) acc' done ∧ acc'.length ≤ i + 1 ∧ compM T F (ds.drop (i + 1)) = .ok rest ∧ done ++ rest = out) :=
          fun acc' H3 done' rest' s3 r3 l3 c3 o3 => ⟨_, by bv_omega, rfl, hlt, s2.trans s3, done', rest', r3, l3, c3, o3⟩
        refine .inr ⟨go, fun acc' H' => ∃ m', m' < ds.length - i ∧ (m' = ds.length - (i + 1) ∧ i + 1 ≤ ds.length ∧ Same H1 H' ∧ ∃ done rest, Reps H' (Uni Oc Ob) acc' done ∧ acc'.length ≤ i + 1 ∧ compM T F (ds.drop (i + 1)) = .ok rest ∧ done ++ rest = out), fun acc' H' z => z, fun x H3 hy => ?_⟩
        obtain ⟨s3, rx⟩ := yl x H3 hy
        have R3 := (R2.same s3).comp (js := js) rx
        cases e1 : noEx (T ds[i]) with
        | no => rw [e1] at er; cases er
        | ex c => rw [e1] at er; cases er
        | ok b =>
          rw [e1, Res.bind_ok] at er
          have t1 : mt (cEnv ρ js ds[i]) = .ok b := by
            have t1 := noEx_ok e1
            rw [← hT] at t1
            exact t1
          refine qt _ _ _ H3 _ _ R3 ?_
          show (mt (cEnv ρ js ds[i])).post _ _
          rw [t1]
          intro H4 s4
          cases b with
          | false => exact iteF (nxt acc H4 done rest (s3.trans s4) (ra.same (s3.trans s4)) (by bv_omega) er eo)
          | true =>
            refine iteT ?_
            simp only [if_true] at er
            cases e2 : noEx (F ds[i]) with
            | no => rw [e2] at er; cases er
            | ex c => rw [e2] at er; cases er
            | ok y =>
              rw [e2, Res.bind_ok] at er
              have t2 : me (cEnv ρ js ds[i]) = .ok y := by
                have t2 := noEx_ok e2
                rw [← hF] at t2
                exact t2
              refine qe _ _ _ H4 _ _ (R3.same s4) ?_
              show (me (cEnv ρ js ds[i])).post _ _
              rw [t2]
              intro v H5 s5 rv
              refine ⟨by bv_omega, ?_⟩
              obtain ⟨ys, e3⟩ : ∃ ys, compM T F (ds.drop (i + 1)) = .ok ys := by
                cases e3 : compM T F (ds.drop (i + 1)) with
                | no => rw [e3] at er; cases er
                | ex c => rw [e3] at er; cases er
                | ok ys => exact ⟨ys, rfl⟩
              rw [e3, Res.bind_ok] at er
              cases er
              have rv' : Rep H5 (Uni Oc Ob) v y := Rep.less rv fun b z => .inl z
              refine nxt (acc ++ [v]) H5 (done ++ [y]) ys ((s3.trans s4).trans s5) ((ra.same ((s3.trans s4).trans s5)).append (.one rv')) (by rw [List.length_append, List.length_singleton]; bv_omega) e3 ?_
              rw [List.append_assoc]
              exact eo
      · have ei : i = ds.length := by bv_omega
        subst ei
        refine .inl ⟨w2 (Nat.le_refl _), fun p hp => ?_⟩
        rw [List.drop_length] at er
        cases er
        rw [List.append_nil] at eo
        subst eo
        exact k _ _ ((s1.trans s2).trans (Same.new hp)) (new_list (s1.trans s2) hp ra)
  · rw [if_neg hlen] at k
    exact k.elim
theorem re_comp {C : Ct} {elt iter : Expr} {ifs : List Expr} {sc0 scope : Scope} {N0 : List Str} {px pos : Pos} {xt : Str} {fs : List Str} {js : List Nat} {mi : Ev → Res (List D)} {mt : Ev → Res Bool} {me : Ev → Res D} (S : CompScope sc0 scope N0 xt fs js) (h0 : C.X.env.scope = sc0) (hN0 : C.X.N = N0) (hc : C.X.calm = true)
    (hi : RIc C (.Name xt px) iter mi) (ht : ∀ A fp s₂ H, RTs (cC C (xt :: fs) scope A fp s₂ H js) ifs mt) (he : ∀ A fp s₂ H, RE (cC C (xt :: fs) scope A fp s₂ H js) .cl elt me)
    (hs : autoParam (∀ x, foldedSetIterable iter C.X.env x = pure x) autoK4._auto_1) :
    RE C .new (.ListComp elt [⟨.Name xt px, iter, ifs, 0⟩] scope pos) (eComp mi mt me js) := by
  obtain ⟨wi, pi, qi⟩ := hi
  refine ⟨_, pe_comp (tt := fun A fp s H => Classical.choose (ht A fp s H)) (te := fun A fp s H => Classical.choose (he A fp s H)) S h0 hN0 hc pi (fun A fp s H => (Classical.choose_spec (ht A fp s H)).1) (fun A fp s H => (Classical.choose_spec (he A fp s H)).1) hs, fun Oc Ob σ H ρ Q R h => comp_read qi ht he R h⟩
end L2.L3
set_option maxHeartbeats 4000000
namespace L2.L3
open PySem PySem.Spec PyProof.Rows
variable [CN]
section
variable {C : Ct} {fr : Bool} {e c : Expr} {pos : Pos} {md : Md} {me : Ev → Res D} {mt : Ev → Res Bool} {st : Stmt} {sts rest : List Stmt} {m n : Ev → Res Out}
noncomputable def sN : Ev → Res Out := fun ρ => .ok (.nx ρ)
noncomputable def sQ (m n : Ev → Res Out) : Ev → Res Out := fun ρ => (m ρ).bind fun o => match o with
  | .nx ρ' => n ρ'
  | .rt d => .ok (.rt d)
theorem rss_nil : RSs C fr [] sN := ⟨_, pss_nil, fun Oc Ob σ H ρ E R h => h σ H Ob R (Same.frm (Same.refl H)) fun b z => .inl z⟩
theorem rss_one (h : RS C fr st m) : RSs C fr [st] m := by
  obtain ⟨t, p, q⟩ := h
  exact ⟨_, pss_one p, q⟩
theorem rss_cons (h : RS C fr st m) (hr : RSs C fr rest n) : RSs C fr (st :: rest) (sQ m n) := by
  obtain ⟨t, p, q⟩ := h
  obtain ⟨t', p', q'⟩ := hr
  refine ⟨_, pss_cons p p', fun Oc Ob σ H ρ E R h => q Oc Ob σ H ρ _ R (Res.post_mono (Res.post_bind h) (fun o _ k => ?_) fun _ z => z)⟩
  cases o with
  | rt d => exact k
  | nx ρ' => exact fun σ' H' Ob' R' f s => q' Oc Ob' σ' H' ρ' E R' (SPost.step f s k)
noncomputable def sX : Ev → Res Out := fun _ => .no
theorem rs_never : RS C fr st sX := ⟨_, ps_never, fun Oc Ob σ H ρ E R h => h.elim⟩
noncomputable def sIf (t : Ev → Res Bool) (m n : Ev → Res Out) : Ev → Res Out := fun ρ => (t ρ).bind fun b => if b then m ρ else n ρ
theorem rs_if {x y : List Stmt} (hc : RT C c mt) (hx : RSs C fr x m) (hy : RSs C fr y n) : RS C fr (.If c x y pos) (sIf mt m n) := by
  obtain ⟨t, p, q⟩ := hc
  obtain ⟨t1, p1, q1⟩ := hx
  obtain ⟨t2, p2, q2⟩ := hy
  refine ⟨_, ps_if p p1 p2, fun Oc Ob σ H ρ E R h => q Oc Ob σ H ρ _ R (Res.post_mono (Res.post_bind h) (fun b _ k H' s => ?_) fun c z H' s => z H' (Same.frm s))⟩
  cases b with
  | true => exact iteT (q1 Oc Ob σ H' ρ E (R.same s) (SPost.same s k))
  | false => exact iteF (q2 Oc Ob σ H' ρ E (R.same s) (SPost.same s k))
noncomputable def sR (m : Ev → Res D) : Ev → Res Out := fun ρ => (m ρ).bind fun d => .ok (.rt d)
theorem rs_ret (he : RE C .cl e me) : RS C false (.Return (some e) pos) (sR me) := by
  obtain ⟨t, p, q⟩ := he
  refine ⟨_, ps_ret p, fun Oc Ob σ H ρ E R h => q Oc Ob σ H ρ _ R (Res.post_mono (Res.post_bind h) (fun d _ k v H' s r => ?_) fun c z H' s => z H' (Same.frm s))⟩
  exact k v H' (Same.frm s) (Rep.less r fun b z => .inl z)
theorem rs_retO (i : Nat) {x : Str} {p' : Pos} (hN : autoParam (C.X.N[i]? = some x) autoK5._auto_1) (ho : autoParam (C.om.contains i = true) autoK5._auto_1) (hv : autoParam (Vis C.X.env.scope x) autoK8._auto_1) (hd : autoParam ((x == ("__debug__" : Str)) = false) autoK2._auto_1)
    (hcd : autoParam ((x == ("__classdict__" : Str)) = false) autoK2._auto_1) : RS C true (.Return (some (.Name x p')) pos) (sR (eV i)) := by
  refine ⟨_, ps_ret (pe_var hN hv hd hcd), fun Oc Ob σ H ρ E R h => ?_⟩
  obtain ⟨d, e, k⟩ := eV_post (Res.post_bind h)
  obtain ⟨v, q, a, ys, ds, e1, e2, e3, e4, e5⟩ := R.own i d e (mem_of ho)
  exact ⟨v, q, k v H (Same.frm (Same.refl H)) ⟨a, ys, ds, e1, e2, .inr e4, R.ap a e4, e3, e5.less fun b z => z.elim .inl fun z => .inr (by subst z; exact e4)⟩⟩
theorem set_get {α : Type} {l : List (Option α)} {i j : Nat} {v d : α} (h : (l.set i (some v))[j]? = some (some d)) : (j = i ∧ d = v) ∨ (j ≠ i ∧ l[j]? = some (some d)) := by
  by_cases e : i = j
  · subst e
    rw [List.getElem?_set_self'] at h
    cases q : l[i]? with
    | none => rw [q] at h; cases h
    | some z => rw [q] at h; cases h; exact .inl ⟨rfl, rfl⟩
  · rw [List.getElem?_set_ne e] at h
    exact .inr ⟨fun z => e z.symm, h⟩
theorem set_lt {α : Type} {l : List (Option α)} {i j : Nat} {v d : α} (h : (l.set i (some v))[j]? = some (some d)) : j < l.length := by
  have := (List.getElem?_eq_some_iff.mp h).1
  simpa using this
theorem Rel.set {Oc : Wd} {Ob : Addr → Prop} {om ln : List Nat} {σ : St} {H : Hp} {ρ : Ev} {i : Nat} {v : V} {d : D} (R : Rel Oc Ob om ln σ H ρ) (ho : i ∉ om) (hl : i ∉ ln) (r : Rep H (Uni Oc Ob) v d) : Rel Oc Ob om ln (σ.set i (some v)) H (ρ.set i (some d)) where
  len := by rw [List.length_set, List.length_set]; exact R.len
  val := fun j d' e h1 h2 => by
    have hj := set_lt e
    rcases set_get e with ⟨rfl, rfl⟩ | ⟨ne, e⟩
    · exact ⟨v, by rw [List.getElem?_set_self (by rw [R.len]; exact hj)], r⟩
    · obtain ⟨w, q, k⟩ := R.val j d' e h1 h2
      exact ⟨w, by rw [List.getElem?_set_ne (fun z => ne z.symm)]; exact q, k⟩
  own := fun j d' e h1 => by
    rcases set_get e with ⟨rfl, rfl⟩ | ⟨ne, e⟩
    · exact absurd h1 ho
    · obtain ⟨w, q, k⟩ := R.own j d' e h1
      exact ⟨w, by rw [List.getElem?_set_ne (fun z => ne z.symm)]; exact q, k⟩
  lnt := fun j d' e h1 h2 => by
    rcases set_get e with ⟨rfl, rfl⟩ | ⟨ne, e⟩
    · exact absurd h2 hl
    · obtain ⟨w, q, k⟩ := R.lnt j d' e h1 h2
      exact ⟨w, by rw [List.getElem?_set_ne (fun z => ne z.symm)]; exact q, k⟩
  inj := fun j k dj dk a ej ek hj hk qj qk => by
    rcases set_get ej with ⟨rfl, rfl⟩ | ⟨nj, ej⟩
    · exact absurd hj ho
    · rcases set_get ek with ⟨rfl, rfl⟩ | ⟨nk, ek⟩
      · exact absurd hk ho
      · rw [List.getElem?_set_ne (fun z => nj z.symm)] at qj
        rw [List.getElem?_set_ne (fun z => nk z.symm)] at qk
        exact R.inj j k dj dk a ej ek hj hk qj qk
  oh := R.oh
  ap := R.ap
theorem Rel.setO {Oc : Wd} {Ob : Addr → Prop} {om ln : List Nat} {σ : St} {H H' : Hp} {ρ : Ev} {i : Nat} {v : V} {d : D} (R : Rel Oc Ob om ln σ H ρ) (s : Same H H') (ho : i ∈ om) (r : VR .new Oc Ob H H' v d) : ∃ a, H a = none ∧ Rel Oc (fun b => Ob b ∨ b = a) om ln (σ.set i (some v)) H' (ρ.set i (some d)) := by
  obtain ⟨a, ys, ds, rfl, rfl, e3, e4, e5⟩ := r
  have up : ∀ {vs : List V} {es : List D}, Reps H (Uni Oc Ob) vs es → Reps H' (Uni Oc fun b => Ob b ∨ b = a) vs es := fun r => r.keep (fun b o e _ => s b o e) fun b n z => z.elim .inl fun z => z.elim .inr fun z => by subst z; exact absurd e3 n
  have up1 : ∀ {v : V} {e : D}, Rep H (Uni Oc Ob) v e → Rep H' (Uni Oc fun b => Ob b ∨ b = a) v e := fun r => r.keep (fun b o e _ => s b o e) fun b n z => z.elim .inl fun z => z.elim .inr fun z => by subst z; exact absurd e3 n
  refine ⟨a, e3, ?_, fun j d' e h1 h2 => ?_, fun j d' e h1 => ?_, fun j d' e h1 h2 => ?_, fun j k dj dk b ej ek hj hk qj qk => ?_, fun b z => ?_, fun b z => ?_⟩
  · rw [List.length_set, List.length_set]; exact R.len
  · rcases set_get e with ⟨rfl, rfl⟩ | ⟨ne, e⟩
    · exact absurd ho h1
    · obtain ⟨w, q, k⟩ := R.val j d' e h1 h2
      exact ⟨w, by rw [List.getElem?_set_ne (fun z => ne z.symm)]; exact q, up1 k⟩
  · have hj := set_lt e
    rcases set_get e with ⟨rfl, rfl⟩ | ⟨ne, e⟩
    · refine ⟨.ref a, by rw [List.getElem?_set_self (by rw [R.len]; exact hj)], a, ys, ds, rfl, rfl, e4, .inr rfl, e5.less fun b z => z.elim (fun z => .inl (.inl z)) fun z => z.elim (fun z => .inl (.inr z)) .inr⟩
    · obtain ⟨w, q, b, zs, fs, z1, z2, z3, z4, z5⟩ := R.own j d' e h1
      exact ⟨w, by rw [List.getElem?_set_ne (fun z => ne z.symm)]; exact q, b, zs, fs, z1, z2, s _ _ z3, .inl z4, up z5⟩
  · rcases set_get e with ⟨rfl, rfl⟩ | ⟨ne, e⟩
    · exact absurd ho h1
    · obtain ⟨w, q, zs, fs, z1, z2, z3, z4, z5⟩ := R.lnt j d' e h1 h2
      exact ⟨w, by rw [List.getElem?_set_ne (fun z => ne z.symm)]; exact q, zs, fs, z1, z2, s _ _ z3, z4, up z5⟩
  · have lj := set_lt ej
    have lk := set_lt ek
    rcases set_get ej with ⟨rfl, rfl⟩ | ⟨nj, ej'⟩
    · rw [List.getElem?_set_self (by rw [R.len]; exact lj)] at qj
      cases qj
      rcases set_get ek with ⟨rfl, rfl⟩ | ⟨nk, ek'⟩
      · rfl
      · rw [List.getElem?_set_ne (fun z => nk z.symm)] at qk
        obtain ⟨w, q, b, zs, fs, z1, z2, z3, z4, z5⟩ := R.own k dk ek' hk
        rw [qk] at q
        cases q
        cases z1
        rw [e3] at z3
        cases z3
    · rw [List.getElem?_set_ne (fun z => nj z.symm)] at qj
      rcases set_get ek with ⟨rfl, rfl⟩ | ⟨nk, ek'⟩
      · rw [List.getElem?_set_self (by rw [R.len]; exact lk)] at qk
        cases qk
        obtain ⟨w, q, b, zs, fs, z1, z2, z3, z4, z5⟩ := R.own j dj ej' hj
        rw [qj] at q
        cases q
        cases z1
        rw [e3] at z3
        cases z3
      · rw [List.getElem?_set_ne (fun z => nk z.symm)] at qk
        exact R.inj j k dj dk b ej' ek' hj hk qj qk
  · rcases z with z | z | rfl
    · exact Same.ne s (R.oh b (.inl z))
    · exact Same.ne s (R.oh b (.inr z))
    · rw [e4]; exact fun z => nomatch z
  · rcases z with z | rfl
    · exact R.ap b z
    · exact fun z => R.oh b (.inl z) e3
noncomputable def sS (i : Nat) (m : Ev → Res D) : Ev → Res Out := fun ρ => (m ρ).bind fun d => .ok (.nx (ρ.set i (some d)))
theorem rs_set (i : Nat) {x : Str} {p' : Pos} (nd : C.X.N.Nodup) (he : RE C .cl e me) (hi : autoParam (C.X.N[i]? = some x) autoK5._auto_1) (ho : autoParam (C.om.contains i = false) autoK5._auto_1) (hl : autoParam (C.ln.contains i = false) autoK5._auto_1) (hx : autoParam (Loc C.X.env.scope x) autoK11._auto_1)
    (hs : autoParam (swapsWith e (some (.Name x p')) pos.line C.X.env = pure false) autoK5._auto_1) (hf : autoParam (C.X.fn x = true ∨ C.X.env.scope.names.lookup x = some .local) autoK12._auto_1) : RS C fr (.Assign [.Name x p'] e pos) (sS i me) := by
  obtain ⟨t, p, q⟩ := he
  refine ⟨_, ps_set nd hi hx p hs hf, fun Oc Ob σ H ρ E R h => q Oc Ob σ H ρ _ R (Res.post_mono (Res.post_bind h) (fun d _ k v H' s r => ?_) fun c z H' s => z H' (Same.frm s))⟩
  exact k _ H' Ob ((R.same s).set (not_mem_of ho) (not_mem_of hl) r) (Same.frm s) fun b z => .inl z
theorem rs_setO (i : Nat) {x : Str} {p' : Pos} (nd : C.X.N.Nodup) (he : RE C .new e me) (hi : autoParam (C.X.N[i]? = some x) autoK5._auto_1) (ho : autoParam (C.om.contains i = true) autoK5._auto_1) (hx : autoParam (Loc C.X.env.scope x) autoK11._auto_1)
    (hs : autoParam (swapsWith e (some (.Name x p')) pos.line C.X.env = pure false) autoK5._auto_1) (hf : autoParam (C.X.fn x = true ∨ C.X.env.scope.names.lookup x = some .local) autoK12._auto_1) : RS C fr (.Assign [.Name x p'] e pos) (sS i me) := by
  obtain ⟨t, p, q⟩ := he
  refine ⟨_, ps_set nd hi hx p hs hf, fun Oc Ob σ H ρ E R h => q Oc Ob σ H ρ _ R (Res.post_mono (Res.post_bind h) (fun d _ k v H' s r => ?_) fun c z H' s => z H' (Same.frm s))⟩
  obtain ⟨a, ha, R'⟩ := R.setO s (mem_of ho) r
  exact k _ H' _ R' (Same.frm s) fun b z => z.elim .inl fun z => .inr (by subst z; exact ha)
noncomputable def sE (m : Ev → Res D) : Ev → Res Out := fun ρ => (m ρ).bind fun _ => .ok (.nx ρ)
theorem Rel.write {Oc : Wd} {Ob : Addr → Prop} {om ln : List Nat} {σ : St} {H : Hp} {ρ : Ev} {i : Nat} {a : Addr} {ys ys' : List V} {d : D} {ds' : List D} (R : Rel Oc Ob om ln σ H ρ) (ho : i ∈ om) (ed : ρ[i]? = some (some d)) (es : σ[i]? = some (some (.ref a))) (ha : H a = some (.lst ys)) (hb : Ob a)
    (r : Reps H (Uni Oc Ob) ys' ds') : Rel Oc Ob om ln σ (upd H a (.lst ys')) (ρ.set i (some (.list ds'))) := by
  have kp : ∀ b o, H b = some o → ¬ Uni Oc Ob b → upd H a (.lst ys') b = some o := fun b o e n => by
    rw [upd_ne (fun z => n (by subst z; exact .inr hb))]; exact e
  have up : ∀ {vs : List V} {es : List D}, Reps H (Uni Oc Ob) vs es → Reps (upd H a (.lst ys')) (Uni Oc Ob) vs es := fun r => r.keep kp fun b n z => z
  have up1 : ∀ {v : V} {e : D}, Rep H (Uni Oc Ob) v e → Rep (upd H a (.lst ys')) (Uni Oc Ob) v e := fun r => r.keep kp fun b n z => z
  have li : i < σ.length := (List.getElem?_eq_some_iff.mp es).1
  refine ⟨by rw [List.length_set]; exact R.len, fun j d' e h1 h2 => ?_, fun j d' e h1 => ?_, fun j d' e h1 h2 => ?_, fun j k dj dk b ej ek hj hk qj qk => ?_, fun b z => ?_, R.ap⟩
  · rcases set_get e with ⟨rfl, rfl⟩ | ⟨ne, e⟩
    · exact absurd ho h1
    · obtain ⟨w, q, k⟩ := R.val j d' e h1 h2
      exact ⟨w, q, up1 k⟩
  · rcases set_get e with ⟨rfl, rfl⟩ | ⟨ne, e⟩
    · exact ⟨.ref a, es, a, ys', ds', rfl, rfl, upd_same, hb, up r⟩
    · obtain ⟨w, q, b, zs, fs, rfl, z2, z3, z4, z5⟩ := R.own j d' e h1
      have nb : b ≠ a := fun z => by subst z; exact ne (R.inj j i d' d b e ed h1 ho q es)
      exact ⟨_, q, b, zs, fs, rfl, z2, by rw [upd_ne nb]; exact z3, z4, up z5⟩
  · rcases set_get e with ⟨rfl, rfl⟩ | ⟨ne, e⟩
    · exact absurd ho h1
    · obtain ⟨w, q, zs, fs, z1, z2, z3, z4, z5⟩ := R.lnt j d' e h1 h2
      have nb : Oc.la j ≠ a := fun z => R.ap a hb (z ▸ z4)
      exact ⟨_, q, zs, fs, z1, z2, by rw [upd_ne nb]; exact z3, z4, up z5⟩
  · have get : ∀ j dj, (ρ.set i (some (.list ds')))[j]? = some (some dj) → ∃ d, ρ[j]? = some (some d) := fun j dj e => by
      rcases set_get e with ⟨rfl, rfl⟩ | ⟨ne, e⟩
      · exact ⟨d, ed⟩
      · exact ⟨dj, e⟩
    obtain ⟨d1, e1⟩ := get j dj ej
    obtain ⟨d2, e2⟩ := get k dk ek
    exact R.inj j k d1 d2 b e1 e2 hj hk qj qk
  · by_cases h : b = a
    · subst h; rw [upd_same]; exact fun z => nomatch z
    · rw [upd_ne h]; exact R.oh b z
noncomputable def PrM (r : V → List V → Hp → VK → Prop) (g : List D → List D → Option (List D)) : Prop :=
  ∀ (O : Addr → Prop) (H : Hp) (l : Addr) (xs vs : List V) (xd ad ds' : List D) (Q : VK), H l = some (.lst xs) → Reps H O xs xd → Reps H O vs ad → g xd ad = some ds' → (∀ xs', Reps H O xs' ds' → Q .non (upd H l (.lst xs'))) → r (.ref l) vs H Q
noncomputable def lstD : D → Option (List D)
  | .list ds => some ds
  | _ => none
noncomputable def sM (i : Nat) (g : List D → List D → Option (List D)) (m : Ev → Res (List D)) : Ev → Res Out := fun ρ => (eV i ρ).bind fun d => (Res.lft (lstD d)).bind fun xd => (m ρ).bind fun ad => (Res.lft (g xd ad)).bind fun ds => .ok (.nx (ρ.set i (some (.list ds))))
theorem lstD_some {d : D} {ds : List D} (h : lstD d = some ds) : d = .list ds := by
  cases d <;> simp [lstD] at h ⊢
  exact h
theorem rs_meth (i : Nat) {x name : Str} {id : String} {a : Expr} {es : List Expr} {ms : Ev → Res (List D)} {p' apos cpos : Pos} {r : V → List V → Hp → VK → Prop} {g : List D → List D → Option (List D)} (slot : Slot "list" name id) (hty : typeOf (.builtin id) = pure (.type "method_descriptor")) (hm : MtR C.X id r) (hp : PrM r g) (ha : RArg C true (a :: es) ms)
    (hN : autoParam (C.X.N[i]? = some x) autoK5._auto_1) (ho : autoParam (C.om.contains i = true) autoK5._auto_1) (hv : autoParam (Vis C.X.env.scope x) autoK8._auto_1) (hd : autoParam ((x == ("__debug__" : Str)) = false) autoK2._auto_1) (hcd : autoParam ((x == ("__classdict__" : Str)) = false) autoK2._auto_1)
    (hbase : autoParam (attributeBase (.Name x p') name C.X.env (eval (.Name x p') C.X.env) = eval (.Name x p') C.X.env) autoK5._auto_1)
    (hfew : ((backTo cpos (starEach (a :: es) C.X.env)).all (fun x => !x.1) && (backToKw cpos (keywordEach [] C.X.env)).all (fun x => x.1.isSome)
      && decide ((a :: es).length + ([] : List Keyword).length + (if ([] : List Keyword).isEmpty then 0 else 1) < 30)) = true := by rfl)
    (hline : autoParam ((apos.endLine == cpos.line) = true) autoK5._auto_1) (hs : autoParam (starEach (a :: es) C.X.env = (false, eval a C.X.env) :: starEach es C.X.env) autoK5._auto_1) (hplain : autoParam ((backTo cpos (starEach es C.X.env)).any (·.1) = false) autoK5._auto_1)
    (hsw : autoParam (swapsWith (.Call (.Attribute (.Name x p') name apos) (a :: es) [] cpos) none pos.line C.X.env = pure false) autoK5._auto_1) :
    RS C fr (.Expr (.Call (.Attribute (.Name x p') name apos) (a :: es) [] cpos) pos) (sM i g ms) := by
  obtain ⟨t, p, q⟩ := ha
  refine ⟨_, ps_expr (pe_bm PySem.F.plainAttrs_list slot hty hm (pe_var hN hv hd hcd) p hbase hfew hline hs hplain) hsw, fun Oc Ob σ H ρ E R h => ?_⟩
  obtain ⟨d, ed, k⟩ := eV_post (Res.post_bind h)
  obtain ⟨xd, ex, k⟩ := Res.post_lft (Res.post_bind k)
  obtain rfl := lstD_some ex
  obtain ⟨v, qv, l, ys, ds, rfl, e2, e3, e4, e5⟩ := R.own i _ ed (mem_of ho)
  cases e2
  refine ⟨_, qv, .inl ⟨rfl, _, SqL.of e3⟩, q Oc Ob σ H ρ _ R (Res.post_mono (Res.post_bind k) (fun ad _ k vs H' s r' => ?_) fun c z H' s => z H' (Same.frm s))⟩
  obtain ⟨ds', eg, k⟩ := Res.post_lft (Res.post_bind k)
  refine hp _ H' l ys vs xd ad ds' _ (s _ _ e3) (e5.same s) r' eg fun xs' rx => ?_
  refine k _ _ Ob ((R.same s).write (mem_of ho) ed qv (s _ _ e3) e4 rx) (fun b o e n => ?_) fun b z => .inl z
  rw [upd_ne (fun z => n (by subst z; exact e4))]
  exact s b o e
end
end L2.L3
set_option maxHeartbeats 4000000
namespace L2.L3
open PySem PySem.Spec PyProof.Rows
variable [CN]
noncomputable def RG (C : Ct) (tg : Expr) (g : D → Ev → Option Ev) : Prop :=
  ∃ t, PG C.X tg t ∧ ∀ (Oc : Wd) (Ob : Addr → Prop) (σ : St) (H : Hp) (ρ ρ' : Ev) (v : V) (d : D) (Q : St → Hp → Prop), Rel Oc Ob C.om C.ln σ H ρ → Rep H (Uni Oc Ob) v d → g d ρ = some ρ' → (∀ σ', Rel Oc Ob C.om C.ln σ' H ρ' → Q σ' H) → t v σ H Q
noncomputable def gN (i : Nat) : D → Ev → Option Ev := fun d ρ => some (ρ.set i (some d))
section
variable {C : Ct} {fr : Bool} {e c : Expr} {es : List Expr} {pos : Pos} {md : Md} {me : Ev → Res D} {mt : Ev → Res Bool} {st : Stmt} {body sts rest : List Stmt} {m n : Ev → Res Out} {mi : Ev → Res (List D)} {g : D → Ev → Option Ev}
theorem rg_name (i : Nat) {x : Str} (nd : C.X.N.Nodup) (hi : autoParam (C.X.N[i]? = some x) autoK5._auto_1) (ho : autoParam (C.om.contains i = false) autoK5._auto_1) (hl : autoParam (C.ln.contains i = false) autoK5._auto_1) (hx : autoParam (Loc C.X.env.scope x) autoK11._auto_1)
    (hf : autoParam (C.X.fn x = true ∨ C.X.env.scope.names.lookup x = some .local) autoK12._auto_1) : RG C (.Name x pos) (gN i) := by
  refine ⟨_, pg_name nd hi hx hf, fun Oc Ob σ H ρ ρ' v d Q R r e k => ?_⟩
  cases e
  exact k _ (R.set (not_mem_of ho) (not_mem_of hl) r)
noncomputable def RGs (C : Ct) (ts : List Expr) (g : List D → Ev → Option Ev) : Prop :=
  ∃ t, PGs C.X ts t ∧ ∀ (Oc : Wd) (Ob : Addr → Prop) (σ : St) (H : Hp) (ρ ρ' : Ev) (vs : List V) (ds : List D) (Q : St → Hp → Prop), Rel Oc Ob C.om C.ln σ H ρ → Reps H (Uni Oc Ob) vs ds → g ds ρ = some ρ' → (∀ σ', Rel Oc Ob C.om C.ln σ' H ρ' → Q σ' H) → t vs σ H Q
noncomputable def gsN : List D → Ev → Option Ev
  | [], ρ => some ρ
  | _, _ => none
noncomputable def gsC (g : D → Ev → Option Ev) (h : List D → Ev → Option Ev) : List D → Ev → Option Ev
  | d :: ds, ρ => (g d ρ).bind fun ρ1 => h ds ρ1
  | [], _ => none
theorem rgs_nil : RGs C [] gsN := by
  refine ⟨_, pgs_nil, fun Oc Ob σ H ρ ρ' vs ds Q R r e k => ?_⟩
  cases r with
  | nil => cases e; exact ⟨rfl, k σ R⟩
  | cons => cases e
theorem rgs_cons {h : List D → Ev → Option Ev} (h1 : RG C e g) (h2 : RGs C es h) (hs : autoParam ((assignEach (e :: es) C.X.env).map (·.2) = assign e C.X.env :: (assignEach es C.X.env).map (·.2)) autoK5._auto_1) : RGs C (e :: es) (gsC g h) := by
  obtain ⟨t, p, q⟩ := h1
  obtain ⟨t', p', q'⟩ := h2
  refine ⟨_, pgs_cons p p' hs, fun Oc Ob σ H ρ ρ' vs ds Q R r e k => ?_⟩
  cases r with
  | nil => cases e
  | cons r rs =>
    obtain ⟨ρ1, e1, e2⟩ := Option.bind_eq_some_iff.mp e
    exact ⟨_, _, rfl, q Oc Ob σ H ρ ρ1 _ _ _ R r e1 fun σ' R' => q' Oc Ob σ' H ρ1 ρ' _ _ Q R' rs e2 k⟩
noncomputable def gT (n : Nat) (h : List D → Ev → Option Ev) : D → Ev → Option Ev
  | .tuple ds, ρ => if ds.length = n then h ds ρ else none
  | _, _ => none
theorem rg_tup {k n : Nat} {h : List D → Ev → Option Ev} (hc : C.X.calm = true) (hg : RGs C es h) (hn : autoParam ((assignEach es C.X.env).length = n) autoK5._auto_1) (hst : autoParam ((assignEach es C.X.env).findIdx? (·.1) = none) autoK5._auto_1) : RG C (.Tuple es k pos) (gT n h) := by
  obtain ⟨t, p, q⟩ := hg
  refine ⟨_, pg_tup hc p hn hst, fun Oc Ob σ H ρ ρ' v d Q R r e k => ?_⟩
  cases r with
  | tup rd no rs =>
    unfold gT at e
    simp only at e
    split at e
    · rename_i hl
      exact ⟨_, _, rfl, .inl rd, by rw [rs.length]; exact hl, q Oc Ob σ H ρ ρ' _ _ Q R rs e k⟩
    · cases e
  | _ => cases e
theorem rs_asg {tg : Expr} (he : RE C .cl e me) (hg : RG C tg g) (hs : autoParam (swapsWithSole [tg] e pos.line C.X.env = pure false) autoK5._auto_1) (hw : autoParam (swappedStores [tg] e C.X.env = pure none) autoK5._auto_1)
    (h1 : autoParam ((assignEach [tg] C.X.env).map (·.2) = [assign tg C.X.env]) autoK5._auto_1) : RS C fr (.Assign [tg] e pos) (fun ρ => (me ρ).bind fun d => (Res.lft (g d ρ)).bind fun ρ' => .ok (.nx ρ')) := by
  obtain ⟨t, p, q⟩ := he
  obtain ⟨t', p', q'⟩ := hg
  refine ⟨_, ps_asg p p' hs hw h1, fun Oc Ob σ H ρ E R h => q Oc Ob σ H ρ _ R (Res.post_mono (Res.post_bind h) (fun d _ k v H' s r => ?_) fun c z H' s => z H' (Same.frm s))⟩
  obtain ⟨ρ', e, k⟩ := Res.post_lft (Res.post_bind k)
  exact q' Oc Ob σ H' ρ ρ' v d _ (R.same s) r e fun σ' R' => k σ' H' Ob R' (Same.frm s) fun b z => .inl z
noncomputable def forM (g : D → Ev → Option Ev) (b : Ev → Res Out) : List D → Ev → Res Out
  | [], ρ => .ok (.nx ρ)
  | x :: xs, ρ => (Res.lft (g x ρ)).bind fun ρ1 => (b ρ1).bind fun o => match o with
    | .nx ρ2 => forM g b xs ρ2
    | .rt d => .ok (.rt d)
noncomputable def sF (mi : Ev → Res (List D)) (g : D → Ev → Option Ev) (b : Ev → Res Out) : Ev → Res Out := fun ρ => (mi ρ).bind fun ds => forM g b ds ρ
theorem rs_for {tg iter : Expr} (hi : RI C tg iter mi) (hg : RG C tg g) (hb : RSs C fr body m) (hp : autoParam (PassesOwn (model C.X.prog C.X.w) C.X.A C.X.env C.X.xe) autoK13._auto_1) (hc : autoParam (C.X.calm = true) autoK5._auto_1)
    (hs : autoParam (∀ x, foldedSetIterable iter C.X.env x = pure x) autoK4._auto_1) : RS C fr (.For tg iter body [] pos) (sF mi g m) := by
  obtain ⟨wi, pi, qi⟩ := hi
  obtain ⟨tg', pg, qg⟩ := hg
  obtain ⟨tb, pb, qb⟩ := hb
  refine ⟨_, ps_for hp hc pi pg pb hs, fun Oc Ob σ H ρ E R h => qi Oc Ob σ H ρ _ R (Res.post_mono (Res.post_bind h) (fun ds _ k J H1 s1 wk => ?_) fun c z H' s => z H' (Same.frm s))⟩
  refine ⟨fun i mm σ' H' => mm = ds.length - i ∧ i ≤ ds.length ∧ ∃ ρi Obi, Rel Oc Obi C.om C.ln σ' H' ρi ∧ Frm Ob H1 H' ∧ (∀ b, Obi b → Ob b ∨ H1 b = none) ∧ SPost C fr Oc Obi H' E (forM g m (ds.drop i) ρi),
    ⟨_, rfl, Nat.zero_le _, ρ, Ob, R.same s1, Same.frm (Same.refl _), fun b z => .inl z, SPost.same s1 k⟩, ?_⟩
  rintro i mm σ2 H2 ⟨rfl, hi, ρi, Obi, R2, f2, sb2, k2⟩
  obtain ⟨w1, w2⟩ := wk H2 Obi f2 sb2 i
  by_cases hlt : i < ds.length
  · obtain ⟨go, yl⟩ := w1 ds[i] (List.getElem?_eq_getElem hlt)
    have ed : ds.drop i = ds[i] :: ds.drop (i + 1) := List.drop_eq_getElem_cons hlt
    rw [ed, forM] at k2
    obtain ⟨ρ1, e1, k2⟩ := Res.post_lft (Res.post_bind k2)
    refine .inr ⟨go, fun σ' H' => ∃ m', m' < ds.length - i ∧ (m' = ds.length - (i + 1) ∧ i + 1 ≤ ds.length ∧ ∃ ρi Obi, Rel Oc Obi C.om C.ln σ' H' ρi ∧ Frm Ob H1 H' ∧ (∀ b, Obi b → Ob b ∨ H1 b = none) ∧ SPost C fr Oc Obi H' E (forM g m (ds.drop (i + 1)) ρi)), fun _ _ z => z, fun x H3 hy => ?_⟩
    obtain ⟨s3, rx⟩ := yl x H3 hy
    refine qg Oc Obi σ2 H3 ρi ρ1 x _ _ (R2.same s3) rx e1 fun σ3 R3 => ?_
    have k3 := SPost.same s3 (show SPost C fr Oc Obi H2 E _ from k2)
    refine qb Oc Obi σ3 H3 ρ1 _ R3 (Res.post_mono (Res.post_bind k3) (fun o _ k4 => ?_) fun _ z => z)
    cases o with
    | rt d => exact k4
    | nx ρ2 =>
      intro σ4 H4 Ob4 R4 f4 sb4
      have f3 : Frm Ob H1 H3 := fun b o e n => s3 b o (f2 b o e n)
      refine ⟨_, by bv_omega, rfl, hlt, ρ2, Ob4, R4, f3.trans sb2 f4, fun b z => (sb4 b z).elim (sb2 b) fun z => f3.none z, SPost.step f4 sb4 k4⟩
  · have ei : i = ds.length := by bv_omega
    subst ei
    rw [List.drop_length] at k2
    exact .inl ⟨w2 (Nat.le_refl _), k2 σ2 H2 Obi R2 (Same.frm (Same.refl _)) fun b z => .inl z⟩
noncomputable def whM (t : Ev → Res Bool) (b : Ev → Res Out) : Nat → Ev → Res Out
  | 0, _ => .no
  | k + 1, ρ => (t ρ).bind fun c => if c then (b ρ).bind fun o => match o with
    | .nx ρ' => whM t b k ρ'
    | .rt d => .ok (.rt d) else .ok (.nx ρ)
noncomputable def sW (fuel : Nat) (t : Ev → Res Bool) (b : Ev → Res Out) : Ev → Res Out := fun ρ => whM t b fuel ρ
noncomputable def setD (ds : List D) (i v : D) : Option (List D) := match i with
  | .int k => (ixN ds.length k).map fun j => ds.set j v
  | _ => none
noncomputable def sI (i : Nat) (mk me : Ev → Res D) : Ev → Res Out := fun ρ => (me ρ).bind fun v => (eV i ρ).bind fun d => (Res.lft (lstD d)).bind fun xd => (mk ρ).bind fun k => (Res.lft (setD xd k v)).bind fun ds => .ok (.nx (ρ.set i (some (.list ds))))
noncomputable def sV (i j : Nat) : Ev → Res Out := fun ρ => (eV j ρ).bind fun d => .ok (.nx ((ρ.set i (some d)).set j none))
end
end L2.L3
set_option maxHeartbeats 4000000
namespace L2
open PySem PySem.Spec PyProof.Rows
structure Has (K : PySem.W.Frag) (mg : Str → Option Value) (x : Str) (st : Stmt) (f : Addr) (fd : FuncData) (ps : List Str) : Prop where
  F : Fun K x x st f fd
  b : Binds K fd ps []
  m : mg x = some (.ref f)
theorem has_mk {K : PySem.W.Frag} {h : Heap} {mg : Str → Option Value} {x : Str} {st : Stmt} {f : Addr} {oc : Value} {od an : Option Addr} {osl : Array (Option Value)} {kV doc pm cdv ct : Value} {ps : List Str} (X : K.In h) (G : h.Ns mainGlobals mg)
    (a : PySem.W.nsIn K mainGlobals x = some (some (.ref f))) (l : K.lookup f = some ⟨oc, od, .func (PySem.W.fnOf x x (defArgs st) (defBody st) (defScope st) .none kV doc pm an cdv ct), osl⟩)
    (c : PySem.W.codeIn K cdv x = true) (k : PySem.W.keepIn K (.ref f) = true)
    (hb : ∀ (kV doc pm : Value) (an : Option Addr) (cdv ct : Value) (us : List Value), us.length = ps.length → bindArgs (PySem.W.fnOf x x (defArgs st) (defBody st) (defScope st) .none kV doc pm an cdv ct) ⟨us, []⟩ = pure (ps.zip us)) :
    Has K mg x st f (PySem.W.fnOf x x (defArgs st) (defBody st) (defScope st) .none kV doc pm an cdv ct) ps :=
  have F := fun_mk (st := st) l c k
  ⟨F, F.binds hb, PySem.W.mg_of X G a⟩
end L2
namespace L2.L3
open PySem PySem.Spec PyProof.Rows
variable [CN]
noncomputable def CallOk : Bool → (Addr → Prop) → Hp → Hp → V → D → Prop
  | true, O, H, H', v, d => ∃ a ys ds, v = .ref a ∧ d = .list ds ∧ H a = none ∧ H' a = some (.lst ys) ∧ Reps H' (fun b => O b ∨ b = a) ys ds
  | false, O, _, H', v, d => Rep H' O v d
noncomputable def spF (fr : Bool) (F : List D → Res D) : Sp := fun vs H Q _ => ∃ (ds : List D) (O : Addr → Prop), (∀ a, O a → H a ≠ none) ∧ Reps H O vs ds ∧ (F ds).post (fun d => ∀ v H', Same H H' → CallOk fr O H H' v d → Q v H') (fun _ => False)
noncomputable def fin (fr : Bool) : Out → Res D
  | .rt d => .ok d
  | .nx _ => if fr then .no else .ok .none
noncomputable def runF (fr : Bool) (p n : Nat) (m : Ev → Res Out) : List D → Res D := fun ds => if ds.length = p then (m (ds.map some ++ List.replicate (n - p) none)).bind (fin fr) else .no
theorem start_get {α : Type} {ds : List α} {k i : Nat} {d : α} (h : (ds.map some ++ List.replicate k none)[i]? = some (some d)) : ds[i]? = some d := by
  by_cases hi : i < ds.length
  · rw [List.getElem?_append_left (by simpa using hi), List.getElem?_map] at h
    cases e : ds[i]? with
    | none => rw [e] at h; cases h
    | some z => rw [e] at h; cases h; rfl
  · rw [List.getElem?_append_right (by simpa using hi), List.getElem?_replicate] at h
    split at h <;> cases h
theorem start_of {α : Type} {ds : List α} {k i : Nat} {d : α} (h : ds[i]? = some d) : (ds.map some ++ List.replicate k none)[i]? = some (some d) := by
  have hi := (List.getElem?_eq_some_iff.mp h).1
  rw [List.getElem?_append_left (by simpa using hi), List.getElem?_map, h]
  rfl
section
variable {P : Program} {w : World} {K : PySem.W.Frag} {mg : Str → Option Value} {base : Heap}
end
noncomputable def mdF (fr : Bool) : Md := if fr then .new else .cl
noncomputable def eF (F : List D → Res D) (m : Ev → Res (List D)) : Ev → Res D := fun ρ => (m ρ).bind F
section
variable {C : Ct} {k : Nat} {f : Addr} {fd : FuncData} {ps : List Str} {fr : Bool} {F : List D → Res D} {x : Str} {p pos : Pos} {e : Expr} {es : List Expr} {ms : Ev → Res (List D)} {st : Stmt}
end
mutual
noncomputable def lf : D → Bool
  | .list _ => false
  | .dict _ => false
  | .tuple ds => lfs ds
  | _ => true
noncomputable def lfs : List D → Bool
  | [] => true
  | d :: ds => lf d && lfs ds
end
mutual
theorem Rep.lf {H : Hp} {U : Addr → Prop} {B : Addr → Prop} (hB : ∀ b, B b → ∃ ys, H b = some (.lst ys)) : ∀ {v : V} {d : D}, Rep H (fun b => U b ∧ ¬ B b) v d → L3.lf d = true → Rep H U v d
  | _, _, .non, _ => .non
  | _, _, .bl b, _ => .bl b
  | _, _, .int i, _ => .int i
  | _, _, .str x, _ => .str x
  | _, _, .lst r n t, h => by simp [L3.lf] at h
  | _, _, .exc r n, h => by simp [L3.lf] at h
  | _, _, @Rep.tup _ _ _ a _ _ r n t, h => .tup r (fun z => by
      by_cases hb : B a
      · obtain ⟨ys, e⟩ := hB _ hb
        rcases r with r | ⟨o, r⟩ <;> (rw [r] at e; cases e)
      · exact n ⟨z, hb⟩) (Reps.lf hB t (by simpa [L3.lf] using h))
theorem Reps.lf {H : Hp} {U : Addr → Prop} {B : Addr → Prop} (hB : ∀ b, B b → ∃ ys, H b = some (.lst ys)) : ∀ {vs : List V} {ds : List D}, Reps H (fun b => U b ∧ ¬ B b) vs ds → lfs ds = true → Reps H U vs ds
  | _, _, .nil, _ => .nil
  | _, _, .cons r t, h => by
    rw [lfs, Bool.and_eq_true] at h
    exact .cons (Rep.lf hB r h.1) (Reps.lf hB t h.2)
end
noncomputable def lfT : Bool → D → Bool
  | true, .list ds => lfs ds
  | _, d => lf d
noncomputable def eFA (fr : Bool) (F : List D → Res D) (m : Ev → Res (List D)) : Ev → Res D := fun ρ => (m ρ).bind fun ds => (F ds).bind fun d => if lfT fr d then .ok d else .no
end L2.L3
set_option maxHeartbeats 4000000
namespace L2.L3
open PySem PySem.Spec PyProof.Rows
variable [CN]
noncomputable def i2 (f : Int → Int → Option Int) : D → D → Option D
  | .int i, .int j => (f i j).map PyData.int
  | _, _ => none
theorem i2_some {f : Int → Int → Option Int} {x y d : D} (h : i2 f x y = some d) : ∃ i j k, x = .int i ∧ y = .int j ∧ f i j = some k ∧ d = .int k := by
  cases x with
  | int i =>
    cases y with
    | int j =>
      obtain ⟨k, e, rfl⟩ := Option.map_eq_some_iff.mp (show (f i j).map PyData.int = some d from h)
      exact ⟨i, j, k, rfl, rfl, e, rfl⟩
    | _ => cases h
  | _ => cases h
theorem pr_I {C : Int → Int → Prop} {g : Int → Int → Int} {f : Int → Int → Option Int} (hf : ∀ i j k, f i j = some k → C i j ∧ k = g i j) : Pr2 (rI C fun i j => .int (g i j)) .cl (i2 f) := by
  intro Oc Ob H x y dx dy d Q oh vx vy e k
  obtain ⟨i, j, n, rfl, rfl, ef, rfl⟩ := i2_some e
  obtain ⟨hc, rfl⟩ := hf i j n ef
  exact ⟨i, j, vx.int, vy.int, hc, k _ H (Same.refl H) (Rep.int _)⟩
theorem pr_I0 {g : Int → Int → Int} : Pr2 (rI0 fun i j => .int (g i j)) .cl (i2 fun i j => some (g i j)) := by
  intro Oc Ob H x y dx dy d Q oh vx vy e k
  obtain ⟨i, j, n, rfl, rfl, ef, rfl⟩ := i2_some e
  cases ef
  exact ⟨i, j, vx.int, vy.int, k _ H (Same.refl H) (Rep.int _)⟩
noncomputable abbrev addI : D → D → Option D := i2 fun i j => some (i + j)
noncomputable abbrev subI : D → D → Option D := i2 fun i j => some (i - j)
noncomputable def MulOk (i j : Int) : Prop := CMul i j ∨ (Small i ∧ Small j)
open Classical in
noncomputable def mulO (i j : Int) : Option Int := if MulOk i j then some (i * j) else none
noncomputable abbrev mulI : D → D → Option D := i2 mulO
noncomputable def DivOk (j : Int) : Prop := 0 < j ∧ j.natAbs.log2 < 9000
noncomputable instance (j : Int) : Decidable (DivOk j) := by unfold DivOk; infer_instance
noncomputable def fdivO (i j : Int) : Option Int := if DivOk j then some (i / j) else none
noncomputable def modO (i j : Int) : Option Int := if 0 < j then some (i % j) else none
noncomputable abbrev fdivI : D → D → Option D := i2 fdivO
noncomputable abbrev modI : D → D → Option D := i2 modO
section
variable {X : Cx}
theorem op_mulA : OpR X (binaryOp .Mult) (rI MulOk fun i j => .int (i * j)) := opI fun _ _ _ _ _ _ _ hc q => mul_int q (hc.elim CMul.ok fun h => .of_bits h.1.bits h.2.bits)
theorem op_fdivA : OpR X (binaryOp .FloorDiv) (rI (fun _ j => DivOk j) fun i j => .int (i / j)) := opI fun i j _ _ _ _ _ hc q => by
  refine floordiv_int (by have := hc.1; bv_omega) ?_ (.inl (PyProof.noPylong_of_log2 hc.2))
  rw [Int.fdiv_eq_ediv_of_nonneg _ (by have := hc.1; bv_omega)]
  exact q
end
open Classical in
theorem mulO_some {i j k : Int} (h : mulO i j = some k) : MulOk i j ∧ k = i * j := by
  unfold mulO at h
  split at h
  · cases h; exact ⟨by assumption, rfl⟩
  · cases h
theorem mulO_ok {i j : Int} (h : MulOk i j) : mulO i j = some (i * j) := by
  unfold mulO
  exact if_pos h
theorem fdivO_some {i j k : Int} (h : fdivO i j = some k) : DivOk j ∧ k = i / j := by
  unfold fdivO at h
  split at h
  · cases h; exact ⟨by assumption, rfl⟩
  · cases h
theorem modO_some {i j k : Int} (h : modO i j = some k) : 0 < j ∧ k = i % j := by
  unfold modO at h
  split at h
  · cases h; exact ⟨by assumption, rfl⟩
  · cases h
theorem DivOk.small {j : Int} (h : 0 < j) (h2 : j < 1073741824) : DivOk j := by
  refine ⟨h, ?_⟩
  have h30 : j.natAbs.log2 < 30 := (Nat.log2_lt (by bv_omega)).mpr (by bv_omega)
  bv_omega
theorem MulOk.left {i j : Int} (h : -(2 ^ 64) < i) (h2 : i < 2 ^ 64) : MulOk i j := .inl (.inl ⟨h, h2⟩)
theorem MulOk.right {i j : Int} (h : -(2 ^ 64) < j) (h2 : j < 2 ^ 64) : MulOk i j := .inl (.inr ⟨h, h2⟩)
theorem pr_add : Pr2 (rI0 fun i j => .int (i + j)) .cl addI := pr_I0
theorem pr_sub : Pr2 (rI0 fun i j => .int (i - j)) .cl subI := pr_I0
theorem pr_mul : Pr2 (rI MulOk fun i j => .int (i * j)) .cl mulI := pr_I fun _ _ _ h => mulO_some h
theorem pr_fdiv : Pr2 (rI (fun _ j => DivOk j) fun i j => .int (i / j)) .cl fdivI := pr_I fun _ _ _ h => fdivO_some h
theorem pr_mod : Pr2 (rI (fun _ j => 0 < j) fun i j => .int (i % j)) .cl modI := pr_I fun _ _ _ h => modO_some h
noncomputable def c2 (f : Int → Int → Bool) : D → D → Option Bool
  | .int i, .int j => some (f i j)
  | _, _ => none
theorem pb_I {f : Int → Int → Bool} : PrB (rI0 fun i j => .bl (f i j)) (c2 f) := by
  intro Oc Ob H x y dx dy b Q vx vy e k
  cases dx with
  | int i =>
    cases dy with
    | int j =>
      cases e
      exact ⟨_, _, vx.int, vy.int, k⟩
    | _ => cases e
  | _ => cases e
noncomputable abbrev ltI : D → D → Option Bool := c2 fun i j => decide (i < j)
noncomputable abbrev leI : D → D → Option Bool := c2 fun i j => decide (i ≤ j)
noncomputable abbrev gtI : D → D → Option Bool := c2 fun i j => decide (j < i)
theorem pb_lt : PrB (rI0 fun i j => .bl (decide (i < j))) ltI := pb_I
theorem pb_le : PrB (rI0 fun i j => .bl (decide (i ≤ j))) leI := pb_I
theorem pb_gt : PrB (rI0 fun i j => .bl (decide (j < i))) gtI := pb_I
noncomputable def eqD (x y : D) : Option Bool := if SeqAt.shaped x = true ∧ SeqAt.shaped y = true then some (PyData.eqv x y) else none
noncomputable def neD (x y : D) : Option Bool := if SeqAt.shaped x = true ∧ SeqAt.shaped y = true then some (!PyData.eqv x y) else none
theorem pb_eq {K : PySem.W.Frag} : PrB (rEqD K false) eqD := by
  intro Oc Ob H x y dx dy b Q vx vy e k
  unfold eqD at e
  split at e
  · rename_i h
    cases e
    exact ⟨dx, dy, vx.datS h.1, vy.datS h.2, h.1, h.2, k⟩
  · cases e
theorem pb_ne {K : PySem.W.Frag} : PrB (rEqD K true) neD := by
  intro Oc Ob H x y dx dy b Q vx vy e k
  unfold neD at e
  split at e
  · rename_i h
    cases e
    exact ⟨dx, dy, vx.datS h.1, vy.datS h.2, h.1, h.2, k⟩
  · cases e
noncomputable def isND (neg : Bool) : D → D → Option Bool
  | .none, .none => some (!neg)
  | _, .none => some neg
  | _, _ => none
theorem va_non {Oc : Wd} {Ob : Addr → Prop} {H : Hp} {x : V} {d : D} (h : VA Oc Ob H x d) : decide (x = .non) = (match d with | .none => true | _ => false) := by
  rcases h with h | ⟨a, ys, ds, rfl, rfl, e3, e5⟩
  · cases h <;> rfl
  · rfl
theorem pb_is : PrB (fun x y H Q => y = .non ∧ Q (.bl (decide (x = .non))) H) (isND false) := by
  intro Oc Ob H x y dx dy b Q vx vy e k
  cases dy with
  | none =>
    refine ⟨vy.none, ?_⟩
    rw [va_non vx]
    cases dx <;> (simp only [isND] at e; cases e; exact k)
  | _ => cases dx <;> cases e
theorem pb_isnot : PrB (fun x y H Q => y = .non ∧ Q (.bl (!decide (x = .non))) H) (isND true) := by
  intro Oc Ob H x y dx dy b Q vx vy e k
  cases dy with
  | none =>
    refine ⟨vy.none, ?_⟩
    rw [va_non vx]
    cases dx <;> (simp only [isND] at e; cases e; exact k)
  | _ => cases dx <;> cases e
noncomputable def flD : D → Bool
  | .none => true
  | .bool _ => true
  | .int _ => true
  | .str _ => true
  | _ => false
noncomputable def eqF : D → D → Bool
  | .none, .none => true
  | .bool a, .bool b => a == b
  | .bool a, .int b => (if a then 1 else 0) == b
  | .int a, .bool b => a == (if b then 1 else 0)
  | .int a, .int b => a == b
  | .str a, .str b => a == b
  | _, _ => false
theorem rep_flat {H : Hp} {O : Addr → Prop} {v : V} {d : D} (h : Rep H O v d) (f : flD d = true) : flatV v = true := by
  cases h <;> first | rfl | cases f
theorem rep_eqF {H : Hp} {O O' : Addr → Prop} {v v' : V} {d d' : D} (h : Rep H O v d) (h' : Rep H O' v' d') (f : flD d = true) (f' : flD d' = true) : eqV v v' = eqF d d' := by
  cases h <;> cases h' <;> first | rfl | cases f | cases f'
theorem reps_flat {H : Hp} {O : Addr → Prop} : ∀ {vs : List V} {ds : List D}, Reps H O vs ds → ds.all flD = true → vs.all flatV = true
  | _, _, .nil, _ => rfl
  | _, _, .cons h t, f => by
    rw [List.all_cons, Bool.and_eq_true] at f ⊢
    exact ⟨rep_flat h f.1, reps_flat t f.2⟩
theorem reps_any {H : Hp} {O O' : Addr → Prop} {x : V} {dx : D} (hx : Rep H O' x dx) (fx : flD dx = true) : ∀ {vs : List V} {ds : List D}, Reps H O vs ds → ds.all flD = true → inV x vs = ds.any fun y => eqF y dx
  | _, _, .nil, _ => rfl
  | _, _, .cons h t, f => by
    rw [List.all_cons, Bool.and_eq_true] at f
    have ih := reps_any hx fx t f.2
    unfold inV at ih ⊢
    rw [List.any_cons, List.any_cons, ih, rep_eqF h hx f.1 fx]
noncomputable def inD (neg : Bool) (x y : D) : Option Bool := (seqD y).bind fun ds => if flD x = true ∧ ds.all flD = true then some (if neg then !ds.any (fun z => eqF z x) else ds.any fun z => eqF z x) else none
theorem va_flat {Oc : Wd} {Ob : Addr → Prop} {H : Hp} {x : V} {d : D} (h : VA Oc Ob H x d) (f : flD d = true) : Rep H (Uni Oc Ob) x d := by
  rcases h with h | ⟨a, ys, ds, rfl, rfl, e3, e5⟩
  · exact h
  · cases f
theorem pb_in {K : PySem.W.Frag} {neg : Bool} : PrB (rIn K neg) (inD neg) := by
  intro Oc Ob H x y dx dy b Q vx vy e k
  unfold inD at e
  obtain ⟨ds, e1, e⟩ := Option.bind_eq_some_iff.mp e
  split at e
  · rename_i h
    cases e
    have rx := va_flat vx h.1
    cases dy with
    | list ds' =>
      cases e1
      obtain ⟨a, ys, rfl, rd, rs⟩ := vy.list
      refine ⟨a, ys, rfl, .inl (.inl rd), rep_flat rx h.1, reps_flat rs h.2, ?_⟩
      rw [reps_any rx h.1 rs h.2]
      exact k
    | tuple ds' =>
      cases e1
      obtain ⟨a, ys, rfl, rd, rs⟩ := vy.tuple
      refine ⟨a, ys, rfl, .inr (.inl rd), rep_flat rx h.1, reps_flat rs h.2, ?_⟩
      rw [reps_any rx h.1 rs h.2]
      exact k
    | _ => cases e1
  · cases e
noncomputable def ixD : D → D → Option D
  | .list ds, .int i => atI ds i
  | .tuple ds, .int i => atI ds i
  | _, _ => none
theorem atI_reps {H : Hp} {O : Addr → Prop} {vs : List V} {ds : List D} {i : Int} {d : D} (r : Reps H O vs ds) (h : atI ds i = some d) : ∃ v, atI vs i = some v ∧ Rep H O v d := by
  unfold atI at h ⊢
  obtain ⟨j, e1, e2⟩ := Option.bind_eq_some_iff.mp h
  obtain ⟨v, ev, rv⟩ := r.get e2
  refine ⟨v, ?_, rv⟩
  rw [r.length, e1]
  exact ev
theorem pr_ix {K : PySem.W.Frag} : Pr2 (rIx K) .cl ixD := by
  intro Oc Ob H x y dx dy d Q oh vx vy e k
  cases dx with
  | list ds =>
    cases dy with
    | int i =>
      obtain ⟨a, ys, rfl, rd, rs⟩ := vx.list
      obtain ⟨v, ev, rv⟩ := atI_reps rs e
      exact .inl ⟨a, ys, i, v, rfl, vy.int, .inl rd, ev, k v H (Same.refl H) rv⟩
    | _ => cases e
  | tuple ds =>
    cases dy with
    | int i =>
      obtain ⟨a, ys, rfl, rd, rs⟩ := vx.tuple
      obtain ⟨v, ev, rv⟩ := atI_reps rs e
      exact .inr (.inl ⟨a, ys, i, v, rfl, vy.int, .inl rd, ev, k v H (Same.refl H) rv⟩)
    | _ => cases e
  | _ => cases e
noncomputable def rCatR : R2 := fun x y H Q => ∃ l b xs zs, x = .ref l ∧ y = .ref b ∧ Rd H l (.lst xs) ∧ Rd H b (.lst zs) ∧ xs.length + zs.length ≤ sizeLine ∧ ∀ p, H p = none → Q (.ref p) (upd H p (.lst (xs ++ zs)))
theorem Rd.lstM {X : Cx} {pins : List (Addr × Obj)} {σ : St} {H : Hp} {s : Shared} {l : Addr} {xs : List V} (I : Inv X pins σ H s) (hH : Rd H l (.lst xs)) : xs.length ≤ sizeLine ∧ ∃ (its : List Value) (n : Nat), Vals xs its ∧ xs.length = its.length ∧ s.heap.get? l = some { cls := .type "list", data := .seq its.toArray n } := by
  obtain ⟨z, its, n, r, e⟩ := hH.ok I.hok
  exact ⟨z, its, n, r, r.length, e⟩
section
variable {X : Cx}
theorem op_catR : OpR X (binaryOp .Add) rCatR := by
  intro pins s σ H x y v u Q I rx ry h
  obtain ⟨l, b, xs, zs, rfl, rfl, hH, hB, hz, q⟩ := h
  cases rx
  cases ry
  obtain ⟨z, its, n, r, hl, e⟩ := Rd.lstM I hH
  obtain ⟨z2, its2, n2, r2, hl2, e2⟩ := Rd.lstM I hB
  refine PySem.P.add_list e e2 ?_ (by rw [List.size_toArray, List.size_toArray]; bv_omega)
  have ea : its.toArray ++ its2.toArray = (its ++ its2).toArray := by simp
  rw [ea]
  exact ⟨.ref _, _, I.lnew (t' := s.toks) (r.append r2) (by rw [List.length_append]; bv_omega), rfl, q _ I.fresh⟩
end
noncomputable def catL : D → D → Option D
  | .list xs, .list ys => if xs.length + ys.length ≤ sizeLine then some (.list (xs ++ ys)) else none
  | _, _ => none
theorem pr_cat : Pr2 rCatR .new catL := by
  intro Oc Ob H x y dx dy d Q oh vx vy e k
  cases dx with
  | list xs =>
    cases dy with
    | list ys =>
      obtain ⟨a, vs, rfl, rd, rs⟩ := vx.list
      obtain ⟨b, ws, rfl, rd', rs'⟩ := vy.list
      unfold catL at e
      simp only at e
      split at e
      · rename_i hl
        cases e
        refine ⟨a, b, vs, ws, rfl, rfl, rd, rd', by rw [rs.length, rs'.length]; exact hl, fun p hp => k _ _ (Same.new hp) (new_list (Same.refl H) hp (rs.append rs'))⟩
      · cases e
    | _ => cases e
  | _ => cases e
noncomputable def lenD : List D → Option D
  | [d] => (seqD d).map fun ds => .int ds.length
  | _ => none
theorem pc_len {K : PySem.W.Frag} : PrC (fun xs H Q => ∃ p ys, xs = [.ref p] ∧ (SqL K H p ys ∨ SqT K H p ys) ∧ Q (.int ys.length) H) .cl lenD := by
  intro Oc Ob H vs ds d Q oh va e k
  cases ds with
  | nil => cases e
  | cons x xs =>
    cases xs with
    | cons => cases e
    | nil =>
      obtain ⟨v, rfl, vx⟩ := va.one
      obtain ⟨es, e1, rfl⟩ := Option.map_eq_some_iff.mp e
      cases x with
      | list ds' =>
        cases e1
        obtain ⟨a, ys, rfl, rd, rs⟩ := vx.list
        exact ⟨a, ys, rfl, .inl (.inl rd), k _ H (Same.refl H) (by rw [rs.length]; exact Rep.int _)⟩
      | tuple ds' =>
        cases e1
        obtain ⟨a, ys, rfl, rd, rs⟩ := vx.tuple
        exact ⟨a, ys, rfl, .inr (.inl rd), k _ H (Same.refl H) (by rw [rs.length]; exact Rep.int _)⟩
      | _ => cases e1
noncomputable def listD : List D → Option D
  | [d] => (seqD d).map fun ds => .list ds
  | _ => none
noncomputable def tupD : List D → Option D
  | [d] => (seqD d).map fun ds => .tuple ds
  | _ => none
theorem pc_tup {K : PySem.W.Frag} : PrC (fun xs H Q => ∃ p ys, xs = [.ref p] ∧ ((SqL K H p ys ∧ ∀ l, H l = none → Q (.ref l) (upd H l (.tup ys))) ∨ (SqT K H p ys ∧ Q (.ref p) H))) .cl tupD := by
  intro Oc Ob H vs ds d Q oh va e k
  cases ds with
  | nil => cases e
  | cons x xs =>
    cases xs with
    | cons => cases e
    | nil =>
      obtain ⟨v, rfl, vx⟩ := va.one
      obtain ⟨es, e1, rfl⟩ := Option.map_eq_some_iff.mp e
      cases x with
      | list ds' =>
        cases e1
        obtain ⟨a, ys, rfl, rd, rs⟩ := vx.list
        exact ⟨a, ys, rfl, .inl ⟨.inl rd, fun l hl => k _ _ (Same.new hl) (new_tup oh hl rs)⟩⟩
      | tuple ds' =>
        cases e1
        rcases vx with vx | ⟨a, ys, ds, rfl, ez, _⟩
        · cases vx with
          | tup rd n rs => exact ⟨_, _, rfl, .inr ⟨.inl rd, k _ H (Same.refl H) (.tup rd n rs)⟩⟩
        · cases ez
      | _ => cases e1
noncomputable def intsOf : List D → Option (List Int)
  | [] => some []
  | .int i :: ds => (intsOf ds).map (i :: ·)
  | _ :: _ => none
@[simp] theorem intsOf_map : ∀ ns : List Int, intsOf (ns.map PyData.int) = some ns
  | [] => rfl
  | n :: ns => by rw [List.map_cons, intsOf, intsOf_map ns]; rfl
theorem intsOf_some : ∀ {ds : List D} {ns : List Int}, intsOf ds = some ns → ds = ns.map PyData.int
  | [], ns, h => by cases h; rfl
  | d :: ds, ns, h => by
    cases d with
    | int i =>
      obtain ⟨ms, e, rfl⟩ := Option.map_eq_some_iff.mp (show (intsOf ds).map (i :: ·) = some ns from h)
      rw [intsOf_some e]; rfl
    | _ => cases h
noncomputable def boolsOf : List D → Option (List Bool)
  | [] => some []
  | .bool i :: ds => (boolsOf ds).map (i :: ·)
  | _ :: _ => none
@[simp] theorem boolsOf_map : ∀ ns : List Bool, boolsOf (ns.map PyData.bool) = some ns
  | [] => rfl
  | n :: ns => by rw [List.map_cons, boolsOf, boolsOf_map ns]; rfl
theorem boolsOf_some : ∀ {ds : List D} {ns : List Bool}, boolsOf ds = some ns → ds = ns.map PyData.bool
  | [], ns, h => by cases h; rfl
  | d :: ds, ns, h => by
    cases d with
    | bool i =>
      obtain ⟨ms, e, rfl⟩ := Option.map_eq_some_iff.mp (show (boolsOf ds).map (i :: ·) = some ns from h)
      rw [boolsOf_some e]; rfl
    | _ => cases h
noncomputable def nsD (d : D) : Option (List Int) := (seqD d).bind intsOf
theorem nsD_va {K : PySem.W.Frag} {Oc : Wd} {Ob : Addr → Prop} {H : Hp} {x : V} {d : D} {ns : List Int} (h : VA Oc Ob H x d) (e : nsD d = some ns) : ∃ p, x = .ref p ∧ (SqL K H p (ns.map V.int) ∨ SqT K H p (ns.map V.int)) := by
  obtain ⟨ds, e1, e2⟩ := Option.bind_eq_some_iff.mp e
  obtain rfl := intsOf_some e2
  cases d with
  | list ds' =>
    cases e1
    obtain ⟨a, ys, rfl, rd, rs⟩ := h.list
    rw [rs.ints] at rd
    exact ⟨a, rfl, .inl (.inl rd)⟩
  | tuple ds' =>
    cases e1
    obtain ⟨a, ys, rfl, rd, rs⟩ := h.tuple
    rw [rs.ints] at rd
    exact ⟨a, rfl, .inr (.inl rd)⟩
  | _ => cases e1
noncomputable def allD : List D → Option D
  | [.list ds] => (boolsOf ds).map fun bs => .bool (bs.all id)
  | _ => none
theorem pc_all {K : PySem.W.Frag} : PrC (fun xs H Q => ∃ (p : Addr) (bs : List Bool), xs = [.ref p] ∧ SqL K H p (bs.map V.bl) ∧ Q (.bl (bs.all id)) H) .cl allD := by
  intro Oc Ob H vs ds d Q oh va e k
  unfold allD at e
  split at e
  · obtain ⟨ns, e1, rfl⟩ := Option.map_eq_some_iff.mp e
    obtain ⟨v, rfl, vx⟩ := va.one
    obtain ⟨a, ys, rfl, rd, rs⟩ := vx.list
    rw [boolsOf_some e1] at rs
    rw [rs.bools] at rd
    exact ⟨a, ns, rfl, .inl rd, k _ H (Same.refl H) (Rep.bl _)⟩
  · cases e
end L2.L3
set_option maxHeartbeats 4000000
namespace L2.L3
open PySem PySem.Spec PyProof.Rows
variable [CN]
noncomputable def tyD : D → String
  | .none => "NoneType"
  | .bool _ => "bool"
  | .int _ => "int"
  | .str _ => "str"
  | .list _ => "list"
  | .tuple _ => "tuple"
  | .dict _ => "dict"
noncomputable def subTy (t T : String) : Bool := t == T || (t == "bool" && T == "int")
structure Kit (K : PySem.W.Frag) (T : String) : Prop where
  non : PySem.W.kitOne K (.type "NoneType") (.type T) = some (subTy "NoneType" T)
  bl : PySem.W.kitOne K (.type "bool") (.type T) = some (subTy "bool" T)
  int : PySem.W.kitOne K (.type "int") (.type T) = some (subTy "int" T)
  str : PySem.W.kitOne K (.type "str") (.type T) = some (subTy "str" T)
  lst : PySem.W.kitOne K (.type "list") (.type T) = some (subTy "list" T)
  tup : PySem.W.kitOne K (.type "tuple") (.type T) = some (subTy "tuple" T)
noncomputable def TyR (K : PySem.W.Frag) (H : Hp) (x : V) (t : Value) : Prop := TyOf K H x t ∨ ∃ a xs, x = .ref a ∧ Rd H a (.tup xs) ∧ t = .type "tuple"
section
variable {X : Cx}
theorem call_isiR : CallR X (.builtin "isinstance") (fun vs H Q => ∃ x c cv t b, vs = [x, c] ∧ clsV c = some cv ∧ TyR X.K H x t ∧ PySem.W.kitOne X.K t cv = some b ∧ Q (.bl b) H) := by
  intro pins s σ H xs us Q I r h
  obtain ⟨x, c, cv, t, b, rfl, ec, ty, k, q⟩ := h
  obtain ⟨u, w', rfl, ru, rw'⟩ := vals2 r
  obtain rfl := clsV_rel rw' ec
  rcases ty with ty | ⟨a, xs, rfl, rd, rfl⟩
  · exact isinst_ok I ru ty k fun tk => ⟨.bl b, H, I.tok tk, rfl, q⟩
  · cases ru
    obtain ⟨_, _, _, p⟩ := rd.ok I.hok
    obtain ⟨o, h1, h2, _⟩ := p
    exact PySem.W.kia_one PySem.W.kitx_tuple I.kIn ⟨o, h1, h2⟩ k (fun z => nomatch z) fun tk => ⟨.bl b, H, I.tok tk, rfl, q⟩
end
noncomputable def isiD (T : String) : D → Option D
  | .dict _ => none
  | d => some (.bool (subTy (tyD d) T))
theorem isiD_some {T : String} {d r : D} (h : isiD T d = some r) : (∀ k, d ≠ .dict k) ∧ r = .bool (subTy (tyD d) T) := by
  cases d <;> first | (cases h; done) | (cases h; exact ⟨(fun k z => nomatch z), rfl⟩)
theorem va_ty {K : PySem.W.Frag} {Oc : Wd} {Ob : Addr → Prop} {H : Hp} {x : V} {d : D} {T : String} (h : VA Oc Ob H x d) (k : Kit K T) (nd : ∀ k, d ≠ .dict k) : ∃ t, TyR K H x t ∧ PySem.W.kitOne K t (.type T) = some (subTy (tyD d) T) := by
  rcases h with h | ⟨a, ys, ds, rfl, rfl, e3, e5⟩
  · cases h with
    | non => exact ⟨_, .inl .non, k.non⟩
    | bl b => exact ⟨_, .inl (.bl b), k.bl⟩
    | int i => exact ⟨_, .inl (.int i), k.int⟩
    | str x => exact ⟨_, .inl (.str x), k.str⟩
    | lst r n t =>
      rcases r with r | ⟨o, r⟩
      · exact ⟨_, .inl (.lst r), k.lst⟩
      · exact ⟨_, .inl (.frz r), k.lst⟩
    | tup r n t => exact ⟨_, .inr ⟨_, _, rfl, r, rfl⟩, k.tup⟩
    | exc r n => exact absurd rfl (nd _)
  · exact ⟨_, .inl (.lst e3), k.lst⟩
theorem re_isi {C : Ct} {e : Expr} {T : String} {x : Str} {p p2 pos : Pos} {md : Md} {me : Ev → Res D} (k : Kit C.X.K T) (hm : C.X.mg "isinstance" = none) (hx : C.X.mg x = none) (hv : bootBuiltins x = some (.type T)) (he : RE C md e me) (hg : autoParam (Gl C.X "isinstance") autoK5._auto_1) (hgx : autoParam (Gl C.X x) autoK5._auto_1) (hn : autoParam (x ≠ "__name__") autoK2._auto_1) (hdb : autoParam ((x == ("__debug__" : Str)) = false) autoK2._auto_1)
    (hs1 : autoParam (starEach [e, .Name x p2] C.X.env = (false, eval e C.X.env) :: starEach [.Name x p2] C.X.env) autoK5._auto_1) (hs2 : autoParam (starEach [.Name x p2] C.X.env = (false, eval (.Name x p2) C.X.env) :: starEach [] C.X.env) autoK5._auto_1) (hpl : autoParam ((backTo pos (starEach [.Name x p2] C.X.env)).any (·.1) = false) autoK5._auto_1) :
    RE C .cl (.Call (.Name "isinstance" p) [e, .Name x p2] [] pos) (e1 (isiD T) me) := by
  obtain ⟨t, pe, q⟩ := he
  refine ⟨_, pe_callB call_isiR hg hm PyProof.Rows.boot_isinstance (pa_cons pe (pa_cons (pe_bltn (v := .ty T) hgx hx hv rfl hn hdb) pa_nil hs2) hs1) (by decide) (by decide) hs1 hpl, fun Oc Ob σ H ρ Q R h => q Oc Ob σ H ρ _ R (Res.post_mono (Res.post_bind h) (fun d _ kk v H' s r => ?_) fun _ z => z)⟩
  obtain ⟨dd, ed, kk⟩ := Res.post_lft kk
  obtain ⟨nd, rfl⟩ := isiD_some ed
  obtain ⟨tt, ty, kt⟩ := va_ty (r.va R.oh) k nd
  exact ⟨v, .ty T, .type T, tt, _, rfl, rfl, ty, kt, kk _ H' s (Rep.bl _)⟩
theorem best_keep {s : Shared} {J : Addr} {hp h' : Heap} (keep : ∀ b o, s.heap.get? b = some o → b ≠ J ∧ hp.get? b = some o) (hk : ∀ b o, b ∉ [J] → hp.get? b = some o → h'.get? b = some o) : ∀ b o, s.heap.get? b = some o → h'.get? b = some o :=
  fun b o e => hk b o (by simpa using (keep b o e).1) (keep b o e).2
theorem size_ints (xs : Array (Int × Tok)) : (intItems xs).size = xs.size := by simp [intItems]
section
variable {prog : Program} {w : World} {A : Around} {E : Value → Shared → Prop} {s : Shared} {l : Addr} {xs : Array (Int × Tok)} {Q : Value → Shared → Prop}
theorem min_tup (hh : A.handled = none) (hl : s.heap.IsTuple l (intItems xs)) (ne : 0 < xs.size)
    (k : ∀ v h' tk, (intItems xs)[argBest (fun i j => decide (numAt xs i < numAt xs j)) (xs.size - 1)]? = some v → (∀ b o, s.heap.get? b = some o → h'.get? b = some o) → Q v { s with heap := h', toks := tk }) : wpAny (model prog w) A (call (.builtin "min") [.ref l]) Q E s :=
  call_min_walk (walk_tup (A := A.in1) hh hl fun J hp St W st a b keep => ⟨_, _, _, _, _, _, _, rfl, W, st, by simp [a, b], by rw [size_ints]; exact ne, .ints_lt (numAt xs) (fun _ _ => intItems_at), fun v h' tk at_ hk => k v h' tk (by rw [size_ints] at at_; exact at_) (best_keep keep hk)⟩)
theorem max_tup (hh : A.handled = none) (hl : s.heap.IsTuple l (intItems xs)) (ne : 0 < xs.size)
    (k : ∀ v h' tk, (intItems xs)[argBest (fun i j => decide (numAt xs i > numAt xs j)) (xs.size - 1)]? = some v → (∀ b o, s.heap.get? b = some o → h'.get? b = some o) → Q v { s with heap := h', toks := tk }) : wpAny (model prog w) A (call (.builtin "max") [.ref l]) Q E s :=
  call_max_walk (walk_tup (A := A.in1) hh hl fun J hp St W st a b keep => ⟨_, _, _, _, _, _, _, rfl, W, st, by simp [a, b], by rw [size_ints]; exact ne, .ints_gt (numAt xs) (fun _ _ => intItems_at), fun v h' tk at_ hk => k v h' tk (by rw [size_ints] at at_; exact at_) (best_keep keep hk)⟩)
end
noncomputable def minL : List Int → Int
  | [] => 0
  | n :: ns => ns.foldl (fun a b => if b < a then b else a) n
noncomputable def maxL : List Int → Int
  | [] => 0
  | n :: ns => ns.foldl (fun a b => if b > a then b else a) n
theorem minf_spec : ∀ (ns : List Int) (n : Int), (ns.foldl (fun a b => if b < a then b else a) n = n ∨ ns.foldl (fun a b => if b < a then b else a) n ∈ ns) ∧ ns.foldl (fun a b => if b < a then b else a) n ≤ n ∧ ∀ m ∈ ns, ns.foldl (fun a b => if b < a then b else a) n ≤ m
  | [], n => ⟨.inl rfl, Int.le_refl _, fun m h => nomatch h⟩
  | b :: ns, n => by
    obtain ⟨h1, h2, h3⟩ := minf_spec ns (if b < n then b else n)
    rw [List.foldl_cons]
    refine ⟨?_, ?_, fun m hm => ?_⟩
    · rcases h1 with h1 | h1
      · rw [h1]
        split
        · exact .inr List.mem_cons_self
        · exact .inl rfl
      · exact .inr (List.mem_cons_of_mem _ h1)
    · refine Int.le_trans h2 ?_
      split <;> bv_omega
    · rcases List.mem_cons.mp hm with rfl | hm
      · refine Int.le_trans h2 ?_
        split <;> bv_omega
      · exact h3 m hm
theorem maxf_spec : ∀ (ns : List Int) (n : Int), (ns.foldl (fun a b => if b > a then b else a) n = n ∨ ns.foldl (fun a b => if b > a then b else a) n ∈ ns) ∧ n ≤ ns.foldl (fun a b => if b > a then b else a) n ∧ ∀ m ∈ ns, m ≤ ns.foldl (fun a b => if b > a then b else a) n
  | [], n => ⟨.inl rfl, Int.le_refl _, fun m h => nomatch h⟩
  | b :: ns, n => by
    obtain ⟨h1, h2, h3⟩ := maxf_spec ns (if b > n then b else n)
    rw [List.foldl_cons]
    refine ⟨?_, ?_, fun m hm => ?_⟩
    · rcases h1 with h1 | h1
      · rw [h1]
        split
        · exact .inr List.mem_cons_self
        · exact .inl rfl
      · exact .inr (List.mem_cons_of_mem _ h1)
    · refine Int.le_trans ?_ h2
      split <;> bv_omega
    · rcases List.mem_cons.mp hm with rfl | hm
      · refine Int.le_trans ?_ h2
        split <;> bv_omega
      · exact h3 m hm
theorem minL_mem {ns : List Int} (h : ns ≠ []) : minL ns ∈ ns := by
  cases ns with
  | nil => exact absurd rfl h
  | cons n ns =>
    rcases (minf_spec ns n).1 with e | e
    · show List.foldl _ n ns ∈ _
      rw [e]; exact List.mem_cons_self
    · exact List.mem_cons_of_mem _ e
theorem minL_le {ns : List Int} {m : Int} (h : m ∈ ns) : minL ns ≤ m := by
  cases ns with
  | nil => cases h
  | cons n ns =>
    rcases List.mem_cons.mp h with rfl | h
    · exact (minf_spec ns m).2.1
    · exact (minf_spec ns n).2.2 m h
theorem maxL_mem {ns : List Int} (h : ns ≠ []) : maxL ns ∈ ns := by
  cases ns with
  | nil => exact absurd rfl h
  | cons n ns =>
    rcases (maxf_spec ns n).1 with e | e
    · show List.foldl _ n ns ∈ _
      rw [e]; exact List.mem_cons_self
    · exact List.mem_cons_of_mem _ e
theorem le_maxL {ns : List Int} {m : Int} (h : m ∈ ns) : m ≤ maxL ns := by
  cases ns with
  | nil => cases h
  | cons n ns =>
    rcases List.mem_cons.mp h with rfl | h
    · exact (maxf_spec ns m).2.1
    · exact (maxf_spec ns n).2.2 m h
theorem num_mem {xs : Array (Int × Tok)} {i : Nat} (h : i < xs.size) : numAt xs i ∈ xs.toList.map (·.1) := by
  rw [numAt_eq]
  exact getD_mem (by simpa using h)
theorem mem_num {xs : Array (Int × Tok)} {a : Int} (h : a ∈ xs.toList.map (·.1)) : ∃ i, i < xs.size ∧ a = numAt xs i := by
  obtain ⟨i, hi, e⟩ := mem_getD h
  exact ⟨i, by simpa using hi, by rw [numAt_eq, e]⟩
theorem best_min {xs : Array (Int × Tok)} (h : 0 < xs.size) : numAt xs (argBest (fun i j => decide (numAt xs i < numAt xs j)) (xs.size - 1)) = minL (xs.toList.map (·.1)) := by
  have z := argBest_lt (numAt xs) (xs.size - 1)
  have m := num_mem (xs := xs) (i := argBest (fun i j => decide (numAt xs i < numAt xs j)) (xs.size - 1)) (by bv_omega)
  obtain ⟨i, hi, e⟩ := mem_num (minL_mem (List.ne_nil_of_mem m))
  have := minL_le m
  have := z.2 i (by bv_omega)
  bv_omega
theorem best_max {xs : Array (Int × Tok)} (h : 0 < xs.size) : numAt xs (argBest (fun i j => decide (numAt xs i > numAt xs j)) (xs.size - 1)) = maxL (xs.toList.map (·.1)) := by
  have z := argBest_gt (numAt xs) (xs.size - 1)
  have m := num_mem (xs := xs) (i := argBest (fun i j => decide (numAt xs i > numAt xs j)) (xs.size - 1)) (by bv_omega)
  obtain ⟨i, hi, e⟩ := mem_num (maxL_mem (List.ne_nil_of_mem m))
  have := le_maxL m
  have := z.2 i (by bv_omega)
  bv_omega
section
variable {X : Cx}
theorem call_min1 (hc : X.calm = true) : CallR X (.builtin "min") (fun xs H Q => ∃ (p : Addr) (ns : List Int), xs = [.ref p] ∧ (SqL X.K H p (ns.map V.int) ∨ SqT X.K H p (ns.map V.int)) ∧ ns ≠ [] ∧ Q (.int (minL ns)) H) := by
  intro pins s σ H xs us Q I r h
  obtain ⟨p, ns, rfl, hq, hne, q⟩ := h
  obtain ⟨u, rfl, ru⟩ := vals1 r
  cases ru
  have core : ∀ (its : List Value), Vals (ns.map V.int) its → ∃ xs : Array (Int × Tok), its.toArray = intItems xs ∧ ns = xs.toList.map (·.1) := fun its rv => by
    have hi : IntsAre its ns := intsAre_of rv
    obtain ⟨xs, e⟩ := hi.allInts.items
    exact ⟨xs, e, by rw [← hi.numsOf, ← nums_intItems, ← e]⟩
  have fin : ∀ (xs : Array (Int × Tok)), ns = xs.toList.map (·.1) → 0 < xs.size → ∀ (v : Value) (h' : Heap) (tk : Nat), (intItems xs)[argBest (fun i j => decide (numAt xs i < numAt xs j)) (xs.size - 1)]? = some v → (∀ b o, s.heap.get? b = some o → h'.get? b = some o) → EP X pins σ Q v { s with heap := h', toks := tk } := fun xs hns hsz v h' tk hv hk => by
    obtain ⟨t, rfl⟩ := intItems_at hv
    have e := best_min hsz
    rw [← hns] at e
    exact ⟨.int _, H, I.kept hk, ⟨t, by rw [e]⟩, q⟩
  have sz : ∀ xs : Array (Int × Tok), ns = xs.toList.map (·.1) → 0 < xs.size := fun xs hns => by
    rcases Nat.eq_zero_or_pos xs.size with z | z
    · exact absurd (by rw [hns, Array.size_eq_zero_iff.mp z]; rfl) hne
    · exact z
  rcases hq with hq | hq
  · obtain ⟨its, rv, pl, hz⟩ := I.list hq
    obtain ⟨xs, e, hns⟩ := core its rv
    exact min_intList (I.ok.hd hc) (by rw [← e]; exact pl.isList) (sz xs hns) (fin xs hns (sz xs hns))
  · obtain ⟨its, rv, pl, hz⟩ := I.tuple hq
    obtain ⟨xs, e, hns⟩ := core its rv
    exact min_tup (I.ok.hd hc) (by rw [← e]; exact pl) (sz xs hns) (fin xs hns (sz xs hns))
theorem call_max1 (hc : X.calm = true) : CallR X (.builtin "max") (fun xs H Q => ∃ (p : Addr) (ns : List Int), xs = [.ref p] ∧ (SqL X.K H p (ns.map V.int) ∨ SqT X.K H p (ns.map V.int)) ∧ ns ≠ [] ∧ Q (.int (maxL ns)) H) := by
  intro pins s σ H xs us Q I r h
  obtain ⟨p, ns, rfl, hq, hne, q⟩ := h
  obtain ⟨u, rfl, ru⟩ := vals1 r
  cases ru
  have core : ∀ (its : List Value), Vals (ns.map V.int) its → ∃ xs : Array (Int × Tok), its.toArray = intItems xs ∧ ns = xs.toList.map (·.1) := fun its rv => by
    have hi : IntsAre its ns := intsAre_of rv
    obtain ⟨xs, e⟩ := hi.allInts.items
    exact ⟨xs, e, by rw [← hi.numsOf, ← nums_intItems, ← e]⟩
  have fin : ∀ (xs : Array (Int × Tok)), ns = xs.toList.map (·.1) → 0 < xs.size → ∀ (v : Value) (h' : Heap) (tk : Nat), (intItems xs)[argBest (fun i j => decide (numAt xs i > numAt xs j)) (xs.size - 1)]? = some v → (∀ b o, s.heap.get? b = some o → h'.get? b = some o) → EP X pins σ Q v { s with heap := h', toks := tk } := fun xs hns hsz v h' tk hv hk => by
    obtain ⟨t, rfl⟩ := intItems_at hv
    have e := best_max hsz
    rw [← hns] at e
    exact ⟨.int _, H, I.kept hk, ⟨t, by rw [e]⟩, q⟩
  have sz : ∀ xs : Array (Int × Tok), ns = xs.toList.map (·.1) → 0 < xs.size := fun xs hns => by
    rcases Nat.eq_zero_or_pos xs.size with z | z
    · exact absurd (by rw [hns, Array.size_eq_zero_iff.mp z]; rfl) hne
    · exact z
  rcases hq with hq | hq
  · obtain ⟨its, rv, pl, hz⟩ := I.list hq
    obtain ⟨xs, e, hns⟩ := core its rv
    exact max_intList (I.ok.hd hc) (by rw [← e]; exact pl.isList) (sz xs hns) (fin xs hns (sz xs hns))
  · obtain ⟨its, rv, pl, hz⟩ := I.tuple hq
    obtain ⟨xs, e, hns⟩ := core its rv
    exact max_tup (I.ok.hd hc) (by rw [← e]; exact pl) (sz xs hns) (fin xs hns (sz xs hns))
end
noncomputable def min1D : List D → Option D
  | [d] => (nsD d).bind fun ns => if ns = [] then none else some (.int (minL ns))
  | _ => none
noncomputable def max1D : List D → Option D
  | [d] => (nsD d).bind fun ns => if ns = [] then none else some (.int (maxL ns))
  | _ => none
theorem pc_min1 {K : PySem.W.Frag} : PrC (fun xs H Q => ∃ (p : Addr) (ns : List Int), xs = [.ref p] ∧ (SqL K H p (ns.map V.int) ∨ SqT K H p (ns.map V.int)) ∧ ns ≠ [] ∧ Q (.int (minL ns)) H) .cl min1D := by
  intro Oc Ob H vs ds d Q oh va e k
  unfold min1D at e
  split at e
  · obtain ⟨ns, e1, e⟩ := Option.bind_eq_some_iff.mp e
    split at e
    · cases e
    · rename_i hl
      cases e
      obtain ⟨v, rfl, vx⟩ := va.one
      obtain ⟨p, rfl, hq⟩ := nsD_va vx e1
      exact ⟨p, ns, rfl, hq, hl, k _ H (Same.refl H) (Rep.int _)⟩
  · cases e
theorem pc_max1 {K : PySem.W.Frag} : PrC (fun xs H Q => ∃ (p : Addr) (ns : List Int), xs = [.ref p] ∧ (SqL K H p (ns.map V.int) ∨ SqT K H p (ns.map V.int)) ∧ ns ≠ [] ∧ Q (.int (maxL ns)) H) .cl max1D := by
  intro Oc Ob H vs ds d Q oh va e k
  unfold max1D at e
  split at e
  · obtain ⟨ns, e1, e⟩ := Option.bind_eq_some_iff.mp e
    split at e
    · cases e
    · rename_i hl
      cases e
      obtain ⟨v, rfl, vx⟩ := va.one
      obtain ⟨p, rfl, hq⟩ := nsD_va vx e1
      exact ⟨p, ns, rfl, hq, hl, k _ H (Same.refl H) (Rep.int _)⟩
  · cases e
section
variable {X : Cx}
end
section
variable {X : Cx}
end
noncomputable def appD : List D → List D → Option (List D)
  | xs, [d] => if xs.length < sizeLine then some (xs ++ [d]) else none
  | _, _ => none
theorem Reps.one' {H : Hp} {O : Addr → Prop} {vs : List V} {d : D} (h : Reps H O vs [d]) : ∃ v, vs = [v] ∧ Rep H O v d := by
  cases h with
  | cons a t => cases t; exact ⟨_, rfl, a⟩
theorem pm_append : PrM rAppend appD := by
  intro O H l xs vs xd ad ds' Q hl rx ra e k
  unfold appD at e
  split at e
  · split at e
    · rename_i h
      cases e
      obtain ⟨v, rfl, rv⟩ := Reps.one' ra
      exact ⟨l, xs, v, rfl, rfl, hl, by rw [rx.length]; exact h, k _ (rx.append (.one rv))⟩
    · cases e
  · cases e
end L2.L3
set_option maxHeartbeats 4000000
namespace L2.L3
open PySem PySem.Spec PyProof.Rows
variable [CN]
theorem bind_some {α β : Type} {r : Res α} {f : α → Res β} {b : β} (h : r.bind f = .ok b) : ∃ a, r = .ok a ∧ f a = .ok b := by
  cases r with
  | ok a => exact ⟨a, rfl, h⟩
  | ex c => cases h
  | no => cases h
section
variable {i j : Nat} {m n : Ev → Res Out} {t : Ev → Res Bool} {me mk : Ev → Res D} {ms mi : Ev → Res (List D)} {g : D → Ev → Option Ev} {f : List D → List D → Option (List D)}
end
end L2.L3
namespace L2.L3
open PySem PySem.Spec PyProof.Rows
variable [CN]
noncomputable def isL : Value → Bool
  | .type t => t == "list"
  | _ => false
noncomputable def noLst (K : PySem.W.Frag) : Bool := K.all fun p => !isL p.2.cls
theorem mem_of_look {K : PySem.W.Frag} {a : Addr} {o : Obj} (h : K.lookup a = some o) : (a, o) ∈ K := by
  have h : List.lookup a K = some o := h
  induction K with
  | nil => cases h
  | cons p r ih =>
    obtain ⟨b, u⟩ := p
    rw [List.lookup_cons] at h
    by_cases e : (a == b) = true
    · simp only [e] at h
      cases h
      have : a = b := by simpa using e
      rw [this]
      exact List.mem_cons_self
    · simp only [e] at h
      exact List.mem_cons_of_mem _ (ih h h)
theorem rd_of {K : PySem.W.Frag} {H : Hp} {a : Addr} {xs : List V} (hn : noLst K = true) (h : SqL K H a xs) : Rd H a (.lst xs) := by
  rcases h with h | ⟨o, its, n, hk, hc, _⟩
  · exact h
  · have := List.all_eq_true.mp hn _ (mem_of_look hk)
    rw [hc] at this
    cases this
end L2.L3
set_option maxHeartbeats 4000000
namespace L2.L3
open PySem
section
variable (m n : Ev → Res Out) (t t' : Ev → Res Bool) (a b c : Ev → Res D) (xs : Ev → Res (List D)) (ρ : Ev) (i j : Nat) (d : D)
theorem sN_ap : sN ρ = .ok (.nx ρ) := rfl
theorem sX_ap : sX ρ = .no := rfl
theorem sQ_ap : sQ m n ρ = (m ρ).bind fun o => match o with | .nx ρ' => n ρ' | .rt d => .ok (.rt d) := rfl
theorem sIf_ap : sIf t m n ρ = (t ρ).bind fun k => if k then m ρ else n ρ := rfl
theorem sR_ap : sR a ρ = (a ρ).bind fun d => .ok (.rt d) := rfl
theorem sS_ap : sS i a ρ = (a ρ).bind fun d => .ok (.nx (ρ.set i (some d))) := rfl
theorem sE_ap : sE a ρ = (a ρ).bind fun _ => .ok (.nx ρ) := rfl
theorem sM_ap (g : List D → List D → Option (List D)) : sM i g xs ρ = (eV i ρ).bind fun d => (Res.lft (lstD d)).bind fun xd => (xs ρ).bind fun ad => (Res.lft (g xd ad)).bind fun ds => .ok (.nx (ρ.set i (some (.list ds)))) := rfl
theorem sI_ap : sI i b a ρ = (a ρ).bind fun v => (eV i ρ).bind fun d => (Res.lft (lstD d)).bind fun xd => (b ρ).bind fun k => (Res.lft (setD xd k v)).bind fun ds => .ok (.nx (ρ.set i (some (.list ds)))) := rfl
theorem sV_ap : sV i j ρ = (eV j ρ).bind fun d => .ok (.nx ((ρ.set i (some d)).set j none)) := rfl
theorem sF_ap (g : D → Ev → Option Ev) : sF xs g m ρ = (xs ρ).bind fun ds => forM g m ds ρ := rfl
theorem sW_ap (k : Nat) : sW k t m ρ = whM t m k ρ := rfl
theorem eC_ap : eC d ρ = .ok d := rfl
theorem eV0 (x : D) (r : Ev) : eV 0 (some x :: r) = .ok x := rfl
theorem eVs (o : Option D) (r : Ev) : eV (i + 1) (o :: r) = eV i r := rfl
theorem e1_ap (f : D → Option D) : e1 f a ρ = (a ρ).bind fun x => Res.lft (f x) := rfl
theorem e2_ap (f : D → D → Option D) : e2 f a b ρ = (a ρ).bind fun x => (b ρ).bind fun y => Res.lft (f x y) := rfl
theorem eB_ap (f : List D → Option D) : eB f xs ρ = (xs ρ).bind fun ds => Res.lft (f ds) := rfl
theorem eF_ap (f : List D → Res D) : eF f xs ρ = (xs ρ).bind f := rfl
theorem eFA_ap (fr : Bool) (f : List D → Res D) : eFA fr f xs ρ = (xs ρ).bind fun ds => (f ds).bind fun d => if lfT fr d then .ok d else .no := rfl
theorem b2_ap (f : D → D → Option Bool) : b2 f a b ρ = (a ρ).bind fun x => (b ρ).bind fun y => Res.lft (f x y) := rfl
theorem b3_ap (f g : D → D → Option Bool) : b3 f g a b c ρ = (a ρ).bind fun x => (b ρ).bind fun y => (Res.lft (f x y)).bind fun k => if k then (c ρ).bind fun z => Res.lft (g y z) else .ok false := rfl
theorem vB_ap : vB t ρ = (t ρ).bind fun k => .ok (.bool k) := rfl
theorem tV_ap : tV a ρ = (a ρ).bind fun d => Res.lft (isB d) := rfl
theorem tNt_ap : tNt t ρ = (t ρ).bind fun k => .ok (!k) := rfl
theorem tAn_ap : tAn t t' ρ = (t ρ).bind fun k => if k then t' ρ else .ok false := rfl
theorem tO_ap : tO t t' ρ = (t ρ).bind fun k => if k then .ok true else t' ρ := rfl
theorem vAn_ap : vAn a b ρ = (a ρ).bind fun d => (Res.lft (isB d)).bind fun k => if k then b ρ else .ok (.bool false) := rfl
theorem vO_ap : vO a b ρ = (a ρ).bind fun d => (Res.lft (isB d)).bind fun k => if k then .ok (.bool true) else b ρ := rfl
theorem vNt_ap : vNt a ρ = (a ρ).bind fun d => (Res.lft (isB d)).bind fun k => .ok (.bool (!k)) := rfl
theorem eIf_ap : eIf t a b ρ = (t ρ).bind fun k => if k then a ρ else b ρ := rfl
theorem aN_ap : aN ρ = .ok [] := rfl
theorem aC_ap : aC a xs ρ = (a ρ).bind fun x => (xs ρ).bind fun r => .ok (x :: r) := rfl
theorem iS_ap : iS a ρ = (a ρ).bind fun d => Res.lft (seqD d) := rfl
theorem iR_ap (f : List D → Option (List D)) : iR f xs ρ = (xs ρ).bind fun ds => Res.lft (f ds) := rfl
theorem gN_ap : gN i d ρ = some (ρ.set i (some d)) := rfl
theorem tYes_ap : tYes ρ = .ok true := rfl
theorem eComp_ap (mi : Ev → Res (List D)) (js : List Nat) : eComp mi t a js ρ = (mi ρ).bind fun ds => if ds.length ≤ sizeLine then (compM (fun x => t (cEnv ρ js x)) (fun x => a (cEnv ρ js x)) ds).bind fun out => .ok (.list out) else .no := rfl
theorem i2_ap (f : Int → Int → Option Int) (x y : Int) : i2 f (.int x) (.int y) = (f x y).map PyData.int := rfl
theorem c2_ap (f : Int → Int → Bool) (x y : Int) : c2 f (.int x) (.int y) = some (f x y) := rfl
theorem lstD_ap (l : List D) : lstD (.list l) = some l := rfl
theorem seqD_l (l : List D) : seqD (.list l) = some l := rfl
theorem seqD_t (l : List D) : seqD (.tuple l) = some l := rfl
theorem isB_ap (k : Bool) : isB (.bool k) = some k := rfl
theorem lenD_ap : lenD [d] = (seqD d).map fun ds => .int ds.length := rfl
theorem listD_ap : listD [d] = (seqD d).map fun ds => .list ds := rfl
theorem tupD_ap : tupD [d] = (seqD d).map fun ds => .tuple ds := rfl
theorem ixD_l (l : List D) (k : Int) : ixD (.list l) (.int k) = atI l k := rfl
theorem ixD_t (l : List D) (k : Int) : ixD (.tuple l) (.int k) = atI l k := rfl
theorem negD_ap (k : Int) : negD (.int k) = some (.int (-k)) := rfl
theorem bD_ap (k : Bool) : bD (some k) = some (.bool k) := rfl
end
theorem fin_rt (fr : Bool) (d : D) : fin fr (.rt d) = .ok d := rfl
theorem fin_nx (ρ : Ev) : fin false (.nx ρ) = .ok .none := rfl
theorem forM_ok {g : D → Ev → Option Ev} {b : Ev → Res Out} (P : Nat → Ev → Prop) (ds : List D) (ρ : Ev) (h0 : P 0 ρ) (hs : ∀ (i : Nat) d ρ, ds[i]? = some d → P i ρ → ∃ ρ1 ρ2, g d ρ = some ρ1 ∧ b ρ1 = .ok (.nx ρ2) ∧ P (i + 1) ρ2) :
    ∃ ρ', forM g b ds ρ = .ok (.nx ρ') ∧ P ds.length ρ' := by
  induction ds generalizing P ρ with
  | nil => exact ⟨ρ, rfl, h0⟩
  | cons d ds ih =>
    obtain ⟨ρ1, ρ2, e1, e2, p⟩ := hs 0 d ρ rfl h0
    obtain ⟨ρ', e, p'⟩ := ih (fun i => P (i + 1)) ρ2 p fun i d ρ hd hp => hs (i + 1) d ρ (by simpa using hd) hp
    refine ⟨ρ', ?_, by simpa using p'⟩
    rw [forM, e1, Res.lft_some, Res.bind_ok, e2, Res.bind_ok]
    exact e
theorem compM_map {t : D → Res Bool} {f : D → Res D} {α : Type} (A : α → D) (p : α → Bool) (q : α → D) : ∀ (xs : List α), (∀ x ∈ xs, t (A x) = .ok (p x)) → (∀ x ∈ xs, p x = true → f (A x) = .ok (q x)) → compM t f (xs.map A) = .ok ((xs.filter p).map q)
  | [], _, _ => rfl
  | x :: xs, ht, hf => by
    have ih := compM_map A p q xs (fun y hy => ht y (List.mem_cons_of_mem _ hy)) (fun y hy => hf y (List.mem_cons_of_mem _ hy))
    rw [List.map_cons, compM, ht x List.mem_cons_self]
    cases hp : p x with
    | false => simp only [noEx, Res.bind_ok, Bool.false_eq_true, if_false, List.filter_cons, hp]; exact ih
    | true =>
      rw [hf x List.mem_cons_self hp, ih]
      simp [noEx, List.filter_cons, hp]
noncomputable abbrev tI (ns : List Int) : D := .tuple (ns.map PyData.int)
noncomputable abbrev lI (ns : List Int) : D := .list (ns.map PyData.int)
theorem atI_map {α β : Type} (f : α → β) (xs : List α) (i : Int) : atI (xs.map f) i = (atI xs i).map f := by
  unfold atI
  rw [List.length_map]
  cases ixN xs.length i with
  | none => rfl
  | some j => simp
theorem atI_getD {xs : List Int} {j : Nat} (h : j < xs.length) : atI xs (j : Int) = some (xs.getD j 0) := by
  refine atI_nat ?_
  rw [List.getD_eq_getElem?_getD, List.getElem?_eq_getElem h]
  rfl
end L2.L3
namespace L2.L3
open PySem
theorem mkL_le {ds : List D} (h : ds.length ≤ 1000) : mkL ds = some (.list ds) := by
  unfold mkL
  exact if_pos (Nat.le_of_lt (small1000 h))
theorem mkT_le {ds : List D} (h : ds.length ≤ 1000) : mkT ds = some (.tuple ds) := by
  unfold mkT
  exact if_pos (Nat.le_of_lt (small1000 h))
theorem mkL0 : mkL [] = some (.list []) := mkL_le (by simp)
theorem mkL1 (a : D) : mkL [a] = some (.list [a]) := mkL_le (by simp)
theorem mkL2 (a b : D) : mkL [a, b] = some (.list [a, b]) := mkL_le (by simp)
theorem mkL3 (a b c : D) : mkL [a, b, c] = some (.list [a, b, c]) := mkL_le (by simp)
theorem mkL4 (a b c d : D) : mkL [a, b, c, d] = some (.list [a, b, c, d]) := mkL_le (by simp)
theorem mkT0 : mkT [] = some (.tuple []) := mkT_le (by simp)
theorem mkT1 (a : D) : mkT [a] = some (.tuple [a]) := mkT_le (by simp)
theorem mkT2 (a b : D) : mkT [a, b] = some (.tuple [a, b]) := mkT_le (by simp)
theorem mkT3 (a b c : D) : mkT [a, b, c] = some (.tuple [a, b, c]) := mkT_le (by simp)
theorem app_le {l : List D} {d : D} (h : l.length ≤ 1000) : appD l [d] = some (l ++ [d]) := if_pos (small1000 h)
theorem comp_le {ds : List D} {r : Res D} (h : ds.length ≤ 1000) : (if ds.length ≤ sizeLine then r else .no) = r := if_pos (Nat.le_of_lt (small1000 h))
theorem rng_nat {n : Nat} (h : n ≤ 1000) : rng1 [.int (n : Int)] = some ((List.range n).map fun (i : Nat) => PyData.int (i : Int)) := by
  unfold rng1
  simp only
  rw [if_pos ⟨by bv_omega, by bv_omega⟩, Int.toNat_natCast]
theorem rng_get {n i : Nat} {d : D} (h : ((List.range n).map fun (i : Nat) => PyData.int (i : Int))[i]? = some d) : i < n ∧ d = .int (i : Int) := by
  rw [List.getElem?_map] at h
  by_cases hi : i < n
  · rw [List.getElem?_range hi] at h
    cases h
    exact ⟨hi, rfl⟩
  · rw [List.getElem?_eq_none (by simpa using hi)] at h
    cases h
theorem shaped_int (i : Int) : SeqAt.shaped (.int i) = true := rfl
theorem eqv_int (i j : Int) : PyData.eqv (.int i) (.int j) = decide (i = j) := by
  rw [PyData.eqv]
  exact Bool.beq_eq_decide_eq i j
theorem eqD_int (i j : Int) : eqD (.int i) (.int j) = some (decide (i = j)) := by
  unfold eqD
  rw [if_pos ⟨shaped_int i, shaped_int j⟩, eqv_int]
theorem neD_int (i j : Int) : neD (.int i) (.int j) = some (!decide (i = j)) := by
  unfold neD
  rw [if_pos ⟨shaped_int i, shaped_int j⟩, eqv_int]
end L2.L3
namespace L2.L3
open PySem
noncomputable abbrev rows (rs : List (List Int)) : D := .list (rs.map tI)
theorem allD_true {α : Type} (xs : List α) (f : α → Bool) (h : ∀ x ∈ xs, f x = true) : allD [.list (xs.map fun x => PyData.bool (f x))] = some (.bool true) := by
  have e : (xs.map fun x => PyData.bool (f x)) = (xs.map f).map PyData.bool := by rw [List.map_map]; rfl
  show (boolsOf _).map _ = _
  rw [e, boolsOf_map]
  show some (PyData.bool ((xs.map f).all id)) = _
  congr 2
  rw [List.all_eq_true]
  intro b hb
  obtain ⟨x, hx, rfl⟩ := List.mem_map.mp hb
  exact h x hx
theorem ixN_nat {n m : Nat} (h : m < n) : ixN n (m : Int) = some m := by
  unfold ixN
  rw [if_pos (by bv_omega), if_pos (by bv_omega), Int.toNat_natCast]
theorem min1_tI {ns : List Int} (h : ns ≠ []) : min1D [tI ns] = some (.int (minL ns)) := by
  unfold min1D
  simp only [nsD, seqD, Option.bind_some, intsOf_map]
  rw [if_neg h]
end L2.L3
namespace L2.L3
open PySem
section
variable (i : Int) (b : Bool) (l : List D)
theorem isi_ii : isiD "int" (.int i) = some (.bool true) := rfl
theorem isi_bi : isiD "bool" (.int i) = some (.bool false) := rfl
theorem isi_bb : isiD "bool" (.bool b) = some (.bool true) := rfl
theorem isi_ib : isiD "int" (.bool b) = some (.bool true) := rfl
theorem isi_tt : isiD "tuple" (.tuple l) = some (.bool true) := rfl
theorem isi_ll : isiD "list" (.list l) = some (.bool true) := rfl
theorem isi_tl : isiD "tuple" (.list l) = some (.bool false) := rfl
theorem isi_lt : isiD "list" (.tuple l) = some (.bool false) := rfl
theorem isi_tn : isiD "tuple" .none = some (.bool false) := rfl
theorem isi_bn : isiD "bool" .none = some (.bool false) := rfl
end
theorem eComp_eq {mi : Ev → Res (List D)} {t : Ev → Res Bool} {me : Ev → Res D} {js : List Nat} {ρ : Ev} {α : Type} (A : α → D) (p : α → Bool) (q : α → D) (xs : List α) (h : mi ρ = .ok (xs.map A)) (hl : xs.length ≤ 1000)
    (ht : ∀ x ∈ xs, t (cEnv ρ js (A x)) = .ok (p x)) (hf : ∀ x ∈ xs, p x = true → me (cEnv ρ js (A x)) = .ok (q x)) : eComp mi t me js ρ = .ok (.list ((xs.filter p).map q)) := by
  rw [eComp_ap, h, Res.bind_ok, comp_le (by rw [List.length_map]; exact hl), compM_map A p q xs ht hf]
  rfl
theorem eComp_all {mi : Ev → Res (List D)} {me : Ev → Res D} {js : List Nat} {ρ : Ev} {α : Type} (A : α → D) (q : α → D) (xs : List α) (h : mi ρ = .ok (xs.map A)) (hl : xs.length ≤ 1000)
    (hf : ∀ x ∈ xs, me (cEnv ρ js (A x)) = .ok (q x)) : eComp mi tYes me js ρ = .ok (.list (xs.map q)) := by
  rw [eComp_eq A (fun _ => true) q xs h hl (fun _ _ => rfl) (fun x hx _ => hf x hx), List.filter_eq_self.mpr fun _ _ => rfl]
end L2.L3
namespace L2.L3
theorem atI_zero {α : Type} (a : α) (l : List α) : atI (a :: l) 0 = some a := atI_nat (j := 0) rfl
end L2.L3
set_option maxHeartbeats 4000000
namespace HT
open PySem PySem.Spec PyProof.Rows
section
variable {prog : Program} {w : World} {A : Around} {E : Value → Shared → Prop} {s : Shared}
theorem getItem_tuple_all {t sl : Addr} {items : Array Value} {vl vu : Value} {lo hi : Option Int} {Q : Value → Shared → Prop} (ht : IsTup s.heap t items) (hs : s.heap.IsSliceOf sl vl vu .none) (pl : IsPart vl lo) (pu : IsPart vu hi)
    (hw : sIx items.size 0 lo = 0 ∧ sIx items.size items.size hi = items.size) (h : Q (.ref t) s) : wpAny (model prog w) A (getItem (.ref t) (.ref sl)) Q E s := by
  obtain ⟨os, hos, hcs, hds⟩ := id hs
  have hTs : s.TypeIs (.ref sl) "slice" := ⟨os, hos, hcs⟩
  unfold getItem
  try with_reducible refine wpAny_holding ?_
  first | refine wpAny_bind (wpAny_pure ?_) | skip
  refine wpAny_bind (wpAny_sequenceKey ht.typeIs (by decide) ?_)
  refine wpAny_bind (wpAny_callSpecial?_slot (name := Str.ofString "__getitem__") ht.typeIs PyProof.Rows.slot_tuple_getitem
    (wpAny_call_entry PyProof.Rows.slot_tuple_getitem ht.typeIs entry_tuple_getitem ?_ (args_tuple_getitem _ _)))
  show wpAny _ _ (Builtin.Tuple.tupleItemsOf (.ref t) >>= _) _ _ s
  refine wpAny_bind (tupleItemsOf_ ht ?_)
  refine wpAny_bind (wpAny_typeOf hTs ?_)
  rw [if_pos (by decide)]
  refine wpAny_bind (sliceApplied_gen hs pl pu ?_)
  have hyes : (((sIx items.size 0 lo : Nat) : Int) == 0 && (1 : Int) == 1 && (sIx items.size items.size hi - sIx items.size 0 lo) == items.size) = true := by
    rw [hw.1, hw.2]
    simp
  show wpAny _ _ (if (((sIx items.size 0 lo : Nat) : Int) == 0 && (1 : Int) == 1 && (sIx items.size items.size hi - sIx items.size 0 lo) == items.size) = true then _ else _) _ _ s
  rw [if_pos hyes]
  unfold Builtin.Tuple.tupleIsExact
  refine wpAny_bind (wpAny_bind (wpAny_typeOf ht.typeIs (wpAny_pure ?_)))
  rw [if_pos (by decide)]
  refine wpAny_bind (wpAny_rule ?_)
  exact wpAny_pure ⟨_, rfl, wpAny_pure h⟩
end
end HT
namespace L2.L3
open PySem PySem.Spec PyProof.Rows
variable [CN]
section
variable {X : Cx}
noncomputable def rSlTA (K : PySem.W.Frag) : V → Option Int → Option Int → Hp → VK → Prop := fun x lo hi H Q => ∃ a xs, x = .ref a ∧ SqT K H a xs ∧ HT.sIx xs.length 0 lo = 0 ∧ HT.sIx xs.length xs.length hi = xs.length ∧ Q (.ref a) H
theorem sl_tupA : SlR X (rSlTA X.K) := by
  intro pins s σ H x v vl vu lo hi sl Q I rx hs pl pu h
  obtain ⟨a, xs, rfl, hx, hw1, hw2, q⟩ := h
  cases rx
  obtain ⟨its, r, ht, hz⟩ := I.tuple hx
  have hlen : its.toArray.size = xs.length := by rw [List.size_toArray]; exact r.length.symm
  refine ⟨"tuple", _, PyProof.Rows.slot_tuple_getitem.lookup, ht.typeIs, ?_⟩
  exact HT.getItem_tuple_all ht hs pl pu (by rw [hlen]; exact ⟨hw1, hw2⟩) ⟨.ref a, H, I, rfl, q⟩
end
noncomputable def RO (C : Ct) (e : Option Expr) (m : Ev → Res (Option Int)) : Prop :=
  ∃ t, PO C.X e t ∧ ∀ (Oc : Wd) (Ob : Addr → Prop) (σ : St) (H : Hp) (ρ : Ev) (Q : Option Int → Hp → Prop), Rel Oc Ob C.om C.ln σ H ρ →
    (m ρ).post (fun d => ∀ H', Same H H' → Q d H') (fun c => ∀ H', Same H H' → C.XE c H') → t σ H Q
noncomputable def oN : Ev → Res (Option Int) := fun _ => .ok none
noncomputable def isI : D → Option Int
  | .int i => some i
  | _ => none
noncomputable def oS (m : Ev → Res D) : Ev → Res (Option Int) := fun ρ => (m ρ).bind fun d => (Res.lft (isI d)).bind fun i => .ok (some i)
theorem ro_none {C : Ct} : RO C none oN := ⟨_, po_none, fun Oc Ob σ H ρ Q R h => h H (Same.refl H)⟩
theorem ro_some {C : Ct} {e : Expr} {md : Md} {me : Ev → Res D} (h : RE C md e me) : RO C (some e) (oS me) := by
  obtain ⟨t, p, q⟩ := h
  refine ⟨_, po_some p, fun Oc Ob σ H ρ Q R h => q Oc Ob σ H ρ _ R (Res.post_mono (Res.post_bind h) (fun d _ k v H' s r => ?_) fun _ z => z)⟩
  obtain ⟨i, e, k⟩ := Res.post_lft (Res.post_bind k)
  cases d with
  | int j => cases e; exact ⟨i, (r.va R.oh).int, k H' s⟩
  | _ => cases e
noncomputable def eS (f : D → Option Int → Option Int → Option D) (m : Ev → Res D) (lo hi : Ev → Res (Option Int)) : Ev → Res D := fun ρ => (m ρ).bind fun x => (lo ρ).bind fun l => (hi ρ).bind fun u => Res.lft (f x l u)
noncomputable def PrS (r : V → Option Int → Option Int → Hp → VK → Prop) (md : Md) (f : D → Option Int → Option Int → Option D) : Prop :=
  ∀ (Oc : Wd) (Ob : Addr → Prop) (H : Hp) (x : V) (dx : D) (lo hi : Option Int) (d : D) (Q : VK), (∀ a, Oc a ∨ Ob a → H a ≠ none) → VA Oc Ob H x dx → f dx lo hi = some d → (∀ v H', Same H H' → VR md Oc Ob H H' v d → Q v H') → r x lo hi H Q
theorem re_slice {C : Ct} {e : Expr} {lo hi : Option Expr} {md mda : Md} {me : Ev → Res D} {ml mh : Ev → Res (Option Int)} {p2 pos : Pos} {r : V → Option Int → Option Int → Hp → VK → Prop} {f : D → Option Int → Option Int → Option D} (hr : SlR C.X r) (hp : PrS r md f) (he : RE C mda e me) (hl : RO C lo ml) (hu : RO C hi mh) :
    RE C md (.Subscript e (.Slice lo hi none p2) pos) (eS f me ml mh) := by
  obtain ⟨t, p, q⟩ := he
  obtain ⟨tl, pl, ql⟩ := hl
  obtain ⟨th, ph, qh⟩ := hu
  refine ⟨_, pe_slice hr p pl ph, fun Oc Ob σ H ρ Q R h => q Oc Ob σ H ρ _ R (Res.post_mono (Res.post_bind h) (fun d _ k v H1 s1 r => ?_) fun _ z => z)⟩
  refine ql Oc Ob σ H1 ρ _ (R.same s1) (Res.post_mono (Res.post_bind k) (fun l _ k H2 s2 => ?_) fun c z H' s' => z H' (s1.trans s'))
  refine qh Oc Ob σ H2 ρ _ ((R.same s1).same s2) (Res.post_mono (Res.post_bind k) (fun u _ k H3 s3 => ?_) fun c z H' s' => z H' ((s1.trans s2).trans s'))
  obtain ⟨d', e, k⟩ := Res.post_lft k
  have R3 := ((R.same s1).same s2).same s3
  refine hp Oc Ob H3 v d l u d' Q R3.oh ((r.va R.oh).same (s2.trans s3)) e fun w H' s4 rw' => ?_
  exact k w H' (((s1.trans s2).trans s3).trans s4) (rw'.from ((s1.trans s2).trans s3))
noncomputable def cutD {α : Type} (xs : List α) (lo hi : Option Int) : List α := (xs.drop (HT.sIx xs.length 0 lo)).take (HT.sIx xs.length xs.length hi - HT.sIx xs.length 0 lo)
theorem cutV_reps {H : Hp} {O : Addr → Prop} {vs : List V} {ds : List D} (r : Reps H O vs ds) (lo hi : Option Int) : Reps H O (cutV vs lo hi) (cutD ds lo hi) := by
  unfold cutV cutD
  rw [r.length]
  exact (r.drop _).take _
noncomputable def slL : D → Option Int → Option Int → Option D
  | .list ds, lo, hi => some (.list (cutD ds lo hi))
  | _, _, _ => none
noncomputable def slD : D → Option Int → Option Int → Option D
  | .list ds, lo, hi => some (.list (cutD ds lo hi))
  | .tuple ds, lo, hi => some (.tuple (cutD ds lo hi))
  | _, _, _ => none
theorem cut_all {α : Type} {xs : List α} {lo hi : Option Int} (h1 : HT.sIx xs.length 0 lo = 0) (h2 : HT.sIx xs.length xs.length hi = xs.length) : cutD xs lo hi = xs := by
  unfold cutD
  rw [h1, h2, List.drop_zero, Nat.sub_zero, List.take_length]
theorem ps_seq {K : PySem.W.Frag} : PrS (fun x lo hi H Q => rSlL K x lo hi H Q ∨ rSlT K x lo hi H Q ∨ rSlTA K x lo hi H Q) .cl slD := by
  intro Oc Ob H x dx lo hi d Q oh va e k
  cases dx with
  | list ds =>
    cases e
    obtain ⟨a, ys, rfl, rd, rs⟩ := va.list
    exact .inl ⟨a, ys, rfl, .inl rd, fun p hp => k _ _ (Same.new hp) (VR.clean (new_list (Same.refl H) hp (cutV_reps rs lo hi)) oh)⟩
  | tuple ds =>
    cases e
    rcases va with va | ⟨_, _, _, _, ez, _⟩
    · cases va with
      | @tup a ys _ rd n rs =>
        by_cases hw : HT.sIx ys.length 0 lo = 0 ∧ HT.sIx ys.length ys.length hi = ys.length
        · refine .inr (.inr ⟨a, ys, rfl, .inl rd, hw.1, hw.2, k _ H (Same.refl H) ?_⟩)
          rw [cut_all (by rw [← rs.length]; exact hw.1) (by rw [← rs.length]; exact hw.2)]
          exact .tup rd n rs
        · exact .inr (.inl ⟨a, ys, rfl, .inl rd, hw, fun p hp => k _ _ (Same.new hp) (new_tup oh hp (cutV_reps rs lo hi))⟩)
    · cases ez
  | _ => cases e
theorem re_sliceD {C : Ct} {e : Expr} {lo hi : Option Expr} {mda : Md} {me : Ev → Res D} {ml mh : Ev → Res (Option Int)} {p2 pos : Pos} (he : RE C mda e me) (hl : RO C lo ml) (hu : RO C hi mh) : RE C .cl (.Subscript e (.Slice lo hi none p2) pos) (eS slD me ml mh) := re_slice (sl_list.or (sl_tup.or sl_tupA)) ps_seq he hl hu
section
variable (a : Ev → Res D) (l h : Ev → Res (Option Int)) (ρ : Ev) (f : D → Option Int → Option Int → Option D)
theorem eS_ap : eS f a l h ρ = (a ρ).bind fun x => (l ρ).bind fun lo => (h ρ).bind fun u => Res.lft (f x lo u) := rfl
theorem oN_ap : oN ρ = .ok none := rfl
theorem oS_ap : oS a ρ = (a ρ).bind fun d => (Res.lft (isI d)).bind fun i => .ok (some i) := rfl
theorem isI_ap (i : Int) : isI (.int i) = some i := rfl
theorem slL_ap (ds : List D) (lo hi : Option Int) : slL (.list ds) lo hi = some (.list (cutD ds lo hi)) := rfl
theorem slD_l (ds : List D) (lo hi : Option Int) : slD (.list ds) lo hi = some (.list (cutD ds lo hi)) := rfl
theorem slD_t (ds : List D) (lo hi : Option Int) : slD (.tuple ds) lo hi = some (.tuple (cutD ds lo hi)) := rfl
end
theorem cut_from {α : Type} (xs : List α) (k : Nat) : cutD xs (some (k : Int)) none = xs.drop k := by
  unfold cutD
  rw [HT.sIx_none, HT.sIx_nat]
  by_cases h : k ≤ xs.length
  · rw [Nat.min_eq_left h, List.take_of_length_le (by rw [List.length_drop]; bv_omega)]
  · rw [Nat.min_eq_right (by bv_omega), List.drop_eq_nil_of_le (show xs.length ≤ k by bv_omega)]
    simp
end L2.L3
namespace L2.L3
open PySem
theorem any_eqF (i : Int) : ∀ ns : List Int, (ns.map PyData.int).any (fun z => eqF z (.int i)) = ns.contains i
  | [] => rfl
  | n :: ns => by
    rw [List.map_cons, List.any_cons, any_eqF i ns, List.contains_cons]
    congr 1
    show (n == i) = (i == n)
    rw [Bool.eq_iff_iff]
    simp only [beq_iff_eq]
    exact eq_comm
theorem all_flD : ∀ ns : List Int, (ns.map PyData.int).all flD = true
  | [] => rfl
  | n :: ns => by rw [List.map_cons, List.all_cons, all_flD ns]; rfl
theorem inD_l (neg : Bool) (i : Int) (ns : List Int) : inD neg (.int i) (lI ns) = some (if neg then !ns.contains i else ns.contains i) := by
  unfold inD
  show (if flD (.int i) = true ∧ (ns.map PyData.int).all flD = true then _ else none) = _
  rw [if_pos ⟨rfl, all_flD ns⟩, any_eqF]
theorem max1_tI {ns : List Int} (h : ns ≠ []) : max1D [tI ns] = some (.int (maxL ns)) := by
  unfold max1D
  simp only [nsD, seqD, Option.bind_some, intsOf_map]
  rw [if_neg h]
end L2.L3
namespace L2.L3
open PySem
theorem forM_b2 {α β : Type} {g : D → Ev → Option Ev} {b : Ev → Res Out} {ds : List D} {ρ : Ev} {k : Out → Res α} {k' : α → Res β} {R : Res β} (P : Nat → Ev → Prop) (h0 : P 0 ρ) (hs : ∀ (i : Nat) d ρ, ds[i]? = some d → P i ρ → ∃ ρ1 ρ2, g d ρ = some ρ1 ∧ b ρ1 = .ok (.nx ρ2) ∧ P (i + 1) ρ2)
    (hd : ∀ ρ', P ds.length ρ' → (k (.nx ρ')).bind k' = R) : ((forM g b ds ρ).bind k).bind k' = R := by
  obtain ⟨ρ', e, p⟩ := forM_ok P ds ρ h0 hs
  rw [e, Res.bind_ok]
  exact hd ρ' p
end L2.L3
set_option maxHeartbeats 4000000
namespace L2
open PySem PySem.Spec PyProof.Rows
theorem ps_comp {X : Cx} {elt iter : Expr} {ifs : List Expr} {sc0 scope : Scope} {N0 : List Str} {px py pos spos : Pos} {xt y : Str} {fs : List Str} {js : List Nat} {i : Nat} {wi : TI} {tt : Addr → List Addr → Shared → Hp → TT} {te : Addr → List Addr → Shared → Hp → TE} (S : CompScope sc0 scope N0 xt fs js) (h0 : X.env.scope = sc0) (hN0 : X.N = N0) (hc : X.calm = true)
    (hi : PI X (.Name xt px) iter wi) (ht : ∀ C fp s₂ H, PTs (cxComp X (xt :: fs) scope C fp s₂ H) ifs (tt C fp s₂ H)) (he : ∀ C fp s₂ H, PE (cxComp X (xt :: fs) scope C fp s₂ H) elt (te C fp s₂ H))
    (nd : X.N.Nodup) (hy : X.N[i]? = some y) (hl : Loc X.env.scope y) (hsw : swapsWith (.ListComp elt [⟨.Name xt px, iter, ifs, 0⟩] scope pos) (some (.Name y py)) spos.line X.env = pure true)
    (hs : autoParam (∀ x, foldedSetIterable iter X.env x = pure x) autoK4._auto_1) (hf : autoParam (X.fn y = true ∨ X.env.scope.names.lookup y = some .local) autoK1._auto_1) :
    PS X (.Assign [.Name y py] (.ListComp elt [⟨.Name xt px, iter, ifs, 0⟩] scope pos) spos) (tAsg (tComp wi tt te js) (gName i)) := by
  intro pins s σ H E I h
  rw [exec_Assign_Name_used _ _ _ _ hsw]
  refine wpAny_bind (wpAny_standAt (wpAny_bind ?_))
  show wpAny _ X.A (do let _ ← comprehension (.ListComp elt [⟨.Name xt px, iter, ifs, 0⟩] scope pos) scope X.env _ (newList []) false (eval iter X.env) (some (assign (.Name y py) X.env))) _ _ s
  refine wpAny_bind (thn (comp_core S h0 hN0 hc hi ht he hs (use := some (assign (.Name y py) X.env)) (Qv := fun _ s' => SP X pins E .next s') I h fun s' C D Ha fl hI hns hC q => ?_) fun _ s' hq => wpAny_pure (wpAny_pure hq))
  show wpAny (model X.prog X.w) X.A (assign (.Name y py) X.env (.ref D)) (fun _ s'' => ∃ m, s''.heap.Ns C m ∧ ∀ h', Heap.SameBut C s''.heap h' → SP X pins E .next { s'' with heap := h' }) X.xe s'
  obtain ⟨m, oC, es, ep, hgC, hdC, hrC⟩ := hns
  have I1 : Inv X pins σ Ha s' := hI s'.heap ⟨rfl, fun b _ => rfl⟩
  have I2 : Inv X (pins ++ [(C, oC)]) σ Ha s' := I1.pins_of fun p hp => by
    rcases List.mem_append.mp hp with z | z
    · exact I1.pin p (List.mem_append_right _ z)
    · have : p = (C, oC) := by simpa using z
      subst this
      exact ⟨hgC, hC.1, hC.2.1, hC.2.2.1, fun v z => by rw [hdC] at z; cases z⟩
  refine wpAny_assign_Name (store_ok I2 nd hy hl (show RelV (.ref D) (.ref D) from rfl) (fun s'' I3 => ?_) hf)
  have hgC' := (I3.pin (C, oC) (List.mem_append_right _ (List.mem_append_right _ List.mem_cons_self))).1
  refine ⟨m, ⟨oC, es, ep, hgC', hdC, hrC⟩, fun h' hsb => ?_⟩
  have I4 : Inv X pins (σ.set i (some (.ref D))) Ha s'' := I3.pins_of fun p hp => I3.pin p (List.mem_append_right _ (List.mem_append_left _ hp))
  exact ⟨_, Ha, Inv.turned (it := C) (t' := s''.toks) I4 (fun b o hb e => (hsb.2 b hb).trans e) hC.1 hC.2.1 hC.2.2.2.1 hC.2.2.2.2.1 hC.2.2.2.2.2, q⟩
end L2
namespace L2.L3
open PySem PySem.Spec PyProof.Rows
variable [CN]
end L2.L3
set_option maxHeartbeats 4000000
namespace L2
open PySem PySem.Spec PyProof.Rows
noncomputable def pick3 {α : Type} (xs : List α) (l u k : Option Int) : List α := (sliceRange (sliceBounds l u k xs.length).1 (sliceBounds l u k xs.length).2.1 (sliceBounds l u k xs.length).2.2).filterMap (xs[·]?)
end L2
namespace L2.L3
open PySem PySem.Spec PyProof.Rows
variable [CN]
noncomputable def eS3 (m : Ev → Res D) (lo hi st : Ev → Res (Option Int)) : Ev → Res D := fun ρ => (m ρ).bind fun x => (lo ρ).bind fun l => (hi ρ).bind fun u => (st ρ).bind fun k => (Res.lft (lstD x)).bind fun ds => if k ≠ some 0 then .ok (.list (pick3 ds l u k)) else .no
theorem eS3_ap (a : Ev → Res D) (l h st : Ev → Res (Option Int)) (ρ : Ev) : eS3 a l h st ρ = (a ρ).bind fun x => (l ρ).bind fun l => (h ρ).bind fun u => (st ρ).bind fun k => (Res.lft (lstD x)).bind fun ds => if k ≠ some 0 then .ok (.list (pick3 ds l u k)) else .no := rfl
end L2.L3
namespace L2.L3
open PySem
theorem catL_lI {xs ys : List Int} (h : xs.length + ys.length ≤ 1000) : catL (lI xs) (lI ys) = some (lI (xs ++ ys)) := by
  unfold catL
  simp only
  rw [List.length_map, List.length_map, if_pos (Nat.le_of_lt (small1000 h))]
  simp only [lI, List.map_append]
end L2.L3
namespace L2.L3
open PySem
variable [CN]
section
variable {X : Cx}
end
end L2.L3
namespace L2.L3
open PySem
variable [CN]
section
variable {X : Cx}
end
end L2.L3
namespace L2.L3
open PySem PyProof.Rows
variable [CN]
section
variable {X : Cx}
end
end L2.L3
namespace L2.L3
open PySem PyProof.Rows
variable [CN]
section
variable {X : Cx}
end
section
variable {C : Ct} {fr : Bool} {md : Md} {e : Expr} {me : Ev → Res D} {pos : Pos}
noncomputable def atP (xd : List D) : D → Option D
  | .int j => if 0 ≤ j then atI xd j else none
  | _ => none
noncomputable def sJ0 (i : Nat) (mk : Ev → Res D) (f : D → D → Option D) (me : Ev → Res D) : Ev → Res Out := fun ρ => (eV i ρ).bind fun d => (Res.lft (lstD d)).bind fun xd => (mk ρ).bind fun k => (Res.lft (atP xd k)).bind fun old => (me ρ).bind fun v => (Res.lft (f old v)).bind fun w => (Res.lft (setD xd k w)).bind fun ds => .ok (.nx (ρ.set i (some (.list ds))))
theorem sJ0_ap (i : Nat) (mk : Ev → Res D) (f : D → D → Option D) (me : Ev → Res D) (ρ : Ev) : sJ0 i mk f me ρ = (eV i ρ).bind fun d => (Res.lft (lstD d)).bind fun xd => (mk ρ).bind fun k => (Res.lft (atP xd k)).bind fun old => (me ρ).bind fun v => (Res.lft (f old v)).bind fun w => (Res.lft (setD xd k w)).bind fun ds => .ok (.nx (ρ.set i (some (.list ds)))) := rfl
end
end L2.L3
namespace L2.L3
open PySem PyProof.Rows
variable [CN]
section
variable {X : Cx} {pins : List (Addr × Obj)} {σ : St} {H : Hp} {s : Shared} {h' : Heap}
theorem turned2 {t' : Nat} {e it : Addr} (I : Inv X pins σ H s) (k : ∀ b o, b ≠ e → b ≠ it → s.heap.get? b = some o → h'.get? b = some o) (fe : FpOk X pins H e) (fi : FpOk X pins H it) : Inv X pins σ H { s with heap := h', toks := t' } := by
  have nit : ∀ b u, H b = some u → b ≠ e ∧ b ≠ it := fun b u q => ⟨fun z => (by rw [z, fe.1] at q; cases q), fun z => by rw [z, fi.1] at q; cases q⟩
  refine I.step (g' := s.gens) (d' := s.drawn) (ch := [e, it]) (fun b hb => ?_) (fun b o _ _ hc q _ => k b o (fun z => hc (by simp [z])) (fun z => hc (by simp [z])) q) (fun b o _ _ hc q _ => ⟨o.slots, k b o (fun z => hc (by simp [z])) (fun z => hc (by simp [z])) q⟩) (fun _ _ _ _ n => n)
    (fun b o hc q => ⟨o, k b o (fun z => hc (by simp [z])) (fun z => hc (by simp [z])) q⟩) (fun _ _ q => q) (fun _ _ _ q => q) (fun b ps q => ⟨#[], by rw [q]; simp⟩) (fun m hm => ?_) (fun b u q => ?_) I.bare
  · have z : b = e ∨ b = it := by simpa using hb
    rcases z with rfl | rfl
    · obtain ⟨f0, f1, f2, f3, f4, f5⟩ := fe
      exact ⟨f3, f1, f4, f5⟩
    · obtain ⟨f0, f1, f2, f3, f4, f5⟩ := fi
      exact ⟨f3, f1, f4, f5⟩
  · obtain ⟨o, es, ep, ho, r⟩ := hm
    exact ⟨o, es, ep, k _ o (Ne.symm fe.2.1) (Ne.symm fi.2.1) ho, r⟩
  · refine (I.hok b u q).stay (fun c v hc q' => ?_) (fun _ q => q) fun _ _ q => q
    have nc : c ≠ e ∧ c ≠ it := by
      rcases hc with z | z
      · rw [z]; exact nit b u q
      · exact nit c _ z
    exact k c v nc.1 nc.2 q'
end
noncomputable def Ite (K : PySem.W.Frag) (a : Addr) : It :=
  ⟨fun i H => ∃ xs x, SqL K H a xs ∧ xs[i]? = some x, fun i H x H' => ∃ t y, H t = none ∧ x = .ref t ∧ H' = upd H t (.tup [.int (i : Int), y]) ∧ ∀ xs, SqL K H a xs → xs[i]? = some y, fun i H => ∃ xs, SqL K H a xs ∧ xs.length ≤ i⟩
theorem turn_enum {P : Program} {w : World} {K : PySem.W.Frag} {es : List Expr} {x1 : Nat} {tp : Pos} (a e it : Addr) (hne : e ≠ it) : Turn P w K (.Tuple es x1 tp) (Ite K a) [e, it] e (fun i h => (∃ old, IsEnum h e it i old) ∧ h.IsListIter it a i) where
  mem := by simp
  obj := fun i h st b hb => by
    obtain ⟨⟨old, he⟩, o, ho, hc, hd⟩ := st
    have z : b = e ∨ b = it := by simpa using hb
    rcases z with rfl | rfl
    · exact ⟨_, he, fun v z => by cases z⟩
    · exact ⟨o, ho, fun v z => by rw [hd] at z; cases z⟩
  keep := fun i h h' st k => ⟨st.1.elim fun old he => ⟨old, k e (by simp) _ he⟩, st.2.at fun o q => k it (by simp) o q⟩
  item := by
    intro X hP hw hK hc i pins s σ H E I hf st hg
    subst hP hw hK
    obtain ⟨xs, x, hq, hx⟩ := hg
    obtain ⟨its, rv, p, hz⟩ := I.list hq
    obtain ⟨u, hu, ru⟩ := rv.get hx
    obtain ⟨⟨old, he⟩, hit⟩ := st
    have fe := hf e (by simp)
    have fi := hf it (by simp)
    refine wpAny_pyNext_enum_item he hit p.isList (x := u) (by simpa using hu) hne fun h' ho hit' hT hsz hk => ⟨_, rfl, ?_⟩
    have hfr : H s.heap.objs.size = none := I.hok.fresh (Nat.le_refl _)
    have I1 : Inv X pins σ (upd H s.heap.objs.size (.tup [.int (i : Int), x])) { s with heap := s.heap.push { cls := .type "tuple", data := .seq #[.int i s.toks, u] }, toks := s.toks + 1 } :=
      I.laid (t' := s.toks + 1) (fun b o q => Heap.get?_push_of_some _ q) (Nat.le_refl _) ⟨by show 2 ≤ sizeLine; decide, [.int i s.toks, u], .cons ⟨_, rfl⟩ (.cons ru .nil), TupAt.new _ _⟩
    have lte : e < s.heap.objs.size := Heap.lt_size he
    have lti : it < s.heap.objs.size := by obtain ⟨_, q, _⟩ := hit; exact Heap.lt_size q
    have fe1 : FpOk X pins (upd H s.heap.objs.size (.tup [.int (i : Int), x])) e := ⟨by rw [upd_ne (Nat.ne_of_lt lte)]; exact fe.1, fe.2⟩
    have fi1 : FpOk X pins (upd H s.heap.objs.size (.tup [.int (i : Int), x])) it := ⟨by rw [upd_ne (Nat.ne_of_lt lti)]; exact fi.1, fi.2⟩
    have I2 : Inv X pins σ (upd H s.heap.objs.size (.tup [.int (i : Int), x])) { s with heap := h', toks := s.toks + 1 } := by
      refine turned2 (s := { s with heap := s.heap.push { cls := .type "tuple", data := .seq #[.int i s.toks, u] }, toks := s.toks + 1 }) (h' := h') (t' := s.toks + 1) I1 (fun b o b1 b2 q => ?_) fe1 fi1
      by_cases z : b = s.heap.objs.size
      · subst z
        have q : (s.heap.push { cls := .type "tuple", data := .seq #[.int i s.toks, u] }).get? s.heap.objs.size = some o := q
        rw [Heap.get?_push_size _ rfl] at q
        rw [hT]; exact q
      · have q : (s.heap.push { cls := .type "tuple", data := .seq #[.int i s.toks, u] }).get? b = some o := q
        rw [Heap.get?_push_ne _ _ _ z] at q
        exact hk b o b1 b2 q
    refine wpAny_letOwnedTupleGo_enum ho fun h2 he2 hs2 => ?_
    refine ⟨.ref s.heap.objs.size, _, turned2 (s := { s with heap := h', toks := s.toks + 1 }) (h' := h2) (t' := s.toks + 1) I2 (fun b o b1 b2 q => (hs2.2 b b1).trans q) fe1 fi1, rfl, ⟨_, x, hfr, rfl, rfl, fun ys hy => by rw [I.list_inj hy hq]; exact hx⟩, ⟨⟨_, he2⟩, hit'.at fun o q => (hs2.2 it hne.symm).trans q⟩, fun b hb => ?_⟩
    have z : b = e ∨ b = it := by simpa using hb
    rcases z with rfl | rfl
    · exact fe1.1
    · exact fi1.1
  done := by
    intro X hP hw hK hc i pins s σ H E I hf st hg
    subst hP hw hK
    obtain ⟨xs, hq, hx⟩ := hg
    obtain ⟨its, rv, p, hz⟩ := I.list hq
    obtain ⟨⟨old, he⟩, hit⟩ := st
    have hl := rv.length
    exact wpAny_pyNext_enum_end (I.ok.hd hc) he hit p.isList (by simp; bv_omega) fun h' eb => ⟨rfl, turned2 (t' := s.toks) I (fun b o _ b2 q => eb b o b2 q) (hf e (by simp)) (hf it (by simp))⟩
  self := fun _ _ _ _ _ st h => st.1.elim fun old he => wpAny_pyIter_enum he h
end L2.L3
namespace PySem
section
variable {prog : Program} {w : World} {A : Around} {E : Value → Shared → Prop} {s : Shared}
theorem drawsT (hA : A.handled = none) (it t : Addr) (its : Array Value) (hne : it ≠ t) : Draws prog w A it [it, t] its.size (fun i x => its[i]? = some x) (fun i h => h.IsTupleIter it t i ∧ h.IsTuple t its) where
  live := fun i h st => let ⟨o, q, _⟩ := st.1; ⟨o, q⟩
  frame := fun i h h' st k => ⟨let ⟨o, q, r⟩ := st.1; ⟨o, k it (by simp) o q, r⟩, let ⟨o, q, r⟩ := st.2; ⟨o, k t (by simp) o q, r⟩⟩
  item := fun i s Q E hi st hQ => tup_item st.1 st.2 (v := its[i]) (by simp [hi]) fun h' z sb => hQ _ h' s.toks (by simp [hi]) ⟨z, let ⟨o, q, r⟩ := st.2; ⟨o, (sb.2 t (Ne.symm hne)).trans q, r⟩⟩ sb
  done := fun s Q E st hE => tup_end hA st.1 st.2 (by simp) hE
theorem drawsE (hA : A.handled = none) (it t : Addr) (its : Array Value) (n : Nat) (hx : its[n]? = none) (hne : it ≠ t) : Draws prog w A it [it, t] n (fun _ _ => False) (fun j h => j = n ∧ h.IsTupleIter it t n ∧ h.IsTuple t its) where
  live := fun i h st => let ⟨o, q, _⟩ := st.2.1; ⟨o, q⟩
  frame := fun i h h' st k => ⟨st.1, let ⟨o, q, r⟩ := st.2.1; ⟨o, k it (by simp) o q, r⟩, let ⟨o, q, r⟩ := st.2.2; ⟨o, k t (by simp) o q, r⟩⟩
  item := fun i s Q E hi st hQ => absurd st.1 (Nat.ne_of_lt hi)
  done := fun s Q E st hE => tup_end hA st.2.1 st.2.2 hx hE
end
end PySem
namespace L2.L3
open PySem PyProof.Rows
variable [CN]
noncomputable def Ith (K : PySem.W.Frag) (a : Addr) : It :=
  ⟨fun i H => ∃ xs x, SqT K H a xs ∧ xs[i]? = some x, fun i H x H' => ∃ t y, H t = none ∧ x = .ref t ∧ H' = upd H t (.tup [.int (i : Int), y]) ∧ ∀ xs, SqT K H a xs → xs[i]? = some y, fun i H => ∃ xs, SqT K H a xs ∧ xs.length ≤ i⟩
theorem turn_enumT {P : Program} {w : World} {K : PySem.W.Frag} {es : List Expr} {x1 : Nat} {tp : Pos} (a e it : Addr) (hne : e ≠ it) (hia : it ≠ a) (hea : e ≠ a) : Turn P w K (.Tuple es x1 tp) (Ith K a) [e, it] e (fun i h => (∃ old, IsEnum h e it i old) ∧ h.IsTupleIter it a i) where
  mem := by simp
  obj := fun i h st b hb => by
    obtain ⟨⟨old, he⟩, o, ho, hc, hd⟩ := st
    have z : b = e ∨ b = it := by simpa using hb
    rcases z with rfl | rfl
    · exact ⟨_, he, fun v z => by cases z⟩
    · exact ⟨o, ho, fun v z => by rw [hd] at z; cases z⟩
  keep := fun i h h' st k => ⟨st.1.elim fun old he => ⟨old, k e (by simp) _ he⟩, let ⟨o, q, r⟩ := st.2; ⟨o, k it (by simp) o q, r⟩⟩
  item := by
    intro X hP hw hK hc i pins s σ H E I hf st hg
    subst hP hw hK
    obtain ⟨xs, x, hq, hx⟩ := hg
    obtain ⟨its, rv, p, hz⟩ := I.tuple hq
    obtain ⟨u, hu, ru⟩ := rv.get hx
    obtain ⟨⟨old, he⟩, hit⟩ := st
    have fe := hf e (by simp)
    have fi := hf it (by simp)
    have hlt : i < its.toArray.size := by
      have := (List.getElem?_eq_some_iff.mp hu).1
      simpa using this
    refine wpAny_pyNext_enum_itemD (drawsT (show X.A.in1.handled = none from I.ok.hd hc) it a its.toArray hia) he ⟨hit, p⟩ hlt hne (by simp [hne, hea]) fun x' h' tk hP' ho hit' hT hsz hk => ⟨_, rfl, ?_⟩
    have ex : x' = u := by
      have h2 : its.toArray[i]? = some u := by simpa using hu
      have h3 : its.toArray[i]? = some x' := hP'
      rw [h2] at h3
      exact (Option.some.inj h3).symm
    subst ex
    have hfr : H s.heap.objs.size = none := I.hok.fresh (Nat.le_refl _)
    have I1 : Inv X pins σ (upd H s.heap.objs.size (.tup [.int (i : Int), x])) { s with heap := s.heap.push { cls := .type "tuple", data := .seq #[.int i tk, x'] }, toks := tk + 1 } :=
      I.laid (t' := tk + 1) (fun b o q => Heap.get?_push_of_some _ q) (Nat.le_refl _) ⟨by show 2 ≤ sizeLine; decide, [.int i tk, x'], .cons ⟨_, rfl⟩ (.cons ru .nil), TupAt.new _ _⟩
    have lte : e < s.heap.objs.size := Heap.lt_size he
    have lti : it < s.heap.objs.size := by obtain ⟨_, q, _⟩ := hit; exact Heap.lt_size q
    have fe1 : FpOk X pins (upd H s.heap.objs.size (.tup [.int (i : Int), x])) e := ⟨by rw [upd_ne (Nat.ne_of_lt lte)]; exact fe.1, fe.2⟩
    have fi1 : FpOk X pins (upd H s.heap.objs.size (.tup [.int (i : Int), x])) it := ⟨by rw [upd_ne (Nat.ne_of_lt lti)]; exact fi.1, fi.2⟩
    have I2 : Inv X pins σ (upd H s.heap.objs.size (.tup [.int (i : Int), x])) { s with heap := h', toks := tk + 1 } := by
      refine turned2 (s := { s with heap := s.heap.push { cls := .type "tuple", data := .seq #[.int i tk, x'] }, toks := tk + 1 }) (h' := h') (t' := tk + 1) I1 (fun b o b1 b2 q => ?_) fe1 fi1
      by_cases z : b = s.heap.objs.size
      · subst z
        have q : (s.heap.push { cls := .type "tuple", data := .seq #[.int i tk, x'] }).get? s.heap.objs.size = some o := q
        rw [Heap.get?_push_size _ rfl] at q
        rw [hT]; exact q
      · have q : (s.heap.push { cls := .type "tuple", data := .seq #[.int i tk, x'] }).get? b = some o := q
        rw [Heap.get?_push_ne _ _ _ z] at q
        exact hk b o b1 b2 q
    refine wpAny_letOwnedTupleGo_enum ho fun h2 he2 hs2 => ?_
    refine ⟨.ref s.heap.objs.size, _, turned2 (s := { s with heap := h', toks := tk + 1 }) (h' := h2) (t' := tk + 1) I2 (fun b o b1 b2 q => (hs2.2 b b1).trans q) fe1 fi1, rfl, ⟨_, x, hfr, rfl, rfl, fun ys hy => by rw [I.tuple_inj hy hq]; exact hx⟩, ⟨⟨_, he2⟩, let ⟨o, q, r⟩ := hit'.1; ⟨o, (hs2.2 it hne.symm).trans q, r⟩⟩, fun b hb => ?_⟩
    have z : b = e ∨ b = it := by simpa using hb
    rcases z with rfl | rfl
    · exact fe1.1
    · exact fi1.1
  done := by
    intro X hP hw hK hc i pins s σ H E I hf st hg
    subst hP hw hK
    obtain ⟨xs, hq, hx⟩ := hg
    obtain ⟨its, rv, p, hz⟩ := I.tuple hq
    obtain ⟨⟨old, he⟩, hit⟩ := st
    have hl := rv.length
    exact wpAny_pyNext_enum_endD (drawsE (show X.A.in1.handled = none from I.ok.hd hc) it a its.toArray i (by simp; bv_omega) hia) he ⟨rfl, hit, p⟩ fun h' eb => ⟨rfl, turned2 (t' := s.toks) I (fun b o _ b2 q => eb b o b2 q) (hf e (by simp)) (hf it (by simp))⟩
  self := fun _ _ _ _ _ st h => st.1.elim fun old he => wpAny_pyIter_enum he h
noncomputable def iEnum (K : PySem.W.Frag) (t : TA) : TI := fun σ H R => t σ H fun vs H1 => ∃ a, vs = [.ref a] ∧ (((∃ xs, SqL K H1 a xs) ∧ R (Ite K a) H1) ∨ ((∃ xs, SqT K H1 a xs) ∧ R (Ith K a) H1))
theorem pi_enum {X : Cx} {l : Expr} {ta : TA} {es : List Expr} {x1 : Nat} {tp p pos : Pos} (hg : Gl X "enumerate") (hm : X.mg "enumerate" = none) (ha : PA X [l] ta) (hs : autoParam (starEach [l] X.env = [(false, eval l X.env)]) autoK5._auto_1) : PI X (.Tuple es x1 tp) (.Call (.Name "enumerate" p) [l] [] pos) (iEnum X.K ta) := by
  intro pins s σ H R I h
  refine Call_ (ld_blt I hg hm boot_enumerate (PyProof.Rows.callWith_type1 (thn (ha pos pins s σ H _ I h) fun us s1 ⟨vs, H1, I1, r1, q1⟩ => ?_) hs rfl))
  obtain ⟨a, e, q1⟩ := q1
  subst e
  obtain ⟨u, rfl, ru⟩ := vals1 r1
  cases ru
  rcases q1 with ⟨⟨xs, hq⟩, q⟩ | ⟨⟨xs, hq⟩, q⟩
  · obtain ⟨its, rv, pl, hz⟩ := I1.list hq
    refine call_enumerate_list pl.isList fun h' he hit hsz hk => ?_
    refine wpAny_pyIter_enum he ?_
    refine ⟨s1.heap.objs.size + 1, [s1.heap.objs.size + 1, s1.heap.objs.size], _, _, H1, rfl, I1.kept (t' := s1.toks) hk, turn_enum a (s1.heap.objs.size + 1) s1.heap.objs.size (Nat.succ_ne_self _), ⟨⟨_, he⟩, hit⟩, fun b hb => ?_, q⟩
    have z : b = s1.heap.objs.size + 1 ∨ b = s1.heap.objs.size := by simpa using hb
    rcases z with rfl | rfl
    · exact I1.fpOk (by bv_omega) (I1.hok.fresh (by bv_omega))
    · exact I1.fpOk (Nat.le_refl _) (I1.hok.fresh (Nat.le_refl _))
  · obtain ⟨its, rv, pt, hz⟩ := I1.tuple hq
    have lta : a < s1.heap.objs.size := by obtain ⟨o, q, _⟩ := pt; exact Heap.lt_size q
    refine enum_by (oI := { cls := .type "tuple_iterator", data := .fields #[.ref a, .int 0 0] }) rfl (fun B P E' z => wpAny_pyIter_tuple (show s1.heap.IsTuple a its.toArray from pt) z) fun h' he h0 hk => ?_
    have hit : h'.IsTupleIter s1.heap.objs.size a 0 := ⟨_, h0, rfl, rfl⟩
    refine wpAny_pyIter_enum he ?_
    refine ⟨s1.heap.objs.size + 1, [s1.heap.objs.size + 1, s1.heap.objs.size], _, _, H1, rfl, I1.kept (t' := s1.toks) hk, turn_enumT a (s1.heap.objs.size + 1) s1.heap.objs.size (Nat.succ_ne_self _) (Nat.ne_of_gt lta) (Nat.ne_of_gt (Nat.lt_succ_of_lt lta)), ⟨⟨_, he⟩, hit⟩, fun b hb => ?_, q⟩
    have z : b = s1.heap.objs.size + 1 ∨ b = s1.heap.objs.size := by simpa using hb
    rcases z with rfl | rfl
    · exact I1.fpOk (by bv_omega) (I1.hok.fresh (by bv_omega))
    · exact I1.fpOk (Nat.le_refl _) (I1.hok.fresh (Nat.le_refl _))
noncomputable def WalksO (Oc : Wd) (Ob : Addr → Prop) (J : It) (H1 : Hp) (ds : List D) : Prop :=
  ∀ (H2 : Hp) (Ob2 : Addr → Prop), Frm Ob H1 H2 → (∀ b, Ob2 b → Ob b ∨ H1 b = none) → (∀ a, Oc a ∨ Ob2 a → H2 a ≠ none) → ∀ i, (∀ d, ds[i]? = some d → J.go i H2 ∧ ∀ x H3, J.yld i H2 x H3 → Same H2 H3 ∧ Rep H3 (Uni Oc Ob2) x d) ∧ (ds.length ≤ i → J.stop i H2)
noncomputable def RIo (C : Ct) (tg iter : Expr) (m : Ev → Res (List D)) : Prop :=
  ∃ wi, PI C.X tg iter wi ∧ ∀ (Oc : Wd) (Ob : Addr → Prop) (σ : St) (H : Hp) (ρ : Ev) (R : It → Hp → Prop), Rel Oc Ob C.om C.ln σ H ρ →
    (m ρ).post (fun ds => ∀ J H1, Same H H1 → WalksO Oc Ob J H1 ds → R J H1) (fun c => ∀ H', Same H H' → C.XE c H') → wi σ H R
section
variable {C : Ct} {fr : Bool} {body : List Stmt} {m : Ev → Res Out} {mi : Ev → Res (List D)} {g : D → Ev → Option Ev} {pos : Pos}
theorem rs_forO {tg iter : Expr} (hi : RIo C tg iter mi) (hg : RG C tg g) (hb : RSs C fr body m) (hp : autoParam (PassesOwn (model C.X.prog C.X.w) C.X.A C.X.env C.X.xe) autoK13._auto_1) (hc : autoParam (C.X.calm = true) autoK5._auto_1)
    (hs : autoParam (∀ x, foldedSetIterable iter C.X.env x = pure x) autoK4._auto_1) : RS C fr (.For tg iter body [] pos) (sF mi g m) := by
  obtain ⟨wi, pi, qi⟩ := hi
  obtain ⟨tg', pg, qg⟩ := hg
  obtain ⟨tb, pb, qb⟩ := hb
  refine ⟨_, ps_for hp hc pi pg pb hs, fun Oc Ob σ H ρ E R h => qi Oc Ob σ H ρ _ R (Res.post_mono (Res.post_bind h) (fun ds _ k J H1 s1 wk => ?_) fun c z H' s => z H' (Same.frm s))⟩
  refine ⟨fun i mm σ' H' => mm = ds.length - i ∧ i ≤ ds.length ∧ ∃ ρi Obi, Rel Oc Obi C.om C.ln σ' H' ρi ∧ Frm Ob H1 H' ∧ (∀ b, Obi b → Ob b ∨ H1 b = none) ∧ SPost C fr Oc Obi H' E (forM g m (ds.drop i) ρi),
    ⟨_, rfl, Nat.zero_le _, ρ, Ob, R.same s1, Same.frm (Same.refl _), fun b z => .inl z, SPost.same s1 k⟩, ?_⟩
  rintro i mm σ2 H2 ⟨rfl, hi, ρi, Obi, R2, f2, sb2, k2⟩
  obtain ⟨w1, w2⟩ := wk H2 Obi f2 sb2 R2.oh i
  by_cases hlt : i < ds.length
  · obtain ⟨go, yl⟩ := w1 ds[i] (List.getElem?_eq_getElem hlt)
    have ed : ds.drop i = ds[i] :: ds.drop (i + 1) := List.drop_eq_getElem_cons hlt
    rw [ed, forM] at k2
    obtain ⟨ρ1, e1, k2⟩ := Res.post_lft (Res.post_bind k2)
    refine .inr ⟨go, fun σ' H' => ∃ m', m' < ds.length - i ∧ (m' = ds.length - (i + 1) ∧ i + 1 ≤ ds.length ∧ ∃ ρi Obi, Rel Oc Obi C.om C.ln σ' H' ρi ∧ Frm Ob H1 H' ∧ (∀ b, Obi b → Ob b ∨ H1 b = none) ∧ SPost C fr Oc Obi H' E (forM g m (ds.drop (i + 1)) ρi)), fun _ _ z => z, fun x H3 hy => ?_⟩
    obtain ⟨s3, rx⟩ := yl x H3 hy
    refine qg Oc Obi σ2 H3 ρi ρ1 x _ _ (R2.same s3) rx e1 fun σ3 R3 => ?_
    have k3 := SPost.same s3 (show SPost C fr Oc Obi H2 E _ from k2)
    refine qb Oc Obi σ3 H3 ρ1 _ R3 (Res.post_mono (Res.post_bind k3) (fun o _ k4 => ?_) fun _ z => z)
    cases o with
    | rt d => exact k4
    | nx ρ2 =>
      intro σ4 H4 Ob4 R4 f4 sb4
      have f3 : Frm Ob H1 H3 := fun b o e n => s3 b o (f2 b o e n)
      refine ⟨_, by bv_omega, rfl, hlt, ρ2, Ob4, R4, f3.trans sb2 f4, fun b z => (sb4 b z).elim (sb2 b) fun z => f3.none z, SPost.step f4 sb4 k4⟩
  · have ei : i = ds.length := by bv_omega
    subst ei
    rw [List.drop_length] at k2
    exact .inl ⟨w2 (Nat.le_refl _), k2 σ2 H2 Obi R2 (Same.frm (Same.refl _)) fun b z => .inl z⟩
noncomputable def enumD (ds : List D) : List D := (List.range ds.length).map fun (i : Nat) => PyData.tuple [.int (i : Int), ds.getD i .none]
noncomputable def i_enumerate (m : Ev → Res D) : Ev → Res (List D) := fun ρ => (m ρ).bind fun d => (Res.lft (seqD d)).bind fun ds => .ok (enumD ds)
theorem walks_enum {K : PySem.W.Frag} {Oc : Wd} {Ob : Addr → Prop} {H1 : Hp} {a : Addr} {ys : List V} {ds : List D} (r : Rd H1 a (.lst ys)) (n : ¬ Ob a) (rs : Reps H1 (Uni Oc Ob) ys ds) : WalksO Oc Ob (Ite K a) H1 (enumD ds) := by
  intro H2 Ob2 f s oh i
  have r2 : Rd H2 a (.lst ys) := rd_keep r fun o e => f a o e n
  have rs2 := rs.step f s
  have le : (enumD ds).length = ds.length := by unfold enumD; simp
  refine ⟨fun d e => ?_, fun h => ⟨ys, .inl r2, by rw [rs2.length]; rw [le] at h; exact h⟩⟩
  unfold enumD at e
  rw [List.getElem?_map] at e
  obtain ⟨j, ej, rfl⟩ := Option.map_eq_some_iff.mp e
  have hi : i < ds.length := by
    have := (List.getElem?_eq_some_iff.mp ej).1
    simpa using this
  rw [List.getElem?_range hi] at ej
  cases ej
  have ed : ds[i]? = some (ds.getD i .none) := by rw [List.getD_eq_getElem?_getD, List.getElem?_eq_getElem hi]; rfl
  obtain ⟨v, ev, rv⟩ := rs2.get ed
  refine ⟨⟨ys, v, .inl r2, ev⟩, fun x H3 hy => ?_⟩
  obtain ⟨t, y, ht, rfl, rfl, hy⟩ := hy
  have := hy ys (.inl r2)
  rw [ev] at this
  cases this
  exact ⟨Same.new ht, new_tup oh ht (.cons (.int _) (.cons rv .nil))⟩
theorem walks_enumT {K : PySem.W.Frag} {Oc : Wd} {Ob : Addr → Prop} {H1 : Hp} {a : Addr} {ys : List V} {ds : List D} (r : Rd H1 a (.tup ys)) (n : ¬ Ob a) (rs : Reps H1 (Uni Oc Ob) ys ds) : WalksO Oc Ob (Ith K a) H1 (enumD ds) := by
  intro H2 Ob2 f s oh i
  have r2 : Rd H2 a (.tup ys) := rd_keep r fun o e => f a o e n
  have rs2 := rs.step f s
  have le : (enumD ds).length = ds.length := by unfold enumD; simp
  refine ⟨fun d e => ?_, fun h => ⟨ys, .inl r2, by rw [rs2.length]; rw [le] at h; exact h⟩⟩
  unfold enumD at e
  rw [List.getElem?_map] at e
  obtain ⟨j, ej, rfl⟩ := Option.map_eq_some_iff.mp e
  have hi : i < ds.length := by
    have := (List.getElem?_eq_some_iff.mp ej).1
    simpa using this
  rw [List.getElem?_range hi] at ej
  cases ej
  have ed : ds[i]? = some (ds.getD i .none) := by rw [List.getD_eq_getElem?_getD, List.getElem?_eq_getElem hi]; rfl
  obtain ⟨v, ev, rv⟩ := rs2.get ed
  refine ⟨⟨ys, v, .inl r2, ev⟩, fun x H3 hy => ?_⟩
  obtain ⟨t, y, ht, rfl, rfl, hy⟩ := hy
  have := hy ys (.inl r2)
  rw [ev] at this
  cases this
  exact ⟨Same.new ht, new_tup oh ht (.cons (.int _) (.cons rv .nil))⟩
theorem ri_enumerate {e : Expr} {ma : Ev → Res D} {es : List Expr} {x1 : Nat} {tp p pos : Pos} (hm : C.X.mg "enumerate" = none) (h : RE C .rd e ma) (hg : autoParam (Gl C.X "enumerate") autoK5._auto_1) (hs : autoParam (starEach [e] C.X.env = [(false, eval e C.X.env)]) autoK5._auto_1) (hs2 : autoParam (starEach [e] C.X.env = (false, eval e C.X.env) :: starEach [] C.X.env) autoK5._auto_1) : RIo C (.Tuple es x1 tp) (.Call (.Name "enumerate" p) [e] [] pos) (i_enumerate ma) := by
  obtain ⟨t, pe, q⟩ := h
  refine ⟨_, pi_enum hg hm (pa_cons pe pa_nil hs2) hs, fun Oc Ob σ H ρ W R h => q Oc Ob σ H ρ _ R (Res.post_mono (Res.post_bind h) (fun d _ k v H' s r => ?_) fun _ z => z)⟩
  obtain ⟨ds, e, k⟩ := Res.post_lft (Res.post_bind k)
  rcases r with r | ⟨a, ys, ds', rfl, rfl, e3, e4, e5⟩
  · cases r with
    | lst r n t => cases e; exact ⟨_, rfl, .inl ⟨⟨_, .inl r⟩, k _ H' s (walks_enum r (fun z => n (.inr z)) t)⟩⟩
    | tup r n t => cases e; exact ⟨_, rfl, .inr ⟨⟨_, .inl r⟩, k _ H' s (walks_enumT r (fun z => n (.inr z)) t)⟩⟩
    | _ => cases e
  · cases e
    exact ⟨_, rfl, .inl ⟨⟨_, SqL.of e3⟩, k _ H' s (walks_enum (.inl e3) e4 e5)⟩⟩
end
theorem i_enumerate_ap (m : Ev → Res D) (ρ : Ev) : i_enumerate m ρ = (m ρ).bind fun d => (Res.lft (seqD d)).bind fun ds => .ok (enumD ds) := rfl
end L2.L3
set_option maxHeartbeats 4000000
namespace PySem
section
variable {prog : Program} {w : World} {A : Around} {E : Value → Shared → Prop} {s : Shared}
end
end PySem
namespace L2.L3
open PySem PySem.Spec PyProof.Rows
variable [CN]
noncomputable def sA (me : Ev → Res D) (g : D → Ev → Option Ev) : Ev → Res Out := fun ρ => (me ρ).bind fun d => (Res.lft (g d ρ)).bind fun ρ' => .ok (.nx ρ')
theorem sA_ap (me : Ev → Res D) (g : D → Ev → Option Ev) (ρ : Ev) : sA me g ρ = (me ρ).bind fun d => (Res.lft (g d ρ)).bind fun ρ' => .ok (.nx ρ') := rfl
theorem rs_asgA {C : Ct} {fr : Bool} {e tg : Expr} {pos : Pos} {me : Ev → Res D} {g : D → Ev → Option Ev} (he : RE C .cl e me) (hg : RG C tg g) (hs : autoParam (swapsWithSole [tg] e pos.line C.X.env = pure false) autoK5._auto_1) (hw : autoParam (swappedStores [tg] e C.X.env = pure none) autoK5._auto_1)
    (h1 : autoParam ((assignEach [tg] C.X.env).map (·.2) = [assign tg C.X.env]) autoK5._auto_1) : RS C fr (.Assign [tg] e pos) (sA me g) := rs_asg he hg hs hw h1
theorem vas_one {Oc : Wd} {Ob : Addr → Prop} {H : Hp} {vs : List V} {d : D} (r : VAs Oc Ob H vs [d]) : ∃ v, vs = [v] ∧ VA Oc Ob H v d := by
  cases r with
  | cons h t => cases t; exact ⟨_, rfl, h⟩
end L2.L3
set_option maxHeartbeats 4000000
namespace L2.L3
open PySem PySem.Spec PyProof.Rows
variable [CN]
section
variable {X : Cx}
end
noncomputable def eM1 (f : List D → D → Option D) (mo ma : Ev → Res D) : Ev → Res D := fun ρ => (mo ρ).bind fun x => (Res.lft (lstD x)).bind fun ds => (ma ρ).bind fun y => Res.lft (f ds y)
theorem eM1_ap (f : List D → D → Option D) (mo ma : Ev → Res D) (ρ : Ev) : eM1 f mo ma ρ = (mo ρ).bind fun x => (Res.lft (lstD x)).bind fun ds => (ma ρ).bind fun y => Res.lft (f ds y) := rfl
end L2.L3
set_option maxHeartbeats 4000000
namespace L2.L3
open PySem PySem.Spec PyProof.Rows
variable [CN]
noncomputable def StepOk (i j k : Int) : Prop := k ≠ 0 ∧ k.natAbs.log2 < 9000 ∧ Builtin.Range.small i j k = true ∧ 0 ≤ Builtin.Range.rangeSize i j k
noncomputable instance (i j k : Int) : Decidable (StepOk i j k) := by unfold StepOk; infer_instance
end L2.L3
namespace L2.L3
open PySem PyProof.Rows
variable [CN]
section
variable {X : Cx}
end
noncomputable def revT : D → Option D
  | .list ds => some (.tuple ds.reverse)
  | _ => none
noncomputable def eRevT (m : Ev → Res D) : Ev → Res D := fun ρ => (m ρ).bind fun d => Res.lft (revT d)
theorem eRevT_ap (m : Ev → Res D) (ρ : Ev) : eRevT m ρ = (m ρ).bind fun d => Res.lft (revT d) := rfl
end L2.L3
namespace L2
open PySem PyProof.Rows
structure CScope2 (sc0 scope : Scope) (N0 : List Str) (xt yt : Str) (fs : List Str) (js : List Nat) : Prop where
  kind : scope.kind = .function
  nocell : ∀ y ∈ scope.names, y.2 ≠ .cell
  names : ∀ y ∈ scope.names, y.2 = .local → scope.names.lookup y.1 = some .local
  tgt : scope.names.lookup xt = some .local
  tgt2 : scope.names.lookup yt = some .local
  frees : ∀ y ∈ scope.names, y.2 = .free → sc0.names.lookup y.1 = some .cell ∨ sc0.names.lookup y.1 = some .free
  len : js.length = fs.length
  slots : ∀ p ∈ fs.zip js, N0[p.2]? = some p.1 ∧ scope.names.lookup p.1 = some .free
  nd : (xt :: yt :: fs).Nodup
noncomputable def compSt2 (σ : St) (js : List Nat) (v w : Option V) : St := v :: w :: js.map fun j => (σ[j]?).join
section
variable {X : Cx} {pins : List (Addr × Obj)} {σ : St} {H : Hp} {s₂ s₄ : Shared} {sc0 scope : Scope} {N0 : List Str} {xt yt : Str} {fs : List Str} {js : List Nat} {fp : List Addr}
theorem CScope2.cells (S : CScope2 sc0 scope N0 xt yt fs js) (h0 : X.env.scope = sc0) (ok : X.Ok) : ∀ n, (n, NameKind.free) ∈ scope.names → ∃ c, X.env.cells.lookup n = some c := fun n hn => ok.has n (by subst h0; exact S.frees _ hn rfl)
theorem CScope2.sub (S : CScope2 sc0 scope N0 xt yt fs js) (h0 : X.env.scope = sc0) (ok : X.Ok) : ∀ x c, (clos X.env.cells scope.names []).lookup x = some c → X.env.cells.lookup x = some c :=
  clos_sub scope.names [] (S.cells h0 ok) fun x c e => by simp at e
theorem Inv.block2 (S : CScope2 sc0 scope N0 xt yt fs js) (h0 : X.env.scope = sc0) (hN0 : X.N = N0) (I : Inv X pins σ H s₂) (hf : ∀ b ∈ fp, FpOk X pins H b) (hfo : ∀ b ∈ fp, ∃ o, s₂.heap.get? b = some o)
    (hos : s₄.os = s₂.os) (hg : AllBare s₄.gens) (hk : ∀ b o, s₂.heap.get? b = some o → s₄.heap.get? b = some o) {C : Addr} (hC : s₂.heap.objs.size ≤ C) {m : Str → Option Value} (hn : s₄.heap.Ns C m) :
    Inv (cxComp X (xt :: yt :: fs) scope C fp s₂ H) [] (compSt2 σ js none none) H s₄ := by
  have sub := S.sub h0 I.ok
  have blt : ∀ b ∈ fp, b < s₂.heap.objs.size := fun b hb => let ⟨o, e⟩ := hfo b hb; Heap.lt_size e
  have ok : (cxComp X (xt :: yt :: fs) scope C fp s₂ H).Ok := by
    refine ⟨I.ok.mod, S.kind, I.ok.glob, I.ok.blt, hC, fun x y c h1 h2 => I.ok.inj x y c (sub x c h1) (sub y c h2), fun x hx => ?_, fun x c h => (nomatch h), I.ok.hd, I.ok.frames, .inl rfl, fun b hb => ⟨?_, fun x c h => (hf b hb).2.2.2.2.1 x c (sub x c h)⟩, I.bs, Nat.le_trans I.ok.bsz I.sz, fun b o e hb => ?_, fun b hb hs => ?_, I.stack, I.stkFree⟩
    · have hx : (relabel scope X.env).names.lookup x = some .cell ∨ (relabel scope X.env).names.lookup x = some .free := hx
      have hfree : scope.names.lookup x = some .free := by
        rcases hx with hx | hx
        · rcases relabel_back hx with q | ⟨_, q⟩
          · exact absurd rfl (S.nocell _ (PySem.mem_of_lookup q))
          · exact q
        · rcases relabel_back hx with q | ⟨q, _⟩
          · exact q
          · cases q
      exact clos_has scope.names [] x (PySem.mem_of_lookup hfree)
    · exact Nat.ne_of_lt (Nat.lt_of_lt_of_le (blt b hb) hC)
    · rcases (hf b hb).2.2.2.1 with z | z
      · exact I.ok.noex b o e z
      · exact absurd (Nat.lt_of_lt_of_le (Heap.lt_size (I.ok.bs b o e).1) z) (Nat.lt_irrefl _)
    · rcases List.mem_cons.mp (I.stkSub b hs) with z | z
      · exact (hf b hb).2.1 z
      · exact (hf b hb).2.2.1 z
  refine ⟨ok, hos, hg, Un.kept hk, ⟨m, hn, fun i x v e1 e2 e3 => ?_⟩, fun x c e => ?_, I.hok.fresh hC, fun x c e => I.freeC x c (sub x c e), fun p hp => absurd (show p ∈ ([] : List (Addr × Obj)) from hp) (by simp), I.hok.kept hk, ?_⟩
  · cases i with
    | zero => cases e2
    | succ i =>
     cases i with
     | zero => cases e2
     | succ i =>
      have e1 : fs[i]? = some x := e1
      have e2 : (js.map fun j => (σ[j]?).join)[i]? = some (some v) := e2
      rw [List.getElem?_map] at e2
      cases ej : js[i]? with
      | none => rw [ej] at e2; cases e2
      | some j =>
        rw [ej] at e2
        have e2 : (σ[j]?).join = some v := Option.some.inj e2
        obtain ⟨hN, hfr⟩ := S.slots _ (zip_mem e1 ej)
        have hN : X.N[j]? = some x := by rw [hN0]; exact hN
        have hk2 : X.env.kindOf x = some .cell ∨ X.env.kindOf x = some .free := by subst h0; exact S.frees _ (PySem.mem_of_lookup hfr) rfl
        have hs : σ[j]? = some (some v) := by
          cases q : σ[j]? with
          | none => rw [q] at e2; cases e2
          | some z => rw [q] at e2; rw [show z = some v from e2]
        obtain ⟨m0, hn0, hl⟩ := I.loc
        obtain ⟨u, r, l⟩ := hl j x v hN hs (by rcases hk2 with z | z; exact .inr (.inl z); exact .inr (.inr z))
        refine ⟨u, r, ?_⟩
        rcases l with ⟨hloc, _⟩ | ⟨_, c, hc, hcell⟩
        · rcases hk2 with z | z
          · rw [z] at hloc; cases hloc
          · rw [z] at hloc; cases hloc
        · obtain ⟨c', hc'⟩ := clos_has (cells := X.env.cells) scope.names [] x (PySem.mem_of_lookup hfr)
          have : c' = c := Option.some.inj ((sub x c' hc').symm.trans hc)
          subst this
          exact .inr ⟨relabel_free hfr, c', hc', hcell.keeps hk⟩
  · obtain ⟨v, z⟩ := I.cell x c (sub x c e)
    exact ⟨v, z.keeps hk⟩
  · show (compSt2 σ js none none).length = (xt :: yt :: fs).length
    unfold compSt2
    rw [List.length_cons, List.length_cons, List.length_map, List.length_cons, List.length_cons, S.len]
end
noncomputable def tComp2 (K : PySem.W.Frag) (wi : TI) (tt : Addr → List Addr → Shared → Hp → TT) (te : Addr → List Addr → Shared → Hp → TE) (js : List Nat) : TE := fun σ H Q => wi σ H fun J H1 => ∀ C fp s₂ H₂, ∃ W : Nat → Nat → List V → Hp → Prop, (∃ m, W 0 m [] H1) ∧ ∀ i m acc H, W i m acc H →
  (J.stop i H ∧ ∀ p, H p = none → Q (.ref p) (upd H p (.lst acc))) ∨
  (J.go i H ∧ ∃ N : List V → Hp → Prop, (∀ acc' H', N acc' H' → ∃ m', m' < m ∧ W (i + 1) m' acc' H') ∧
    ∀ x H', J.yld i H x H' → ∃ ta x1 x2, x = .ref ta ∧ SqT K H' ta [x1, x2] ∧ tt C fp s₂ H₂ (compSt2 σ js (some x1) (some x2)) H' fun b H2 => if b = true then te C fp s₂ H₂ (compSt2 σ js (some x1) (some x2)) H2 fun v H3 => acc.length < sizeLine ∧ N (acc ++ [v]) H3 else N acc H2)
theorem pe_comp2 {X : Cx} {elt iter : Expr} {ifs : List Expr} {sc0 scope : Scope} {N0 : List Str} {px py tp pos : Pos} {k1 : Nat} {xt yt : Str} {fs : List Str} {js : List Nat} {wi : TI} {tt : Addr → List Addr → Shared → Hp → TT} {te : Addr → List Addr → Shared → Hp → TE} (S : CScope2 sc0 scope N0 xt yt fs js) (h0 : X.env.scope = sc0) (hN0 : X.N = N0) (hc : X.calm = true)
    (hi : PI X (.Tuple [.Name xt px, .Name yt py] k1 tp) iter wi) (ht : ∀ C fp s₂ H, PTs (cxComp X (xt :: yt :: fs) scope C fp s₂ H) ifs (tt C fp s₂ H)) (he : ∀ C fp s₂ H, PE (cxComp X (xt :: yt :: fs) scope C fp s₂ H) elt (te C fp s₂ H))
    (hs : autoParam (∀ x, foldedSetIterable iter X.env x = pure x) autoK4._auto_1) :
    PE X (.ListComp elt [⟨.Tuple [.Name xt px, .Name yt py] k1 tp, iter, ifs, 0⟩] scope pos) (tComp2 X.K wi tt te js) := by
  intro pins s σ H Q I h
  rw [eval_ListComp]
  refine wpAny_comprehension_free (use := none) rfl hs (closureFor_eq (S.cells h0 I.ok)) S.kind S.names ?_
  refine thn (hi pins s σ H _ I h) fun v s1 h1 => thn h1 fun itv s2 h2 => ?_
  obtain ⟨it, fp, tn, J, H2, e, I2, T, st2, f2, hW⟩ := h2
  subst e
  have fo : ∀ b ∈ fp, ∃ o, s2.heap.get? b = some o := fun b hb => let ⟨o, e, _⟩ := T.obj 0 s2.heap st2 b hb; ⟨o, e⟩
  have blt : ∀ b ∈ fp, b < s2.heap.objs.size := fun b hb => let ⟨o, e⟩ := fo b hb; Heap.lt_size e
  refine block_new S.nocell S.kind fun D C h₁ mC hDle hCle hDC old hacc hns₁ => ?_
  have bC : ∀ b o, s2.heap.get? b = some o → b ≠ C := fun b o q z => Nat.not_lt.mpr hCle (z ▸ Heap.lt_size q)
  have bD : ∀ b o, s2.heap.get? b = some o → b ≠ D := fun b o q z => Nat.not_lt.mpr hDle (z ▸ Heap.lt_size q)
  obtain ⟨W, ⟨m0, w0⟩, turn⟩ := hW C fp s2 H2
  have fpk : ∀ {H' : Hp} (ob : Obj), (∀ b ∈ fp, H' b = none) → ∀ b ∈ fp, FpOk (cxComp X (xt :: yt :: fs) scope C fp s2 H2) [(D, ob)] H' b := fun {H'} ob hn b hb => by
    refine ⟨hn b hb, Nat.ne_of_lt (Nat.lt_of_lt_of_le (blt b hb) hCle), fun z => ?_, .inl hb, fun x c e => (f2 b hb).2.2.2.2.1 x c (S.sub h0 I2.ok x c e), fun p hp => ?_⟩
    · rcases List.mem_cons.mp (I2.stkSub b z) with q | q
      · exact (f2 b hb).2.1 q
      · exact (f2 b hb).2.2.1 q
    · have : p = (D, ob) := by
        have hp : p ∈ [] ++ [(D, ob)] := hp
        simpa using hp
      subst this
      exact Nat.ne_of_gt (Nat.lt_of_lt_of_le (blt b hb) hDle)
  have loop : codeAny (model X.prog X.w) X.A (.compLoop (.ListComp elt [⟨.Tuple [.Name xt px, .Name yt py] k1 tp, iter, ifs, 0⟩] scope pos) 0 (.ref it) (.ref D) (compEnvC scope (clos X.env.cells scope.names []) C X.env))
        (compPost (model X.prog X.w) X.A X.xe none (EP X pins σ Q) (.ref D) C) { s2 with heap := h₁ } := by
    have J0 : Inv (cxComp X (xt :: yt :: fs) scope C fp s2 H2) [] (compSt2 σ js none none) H2 { s2 with heap := h₁ } :=
      Inv.block2 (s₂ := s2) (s₄ := { s2 with heap := h₁ }) S h0 hN0 I2 f2 fo rfl I2.bare old hCle hns₁
    have H2D : H2 D = none := I2.hok.fresh hDle
    have ofD : D ∉ frs X.stack := fun z => by
      rcases List.mem_cons.mp (I2.stkSub D z) with q | q
      · exact absurd I2.lt (by rw [← q]; exact Nat.not_lt.mpr hDle)
      · exact I2.nofs (a := D) hDle q
    refine codeAny_loop rfl (fun n s' => ∃ (i : Nat) (σ' : St) (H' : Hp) (acc : List V) (its : List Value) (k : Nat), (∃ v0 w0, σ' = compSt2 σ js v0 w0) ∧ Inv (cxComp X (xt :: yt :: fs) scope C fp s2 H2) [] σ' H' s' ∧ tn i s'.heap ∧ (∀ b ∈ fp, H' b = none) ∧ H' D = none ∧
        s'.heap.get? D = some { cls := .type "list", data := .seq its.toArray k } ∧ Vals acc its ∧ acc.length ≤ sizeLine ∧ W i n acc H') ?_ m0
      ⟨0, _, H2, [], [], 0, ⟨none, none, rfl⟩, J0, T.keep 0 _ _ st2 fun b hb o e => old b o e, fun b hb => (f2 b hb).1, H2D, hacc, .nil, Nat.zero_le _, w0⟩
    rintro n s3 ⟨i, σ3, H3, acc, its, k, ⟨v0, w0, rfl⟩, I3, st3, fr3, hD3, d3, va, hz, w3⟩
    show wpAny _ X.A ((compTurn (.ListComp elt [⟨.Tuple [.Name xt px, .Name yt py] k1 tp, iter, ifs, 0⟩] scope pos) 0 (.ref it) (.ref D) (compEnvC scope (clos X.env.cells scope.names []) C X.env)).onRaise (fun x => do noteFrame x (compEnvC scope (clos X.env.cells scope.names []) C X.env); theTreesLotGoes x)) _ _ s3
    refine wpAny_noted ?_
    rw [compTurn_list]
    refine wpAny_bind (wpAny_standAt ?_)
    have pinD : Inv (cxComp X (xt :: yt :: fs) scope C fp s2 H2) [(D, { cls := .type "list", data := .seq its.toArray k })] (compSt2 σ js v0 w0) H3 s3 := I3.pins_of fun p hp => by
      have : p = (D, { cls := .type "list", data := .seq its.toArray k }) := by simpa using hp
      subst this
      exact ⟨d3, hD3, hDC, ofD, fun v z => by cases z⟩
    refine wpAny_bind ?_
    rcases turn i n acc H3 w3 with ⟨stop, qn⟩ | ⟨go, N, hN, step⟩
    · refine thn (T.done (cxComp X (xt :: yt :: fs) scope C fp s2 H2) rfl rfl rfl hc i _ s3 _ H3 _ pinD (fpk _ fr3) st3 stop) fun r s4 ⟨hr, I4⟩ => ?_
      subst hr
      refine wpAny_pure ?_
      obtain ⟨m4, hn4, _⟩ := I4.loc
      refine ⟨m4, hn4, fun h' hsb => ⟨.ref D, _, I2.unblock f2 I4 hCle hDle hDC hD3 ((I4.pin (D, { cls := .type "list", data := .seq its.toArray k }) (List.mem_append_right _ List.mem_cons_self)).1) va hz hsb, rfl, qn D hD3⟩⟩
    · refine thn (T.item (cxComp X (xt :: yt :: fs) scope C fp s2 H2) rfl rfl rfl hc i _ s3 _ H3 _ pinD (fpk _ fr3) st3 go) fun r s4 ⟨u, hr, h4⟩ => ?_
      subst hr
      refine wpAny_bind (thn h4 fun _ s5 ⟨x, H5, I5, r5, y5, st5, fr5⟩ => ?_)
      have I5' := I5.pinned (fpk _ fr5) (T.obj _ _ st5)
      obtain ⟨ta, x1, x2, ex, hx, q6⟩ := step x H5 y5
      have g0 : PG (cxComp X (xt :: yt :: fs) scope C fp s2 H2) (.Name xt px) (gName 0) := pg_name S.nd rfl (.inl (lookup_relabel_local S.tgt)) (.inr (lookup_relabel_local S.tgt))
      have g1 : PG (cxComp X (xt :: yt :: fs) scope C fp s2 H2) (.Name yt py) (gName 1) := pg_name S.nd rfl (.inl (lookup_relabel_local S.tgt2)) (.inr (lookup_relabel_local S.tgt2))
      have gok : PG (cxComp X (xt :: yt :: fs) scope C fp s2 H2) (.Tuple [.Name xt px, .Name yt py] k1 tp) (gTup X.K 2 (gCons (gName 0) (gCons (gName 1) gNil))) := pg_tup hc (pgs_cons g0 (pgs_cons g1 pgs_nil))
      have noE : ∀ (a : Value) (s' : Shared), (cxComp X (xt :: yt :: fs) scope C fp s2 H2).xe a s' → notedBy (model X.prog X.w) X.A (compEnvC scope (clos X.env.cells scope.names []) C X.env) (fun e s' => compPost (model X.prog X.w) X.A X.xe none (EP X pins σ Q) (.ref D) C (.error e) s') a s' := fun _ _ z => False.elim z
      refine wpAny_bind (wpAny_mono (gok _ s5 (compSt2 σ js v0 w0) H5 x u (fun σ' H' => σ' = compSt2 σ js (some x1) (some x2) ∧ H' = H5) I5' r5 ⟨ta, [x1, x2], ex, hx, rfl, x1, [x2], rfl, x2, [], rfl, rfl, rfl, rfl⟩) (fun _ s6 ⟨σ6, H6, I6, e6, e6'⟩ => ?_) noE)
      subst e6 e6'
      have fin : ∀ {acc' : List V} {its' : List Value} {k' : Nat} {H7 : Hp} {s7 : Shared}, Inv (cxComp X (xt :: yt :: fs) scope C fp s2 H2) [] (compSt2 σ js (some x1) (some x2)) H7 s7 → tn (i + 1) s7.heap → (∀ b ∈ fp, H7 b = none) → H7 D = none → s7.heap.get? D = some { cls := .type "list", data := .seq its'.toArray k' } → Vals acc' its' → acc'.length ≤ sizeLine → N acc' H7 →
          ∃ m, m < n ∧ ∃ (i : Nat) (σ' : St) (H' : Hp) (acc : List V) (its : List Value) (k : Nat), (∃ v0 w0, σ' = compSt2 σ js v0 w0) ∧ Inv (cxComp X (xt :: yt :: fs) scope C fp s2 H2) [] σ' H' s7 ∧ tn i s7.heap ∧ (∀ b ∈ fp, H' b = none) ∧ H' D = none ∧
            s7.heap.get? D = some { cls := .type "list", data := .seq its.toArray k } ∧ Vals acc its ∧ acc.length ≤ sizeLine ∧ W i m acc H' := fun {acc' its' k' H7 s7} a1 a2 a3 a4 a5 a6 a7 a8 => by
        obtain ⟨m', hm, w7⟩ := hN _ _ a8
        exact ⟨m', hm, i + 1, _, H7, acc', its', k', ⟨_, _, rfl⟩, a1, a2, a3, a4, a5, a6, a7, w7⟩
      have rest : ∀ {H7 : Hp} {s7 : Shared}, Inv (cxComp X (xt :: yt :: fs) scope C fp s2 H2) ([(D, { cls := .type "list", data := .seq its.toArray k })] ++ pinsAt fp s5.heap) (compSt2 σ js (some x1) (some x2)) H7 s7 →
          tn (i + 1) s7.heap ∧ (∀ b ∈ fp, H7 b = none) ∧ H7 D = none ∧ s7.heap.get? D = some { cls := .type "list", data := .seq its.toArray k } := fun {H7 s7} I7 => by
        refine ⟨T.keep _ _ _ st5 fun b hb o e => (I7.pin (b, o) (List.mem_append_right _ (List.mem_append_right _ (mem_pinsAt hb e)))).1, fun b hb => ?_, (I7.pin (D, { cls := .type "list", data := .seq its.toArray k }) (List.mem_append_right _ (List.mem_append_left _ List.mem_cons_self))).2.1, (I7.pin (D, { cls := .type "list", data := .seq its.toArray k }) (List.mem_append_right _ (List.mem_append_left _ List.mem_cons_self))).1⟩
        obtain ⟨o, e, d⟩ := T.obj _ _ st5 b hb
        exact (I7.pin (b, o) (List.mem_append_right _ (List.mem_append_right _ (mem_pinsAt hb e)))).2.1
      have elem : ∀ {H7 : Hp} {s7 : Shared}, Inv (cxComp X (xt :: yt :: fs) scope C fp s2 H2) ([(D, { cls := .type "list", data := .seq its.toArray k })] ++ pinsAt fp s5.heap) (compSt2 σ js (some x1) (some x2)) H7 s7 →
          (te C fp s2 H2 (compSt2 σ js (some x1) (some x2)) H7 fun v H3 => acc.length < sizeLine ∧ N (acc ++ [v]) H3) →
          wpAny (model X.prog X.w) X.A (eval elt (compEnvC scope (clos X.env.cells scope.names []) C X.env)) (fun y s8 => wpAny (model X.prog X.w) X.A (call (.builtin "list.append") [.ref D, y]) (fun _ s9 => ∃ m, m < n ∧ ∃ (i : Nat) (σ' : St) (H' : Hp) (acc : List V) (its : List Value) (k : Nat), (∃ v0 w0, σ' = compSt2 σ js v0 w0) ∧ Inv (cxComp X (xt :: yt :: fs) scope C fp s2 H2) [] σ' H' s9 ∧ tn i s9.heap ∧ (∀ b ∈ fp, H' b = none) ∧ H' D = none ∧
            s9.heap.get? D = some { cls := .type "list", data := .seq its.toArray k } ∧ Vals acc its ∧ acc.length ≤ sizeLine ∧ W i m acc H')
            (fun _ _ => False) s8) (fun _ _ => False) s7 := fun {H7 s7} I7 q7 => by
        refine thn (he C fp s2 H2 _ s7 _ H7 _ I7 q7) fun y s8 ⟨v, H8, I8, r8, hl8, n8⟩ => ?_
        obtain ⟨t8, fr8, hD8, d8⟩ := rest I8
        have hsz := va.length
        refine call_meets F.slot_list_append ⟨_, d8, rfl⟩ F.entry_list_append (F.args_list_append_2 _ _) (PySem.list_append D its.toArray k y (by rw [List.size_toArray]; bv_omega)) ⟨d8, ?_⟩
        have q := PySem.IsL.update d8 (·.push y)
        rw [show (its.toArray.push y) = (its ++ [y]).toArray by simp] at q
        have kk : ∀ b o, b ≠ D → s8.heap.get? b = some o → (s8.heap.update D (Obj.mapSeq (·.push y))).get? b = some o := fun b o hb e => (Heap.get?_update_other s8.heap _ (Ne.symm hb)).trans e
        have I9 : Inv (cxComp X (xt :: yt :: fs) scope C fp s2 H2) [] (compSt2 σ js (some x1) (some x2)) H8 { s8 with heap := s8.heap.update D (Obj.mapSeq (·.push y)) } := by
          refine Inv.turned (it := D) (t' := s8.toks) (I8.pins_of (pins' := []) fun p hp => nomatch hp) kk hD8 hDC (.inr hDle) (fun x c e z => ?_) fun p hp => absurd (show p ∈ ([] : List (Addr × Obj)) from hp) (by simp)
          obtain ⟨v, o, ho, _⟩ := I2.cell x c (S.sub h0 I2.ok x c e)
          exact bD c o ho z
        refine fin I9 (T.keep _ _ _ t8 fun b hb o e => kk b o (Nat.ne_of_lt (Nat.lt_of_lt_of_le (blt b hb) hDle)) e) fr8 hD8 q (va.append (.cons r8 .nil)) ?_ n8
        rw [List.length_append, List.length_singleton]
        bv_omega
      have htt := ht C fp s2 H2
      generalize tt C fp s2 H2 = tt' at htt q6
      cases htt with
      | nil =>
        refine wpAny_bind (wpAny_pure ?_)
        dsimp only [tTrue] at q6
        rw [if_pos rfl] at q6
        refine wpAny_mono (wpAny_bind (wpAny_bind (thn (elem I6 q6) fun y s8 h8 => wpAny_bind (thn h8 fun _ s9 h9 => wpAny_pure (wpAny_pure ⟨rfl, h9⟩))))) (fun _ _ z => z) fun _ _ z => False.elim z
      | one ht1 =>
        refine wpAny_bind (wpAny_tests_one (wpAny_mono (ht1 _ s6 _ H6 _ I6 q6) (fun b s7 ⟨H7, I7, q7⟩ => ?_) noE))
        cases b with
        | false =>
          rw [if_neg Bool.false_ne_true] at q7
          obtain ⟨t8, fr8, hD8, d8⟩ := rest I7
          exact wpAny_pure ⟨rfl, fin (I7.pins_of (pins' := []) fun p hp => nomatch hp) t8 fr8 hD8 d8 va hz q7⟩
        | true =>
          rw [if_pos rfl] at q7
          refine wpAny_mono (wpAny_bind (wpAny_bind (thn (elem I7 q7) fun y s8 h8 => wpAny_bind (thn h8 fun _ s9 h9 => wpAny_pure (wpAny_pure ⟨rfl, h9⟩))))) (fun _ _ z => z) fun _ _ z => False.elim z
  exact codeAny_compStart_list loop (T.self X.A 0 _ _ _ (T.keep 0 _ _ st2 fun b hb o e => old b o e) loop)
end L2
namespace L2.L3
open PySem PyProof.Rows
variable [CN]
noncomputable def cEnv2 (ρ : Ev) (js : List Nat) (x y : D) : Ev := some x :: some y :: js.map fun j => (ρ[j]?).join
noncomputable def capt2 (js l : List Nat) : List Nat := ((List.range js.length).filter fun i => l.contains (js.getD i 0)).map (· + 2)
noncomputable def pr2 {α : Type} (d : D) (f : D → D → Res α) : Res α :=
  match d with
  | .tuple [a, b] => f a b
  | _ => .no
theorem pr2_ok {α : Type} {d : D} {f : D → D → Res α} {r : α} (h : pr2 d f = .ok r) : ∃ a b, d = .tuple [a, b] ∧ f a b = .ok r := by
  unfold pr2 at h
  split at h
  · exact ⟨_, _, rfl, h⟩
  · cases h
noncomputable def eComp2 (mi : Ev → Res (List D)) (mt : Ev → Res Bool) (me : Ev → Res D) (js : List Nat) : Ev → Res D := fun ρ => (mi ρ).bind fun ds => if ds.length ≤ sizeLine then (compM (fun d => pr2 d fun x y => mt (cEnv2 ρ js x y)) (fun d => pr2 d fun x y => me (cEnv2 ρ js x y)) ds).bind fun out => .ok (.list out) else .no
theorem capt2_mem {js l : List Nat} {i : Nat} (h : i ∈ capt2 js l) : ∃ k, i = k + 2 ∧ k < js.length ∧ js.getD k 0 ∈ l := by
  unfold capt2 at h
  obtain ⟨k, hk, rfl⟩ := List.mem_map.mp h
  obtain ⟨h1, h2⟩ := List.mem_filter.mp hk
  exact ⟨k, rfl, List.mem_range.mp h1, List.contains_iff_mem.mp h2⟩
theorem mem_capt2 {js l : List Nat} {k j : Nat} (h : js[k]? = some j) (hl : j ∈ l) : k + 2 ∈ capt2 js l := by
  unfold capt2
  refine List.mem_map.mpr ⟨k, List.mem_filter.mpr ⟨List.mem_range.mpr ?_, ?_⟩, rfl⟩
  · exact (List.getElem?_eq_some_iff.mp h).1
  · rw [List.getD_eq_getElem?_getD, h]
    exact List.contains_iff_mem.mpr hl
theorem cEnv2_succ {ρ : Ev} {js : List Nat} {x y d : D} {k : Nat} (h : (cEnv2 ρ js x y)[k + 2]? = some (some d)) : ∃ j, js[k]? = some j ∧ ρ[j]? = some (some d) := by
  unfold cEnv2 at h
  rw [List.getElem?_cons_succ, List.getElem?_cons_succ, List.getElem?_map] at h
  cases e : js[k]? with
  | none => rw [e] at h; cases h
  | some j =>
    rw [e] at h
    refine ⟨j, rfl, ?_⟩
    have h : (ρ[j]?).join = some d := Option.some.inj h
    cases q : ρ[j]? with
    | none => rw [q] at h; cases h
    | some z => rw [q] at h; rw [show z = some d from h]
theorem compSt2_succ {σ : St} {js : List Nat} {v0 w0 : Option V} {v : V} {k j : Nat} (h : js[k]? = some j) (e : σ[j]? = some (some v)) : (compSt2 σ js v0 w0)[k + 2]? = some (some v) := by
  unfold compSt2
  rw [List.getElem?_cons_succ, List.getElem?_cons_succ, List.getElem?_map, h]
  show some ((σ[j]?).join) = _
  rw [e]
  rfl
noncomputable def cW2 (Oc : Wd) (Ob : Addr → Prop) (σ : St) (js : List Nat) : Wd := ⟨Uni Oc Ob, fun i => adr ((compSt2 σ js none none)[i]?)⟩
theorem Rel.comp2 {Oc : Wd} {Ob : Addr → Prop} {om ln : List Nat} {σ : St} {H : Hp} {ρ : Ev} {js : List Nat} {x y : V} {d d2 : D} (R : Rel Oc Ob om ln σ H ρ) (r : Rep H (Uni Oc Ob) x d) (r2 : Rep H (Uni Oc Ob) y d2) : Rel (cW2 Oc Ob σ js) (fun _ => False) [] (capt2 js (om ++ ln)) (compSt2 σ js (some x) (some y)) H (cEnv2 ρ js d d2) where
  len := by unfold compSt2 cEnv2; simp
  val := fun i d' e _ hl => by
    cases i with
    | zero =>
      cases e
      exact ⟨x, rfl, r.less fun b z => z.elim id fun z => z.elim⟩
    | succ k =>
     cases k with
     | zero =>
      cases e
      exact ⟨y, rfl, r2.less fun b z => z.elim id fun z => z.elim⟩
     | succ k =>
      obtain ⟨j, e1, e2⟩ := cEnv2_succ e
      have h1 : j ∉ om := fun z => hl (mem_capt2 e1 (List.mem_append_left _ z))
      have h2 : j ∉ ln := fun z => hl (mem_capt2 e1 (List.mem_append_right _ z))
      obtain ⟨v, q, rv⟩ := R.val j d' e2 h1 h2
      exact ⟨v, compSt2_succ e1 q, rv.less fun b z => z.elim id fun z => z.elim⟩
  own := fun i d' e h => nomatch h
  lnt := fun i d' e _ hl => by
    obtain ⟨k, rfl, hk, hj⟩ := capt2_mem hl
    obtain ⟨j, e1, e2⟩ := cEnv2_succ e
    rw [List.getD_eq_getElem?_getD, e1, Option.getD_some] at hj
    by_cases ho : j ∈ om
    · obtain ⟨v, q, a, ys, ds, z1, z2, z3, z4, z5⟩ := R.own j d' e2 ho
      have ea : (cW2 Oc Ob σ js).la (k + 2) = a := by show adr _ = a; rw [compSt2_succ e1 q, z1]; rfl
      exact ⟨v, compSt2_succ e1 q, ys, ds, by rw [ea]; exact z1, z2, by rw [ea]; exact z3, by rw [ea]; exact .inr z4, z5.less fun b z => z.elim id fun z => z.elim⟩
    · have hl2 : j ∈ ln := (List.mem_append.mp hj).elim (fun z => absurd z ho) id
      obtain ⟨v, q, ys, ds, z1, z2, z3, z4, z5⟩ := R.lnt j d' e2 ho hl2
      have ea : (cW2 Oc Ob σ js).la (k + 2) = Oc.la j := by show adr _ = _; rw [compSt2_succ e1 q, z1]; rfl
      exact ⟨v, compSt2_succ e1 q, ys, ds, by rw [ea]; exact z1, z2, by rw [ea]; exact z3, by rw [ea]; exact .inl z4, z5.less fun b z => z.elim id fun z => z.elim⟩
  inj := fun i j di dj a _ _ h => nomatch h
  oh := fun a z => R.oh a (z.elim id fun z => z.elim)
  ap := fun a z => z.elim
noncomputable abbrev cC2 (C : Ct) (N : List Str) (scope : Scope) (A : Addr) (fp : List Addr) (s₂ : Shared) (H : Hp) (js : List Nat) : Ct := ⟨cxComp C.X N scope A fp s₂ H, fun _ _ => False, [], capt2 js (C.om ++ C.ln)⟩
theorem rep_pair {K : PySem.W.Frag} {H : Hp} {O : Addr → Prop} {x : V} {a b : D} (r : Rep H O x (.tuple [a, b])) : ∃ ta x1 x2, x = .ref ta ∧ SqT K H ta [x1, x2] ∧ Rep H O x1 a ∧ Rep H O x2 b := by
  cases r with
  | tup r n t =>
    cases t with
    | cons h1 t =>
      cases t with
      | cons h2 t =>
        cases t
        exact ⟨_, _, _, rfl, .inl r, h1, h2⟩
theorem re_comp2 {C : Ct} {elt iter : Expr} {ifs : List Expr} {sc0 scope : Scope} {N0 : List Str} {px py tp pos : Pos} {k1 : Nat} {xt yt : Str} {fs : List Str} {js : List Nat} {mi : Ev → Res (List D)} {mt : Ev → Res Bool} {me : Ev → Res D} (S : CScope2 sc0 scope N0 xt yt fs js) (h0 : C.X.env.scope = sc0) (hN0 : C.X.N = N0) (hc : C.X.calm = true)
    (hi : RIc C (.Tuple [.Name xt px, .Name yt py] k1 tp) iter mi) (ht : ∀ A fp s₂ H, RTs (cC2 C (xt :: yt :: fs) scope A fp s₂ H js) ifs mt) (he : ∀ A fp s₂ H, RE (cC2 C (xt :: yt :: fs) scope A fp s₂ H js) .cl elt me)
    (hs : autoParam (∀ x, foldedSetIterable iter C.X.env x = pure x) autoK4._auto_1) :
    RE C .new (.ListComp elt [⟨.Tuple [.Name xt px, .Name yt py] k1 tp, iter, ifs, 0⟩] scope pos) (eComp2 mi mt me js) := by
  obtain ⟨wi, pi, qi⟩ := hi
  refine ⟨_, pe_comp2 (tt := fun A fp s H => Classical.choose (ht A fp s H)) (te := fun A fp s H => Classical.choose (he A fp s H)) S h0 hN0 hc pi (fun A fp s H => (Classical.choose_spec (ht A fp s H)).1) (fun A fp s H => (Classical.choose_spec (he A fp s H)).1) hs, fun Oc Ob σ H ρ Q R h => ?_⟩
  refine qi Oc Ob σ H ρ _ R (Res.post_mono (Res.post_bind h) (fun ds _ k J H1 s1 wk => ?_) fun _ z => z)
  intro A fp s₂ H₂
  have qt := (Classical.choose_spec (ht A fp s₂ H₂)).2
  have qe := (Classical.choose_spec (he A fp s₂ H₂)).2
  have k : (if ds.length ≤ sizeLine then (compM (fun d => pr2 d fun x y => mt (cEnv2 ρ js x y)) (fun d => pr2 d fun x y => me (cEnv2 ρ js x y)) ds).bind fun out => Res.ok (PyData.list out) else .no).post (fun d => ∀ v H', Same H H' → VR .new Oc Ob H H' v d → Q v H') (fun c => ∀ H', Same H H' → C.XE c H') := k
  by_cases hlen : ds.length ≤ sizeLine
  · rw [if_pos hlen] at k
    generalize hT : (fun d => pr2 d fun x y => mt (cEnv2 ρ js x y)) = T at k
    generalize hF : (fun d => pr2 d fun x y => me (cEnv2 ρ js x y)) = F at k
    cases ec : compM T F ds with
    | no => rw [ec] at k; exact k.elim
    | ex c =>
      exfalso
      have nex : ∀ xs c, compM T F xs ≠ .ex c := by
        intro xs
        induction xs with
        | nil => intro c z; cases z
        | cons x xs ih =>
          intro c z
          rw [compM] at z
          cases e1 : noEx (T x) with
          | no => rw [e1] at z; cases z
          | ex c' => cases hx : T x <;> rw [hx] at e1 <;> cases e1
          | ok b =>
            rw [e1, Res.bind_ok] at z
            cases b with
            | false => exact ih c z
            | true =>
              simp only [if_true] at z
              cases e2 : noEx (F x) with
              | no => rw [e2] at z; cases z
              | ex c' => cases hx : F x <;> rw [hx] at e2 <;> cases e2
              | ok y =>
                rw [e2, Res.bind_ok] at z
                cases e3 : compM T F xs with
                | no => rw [e3] at z; cases z
                | ex c' => exact ih c' e3
                | ok ys => rw [e3] at z; cases z
      exact nex ds c ec
    | ok out =>
      rw [ec, Res.bind_ok] at k
      refine ⟨fun i m acc H => m = ds.length - i ∧ i ≤ ds.length ∧ Same H1 H ∧ ∃ done rest, Reps H (Uni Oc Ob) acc done ∧ acc.length ≤ i ∧ compM T F (ds.drop i) = .ok rest ∧ done ++ rest = out, ⟨_, rfl, Nat.zero_le _, Same.refl _, [], out, .nil, Nat.le_refl _, ec, rfl⟩, ?_⟩
      rintro i m acc H2 ⟨rfl, hi, s2, done, rest, ra, la, er, eo⟩
      obtain ⟨w1, w2⟩ := wk H2 s2 i
      have R2 := (R.same s1).same s2
      by_cases hlt : i < ds.length
      · obtain ⟨go, yl⟩ := w1 ds[i] (List.getElem?_eq_getElem hlt)
        have ed : ds.drop i = ds[i] :: ds.drop (i + 1) := List.drop_eq_getElem_cons hlt
        rw [ed, compM] at er
        have nxt : ∀ (acc' : List V) (H3 : Hp) (done' rest' : List D), Same H2 H3 → Reps H3 (Uni Oc Ob) acc' done' → acc'.length ≤ i + 1 → compM T F (ds.drop (i + 1)) = .ok rest' → done' ++ rest' = out →
            ∃ m', m' < ds.length - i ∧ (m' = ds.length - (i + 1) ∧ i + 1 ≤ ds.length ∧ Same H1 H3 ∧ ∃ done rest, Reps H3 (Uni Oc Ob) acc' done ∧ acc'.length ≤ i + 1 ∧ compM T F (ds.drop (i + 1)) = .ok rest ∧ done ++ rest = out) :=
          fun acc' H3 done' rest' s3 r3 l3 c3 o3 => ⟨_, by bv_omega, rfl, hlt, s2.trans s3, done', rest', r3, l3, c3, o3⟩
        refine .inr ⟨go, fun acc' H' => ∃ m', m' < ds.length - i ∧ (m' = ds.length - (i + 1) ∧ i + 1 ≤ ds.length ∧ Same H1 H' ∧ ∃ done rest, Reps H' (Uni Oc Ob) acc' done ∧ acc'.length ≤ i + 1 ∧ compM T F (ds.drop (i + 1)) = .ok rest ∧ done ++ rest = out), fun acc' H' z => z, fun x H3 hy => ?_⟩
        obtain ⟨s3, rx⟩ := yl x H3 hy
        cases e1 : noEx (T ds[i]) with
        | no => rw [e1] at er; cases er
        | ex c => rw [e1] at er; cases er
        | ok b =>
          rw [e1, Res.bind_ok] at er
          have t0 := noEx_ok e1
          rw [← hT] at t0
          obtain ⟨da, db, ed2, t1⟩ := pr2_ok t0
          rw [ed2] at rx
          obtain ⟨ta, x1, x2, rfl, hsq, rx1, rx2⟩ := rep_pair (K := C.X.K) rx
          have R3 := (R2.same s3).comp2 (js := js) rx1 rx2
          refine ⟨ta, x1, x2, rfl, hsq, ?_⟩
          refine qt _ _ _ H3 _ _ R3 ?_
          show (mt (cEnv2 ρ js da db)).post _ _
          rw [t1]
          intro H4 s4
          cases b with
          | false => exact iteF (nxt acc H4 done rest (s3.trans s4) (ra.same (s3.trans s4)) (by bv_omega) er eo)
          | true =>
            refine iteT ?_
            simp only [if_true] at er
            cases e2 : noEx (F ds[i]) with
            | no => rw [e2] at er; cases er
            | ex c => rw [e2] at er; cases er
            | ok y =>
              rw [e2, Res.bind_ok] at er
              have t2 : me (cEnv2 ρ js da db) = .ok y := by
                have t2 := noEx_ok e2
                rw [← hF, ed2] at t2
                exact t2
              refine qe _ _ _ H4 _ _ (R3.same s4) ?_
              show (me (cEnv2 ρ js da db)).post _ _
              rw [t2]
              intro v H5 s5 rv
              refine ⟨by bv_omega, ?_⟩
              obtain ⟨ys, e3⟩ : ∃ ys, compM T F (ds.drop (i + 1)) = .ok ys := by
                cases e3 : compM T F (ds.drop (i + 1)) with
                | no => rw [e3] at er; cases er
                | ex c => rw [e3] at er; cases er
                | ok ys => exact ⟨ys, rfl⟩
              rw [e3, Res.bind_ok] at er
              cases er
              have rv' : Rep H5 (Uni Oc Ob) v y := Rep.less rv fun b z => .inl z
              refine nxt (acc ++ [v]) H5 (done ++ [y]) ys ((s3.trans s4).trans s5) ((ra.same ((s3.trans s4).trans s5)).append (.one rv')) (by rw [List.length_append, List.length_singleton]; bv_omega) e3 ?_
              rw [List.append_assoc]
              exact eo
      · have ei : i = ds.length := by bv_omega
        subst ei
        refine .inl ⟨w2 (Nat.le_refl _), fun p hp => ?_⟩
        rw [List.drop_length] at er
        cases er
        rw [List.append_nil] at eo
        subst eo
        exact k _ _ ((s1.trans s2).trans (Same.new hp)) (new_list (s1.trans s2) hp ra)
  · rw [if_neg hlen] at k
    exact k.elim
end L2.L3
namespace L2.L3
open PySem PyProof.Rows
variable [CN]
theorem RIo.c {C : Ct} {tg iter : Expr} {m : Ev → Res (List D)} (h : RIo C tg iter m) : RIc C tg iter m := by
  obtain ⟨wi, p, q⟩ := h
  exact ⟨wi, p, fun Oc Ob σ H ρ W R h => q Oc Ob σ H ρ W R (Res.post_mono h (fun ds _ k J H1 s w => k J H1 s fun H2 s2 => w H2 Ob (Same.frm s2) (fun b z => .inl z) (R.same (s.trans s2)).oh) fun _ z => z)⟩
section
variable {X : Cx} {pins : List (Addr × Obj)} {σ : St} {H : Hp} {s : Shared} {h' : Heap}
end
structure Apart5 (z TI TO i1 i2 : Addr) : Prop where
  TIz : TI ≠ z
  TOz : TO ≠ z
  i1z : i1 ≠ z
  i2z : i2 ≠ z
  TITO : TI ≠ TO
  TIi1 : TI ≠ i1
  TIi2 : TI ≠ i2
  TOi1 : TO ≠ i1
  TOi2 : TO ≠ i2
  i12 : i1 ≠ i2
end L2.L3
set_option maxHeartbeats 4000000
namespace L2
open PySem PySem.Spec PyProof.Rows
theorem comp_core2 {X : Cx} {elt iter : Expr} {ifs : List Expr} {sc0 scope : Scope} {N0 : List Str} {px pw tp pos : Pos} {k1 : Nat} {xt yt : Str} {fs : List Str} {js : List Nat} {wi : TI} {tt : Addr → List Addr → Shared → Hp → TT} {te : Addr → List Addr → Shared → Hp → TE} (S : CScope2 sc0 scope N0 xt yt fs js) (h0 : X.env.scope = sc0) (hN0 : X.N = N0) (hc : X.calm = true)
    (hi : PI X (.Tuple [.Name xt px, .Name yt pw] k1 tp) iter wi) (ht : ∀ C fp s₂ H, PTs (cxComp X (xt :: yt :: fs) scope C fp s₂ H) ifs (tt C fp s₂ H)) (he : ∀ C fp s₂ H, PE (cxComp X (xt :: yt :: fs) scope C fp s₂ H) elt (te C fp s₂ H))
    (hs : autoParam (∀ x, foldedSetIterable iter X.env x = pure x) autoK4._auto_1)
    {pins : List (Addr × Obj)} {cpos : Pos} {s : Shared} {σ : St} {H : Hp} {Q : VK} {use : Option (Value → Sem Unit)} {Qv : Value → Shared → Prop} (I : Inv X pins σ H s) (h : tComp2 X.K wi tt te js σ H Q)
    (hfin : ∀ (s' : Shared) (C D : Addr) (Ha : Hp) (fl : Flow), (∀ h'', Heap.SameBut C s'.heap h'' → Inv X pins σ Ha { s' with heap := h'' }) → (∃ m, s'.heap.Ns C m) → FpOk X pins Ha C → Q (.ref D) Ha → compPost (model X.prog X.w) X.A X.xe use Qv (.ref D) C (.ok fl) s') :
    wpAny (model X.prog X.w) X.A (comprehension (.ListComp elt [⟨.Tuple [.Name xt px, .Name yt pw] k1 tp, iter, ifs, 0⟩] scope pos) scope X.env cpos (newList []) false (eval iter X.env) use) Qv X.xe s := by
  refine wpAny_comprehension_free (use := use) rfl hs (closureFor_eq (S.cells h0 I.ok)) S.kind S.names ?_
  refine thn (hi pins s σ H _ I h) fun v s1 h1 => thn h1 fun itv s2 h2 => ?_
  obtain ⟨it, fp, tn, J, H2, e, I2, T, st2, f2, hW⟩ := h2
  subst e
  have fo : ∀ b ∈ fp, ∃ o, s2.heap.get? b = some o := fun b hb => let ⟨o, e, _⟩ := T.obj 0 s2.heap st2 b hb; ⟨o, e⟩
  have blt : ∀ b ∈ fp, b < s2.heap.objs.size := fun b hb => let ⟨o, e⟩ := fo b hb; Heap.lt_size e
  refine block_new S.nocell S.kind fun D C h₁ mC hDle hCle hDC old hacc hns₁ => ?_
  have bC : ∀ b o, s2.heap.get? b = some o → b ≠ C := fun b o q z => Nat.not_lt.mpr hCle (z ▸ Heap.lt_size q)
  have bD : ∀ b o, s2.heap.get? b = some o → b ≠ D := fun b o q z => Nat.not_lt.mpr hDle (z ▸ Heap.lt_size q)
  obtain ⟨W, ⟨m0, w0⟩, turn⟩ := hW C fp s2 H2
  have fpk : ∀ {H' : Hp} (ob : Obj), (∀ b ∈ fp, H' b = none) → ∀ b ∈ fp, FpOk (cxComp X (xt :: yt :: fs) scope C fp s2 H2) [(D, ob)] H' b := fun {H'} ob hn b hb => by
    refine ⟨hn b hb, Nat.ne_of_lt (Nat.lt_of_lt_of_le (blt b hb) hCle), fun z => ?_, .inl hb, fun x c e => (f2 b hb).2.2.2.2.1 x c (S.sub h0 I2.ok x c e), fun p hp => ?_⟩
    · rcases List.mem_cons.mp (I2.stkSub b z) with q | q
      · exact (f2 b hb).2.1 q
      · exact (f2 b hb).2.2.1 q
    · have : p = (D, ob) := by
        have hp : p ∈ [] ++ [(D, ob)] := hp
        simpa using hp
      subst this
      exact Nat.ne_of_gt (Nat.lt_of_lt_of_le (blt b hb) hDle)
  have loop : codeAny (model X.prog X.w) X.A (.compLoop (.ListComp elt [⟨.Tuple [.Name xt px, .Name yt pw] k1 tp, iter, ifs, 0⟩] scope pos) 0 (.ref it) (.ref D) (compEnvC scope (clos X.env.cells scope.names []) C X.env))
        (compPost (model X.prog X.w) X.A X.xe use Qv (.ref D) C) { s2 with heap := h₁ } := by
    have J0 : Inv (cxComp X (xt :: yt :: fs) scope C fp s2 H2) [] (compSt2 σ js none none) H2 { s2 with heap := h₁ } :=
      Inv.block2 (s₂ := s2) (s₄ := { s2 with heap := h₁ }) S h0 hN0 I2 f2 fo rfl I2.bare old hCle hns₁
    have H2D : H2 D = none := I2.hok.fresh hDle
    have ofD : D ∉ frs X.stack := fun z => by
      rcases List.mem_cons.mp (I2.stkSub D z) with q | q
      · exact absurd I2.lt (by rw [← q]; exact Nat.not_lt.mpr hDle)
      · exact I2.nofs (a := D) hDle q
    refine codeAny_loop rfl (fun n s' => ∃ (i : Nat) (σ' : St) (H' : Hp) (acc : List V) (its : List Value) (k : Nat), (∃ v0 w0, σ' = compSt2 σ js v0 w0) ∧ Inv (cxComp X (xt :: yt :: fs) scope C fp s2 H2) [] σ' H' s' ∧ tn i s'.heap ∧ (∀ b ∈ fp, H' b = none) ∧ H' D = none ∧
        s'.heap.get? D = some { cls := .type "list", data := .seq its.toArray k } ∧ Vals acc its ∧ acc.length ≤ sizeLine ∧ W i n acc H') ?_ m0
      ⟨0, _, H2, [], [], 0, ⟨none, none, rfl⟩, J0, T.keep 0 _ _ st2 fun b hb o e => old b o e, fun b hb => (f2 b hb).1, H2D, hacc, .nil, Nat.zero_le _, w0⟩
    rintro n s3 ⟨i, σ3, H3, acc, its, k, ⟨v0, w0, rfl⟩, I3, st3, fr3, hD3, d3, va, hz, w3⟩
    show wpAny _ X.A ((compTurn (.ListComp elt [⟨.Tuple [.Name xt px, .Name yt pw] k1 tp, iter, ifs, 0⟩] scope pos) 0 (.ref it) (.ref D) (compEnvC scope (clos X.env.cells scope.names []) C X.env)).onRaise (fun x => do noteFrame x (compEnvC scope (clos X.env.cells scope.names []) C X.env); theTreesLotGoes x)) _ _ s3
    refine wpAny_noted ?_
    rw [compTurn_list]
    refine wpAny_bind (wpAny_standAt ?_)
    have pinD : Inv (cxComp X (xt :: yt :: fs) scope C fp s2 H2) [(D, { cls := .type "list", data := .seq its.toArray k })] (compSt2 σ js v0 w0) H3 s3 := I3.pins_of fun p hp => by
      have : p = (D, { cls := .type "list", data := .seq its.toArray k }) := by simpa using hp
      subst this
      exact ⟨d3, hD3, hDC, ofD, fun v z => by cases z⟩
    refine wpAny_bind ?_
    rcases turn i n acc H3 w3 with ⟨stop, qn⟩ | ⟨go, N, hN, step⟩
    · refine thn (T.done (cxComp X (xt :: yt :: fs) scope C fp s2 H2) rfl rfl rfl hc i _ s3 _ H3 _ pinD (fpk _ fr3) st3 stop) fun r s4 ⟨hr, I4⟩ => ?_
      subst hr
      refine wpAny_pure ?_
      obtain ⟨m4, hn4, _⟩ := I4.loc
      have hHC : H3 C = none := I4.free
      refine hfin s4 C D (upd H3 D (.lst acc)) _ (fun h'' hsb => I2.unblock f2 I4 hCle hDle hDC hD3 ((I4.pin (D, { cls := .type "list", data := .seq its.toArray k }) (List.mem_append_right _ List.mem_cons_self)).1) va hz hsb) ⟨m4, hn4⟩ (I2.fpOk hCle (by rw [upd_ne (Ne.symm hDC)]; exact hHC)) (qn D hD3)
    · refine thn (T.item (cxComp X (xt :: yt :: fs) scope C fp s2 H2) rfl rfl rfl hc i _ s3 _ H3 _ pinD (fpk _ fr3) st3 go) fun r s4 ⟨u, hr, h4⟩ => ?_
      subst hr
      refine wpAny_bind (thn h4 fun _ s5 ⟨x, H5, I5, r5, y5, st5, fr5⟩ => ?_)
      have I5' := I5.pinned (fpk _ fr5) (T.obj _ _ st5)
      obtain ⟨ta, x1, x2, ex, hx, q6⟩ := step x H5 y5
      have g0 : PG (cxComp X (xt :: yt :: fs) scope C fp s2 H2) (.Name xt px) (gName 0) := pg_name S.nd rfl (.inl (lookup_relabel_local S.tgt)) (.inr (lookup_relabel_local S.tgt))
      have g1 : PG (cxComp X (xt :: yt :: fs) scope C fp s2 H2) (.Name yt pw) (gName 1) := pg_name S.nd rfl (.inl (lookup_relabel_local S.tgt2)) (.inr (lookup_relabel_local S.tgt2))
      have gok : PG (cxComp X (xt :: yt :: fs) scope C fp s2 H2) (.Tuple [.Name xt px, .Name yt pw] k1 tp) (gTup X.K 2 (gCons (gName 0) (gCons (gName 1) gNil))) := pg_tup hc (pgs_cons g0 (pgs_cons g1 pgs_nil))
      have noE : ∀ (a : Value) (s' : Shared), (cxComp X (xt :: yt :: fs) scope C fp s2 H2).xe a s' → notedBy (model X.prog X.w) X.A (compEnvC scope (clos X.env.cells scope.names []) C X.env) (fun e s' => compPost (model X.prog X.w) X.A X.xe use Qv (.ref D) C (.error e) s') a s' := fun _ _ z => False.elim z
      refine wpAny_bind (wpAny_mono (gok _ s5 (compSt2 σ js v0 w0) H5 x u (fun σ' H' => σ' = compSt2 σ js (some x1) (some x2) ∧ H' = H5) I5' r5 ⟨ta, [x1, x2], ex, hx, rfl, x1, [x2], rfl, x2, [], rfl, rfl, rfl, rfl⟩) (fun _ s6 ⟨σ6, H6, I6, e6, e6'⟩ => ?_) noE)
      subst e6 e6'
      have fin : ∀ {acc' : List V} {its' : List Value} {k' : Nat} {H7 : Hp} {s7 : Shared}, Inv (cxComp X (xt :: yt :: fs) scope C fp s2 H2) [] (compSt2 σ js (some x1) (some x2)) H7 s7 → tn (i + 1) s7.heap → (∀ b ∈ fp, H7 b = none) → H7 D = none → s7.heap.get? D = some { cls := .type "list", data := .seq its'.toArray k' } → Vals acc' its' → acc'.length ≤ sizeLine → N acc' H7 →
          ∃ m, m < n ∧ ∃ (i : Nat) (σ' : St) (H' : Hp) (acc : List V) (its : List Value) (k : Nat), (∃ v0 w0, σ' = compSt2 σ js v0 w0) ∧ Inv (cxComp X (xt :: yt :: fs) scope C fp s2 H2) [] σ' H' s7 ∧ tn i s7.heap ∧ (∀ b ∈ fp, H' b = none) ∧ H' D = none ∧
            s7.heap.get? D = some { cls := .type "list", data := .seq its.toArray k } ∧ Vals acc its ∧ acc.length ≤ sizeLine ∧ W i m acc H' := fun {acc' its' k' H7 s7} a1 a2 a3 a4 a5 a6 a7 a8 => by
        obtain ⟨m', hm, w7⟩ := hN _ _ a8
        exact ⟨m', hm, i + 1, _, H7, acc', its', k', ⟨_, _, rfl⟩, a1, a2, a3, a4, a5, a6, a7, w7⟩
      have rest : ∀ {H7 : Hp} {s7 : Shared}, Inv (cxComp X (xt :: yt :: fs) scope C fp s2 H2) ([(D, { cls := .type "list", data := .seq its.toArray k })] ++ pinsAt fp s5.heap) (compSt2 σ js (some x1) (some x2)) H7 s7 →
          tn (i + 1) s7.heap ∧ (∀ b ∈ fp, H7 b = none) ∧ H7 D = none ∧ s7.heap.get? D = some { cls := .type "list", data := .seq its.toArray k } := fun {H7 s7} I7 => by
        refine ⟨T.keep _ _ _ st5 fun b hb o e => (I7.pin (b, o) (List.mem_append_right _ (List.mem_append_right _ (mem_pinsAt hb e)))).1, fun b hb => ?_, (I7.pin (D, { cls := .type "list", data := .seq its.toArray k }) (List.mem_append_right _ (List.mem_append_left _ List.mem_cons_self))).2.1, (I7.pin (D, { cls := .type "list", data := .seq its.toArray k }) (List.mem_append_right _ (List.mem_append_left _ List.mem_cons_self))).1⟩
        obtain ⟨o, e, d⟩ := T.obj _ _ st5 b hb
        exact (I7.pin (b, o) (List.mem_append_right _ (List.mem_append_right _ (mem_pinsAt hb e)))).2.1
      have elem : ∀ {H7 : Hp} {s7 : Shared}, Inv (cxComp X (xt :: yt :: fs) scope C fp s2 H2) ([(D, { cls := .type "list", data := .seq its.toArray k })] ++ pinsAt fp s5.heap) (compSt2 σ js (some x1) (some x2)) H7 s7 →
          (te C fp s2 H2 (compSt2 σ js (some x1) (some x2)) H7 fun v H3 => acc.length < sizeLine ∧ N (acc ++ [v]) H3) →
          wpAny (model X.prog X.w) X.A (eval elt (compEnvC scope (clos X.env.cells scope.names []) C X.env)) (fun y s8 => wpAny (model X.prog X.w) X.A (call (.builtin "list.append") [.ref D, y]) (fun _ s9 => ∃ m, m < n ∧ ∃ (i : Nat) (σ' : St) (H' : Hp) (acc : List V) (its : List Value) (k : Nat), (∃ v0 w0, σ' = compSt2 σ js v0 w0) ∧ Inv (cxComp X (xt :: yt :: fs) scope C fp s2 H2) [] σ' H' s9 ∧ tn i s9.heap ∧ (∀ b ∈ fp, H' b = none) ∧ H' D = none ∧
            s9.heap.get? D = some { cls := .type "list", data := .seq its.toArray k } ∧ Vals acc its ∧ acc.length ≤ sizeLine ∧ W i m acc H')
            (fun _ _ => False) s8) (fun _ _ => False) s7 := fun {H7 s7} I7 q7 => by
        refine thn (he C fp s2 H2 _ s7 _ H7 _ I7 q7) fun y s8 ⟨v, H8, I8, r8, hl8, n8⟩ => ?_
        obtain ⟨t8, fr8, hD8, d8⟩ := rest I8
        have hsz := va.length
        refine call_meets F.slot_list_append ⟨_, d8, rfl⟩ F.entry_list_append (F.args_list_append_2 _ _) (PySem.list_append D its.toArray k y (by rw [List.size_toArray]; bv_omega)) ⟨d8, ?_⟩
        have q := PySem.IsL.update d8 (·.push y)
        rw [show (its.toArray.push y) = (its ++ [y]).toArray by simp] at q
        have kk : ∀ b o, b ≠ D → s8.heap.get? b = some o → (s8.heap.update D (Obj.mapSeq (·.push y))).get? b = some o := fun b o hb e => (Heap.get?_update_other s8.heap _ (Ne.symm hb)).trans e
        have I9 : Inv (cxComp X (xt :: yt :: fs) scope C fp s2 H2) [] (compSt2 σ js (some x1) (some x2)) H8 { s8 with heap := s8.heap.update D (Obj.mapSeq (·.push y)) } := by
          refine Inv.turned (it := D) (t' := s8.toks) (I8.pins_of (pins' := []) fun p hp => nomatch hp) kk hD8 hDC (.inr hDle) (fun x c e z => ?_) fun p hp => absurd (show p ∈ ([] : List (Addr × Obj)) from hp) (by simp)
          obtain ⟨v, o, ho, _⟩ := I2.cell x c (S.sub h0 I2.ok x c e)
          exact bD c o ho z
        refine fin I9 (T.keep _ _ _ t8 fun b hb o e => kk b o (Nat.ne_of_lt (Nat.lt_of_lt_of_le (blt b hb) hDle)) e) fr8 hD8 q (va.append (.cons r8 .nil)) ?_ n8
        rw [List.length_append, List.length_singleton]
        bv_omega
      have htt := ht C fp s2 H2
      generalize tt C fp s2 H2 = tt' at htt q6
      cases htt with
      | nil =>
        refine wpAny_bind (wpAny_pure ?_)
        dsimp only [tTrue] at q6
        rw [if_pos rfl] at q6
        refine wpAny_mono (wpAny_bind (wpAny_bind (thn (elem I6 q6) fun y s8 h8 => wpAny_bind (thn h8 fun _ s9 h9 => wpAny_pure (wpAny_pure ⟨rfl, h9⟩))))) (fun _ _ z => z) fun _ _ z => False.elim z
      | one ht1 =>
        refine wpAny_bind (wpAny_tests_one (wpAny_mono (ht1 _ s6 _ H6 _ I6 q6) (fun b s7 ⟨H7, I7, q7⟩ => ?_) noE))
        cases b with
        | false =>
          rw [if_neg Bool.false_ne_true] at q7
          obtain ⟨t8, fr8, hD8, d8⟩ := rest I7
          exact wpAny_pure ⟨rfl, fin (I7.pins_of (pins' := []) fun p hp => nomatch hp) t8 fr8 hD8 d8 va hz q7⟩
        | true =>
          rw [if_pos rfl] at q7
          refine wpAny_mono (wpAny_bind (wpAny_bind (thn (elem I7 q7) fun y s8 h8 => wpAny_bind (thn h8 fun _ s9 h9 => wpAny_pure (wpAny_pure ⟨rfl, h9⟩))))) (fun _ _ z => z) fun _ _ z => False.elim z
  exact codeAny_compStart_list loop (T.self X.A 0 _ _ _ (T.keep 0 _ _ st2 fun b hb o e => old b o e) loop)
theorem ps_comp2 {X : Cx} {elt iter : Expr} {ifs : List Expr} {sc0 scope : Scope} {N0 : List Str} {px pw tp py pos spos : Pos} {k1 : Nat} {xt yt y : Str} {fs : List Str} {js : List Nat} {i : Nat} {wi : TI} {tt : Addr → List Addr → Shared → Hp → TT} {te : Addr → List Addr → Shared → Hp → TE} (S : CScope2 sc0 scope N0 xt yt fs js) (h0 : X.env.scope = sc0) (hN0 : X.N = N0) (hc : X.calm = true)
    (hi : PI X (.Tuple [.Name xt px, .Name yt pw] k1 tp) iter wi) (ht : ∀ C fp s₂ H, PTs (cxComp X (xt :: yt :: fs) scope C fp s₂ H) ifs (tt C fp s₂ H)) (he : ∀ C fp s₂ H, PE (cxComp X (xt :: yt :: fs) scope C fp s₂ H) elt (te C fp s₂ H))
    (nd : X.N.Nodup) (hy : X.N[i]? = some y) (hl : Loc X.env.scope y) (hsw : swapsWith (.ListComp elt [⟨.Tuple [.Name xt px, .Name yt pw] k1 tp, iter, ifs, 0⟩] scope pos) (some (.Name y py)) spos.line X.env = pure true)
    (hs : autoParam (∀ x, foldedSetIterable iter X.env x = pure x) autoK4._auto_1) (hf : autoParam (X.fn y = true ∨ X.env.scope.names.lookup y = some .local) autoK1._auto_1) :
    PS X (.Assign [.Name y py] (.ListComp elt [⟨.Tuple [.Name xt px, .Name yt pw] k1 tp, iter, ifs, 0⟩] scope pos) spos) (tAsg (tComp2 X.K wi tt te js) (gName i)) := by
  intro pins s σ H E I h
  rw [exec_Assign_Name_used _ _ _ _ hsw]
  refine wpAny_bind (wpAny_standAt (wpAny_bind ?_))
  show wpAny _ X.A (do let _ ← comprehension (.ListComp elt [⟨.Tuple [.Name xt px, .Name yt pw] k1 tp, iter, ifs, 0⟩] scope pos) scope X.env _ (newList []) false (eval iter X.env) (some (assign (.Name y py) X.env))) _ _ s
  refine wpAny_bind (thn (comp_core2 S h0 hN0 hc hi ht he hs (use := some (assign (.Name y py) X.env)) (Qv := fun _ s' => SP X pins E .next s') I h fun s' C D Ha fl hI hns hC q => ?_) fun _ s' hq => wpAny_pure (wpAny_pure hq))
  show wpAny (model X.prog X.w) X.A (assign (.Name y py) X.env (.ref D)) (fun _ s'' => ∃ m, s''.heap.Ns C m ∧ ∀ h', Heap.SameBut C s''.heap h' → SP X pins E .next { s'' with heap := h' }) X.xe s'
  obtain ⟨m, oC, es, ep, hgC, hdC, hrC⟩ := hns
  have I1 : Inv X pins σ Ha s' := hI s'.heap ⟨rfl, fun b _ => rfl⟩
  have I2 : Inv X (pins ++ [(C, oC)]) σ Ha s' := I1.pins_of fun p hp => by
    rcases List.mem_append.mp hp with z | z
    · exact I1.pin p (List.mem_append_right _ z)
    · have : p = (C, oC) := by simpa using z
      subst this
      exact ⟨hgC, hC.1, hC.2.1, hC.2.2.1, fun v z => by rw [hdC] at z; cases z⟩
  refine wpAny_assign_Name (store_ok I2 nd hy hl (show RelV (.ref D) (.ref D) from rfl) (fun s'' I3 => ?_) hf)
  have hgC' := (I3.pin (C, oC) (List.mem_append_right _ (List.mem_append_right _ List.mem_cons_self))).1
  refine ⟨m, ⟨oC, es, ep, hgC', hdC, hrC⟩, fun h' hsb => ?_⟩
  have I4 : Inv X pins (σ.set i (some (.ref D))) Ha s'' := I3.pins_of fun p hp => I3.pin p (List.mem_append_right _ (List.mem_append_left _ hp))
  exact ⟨_, Ha, Inv.turned (it := C) (t' := s''.toks) I4 (fun b o hb e => (hsb.2 b hb).trans e) hC.1 hC.2.1 hC.2.2.2.1 hC.2.2.2.2.1 hC.2.2.2.2.2, q⟩
end L2
namespace L2.L3
open PySem PySem.Spec PyProof.Rows
variable [CN]
theorem comp_read2 {C : Ct} {elt : Expr} {ifs : List Expr} {scope : Scope} {N : List Str} {js : List Nat} {mi : Ev → Res (List D)} {mt : Ev → Res Bool} {me : Ev → Res D} {wi : TI}
    (qi : ∀ (Oc : Wd) (Ob : Addr → Prop) (σ : St) (H : Hp) (ρ : Ev) (R : It → Hp → Prop), Rel Oc Ob C.om C.ln σ H ρ → (mi ρ).post (fun ds => ∀ J H1, Same H H1 → WalksS Oc Ob J H1 ds → R J H1) (fun c => ∀ H', Same H H' → C.XE c H') → wi σ H R)
    (ht : ∀ A fp s₂ H, RTs (cC2 C N scope A fp s₂ H js) ifs mt) (he : ∀ A fp s₂ H, RE (cC2 C N scope A fp s₂ H js) .cl elt me)
    {Oc : Wd} {Ob : Addr → Prop} {σ : St} {H : Hp} {ρ : Ev} {Q : VK} (R : Rel Oc Ob C.om C.ln σ H ρ) (h : (eComp2 mi mt me js ρ).post (fun d => ∀ v H', Same H H' → VR .new Oc Ob H H' v d → Q v H') (fun c => ∀ H', Same H H' → C.XE c H')) :
    tComp2 C.X.K wi (fun A fp s H => Classical.choose (ht A fp s H)) (fun A fp s H => Classical.choose (he A fp s H)) js σ H Q := by
  refine qi Oc Ob σ H ρ _ R (Res.post_mono (Res.post_bind h) (fun ds _ k J H1 s1 wk => ?_) fun _ z => z)
  intro A fp s₂ H₂
  have qt := (Classical.choose_spec (ht A fp s₂ H₂)).2
  have qe := (Classical.choose_spec (he A fp s₂ H₂)).2
  have k : (if ds.length ≤ sizeLine then (compM (fun d => pr2 d fun x y => mt (cEnv2 ρ js x y)) (fun d => pr2 d fun x y => me (cEnv2 ρ js x y)) ds).bind fun out => Res.ok (PyData.list out) else .no).post (fun d => ∀ v H', Same H H' → VR .new Oc Ob H H' v d → Q v H') (fun c => ∀ H', Same H H' → C.XE c H') := k
  by_cases hlen : ds.length ≤ sizeLine
  · rw [if_pos hlen] at k
    generalize hT : (fun d => pr2 d fun x y => mt (cEnv2 ρ js x y)) = T at k
    generalize hF : (fun d => pr2 d fun x y => me (cEnv2 ρ js x y)) = F at k
    cases ec : compM T F ds with
    | no => rw [ec] at k; exact k.elim
    | ex c =>
      exfalso
      have nex : ∀ xs c, compM T F xs ≠ .ex c := by
        intro xs
        induction xs with
        | nil => intro c z; cases z
        | cons x xs ih =>
          intro c z
          rw [compM] at z
          cases e1 : noEx (T x) with
          | no => rw [e1] at z; cases z
          | ex c' => cases hx : T x <;> rw [hx] at e1 <;> cases e1
          | ok b =>
            rw [e1, Res.bind_ok] at z
            cases b with
            | false => exact ih c z
            | true =>
              simp only [if_true] at z
              cases e2 : noEx (F x) with
              | no => rw [e2] at z; cases z
              | ex c' => cases hx : F x <;> rw [hx] at e2 <;> cases e2
              | ok y =>
                rw [e2, Res.bind_ok] at z
                cases e3 : compM T F xs with
                | no => rw [e3] at z; cases z
                | ex c' => exact ih c' e3
                | ok ys => rw [e3] at z; cases z
      exact nex ds c ec
    | ok out =>
      rw [ec, Res.bind_ok] at k
      refine ⟨fun i m acc H => m = ds.length - i ∧ i ≤ ds.length ∧ Same H1 H ∧ ∃ done rest, Reps H (Uni Oc Ob) acc done ∧ acc.length ≤ i ∧ compM T F (ds.drop i) = .ok rest ∧ done ++ rest = out, ⟨_, rfl, Nat.zero_le _, Same.refl _, [], out, .nil, Nat.le_refl _, ec, rfl⟩, ?_⟩
      rintro i m acc H2 ⟨rfl, hi, s2, done, rest, ra, la, er, eo⟩
      obtain ⟨w1, w2⟩ := wk H2 s2 i
      have R2 := (R.same s1).same s2
      by_cases hlt : i < ds.length
      · obtain ⟨go, yl⟩ := w1 ds[i] (List.getElem?_eq_getElem hlt)
        have ed : ds.drop i = ds[i] :: ds.drop (i + 1) := List.drop_eq_getElem_cons hlt
        rw [ed, compM] at er
        have nxt : ∀ (acc' : List V) (H3 : Hp) (done' rest' : List D), Same H2 H3 → Reps H3 (Uni Oc Ob) acc' done' → acc'.length ≤ i + 1 → compM T F (ds.drop (i + 1)) = .ok rest' → done' ++ rest' = out →
            ∃ m', m' < ds.length - i ∧ (m' = ds.length - (i + 1) ∧ i + 1 ≤ ds.length ∧ Same H1 H3 ∧ ∃ done rest, Reps H3 (Uni Oc Ob) acc' done ∧ acc'.length ≤ i + 1 ∧ compM T F (ds.drop (i + 1)) = .ok rest ∧ done ++ rest = out) :=
          fun acc' H3 done' rest' s3 r3 l3 c3 o3 => ⟨_, by bv_omega, rfl, hlt, s2.trans s3, done', rest', r3, l3, c3, o3⟩
        refine .inr ⟨go, fun acc' H' => ∃ m', m' < ds.length - i ∧ (m' = ds.length - (i + 1) ∧ i + 1 ≤ ds.length ∧ Same H1 H' ∧ ∃ done rest, Reps H' (Uni Oc Ob) acc' done ∧ acc'.length ≤ i + 1 ∧ compM T F (ds.drop (i + 1)) = .ok rest ∧ done ++ rest = out), fun acc' H' z => z, fun x H3 hy => ?_⟩
        obtain ⟨s3, rx⟩ := yl x H3 hy
        cases e1 : noEx (T ds[i]) with
        | no => rw [e1] at er; cases er
        | ex c => rw [e1] at er; cases er
        | ok b =>
          rw [e1, Res.bind_ok] at er
          have t0 := noEx_ok e1
          rw [← hT] at t0
          obtain ⟨da, db, ed2, t1⟩ := pr2_ok t0
          rw [ed2] at rx
          obtain ⟨ta, x1, x2, rfl, hsq, rx1, rx2⟩ := rep_pair (K := C.X.K) rx
          have R3 := (R2.same s3).comp2 (js := js) rx1 rx2
          refine ⟨ta, x1, x2, rfl, hsq, ?_⟩
          refine qt _ _ _ H3 _ _ R3 ?_
          show (mt (cEnv2 ρ js da db)).post _ _
          rw [t1]
          intro H4 s4
          cases b with
          | false => exact iteF (nxt acc H4 done rest (s3.trans s4) (ra.same (s3.trans s4)) (by bv_omega) er eo)
          | true =>
            refine iteT ?_
            simp only [if_true] at er
            cases e2 : noEx (F ds[i]) with
            | no => rw [e2] at er; cases er
            | ex c => rw [e2] at er; cases er
            | ok y =>
              rw [e2, Res.bind_ok] at er
              have t2 : me (cEnv2 ρ js da db) = .ok y := by
                have t2 := noEx_ok e2
                rw [← hF, ed2] at t2
                exact t2
              refine qe _ _ _ H4 _ _ (R3.same s4) ?_
              show (me (cEnv2 ρ js da db)).post _ _
              rw [t2]
              intro v H5 s5 rv
              refine ⟨by bv_omega, ?_⟩
              obtain ⟨ys, e3⟩ : ∃ ys, compM T F (ds.drop (i + 1)) = .ok ys := by
                cases e3 : compM T F (ds.drop (i + 1)) with
                | no => rw [e3] at er; cases er
                | ex c => rw [e3] at er; cases er
                | ok ys => exact ⟨ys, rfl⟩
              rw [e3, Res.bind_ok] at er
              cases er
              have rv' : Rep H5 (Uni Oc Ob) v y := Rep.less rv fun b z => .inl z
              refine nxt (acc ++ [v]) H5 (done ++ [y]) ys ((s3.trans s4).trans s5) ((ra.same ((s3.trans s4).trans s5)).append (.one rv')) (by rw [List.length_append, List.length_singleton]; bv_omega) e3 ?_
              rw [List.append_assoc]
              exact eo
      · have ei : i = ds.length := by bv_omega
        subst ei
        refine .inl ⟨w2 (Nat.le_refl _), fun p hp => ?_⟩
        rw [List.drop_length] at er
        cases er
        rw [List.append_nil] at eo
        subst eo
        exact k _ _ ((s1.trans s2).trans (Same.new hp)) (new_list (s1.trans s2) hp ra)
  · rw [if_neg hlen] at k
    exact k.elim
theorem rs_comp2 {C : Ct} {fr : Bool} (i : Nat) {elt iter : Expr} {ifs : List Expr} {sc0 scope : Scope} {N0 : List Str} {px pw tp py pos spos : Pos} {k1 : Nat} {xt yt y : Str} {fs : List Str} {js : List Nat} {mi : Ev → Res (List D)} {mt : Ev → Res Bool} {me : Ev → Res D} (nd : C.X.N.Nodup) (S : CScope2 sc0 scope N0 xt yt fs js) (h0 : C.X.env.scope = sc0) (hN0 : C.X.N = N0) (hc : C.X.calm = true)
    (hi : RIc C (.Tuple [.Name xt px, .Name yt pw] k1 tp) iter mi) (ht : ∀ A fp s₂ H, RTs (cC2 C (xt :: yt :: fs) scope A fp s₂ H js) ifs mt) (he : ∀ A fp s₂ H, RE (cC2 C (xt :: yt :: fs) scope A fp s₂ H js) .cl elt me)
    (hy : autoParam (C.X.N[i]? = some y) autoK5._auto_1) (ho : autoParam (C.om.contains i = false) autoK5._auto_1) (hln : autoParam (C.ln.contains i = false) autoK5._auto_1) (hl : autoParam (Loc C.X.env.scope y) autoK11._auto_1)
    (hsw : autoParam (swapsWith (.ListComp elt [⟨.Tuple [.Name xt px, .Name yt pw] k1 tp, iter, ifs, 0⟩] scope pos) (some (.Name y py)) spos.line C.X.env = pure true) autoK5._auto_1) (hs : autoParam (∀ x, foldedSetIterable iter C.X.env x = pure x) autoK4._auto_1) (hf : autoParam (C.X.fn y = true ∨ C.X.env.scope.names.lookup y = some .local) autoK12._auto_1) :
    RS C fr (.Assign [.Name y py] (.ListComp elt [⟨.Tuple [.Name xt px, .Name yt pw] k1 tp, iter, ifs, 0⟩] scope pos) spos) (sS i (eComp2 mi mt me js)) := by
  obtain ⟨wi, pi, qi⟩ := hi
  refine ⟨_, ps_comp2 (tt := fun A fp s H => Classical.choose (ht A fp s H)) (te := fun A fp s H => Classical.choose (he A fp s H)) S h0 hN0 hc pi (fun A fp s H => (Classical.choose_spec (ht A fp s H)).1) (fun A fp s H => (Classical.choose_spec (he A fp s H)).1) nd hy hl hsw hs hf, fun Oc Ob σ H ρ E R h => ?_⟩
  refine comp_read2 qi ht he R (Res.post_mono (Res.post_bind h) (fun d _ k v H' s r => ?_) fun c z H' s => z H' (Same.frm s))
  exact k _ H' Ob ((R.same s).set (not_mem_of ho) (not_mem_of hln) (VR.clean r R.oh)) (Same.frm s) fun b z => .inl z
end L2.L3
namespace L2.L3
open PySem
variable [CN]
theorem eComp2_ap (mi : Ev → Res (List D)) (mt : Ev → Res Bool) (me : Ev → Res D) (js : List Nat) (ρ : Ev) : eComp2 mi mt me js ρ = (mi ρ).bind fun ds => if ds.length ≤ sizeLine then (compM (fun d => pr2 d fun x y => mt (cEnv2 ρ js x y)) (fun d => pr2 d fun x y => me (cEnv2 ρ js x y)) ds).bind fun out => .ok (.list out) else .no := rfl
theorem eComp2_eq {mi : Ev → Res (List D)} {t : Ev → Res Bool} {me : Ev → Res D} {js : List Nat} {ρ : Ev} {α : Type} (A B : α → D) (p : α → Bool) (q : α → D) (xs : List α) (h : mi ρ = .ok (xs.map fun x => PyData.tuple [A x, B x])) (hl : xs.length ≤ 1000)
    (ht : ∀ x ∈ xs, t (cEnv2 ρ js (A x) (B x)) = .ok (p x)) (hf : ∀ x ∈ xs, p x = true → me (cEnv2 ρ js (A x) (B x)) = .ok (q x)) : eComp2 mi t me js ρ = .ok (.list ((xs.filter p).map q)) := by
  rw [eComp2_ap, h, Res.bind_ok, comp_le (by rw [List.length_map]; exact hl), compM_map (fun x => PyData.tuple [A x, B x]) p q xs (fun x hx => ht x hx) (fun x hx hp => hf x hx hp)]
  rfl
theorem eComp2_all {mi : Ev → Res (List D)} {me : Ev → Res D} {js : List Nat} {ρ : Ev} {α : Type} (A B : α → D) (q : α → D) (xs : List α) (h : mi ρ = .ok (xs.map fun x => PyData.tuple [A x, B x])) (hl : xs.length ≤ 1000)
    (hf : ∀ x ∈ xs, me (cEnv2 ρ js (A x) (B x)) = .ok (q x)) : eComp2 mi tYes me js ρ = .ok (.list (xs.map q)) := by
  rw [eComp2_eq A B (fun _ => true) q xs h hl (fun _ _ => rfl) (fun x hx _ => hf x hx), List.filter_eq_self.mpr fun _ _ => rfl]
end L2.L3
namespace L2.L3
open PySem PyProof.Rows
variable [CN]
section
variable {X : Cx}
end
noncomputable def revL : D → Option D
  | .list ds => some (.list ds.reverse)
  | _ => none
noncomputable def eRevL (m : Ev → Res D) : Ev → Res D := fun ρ => (m ρ).bind fun d => Res.lft (revL d)
theorem eRevL_ap (m : Ev → Res D) (ρ : Ev) : eRevL m ρ = (m ρ).bind fun d => Res.lft (revL d) := rfl
end L2.L3
namespace HT
open PySem PyProof.Rows
section
variable {prog : Program} {w : World} {A : Around} {E : Value → Shared → Prop} {s : Shared}
end
end HT
namespace L2.L3
open PySem PyProof.Rows
variable [CN]
section
variable {X : Cx}
end
end L2.L3
namespace L2.L3
open PySem PyProof.Rows
variable [CN]
theorem VAs.dat {K : PySem.W.Frag} {Oc : Wd} {Ob : Addr → Prop} {H : Hp} : ∀ {vs : List V} {ds : List D}, VAs Oc Ob H vs ds → PyData.canLayAll0 ds = true → DatAll K H vs ds
  | _, _, .nil, _ => .nil
  | _, _, .cons h t, c => .cons (VA.dat h (Bool.and_eq_true_iff.mp c).1) (VAs.dat t (Bool.and_eq_true_iff.mp c).2)
theorem VAs.length {Oc : Wd} {Ob : Addr → Prop} {H : Hp} : ∀ {vs : List V} {ds : List D}, VAs Oc Ob H vs ds → vs.length = ds.length
  | _, _, .nil => rfl
  | _, _, .cons _ t => by rw [List.length_cons, List.length_cons, VAs.length t]
end L2.L3
set_option maxHeartbeats 4000000
namespace L2.L3
open PySem PySem.Spec PyProof.Rows
variable [CN]
end L2.L3
set_option maxHeartbeats 4000000
namespace L2.L3
open PySem PySem.Spec PyProof.Rows
variable [CN]
section
variable {X : Cx}
end
end L2.L3
set_option maxHeartbeats 4000000
namespace HT
open PySem PyProof.Rows
section
open PySem.SeqAt
open PySem.AutoSeq1 (wpAny_loadPart')
open PySem.MeetsSeq PySem.MeetsSeq2 PySem.MeetsSeq3
end
section
variable {prog : Program} {w : World} {A : Around} {E : Value → Shared → Prop} {s : Shared}
end
end HT
namespace L2.L3
open PySem PySem.Spec PyProof.Rows
variable [CN]
section
variable {X : Cx}
end
end L2.L3
set_option maxHeartbeats 4000000
namespace L2.L3
open PySem PyProof.Rows
variable [CN]
section
variable {X : Cx}
end
end L2.L3
namespace L2.L3
universe u
theorem ls0 {α : Type u} {P : List α → Prop} (h : P []) : ∀ us : List α, us.length = 0 → P us := fun us e => by
  rw [List.eq_nil_of_length_eq_zero e]
  exact h
theorem lsS {α : Type u} {P : List α → Prop} {n : Nat} (h : ∀ a us, us.length = n → P (a :: us)) : ∀ us : List α, us.length = n + 1 → P us := fun us e => by
  cases us with
  | nil => cases e
  | cons a us => exact h a us (Nat.succ.inj e)
theorem ls1 {α : Type u} {P : List α → Prop} (h : ∀ a, P [a]) : ∀ us : List α, us.length = 1 → P us := lsS fun a => ls0 (h a)
theorem ls2 {α : Type u} {P : List α → Prop} (h : ∀ a b, P [a, b]) : ∀ us : List α, us.length = 2 → P us := lsS fun a => ls1 (h a)
theorem ls3 {α : Type u} {P : List α → Prop} (h : ∀ a b c, P [a, b, c]) : ∀ us : List α, us.length = 3 → P us := lsS fun a => ls2 (h a)
theorem ls4 {α : Type u} {P : List α → Prop} (h : ∀ a b c d, P [a, b, c, d]) : ∀ us : List α, us.length = 4 → P us := lsS fun a => ls3 (h a)
theorem ls5 {α : Type u} {P : List α → Prop} (h : ∀ a b c d e, P [a, b, c, d, e]) : ∀ us : List α, us.length = 5 → P us := lsS fun a => ls4 (h a)
end L2.L3
set_option maxHeartbeats 4000000
namespace L2.L3
open PySem PySem.Spec PyProof.Rows
variable [CN]
noncomputable def Raw (B : Heap) (e : Addr) (cls a0 : Value) (h : Heap) : Prop :=
  h.TracedW B e cls a0 ∨ ∃ oe vs, h.get? e = some oe ∧ oe.cls = cls ∧ oe.data = .fields vs ∧ vs[1]? = some .none ∧ vs[0]? = some a0
structure Fl (stk : List Env) (h1 : Heap) (H : Hp) (e : Addr) (cls : Value) (B : Heap) (a0 : Value) (h : Heap) : Prop where
  stays : B.StaysIn h
  newB : B.get? e = none
  frm : h.FunFrames B stk
  raw : Raw B e cls a0 h
  cov : ∀ b o, h.get? b = some o → b ∉ frs stk → (h1.get? b ≠ none ∨ H b ≠ none) → B.get? b = some o
noncomputable def ExcAt (X : Cx) (c : Str) (H : Hp) (e : Value) (s : Shared) : Prop :=
  ∃ (pins : List (Addr × Obj)) (σ : St) (s1 : Shared) (H1 : Hp) (a : Addr) (B : Heap) (a0 : Value), Inv X pins σ H1 s1 ∧ Inv X pins σ H s ∧ Un (frs X.stack) [] H1 H s1.heap s.heap ∧ e = .ref a ∧ s1.heap.get? a = none ∧ H a = none ∧ Fl X.stack s1.heap H a (.ref (CN.ad c)) B a0 s.heap
noncomputable def CXV (P : Program) (w : World) : CXT := fun outer H s E e s' =>
  ∃ (a : Addr) (cls : Value) (B : Heap) (a0 : Value) (H' : Hp), e = .ref a ∧ s'.os = s.os ∧ AllBare s'.gens ∧ Un (frs outer) [] H H' s.heap s'.heap ∧ HOk P w H' s'.heap ∧ s.heap.get? a = none ∧ H' a = none ∧ Fl outer s.heap H' a cls B a0 s'.heap ∧ E cls none H'
theorem obj_there {P : Program} {w : World} {H : Hp} {h : Heap} {a : Addr} {o : HO} (x : ObjOk P w H h a o) : ∃ u, h.get? a = some u := by
  cases o with
  | lst xs => exact ⟨_, x.2.choose_spec.choose_spec.2⟩
  | tup xs => obtain ⟨_, its, _, ob, e, _⟩ := x; exact ⟨ob, e⟩
  | dK kvs => obtain ⟨_, _, _, _, ob, _, _, e, _⟩ := x; exact ⟨ob, e⟩
  | dT kvs => obtain ⟨_, _, _, _, ob, _, _, e, _⟩ := x; exact ⟨ob, e⟩
  | set S n => obtain ⟨ob, _, _, _, e, _⟩ := x; exact ⟨ob, e⟩
  | ins C dx fs => obtain ⟨_, _, _, e, _⟩ := x; exact ⟨_, e⟩
  | own y => exact x
  | xd fs => obtain ⟨_, ⟨ob, _, _, e, _⟩, _⟩ := x; exact ⟨ob, e⟩
  | rng lo hi => obtain ⟨_, _, _, e⟩ := x; exact ⟨_, e⟩
  | frz ob u => exact ⟨ob, x.1⟩
  | tbl ps => exact ⟨_, x⟩
  | met f y => exact ⟨_, x⟩
  | ext φ => exact x.2.1
theorem hok_there {P : Program} {w : World} {H : Hp} {h : Heap} {a : Addr} (x : HOk P w H h) (n : H a ≠ none) : ∃ u, h.get? a = some u := by
  cases e : H a with
  | none => exact absurd e n
  | some o => exact obj_there (x a o e)
theorem ne_some {α : Type} {o : Option α} (h : o ≠ none) : ∃ x, o = some x := by
  cases o with
  | none => exact absurd rfl h
  | some x => exact ⟨x, rfl⟩
theorem some_ne {α : Type} {o : Option α} {x : α} (h : o = some x) : o ≠ none := by
  rw [h]; exact fun z => nomatch z
theorem exc_leave {X : Cx} {c : Str} {H : Hp} {e : Value} {s : Shared} {E : XK} {E2 : Value → Shared → Prop} (x : ExcAt X c H e s) (hst : X.stack = X.env :: X.outer) (hfr : X.env.frame = some X.env.locals) (hex : X.ex = []) (hE : E (.ref (CN.ad c)) none H) :
    wpAny (model X.prog X.w) X.A (leaving X.env e) (fun _ s'' => CXV X.prog X.w X.outer X.H₀ X.s₀ E e s'') E2 s := by
  obtain ⟨pins, σ, s1, H1, a, B, a0, I1, I, un, rfl, n1, n2, f⟩ := x
  have noex : ∀ b : Addr, b ∉ X.ex := fun b z => by rw [hex] at z; cases z
  have hfs : frs X.stack = X.env.locals :: X.fs := by
    rw [hst]
    show List.filterMap _ _ = _
    rw [List.filterMap_cons, hfr]
    rfl
  have hfrm : s.heap.FunFrames B (X.env :: X.outer) := by rw [← hst]; exact f.frm
  have hA : X.A.frames = some (X.env :: X.outer) := by rw [← hst]; exact I.ok.frames
  have oldL : ∀ b o, X.s₀.heap.get? b = some o → b ≠ X.env.locals := fun b o q z => by
    subst z
    exact absurd (Heap.lt_size q) (Nat.not_lt.mpr I.ok.above)
  have old1 : ∀ b o, X.s₀.heap.get? b = some o → s1.heap.get? b ≠ none := fun b o q => let ⟨_, e⟩ := I1.base.there b o q (noex b); some_ne e
  have key : ∀ h', Heap.LeftW B (X.env :: X.outer) a (.ref (CN.ad c)) a0 s.heap h' → CXV X.prog X.w X.outer X.H₀ X.s₀ E (.ref a) { s with heap := h' } := by
    rintro h' ⟨k1, k2, k3, k4⟩
    have kp : ∀ b o, s.heap.get? b = some o → b ∉ frs X.stack → (s1.heap.get? b ≠ none ∨ H b ≠ none) → h'.get? b = some o := fun b o q n z => k1 b o (f.cov b o q n z)
    have out : ∀ b, b ∉ X.fs → b ≠ X.env.locals → b ∉ frs X.stack := fun b n1 n2 z => by
      rw [hfs] at z
      rcases List.mem_cons.mp z with z | z
      · exact n2 z
      · exact n1 z
    have trk : ∀ b, H b ≠ none → b ∉ frs X.stack := fun b n z => n (I.stkFree b z)
    refine ⟨a, _, B, a0, H, rfl, I.os, I.bare, ⟨fun b o q n hb hx => ?_, fun b o q n hb hx => ?_, fun b o q n hx => I.base.free b o q n (noex b), fun b o q hx => ?_, I.base.tups, I.base.frzs, I.base.tbls⟩, fun b o q => ?_, ?_, n2, ⟨k1, f.newB, k2.2.2, .inl k3, fun b o q n z => ?_⟩, hE⟩
    · exact kp b o (I.base.keep b o q n hb (noex b)) (out b hb (oldL b o q)) (.inl (old1 b o q))
    · obtain ⟨sl, e⟩ := I.base.slot b o q n hb (noex b)
      obtain ⟨_, o', e', nf⟩ := f.frm.mem (b := b) (by show b ∈ frs X.stack; rw [hfs]; exact List.mem_cons_of_mem _ hb)
      rw [e] at e'
      cases e'
      obtain ⟨sl', e2⟩ := k4 b _ e nf
      exact ⟨sl', e2⟩
    · by_cases hb : b ∈ frs X.stack
      · obtain ⟨_, o', e', _⟩ := k2.mem (b := b) (by rw [hst] at hb; exact hb)
        exact ⟨o', e'⟩
      · obtain ⟨o', e'⟩ := I.base.there b o q (noex b)
        exact ⟨o', kp b o' e' hb (.inl (old1 b o q))⟩
    · refine (I.hok b o q).stay (fun b' u hb' e => ?_) (fun _ z => z) fun _ _ z => z
      have n : H b' ≠ none := by
        rcases hb' with rfl | hb'
        · exact some_ne q
        · exact some_ne hb'
      exact kp b' u e (trk b' n) (.inr n)
    · cases q : X.s₀.heap.get? a with
      | none => rfl
      | some o => exact absurd n1 (old1 a o q)
    · have nL : b ≠ X.env.locals := by
        rcases z with z | z
        · obtain ⟨o', q'⟩ := ne_some z
          exact oldL b o' q'
        · intro y
          subst y
          exact z I.free
      have ns : b ∉ frs X.stack := out b n nL
      obtain ⟨o2, q2⟩ : ∃ o2, s.heap.get? b = some o2 := by
        rcases z with z | z
        · obtain ⟨o', q'⟩ := ne_some z
          exact I.base.there b o' q' (noex b)
        · exact hok_there I.hok z
      have z' : s1.heap.get? b ≠ none ∨ H b ≠ none := by
        rcases z with z | z
        · obtain ⟨o', q'⟩ := ne_some z
          exact .inl (old1 b o' q')
        · exact .inr z
      have hB := f.cov b o2 q2 ns z'
      have q3 := k1 b o2 hB
      have q4 : h'.get? b = some o := q
      rw [q3] at q4
      cases q4
      exact hB
  rcases f.raw with t | ⟨oe, vs, he, hc, hd, h1, h0⟩
  · exact wpAny_leaving_nextW hA hfrm hfr t f.stays f.newB key
  · rw [← hc] at key
    exact wpAny_leaving_firstW hA hfrm hfr he f.stays f.newB hd h1 h0 key
noncomputable def Br (C : Ct) : Prop := ∀ (c : Str) (H : Hp) (e : Value) (s : Shared), ExcAt C.X c H e s → C.XE c H → C.X.xe e s
theorem br_no {C : Ct} (h : ∀ c H, C.XE c H → False) : Br C := fun c H _ _ _ z => (h c H z).elim
noncomputable def wX (C : Ct) : XK := fun v _ H => ∃ c, v = .ref (CN.ad c) ∧ C.XE c H
theorem passX {C : Ct} (hb : Br C) : Passes (CXV C.X.prog C.X.w) C.X (wX C) := by
  intro pins σ H s e s' I h
  obtain ⟨a, cls, B, a0, H', rfl, os, bare, un, hok, n1, n2, f, c, rfl, z⟩ := h
  exact hb c H' _ s' ⟨pins, σ, s, H, a, B, a0, I, I.call' os un hok bare (fun b z => by cases z), un, rfl, n1, n2, f⟩ z
noncomputable def spX (fr : Bool) (F : List D → Res D) : Sp := fun vs H Q E => ∃ (ds : List D) (O : Addr → Prop), (∀ a, O a → H a ≠ none) ∧ Reps H O vs ds ∧ (F ds).post (fun d => ∀ v H', Same H H' → CallOk fr O H H' v d → Q v H') (fun c => ∀ H', Same H H' → E (.ref (CN.ad c)) none H')
section
variable {P : Program} {w : World} {K : PySem.W.Frag} {mg : Str → Option Value} {base : Heap}
noncomputable abbrev bodyX (P : Program) (w : World) (K : PySem.W.Frag) (mg : Str → Option Value) (base : Heap) (N : List Str) (x : Str) (sc : Scope) (f : Addr) (cdv : Value) (A : Around) (outer : List Env) (s : Shared) (H : Hp) (E : XK) (om : List Nat) : Ct :=
  ⟨cxOf (CXV P w) P w K mg base N x sc f cdv A outer s H E, fun c H' => E (.ref (CN.ad c)) none H', om, []⟩
theorem br_body {N : List Str} {x : Str} {sc : Scope} {f : Addr} {cdv : Value} {A : Around} {outer : List Env} {s : Shared} {H : Hp} {E : XK} {om : List Nat} : Br (bodyX P w K mg base N x sc f cdv A outer s H E om) :=
  fun c H' e s' x h => exc_leave x rfl rfl rfl h
theorem fnX_ok {x : Str} {st : Stmt} {f : Addr} {fd : FuncData} {N ps : List Str} {k : Nat} {m : Ev → Res Out} {fr : Bool} (om : List Nat) (F : Fun K x x st f fd) (S : FnScope N ps (defScope st))
    (hbody : ∀ (cdv : Value) (A : Around) (outer : List Env) (s : Shared) (H : Hp) (E : XK), Room k (A.deeper (envOfC x (defScope st) s.heap.objs.size f cdv)) → RSs (bodyX P w K mg base N x (defScope st) f cdv A outer s H E om) fr (defBody st) m)
    (hom : autoParam (om.all (fun i => decide (ps.length ≤ i)) = true) autoK5._auto_1) :
    FnOk P w K mg base (CXV P w) (k + 1) f fd ps (spX fr (runF fr ps.length N.length m)) := by
  have len : ∀ (vs : List V) (H : Hp) (Q : VK) (E : XK), spX fr (runF fr ps.length N.length m) vs H Q E → vs.length = ps.length := fun vs H Q E h => by
    obtain ⟨ds, O, oh, r, k⟩ := h
    unfold runF at k
    split at k
    · rename_i hl
      rw [r.length]; exact hl
    · exact k.elim
  obtain ⟨oc, od, kV, doc, pm, an, cdv, ct, osl, rfl, lk, hcd⟩ := F.ex
  refine fn_of lk hcd S len fun A outer s H vs Q E hr h => ?_
  have hvl := len vs H Q E h
  obtain ⟨ds, O, oh, r, k⟩ := h
  have hl : ds.length = ps.length := by rw [← r.length]; exact hvl
  unfold runF at k
  rw [if_pos hl] at k
  obtain ⟨t, p, q⟩ := hbody cdv A outer s H E hr
  refine ⟨t, p, q ⟨O, fun _ => 0⟩ (fun _ => False) _ H (ds.map some ++ List.replicate (N.length - ps.length) none) _ ?_ ?_⟩
  · refine ⟨?_, fun i d e _ _ => ?_, fun i d e ho => ?_, fun i d e _ hl => (nomatch hl), fun i j di dj a ei _ ho _ _ _ => ?_, fun a z => oh a (z.elim id fun z => z.elim), fun a z => z.elim⟩
    · unfold start
      rw [List.length_append, List.length_append, List.length_map, List.length_map, List.length_replicate, List.length_replicate, hvl, hl]
    · obtain ⟨v, ev, rv⟩ := r.get (start_get e)
      exact ⟨v, start_of ev, rv.less fun b z => z.elim id fun z => z.elim⟩
    · have h1 := (List.getElem?_eq_some_iff.mp (start_get e)).1
      have h2 : ps.length ≤ i := of_decide_eq_true (List.all_eq_true.mp hom i ho)
      bv_omega
    · have h1 := (List.getElem?_eq_some_iff.mp (start_get ei)).1
      have h2 : ps.length ≤ i := of_decide_eq_true (List.all_eq_true.mp hom i ho)
      bv_omega
  · have same : ∀ {H' : Hp}, Frm (fun _ => False) H H' → Same H H' := fun f b o e => f b o e fun z => z
    refine Res.post_mono (Res.post_bind k) (fun o _ k => ?_) fun c z H' f => z H' (same f)
    cases o with
    | rt d =>
      intro v H' f rt
      refine k v H' (same f) ?_
      cases fr with
      | false => exact rt
      | true =>
        obtain ⟨a, ys, ds, e1, e2, e3, e4, e5, e6⟩ := rt
        exact ⟨a, ys, ds, e1, e2, e3.elim id fun z => z.elim, e5, e6⟩
    | nx ρ' =>
      cases fr with
      | true => exact k.elim
      | false => exact fun σ' H' Ob' R f s => k .non H' (same f) Rep.non
theorem fnX_no {fr : Bool} {k : Nat} {f : Addr} {fd : FuncData} {ps : List Str} : FnOk P w K mg base (CXV P w) k f fd ps (spX fr fun _ => .no) :=
  ⟨fun _ _ _ _ ⟨_, _, _, _, k⟩ => k.elim, fun _ _ _ _ _ _ _ _ _ _ _ _ _ ⟨_, _, _, _, k⟩ => k.elim⟩
end
theorem reX_call {C : Ct} {k : Nat} {f : Addr} {fd : FuncData} {ps : List Str} {fr : Bool} {F : List D → Res D} {x : Str} {p pos : Pos} {e : Expr} {es : List Expr} {ms : Ev → Res (List D)} {st : Stmt} (G : FnOk C.X.prog C.X.w C.X.K C.X.mg C.X.base (CXV C.X.prog C.X.w) k f fd ps (spX fr F)) (hh : Has C.X.K C.X.mg x st f fd ps) (hr : Room k C.X.A)
    (hb : Br C) (ha : RArg C true (e :: es) ms) (hg : autoParam (Gl C.X x) autoK5._auto_1) (hdb : autoParam ((x == ("__debug__" : Str)) = false) autoK2._auto_1) (he : autoParam (starEach (e :: es) C.X.env = (false, eval e C.X.env) :: starEach es C.X.env) autoK5._auto_1) (hpl : autoParam ((backTo pos (starEach es C.X.env)).any (·.1) = false) autoK5._auto_1) :
    RE C (mdF fr) (.Call (.Name x p) (e :: es) [] pos) (eF F ms) := by
  obtain ⟨t, pa, q⟩ := ha
  refine ⟨_, pe_call G hr hg hh.m hh.F.kp hh.b .nil (passX hb) pa hdb he hpl, fun Oc Ob σ H ρ Q R h => ?_⟩
  refine q Oc Ob σ H ρ _ R (Res.post_mono (Res.post_bind h) (fun ds _ k vs H1 s1 r => ?_) fun c z => z)
  show spX fr F (vs ++ []) H1 Q (wX C)
  rw [List.append_nil]
  refine ⟨ds, Uni Oc Ob, (R.same s1).oh, r, Res.post_mono k (fun d _ k v H' s2 rv => ?_) fun c z H' s2 => ⟨c, rfl, z H' (s1.trans s2)⟩⟩
  refine k v H' (s1.trans s2) ?_
  cases fr with
  | false => exact rv
  | true =>
    obtain ⟨a, ys, ds, e1, e2, e3, e4, e5⟩ := rv
    exact ⟨a, ys, ds, e1, e2, s1.free e3, e4, e5⟩
section
variable {C : Ct} {k : Nat} {f : Addr} {fd : FuncData} {ps : List Str} {F : List D → Res D} {x : Str} {p pos : Pos} {e : Expr} {es : List Expr} {ms : Ev → Res (List D)} {st : Stmt}
theorem reX_callC (G : FnOk C.X.prog C.X.w C.X.K C.X.mg C.X.base (CXV C.X.prog C.X.w) k f fd ps (spX false F)) (hh : Has C.X.K C.X.mg x st f fd ps) (hr : Room k C.X.A)
    (hb : Br C) (ha : RArg C true (e :: es) ms) (hg : autoParam (Gl C.X x) autoK5._auto_1) (hdb : autoParam ((x == ("__debug__" : Str)) = false) autoK2._auto_1) (he : autoParam (starEach (e :: es) C.X.env = (false, eval e C.X.env) :: starEach es C.X.env) autoK5._auto_1) (hpl : autoParam ((backTo pos (starEach es C.X.env)).any (·.1) = false) autoK5._auto_1) :
    RE C .cl (.Call (.Name x p) (e :: es) [] pos) (eF F ms) := reX_call (fr := false) G hh hr hb ha hg hdb he hpl
theorem reX_callN (G : FnOk C.X.prog C.X.w C.X.K C.X.mg C.X.base (CXV C.X.prog C.X.w) k f fd ps (spX true F)) (hh : Has C.X.K C.X.mg x st f fd ps) (hr : Room k C.X.A)
    (hb : Br C) (ha : RArg C true (e :: es) ms) (hg : autoParam (Gl C.X x) autoK5._auto_1) (hdb : autoParam ((x == ("__debug__" : Str)) = false) autoK2._auto_1) (he : autoParam (starEach (e :: es) C.X.env = (false, eval e C.X.env) :: starEach es C.X.env) autoK5._auto_1) (hpl : autoParam ((backTo pos (starEach es C.X.env)).any (·.1) = false) autoK5._auto_1) :
    RE C .new (.Call (.Name x p) (e :: es) [] pos) (eF F ms) := reX_call (fr := true) G hh hr hb ha hg hdb he hpl
end
end L2.L3
set_option maxHeartbeats 4000000
namespace L2
open PySem PySem.Spec PyProof.Rows
section
variable {X : Cx} {pins : List (Addr × Obj)} {σ : St} {H : Hp} {s : Shared}
theorem Inv.track {a : Addr} {o : HO} (I : Inv X pins σ H s) (n : H a = none) (n0 : X.s₀.heap.get? a = none) (nL : a ≠ X.env.locals) (nC : ∀ x c, X.env.cells.lookup x = some c → c ≠ a) (nP : ∀ p ∈ X.pn ++ pins, p.1 ≠ a) (new : ObjOk X.prog X.w (upd H a o) s.heap a o) : Inv X pins σ (upd H a o) s := by
  have ne : ∀ b u, H b = some u → b ≠ a := fun b u e z => by subst z; rw [n] at e; cases e
  have up : ∀ b u, H b = some u → upd H a o b = some u := fun b u e => by rw [upd_ne (ne b u e)]; exact e
  refine ⟨I.ok, I.os, I.bare, ⟨I.base.keep, I.base.slot, fun b u q z hx => ?_, I.base.there, fun b xs q => up _ _ (I.base.tups b xs q), fun b u v q => up _ _ (I.base.frzs b u v q), fun b ps q => ?_⟩, I.loc, I.cell, ?_, fun x c e => ?_, fun p hp => ?_, fun b u e => ?_, I.len⟩
  · have : b ≠ a := fun y => by subst y; rw [n0] at q; cases q
    rw [upd_ne this]
    exact I.base.free b u q z hx
  · obtain ⟨more, e⟩ := I.base.tbls b ps q
    exact ⟨more, up _ _ e⟩
  · rw [upd_ne (Ne.symm nL)]
    exact I.free
  · rw [upd_ne (nC x c e)]
    exact I.freeC x c e
  · obtain ⟨e, m, x1, x2, x3⟩ := I.pin p hp
    exact ⟨e, by rw [upd_ne (nP p hp)]; exact m, x1, x2, x3⟩
  · by_cases h : b = a
    · subst h
      rw [upd_same] at e
      cases e
      exact new
    · rw [upd_ne h] at e
      exact (I.hok b u e).stay (fun _ _ _ q => q) (fun c q => up _ _ q) fun c xs q => up _ _ q
end
end L2
namespace L2.L3
open PySem PySem.Spec PyProof.Rows
variable [CN]
abbrev bmV : List Value := [.type "ValueError", .type "Exception", .type "BaseException", .type "object"]
noncomputable def OwnX (K : PySem.W.Frag) (x : Str) : Prop := PySem.W.excIn K (CN.ad x) bmV "ValueError.__new__" = true
theorem own_obj {K : PySem.W.Frag} {h : Heap} {A : Addr} {bmB : List Value} {nid : String} (X : K.In h) (q : PySem.W.excIn K A bmB nid = true) :
    ∃ (tl : List Value) (N : Addr) (nm qn : Str) (bs : List Value) (hd : Bool) (sn : List Str) (sb : List Value) (ab : Bool) (co : Option Bool) (dd : Option Addr) (k0 k1 k2 k3 k5 : Option Value) (mN : Str → Option Value),
      h.get? A = some (excClassObj nm qn A N bs tl hd sn sb ab co dd k0 k1 k2 k3 k5 nid) ∧ h.Ns N mN ∧ mN "__init__" = none ∧ OwnTail h bmB tl := by
  revert q
  rw [PySem.W.excIn]
  split
  case h_2 => exact fun q => nomatch q
  case h_1 dd cd sl lk =>
    split
    case h_2 => exact fun q => nomatch q
    case h_1 A' tl j0 j1 j2 j3 nn j5 em es =>
      intro q
      rw [Bool.and_eq_true, Bool.and_eq_true, Bool.and_eq_true, Bool.and_eq_true, Bool.and_eq_true] at q
      have q6 := q.2
      have q5 := q.1.2
      have q4 := q.1.1.2
      have q3 := q.1.1.1.2
      have q2 := eq_of_beq q.1.1.1.1.2
      have q1 := eq_of_beq q.1.1.1.1.1
      cases cd
      cases sl
      simp only at em es q3 q5 q6
      subst em es q1 q2
      simp only [Bool.not_eq_true'] at q3
      subst q3
      exact ⟨_, _, _, _, _, _, _, _, _, _, _, _, _, _, _, _, _, X _ _ lk, .of_isNs (PySem.W.isNs_of_in X q5), PySem.W.nsMap_none_of_in X q5 (eq_of_beq q6), PySem.W.tail_of_in X q4⟩
theorem exc_made {X : Cx} {pins : List (Addr × Obj)} {σ : St} {H : Hp} {s : Shared} {c : Str} {h' : Heap} {e : Addr} {args : List Value} (I : Inv X pins σ H s) (m : Heap.MadeExcOf s.heap h' e (.ref (CN.ad c)) args) : ExcAt X c H (.ref e) { s with heap := h' } := by
  obtain ⟨t, he, _, _⟩ := m.there
  have I2 : Inv X pins σ H { s with heap := h', toks := s.toks } := I.kept m.keeps
  have n : H e = none := by
    cases q : H e with
    | none => rfl
    | some o =>
      obtain ⟨u, z⟩ := obj_there (I.hok e o q)
      rw [m.new] at z
      cases z
  refine ⟨pins, σ, s, H, e, PySem.W.hideAll h' (e :: frs X.stack), .ref t, I, I2, Un.kept m.keeps, rfl, m.new, n, fun b o q => PySem.W.of_hideAll _ q, PySem.W.hideAll_none _ (.head _), PySem.W.funFrames_hide I2.stack fun env he a ha => List.mem_cons_of_mem _ (List.mem_filterMap.mpr ⟨env, he, ha⟩), .inr ⟨_, _, he, rfl, rfl, rfl, rfl⟩, fun b o q nb z => PySem.W.hideAll_get _ q fun hb => ?_⟩
  rcases List.mem_cons.mp hb with rfl | hb
  · rcases z with z | z
    · exact z m.new
    · exact z n
  · exact nb hb
noncomputable def sRa (c : Str) (m : Ev → Res (List D)) : Ev → Res Out := fun ρ => (m ρ).bind fun ds => if ds.length ≤ sizeLine then .ex c else .no
theorem rs_raise {C : Ct} {fr : Bool} {x : Str} {np cpos pos : Pos} {e : Expr} {es : List Expr} {ms : Ev → Res (List D)} (hb : Br C) (ho : OwnX C.X.K x) (hm : C.X.mg x = some (.ref (CN.ad x))) (ha : RArg C false (e :: es) ms) (hc : autoParam (C.X.calm = true) autoK5._auto_1) (hg : autoParam (Gl C.X x) autoK5._auto_1) (hdb : autoParam ((x == ("__debug__" : Str)) = false) autoK2._auto_1)
    (he : autoParam (starEach (e :: es) C.X.env = (false, eval e C.X.env) :: starEach es C.X.env) autoK5._auto_1) (hpl : autoParam ((backTo cpos (starEach es C.X.env)).any (·.1) = false) autoK5._auto_1) :
    RS C fr (.Raise (some (.Call (.Name x np) (e :: es) [] cpos)) none pos) (sRa x ms) := by
  obtain ⟨t, pa, q⟩ := ha
  refine ⟨fun _ σ H => t σ H fun vs H1 => vs.length ≤ sizeLine ∧ C.XE x H1, fun pins s σ H D I h => ?_, fun Oc Ob σ H ρ E R h => q Oc Ob σ H ρ _ R (Res.post_mono (Res.post_bind h) (fun ds _ k vs H' s r => ?_) fun c z H' s => z H' (Same.frm s))⟩
  · obtain ⟨tl, N, nm, qn, bs, hd, sn, sb, ab, co, dd, k0, k1, k2, k3, k5, mN, hC, hN, hni, T⟩ := own_obj I.mod.kin ho
    refine wpAny_Raise_call_subT (C := CN.ad x) (nm := nm) (q := qn) (N := N) (bs := bs) (bm := tl) (hdct := hd) (sn := sn) (sub := sb) (ab := ab) (col := co) (dd := dd) (k0 := k0) (k1 := k1) (k2 := k2) (k3 := k3) (k5 := k5) PySem.F.excBase_ValueError (mN := mN) (T.hasType PySem.F.excBase_ValueError.hasBase) (I.ok.hd hc)
      (by rw [he]; show (false || (backTo cpos (starEach es C.X.env)).any (·.1)) = false; rw [hpl]; rfl) hni (ld_glob I hg hm ⟨rfl, ?_⟩ hdb)
    have h2 := pa cpos pins s σ H _ I h
    rw [he] at h2 ⊢
    refine Calls.evalArgs_plain (wpAny_mono h2 (fun us s2 ⟨vs, H2, I2, r, hl, z⟩ => ?_) fun _ _ y => y)
    exact ⟨rfl, by rw [← r.length]; exact hl, I2.bk _ _ hC, hN.keeps I2.bk, T.keeps I2.bk, fun h' a m => hb x H2 _ _ (exc_made I2 m) z⟩
  · by_cases hl : ds.length ≤ sizeLine
    · rw [if_pos hl] at k
      exact ⟨by rw [(VAs.rep r).length]; exact hl, k H' (Same.frm s)⟩
    · rw [if_neg hl] at k
      exact k.elim
end L2.L3
set_option maxHeartbeats 4000000
namespace PySem
section
variable {prog : Program} {w : World} {A : Around} {E : Value → Shared → Prop} {h : Heap} {g : Array GenState} {d : Drawn} {t : Nat} {os : OsState} {a C : Addr} {o : Obj} {K : PySem.W.Frag}
structure ExK (K : PySem.W.Frag) (C : Addr) : Prop where
  ga : PySem.W.findIn K (.ref C) "__getattribute__" = some (some (.builtin "BaseException.__getattribute__"))
  gn : PySem.W.findIn K (.ref C) "__getattr__" = some none
  cl : PySem.W.findIn K (.ref C) "__class__" = some (some (.builtin "object.__class__"))
  sb : PySem.W.subIn K (.ref C) (.type "BaseException") = some true
  so : PySem.W.subIn K (.ref C) (.type "object") = some true
  ci : (PySem.W.clsIn K C).isSome = true
variable {dd : Option Addr} {dt : Data} {sl : Array (Option Value)} {x : Shared}
end
end PySem
set_option maxHeartbeats 4000000
namespace L2.L3
open PySem PySem.Spec PyProof.Rows
variable [CN]
noncomputable abbrev inTry (X : Cx) (pn : List (Addr × Obj)) (xe : Value → Shared → Prop) : Cx := { X with pn := pn, xe := xe }
theorem Inv.toTry {X : Cx} {pins : List (Addr × Obj)} {σ : St} {H : Hp} {s : Shared} (I : Inv X pins σ H s) (xe : Value → Shared → Prop) : Inv (inTry X (X.pn ++ pins) xe) [] σ H s :=
  ⟨⟨I.ok.mod, I.ok.kind, I.ok.glob, I.ok.blt, I.ok.above, I.ok.inj, I.ok.has, I.ok.cab, I.ok.hd, I.ok.frames, I.ok.stk, I.ok.exf, I.ok.bs, I.ok.bsz, I.ok.noex, I.ok.exfs, I.ok.funs, I.ok.frf⟩, I.os, I.bare, I.base, I.loc, I.cell, I.free, I.freeC, fun p hp => I.pin p (by simpa using hp), I.hok, I.len⟩
theorem Inv.ofTry {X : Cx} {pins pins' : List (Addr × Obj)} {σ : St} {H : Hp} {s : Shared} {xe : Value → Shared → Prop} (I : Inv (inTry X (X.pn ++ pins) xe) pins' σ H s) : Inv X pins σ H s :=
  ⟨⟨I.ok.mod, I.ok.kind, I.ok.glob, I.ok.blt, I.ok.above, I.ok.inj, I.ok.has, I.ok.cab, I.ok.hd, I.ok.frames, I.ok.stk, I.ok.exf, I.ok.bs, I.ok.bsz, I.ok.noex, I.ok.exfs, I.ok.funs, I.ok.frf⟩, I.os, I.bare, I.base, I.loc, I.cell, I.free, I.freeC, fun p hp => I.pin p (List.mem_append_left _ hp), I.hok, I.len⟩
theorem SP.ofTry {X : Cx} {pins pins' : List (Addr × Obj)} {xe : Value → Shared → Prop} {D : Ends} {f : Flow} {s' : Shared} (h : SP (inTry X (X.pn ++ pins) xe) pins' D f s') : SP X pins D f s' := by
  cases f with
  | next => obtain ⟨σ', H', I, q⟩ := h; exact ⟨σ', H', Inv.ofTry I, q⟩
  | brk => obtain ⟨σ', H', I, q⟩ := h; exact ⟨σ', H', Inv.ofTry I, q⟩
  | cont => obtain ⟨σ', H', I, q⟩ := h; exact ⟨σ', H', Inv.ofTry I, q⟩
  | ret u => obtain ⟨v, σ', H', I, r, q⟩ := h; exact ⟨v, σ', H', Inv.ofTry I, r, q⟩
section
variable {C : Ct} {e : Expr} {x : Str} {p p2 p3 pos : Pos} {md : Md} {me : Ev → Res D}
end
end L2.L3
namespace L2.L3
open PySem PySem.Spec PyProof.Rows
theorem kitCls_of {K : PySem.W.Frag} {t c : Value} {v : Bool} (h : PySem.W.kitOne K t c = some v) (n : (t == c) = false) : PySem.W.kitCls K t c = some v := by
  rw [PySem.W.kitOne, if_neg (by rw [n]; decide)] at h
  exact h
theorem subT_of {K : PySem.W.Frag} {A : Addr} {T : String} {v : Bool} (h : PySem.W.kitOne K (.ref A) (.type T) = some v) : PySem.W.subIn K (.ref A) (.type T) = some v := by
  have h2 := kitCls_of h rfl
  rw [PySem.W.kitCls] at h2
  split at h2
  · exact h2
  · cases h2
noncomputable def cnOf (K : PySem.W.Frag) : CN := ⟨fun x => match PySem.W.nsIn K mainGlobals x with | some (some (.ref a)) => a | _ => 0⟩
theorem cn_ad {K : PySem.W.Frag} {x : Str} {a : Addr} (h : PySem.W.nsIn K mainGlobals x = some (some (.ref a))) : (cnOf K).ad x = a := by
  show (match PySem.W.nsIn K mainGlobals x with | some (some (.ref a)) => a | _ => 0) = a
  rw [h]
theorem walk_valX {F : List D → Res D} {k : Nat} {l : PySem.W.OpenLaw} {q : Program} {loose : List Str} {XP : (Str → Option Value) → Heap → Prop} {YP : World → Heap → Prop} {d : DefRec} {K : Params → PySem.W.Frag} (hT : ∀ ns : List Int, ns.length ≤ 63 → F [.list (ns.map PyData.int)] = .ok (.bool true)) (hr : Room k callerA) (hn : l.most = some 63) (hdf : d.params.defaults = [])
    (hY : ∀ (w : World) (h : Heap), YP w h → (K w.params).In h) (hL : ∀ w : World, noLst (K w.params) = true)
    (hF : ∀ (w : World) (mg : Str → Option Value) (fa : Addr) (h : Heap), (K w.params).In h → h.Ns mainGlobals mg → mg d.name = some (.ref fa) →
      ∃ fd : FuncData, (∀ (s : Shared) (u : Value), BindsTo s fd ⟨[u], []⟩ [("script", u)]) ∧ ∀ base : Heap, (K w.params).In base → base.Ns mainGlobals mg → FnOk l.prog w (K w.params) mg base (CXV l.prog w) k fa fd ["script"] (@spX (cnOf (K w.params)) false F)) :
    PySem.W.WalkO q loose XP YP l.row.toRowW d [] (fun f vs => PySem.call f vs) := by
  refine L2.walk_of (n := 63) (k := k) (x := "script") (CX := fun w => CXV l.prog w) (sp := fun w => @spX (cnOf (K w.params)) false F) hn (by decide) hdf hr hY hF (fun w H a ns hl hO hS => ?_) fun w H s e s' z => ?_
  · letI := cnOf (K w.params)
    refine ⟨[.list (ns.map PyData.int)], fun _ => False, fun a z => z.elim, .cons (.lst (rd_of (hL w) hS) (fun z => z) (reps_ints ns)) .nil, ?_⟩
    rw [hT ns hl]
    intro v H' _ r
    cases (show Rep H' (fun _ => False) v (.bool true) from r)
    rfl
  · obtain ⟨_, _, _, _, _, _, _, _, _, _, _, _, _, z⟩ := z
    exact z
end L2.L3
namespace MR
theorem pigeon : ∀ (n : Nat) (f : Nat → Nat), (∀ i, i ≤ n → f i < n) → ∃ i j, i < j ∧ j ≤ n ∧ f i = f j
  | 0, f, h => absurd (h 0 (Nat.le_refl _)) (by bv_omega)
  | n + 1, f, h => by
    by_cases c : ∃ i, i ≤ n ∧ f i = f (n + 1)
    · obtain ⟨i, hi, e⟩ := c
      exact ⟨i, n + 1, by bv_omega, Nat.le_refl _, e⟩
    · have ne : ∀ i, i ≤ n → f i ≠ f (n + 1) := fun i hi e => c ⟨i, hi, e⟩
      obtain ⟨i, j, h1, h2, e⟩ := pigeon n (fun i => if f (n + 1) < f i then f i - 1 else f i) fun i hi => by
        have a := h i (by bv_omega)
        have b := h (n + 1) (Nat.le_refl _)
        have d := ne i hi
        show (if f (n + 1) < f i then f i - 1 else f i) < n
        split <;> bv_omega
      refine ⟨i, j, h1, by bv_omega, ?_⟩
      have di := ne i (by bv_omega)
      have dj := ne j h2
      have e : (if f (n + 1) < f i then f i - 1 else f i) = (if f (n + 1) < f j then f j - 1 else f j) := e
      split at e <;> split at e <;> bv_omega
structure Ord (n : Nat) (xs : List Int) : Prop where
  len : xs.length = n
  bd : ∀ i, i < n → 0 ≤ xs.getD i 0 ∧ xs.getD i 0 < n
  inj : ∀ i j, i < n → j < n → xs.getD i 0 = xs.getD j 0 → i = j
noncomputable def nxt (xs : List Int) (b : Nat) : Nat := (xs.getD b 0).toNat
noncomputable def it (xs : List Int) : Nat → Nat → Nat
  | 0, b => b
  | k + 1, b => nxt xs (it xs k b)
section
variable {n : Nat} {xs : List Int}
theorem Ord.nxt_lt (o : Ord n xs) {b : Nat} (h : b < n) : nxt xs b < n := by
  have := o.bd b h
  unfold nxt; bv_omega
theorem Ord.nxt_int (o : Ord n xs) {b : Nat} (h : b < n) : xs.getD b 0 = (nxt xs b : Int) := by
  have := o.bd b h
  unfold nxt; bv_omega
theorem Ord.nxt_inj (o : Ord n xs) {b c : Nat} (h : b < n) (h' : c < n) (e : nxt xs b = nxt xs c) : b = c :=
  o.inj b c h h' (by rw [o.nxt_int h, o.nxt_int h', e])
noncomputable def perGo (xs : List Int) (b : Nat) : Nat → Nat → Nat
  | 0, k => k
  | fuel + 1, k => if it xs k b = b then k else perGo xs b fuel (k + 1)
noncomputable def per (n : Nat) (xs : List Int) (b : Nat) : Nat := perGo xs b (n - 1) 1
noncomputable def In (n : Nat) (xs : List Int) (b c : Nat) : Prop := ∃ i, i < per n xs b ∧ it xs i b = c
noncomputable def ring (n : Nat) (xs : List Int) (b : Nat) : List Nat := (List.range (per n xs b)).map fun i => it xs i b
noncomputable def has (rs : List (List Nat)) (b : Nat) : Bool := rs.any fun r => r.contains b
structure Rgs (n : Nat) (xs : List Int) (m : Nat) (rs : List (List Nat)) : Prop where
  each : ∀ r ∈ rs, ∃ b, b < m ∧ r = ring n xs b ∧ ∀ c, In n xs b c → b ≤ c
  cover : ∀ c, c < m → ∃ r ∈ rs, c ∈ r
  nodup : rs.flatten.Nodup
  rise : rs.Pairwise fun r r' => ∀ x ∈ r.head?, ∀ y ∈ r'.head?, x < y
end
end MR
set_option maxHeartbeats 4000000
namespace L2.L3
open PySem PySem.Spec PyProof.Rows MR
variable [CN]
noncomputable def pwD (m p : Int) : Nat → Int
  | 0 => p
  | i + 1 => pwD m p i / m
noncomputable def Pot (a : Addr) (H H' : Hp) : Prop := ∀ b o, H b = some o → b ≠ a → H' b = some o
theorem Pot.upd {a : Addr} {H : Hp} {o : HO} : Pot a H (upd H a o) := fun b u e n => by rw [upd_ne n]; exact e
theorem Pot.trans {a : Addr} {H H1 H2 : Hp} (h : Pot a H H1) (g : Pot a H1 H2) : Pot a H H2 := fun b o e n => g b o (h b o e n) n
theorem Pot.refl (a : Addr) (H : Hp) : Pot a H H := fun _ _ e _ => e
theorem Pot.new {a b : Addr} {H H1 : Hp} {o : HO} (h : Pot a H H1) (hb : H1 b = none) : Pot a H (L2.upd H1 b o) := fun c u e n => by
  rw [upd_ne (fun z => by rw [z] at e; rw [z] at n; rw [h b u e n] at hb; cases hb)]
  exact h c u e n
noncomputable def spTake : Sp := fun vs H Q _ => ∃ (a : Addr) (p m : Int), vs = [.ref a, .int m] ∧ H a = some (.lst [.int p]) ∧ DivOk m ∧ Q (.int (p % m)) (upd H a (.lst [.int (p / m)]))
noncomputable def tTake (K : PySem.W.Frag) : TS := tSeq (tAsg (tOp (rI (fun _ j => 0 < j) fun i j => .int (i % j)) (tOp (rIxL K) (tVar 0) (tC (.int 0))) (tVar 1)) (gName 2)) (tSeq (tAsg (tOp (rI (fun _ j => DivOk j) fun i j => .int (i / j)) (tOp (rIxL K) (tVar 0) (tC (.int 0))) (tVar 1)) (gSub (tVar 0) (tC (.int 0)) rSetL)) (tRet (tVar 2)))
theorem take_read {K : PySem.W.Frag} {a : Addr} {p m : Int} {H : Hp} {E : Ends} (h : H a = some (.lst [.int p])) (hm : DivOk m) (k : E.rt (.int (p % m)) (upd H a (.lst [.int (p / m)]))) : tTake K E [some (.ref a), some (.int m), none] H := by
  refine ⟨_, rfl, a, _, 0, _, rfl, rfl, SqL.of h, rfl, _, rfl, _, _, rfl, rfl, hm.1, ?_⟩
  refine ⟨_, rfl, a, _, 0, _, rfl, rfl, SqL.of h, rfl, _, rfl, _, _, rfl, rfl, hm, ?_⟩
  exact ⟨_, rfl, a, _, 0, 0, rfl, rfl, h, rfl, _, rfl, k⟩
section
variable {P : Program} {w : World} {K : PySem.W.Frag} {mg : Str → Option Value} {base : Heap}
theorem fn_take {x : Str} {st : Stmt} {f : Addr} {fd : FuncData} {N ps : List Str} {k : Nat} (F : Fun K x x st f fd) (S : FnScope N ps (defScope st)) (hp : ps.length = 2) (hN : N.length = 3)
    (hbody : ∀ (cdv : Value) (A : Around) (outer : List Env) (s : Shared) (H : Hp) (E : XK), Room k (A.deeper (envOfC x (defScope st) s.heap.objs.size f cdv)) → PSs (cxOf CX0 P w K mg base N x (defScope st) f cdv A outer s H E).nox (defBody st) (tTake K)) :
    FnOk P w K mg base CX0 (k + 1) f fd ps spTake := by
  refine F.ok S (fun vs H Q E ⟨a, p, m, e, _⟩ => by rw [e, hp]; rfl) fun cdv A outer s H vs Q E hr h => ?_
  obtain ⟨a, p, m, rfl, ha, hm, q⟩ := h
  refine ⟨_, hbody cdv A outer s H E hr, ?_⟩
  have st : start N [V.ref a, V.int m] = [some (.ref a), some (.int m), none] := by
    unfold start
    rw [hN]
    rfl
  rw [st]
  exact take_read ha hm q
end
noncomputable def rTup (K : PySem.W.Frag) : List V → Hp → VK → Prop := fun xs H Q => ∃ p ys, xs = [.ref p] ∧ ((SqL K H p ys ∧ ∀ l, H l = none → Q (.ref l) (upd H l (.tup ys))) ∨ (SqT K H p ys ∧ Q (.ref p) H))
noncomputable def rAdd : R2 := rI0 fun i j => .int (i + j)
section
variable {P : Program} {w : World} {K : PySem.W.Frag} {mg : Str → Option Value} {base : Heap}
end
noncomputable def rLnS (K : PySem.W.Frag) : List V → Hp → VK → Prop := fun xs H Q => ∃ p ys, xs = [.ref p] ∧ (SqL K H p ys ∨ SqT K H p ys) ∧ Q (.int ys.length) H
section
variable {P : Program} {w : World} {K : PySem.W.Frag} {mg : Str → Option Value} {base : Heap}
end
end L2.L3
set_option maxHeartbeats 4000000
namespace L2.L3
open PySem PySem.Spec PyProof.Rows MR
variable [CN]
section
variable {P : Program} {w : World} {K : PySem.W.Frag} {mg : Str → Option Value} {base : Heap}
end
end L2.L3
set_option maxHeartbeats 4000000
namespace L2.L3
open PySem PySem.Spec PyProof.Rows MR
variable [CN]
theorem inV_int (x : Int) (ns : List Int) : inV (.int x) (ns.map V.int) = ns.contains x := by
  unfold inV
  rw [List.any_map, List.contains_eq_any_beq]
  refine congrArg (fun f => ns.any f) (funext fun y => ?_)
  show eqV (.int y) (.int x) = (x == y)
  unfold eqV
  rw [Bool.eq_iff_iff]
  simp
  exact eq_comm
theorem flat_ints (ns : List Int) : (ns.map V.int).all flatV = true := by
  rw [List.all_map]
  exact List.all_eq_true.mpr fun _ _ => rfl
noncomputable def clN (n : Nat) (bs : List Int) : List Int := ((List.range n).filter fun (i : Nat) => !bs.contains (i : Int)).map fun (i : Nat) => (i : Int)
theorem sub_le : ∀ (xs l : List Int), xs.Nodup → (∀ x ∈ xs, x ∈ l) → xs.length ≤ l.length
  | [], _, _, _ => Nat.zero_le _
  | x :: xs, l, nd, h => by
    have hx := h x (List.mem_cons_self ..)
    have := sub_le xs (l.erase x) (List.nodup_cons.mp nd).2 fun y hy => (List.mem_erase_of_ne (fun z : y = x => (List.nodup_cons.mp nd).1 (by rw [← z]; exact hy))).mpr (h y (List.mem_cons_of_mem _ hy))
    rw [List.length_erase_of_mem hx] at this
    have := List.length_pos_of_mem hx
    rw [List.length_cons]
    bv_omega
theorem clN_pos (n : Nat) (bs : List Int) (h : bs.length < n) : 0 < (clN n bs).length := by
  rcases Nat.eq_zero_or_pos (clN n bs).length with z | z
  · exfalso
    have all : ∀ i, i < n → (i : Int) ∈ bs := fun i hi => by
      have e := List.length_eq_zero_iff.mp z
      unfold clN at e
      rw [List.map_eq_nil_iff, List.filter_eq_nil_iff] at e
      have := e i (List.mem_range.mpr hi)
      simpa using this
    have nd : ((List.range n).map fun (i : Nat) => (i : Int)).Nodup := List.Pairwise.map (fun (i : Nat) => (i : Int)) (fun a b h e => h (Int.ofNat.inj e)) List.nodup_range
    have := sub_le _ bs nd (fun x hx => by
      obtain ⟨i, hi, rfl⟩ := List.mem_map.mp hx
      exact all i (List.mem_range.mp hi))
    rw [List.length_map, List.length_range] at this
    bv_omega
  · exact z
noncomputable def runG (g : Nat → Int → D × Int) : Nat → Int → List D × Int
  | 0, p => ([], p)
  | k + 1, p => ((runG g k p).1 ++ [(g k (runG g k p).2).1], (g k (runG g k p).2).2)
noncomputable def rSub : R2 := rI0 fun i j => .int (i - j)
noncomputable def tAppV (K : PySem.W.Frag) (i : Nat) (t : TE) : TS := tDrop (tBM K "list" rAppend (tVar i) (tCons t tNil))
theorem evI (x y : Int) : V.bl (if false = true then !PyData.eqv (.int x) (.int y) else PyData.eqv (.int x) (.int y)) = .bl (decide (x = y)) := by rw [if_neg (by decide), eqv_int]
theorem rd_pot {a b : Addr} {u : HO} {H H' : Hp} (r : Rd H b u) (po : Pot a H H') (n : b ≠ a) : Rd H' b u := rd_keep r fun o e => po b o e n
theorem Pot.none {a b : Addr} {H H' : Hp} (po : Pot a H H') (n : b ≠ a) (h : H' b = none) : H b = none := by
  cases e : H b with
  | none => rfl
  | some o => rw [po b o e n] at h; cases h
section
variable {P : Program} {w : World} {K : PySem.W.Frag} {mg : Str → Option Value} {base : Heap}
end
end L2.L3
set_option maxHeartbeats 4000000
namespace L2.L3
open PySem PySem.Spec PyProof.Rows MR
variable [CN]
section
variable {P : Program} {w : World} {K : PySem.W.Frag} {mg : Str → Option Value} {base : Heap}
end
end L2.L3
set_option maxHeartbeats 4000000
namespace L2.L3
open PySem PySem.Spec PyProof.Rows MR
variable [CN]
section
variable {P : Program} {w : World} {K : PySem.W.Frag} {mg : Str → Option Value} {base : Heap} {CX : CXT} {k : Nat} {f : Addr} {fd : FuncData} {ps : List Str}
theorem fn_up {sp : Sp} (F : FnOk P w K mg base CX0 k f fd ps sp) : FnOk P w K mg base CX k f fd ps sp :=
  ⟨F.len, fun A outer s H args us vs Q E hr he hb hv hs => codeAny_mono (F.run A outer s H args us vs Q E hr he hb hv hs) fun r s' h => by
    cases r with
    | ok fl =>
      cases fl with
      | ret u => exact h
      | _ => exact h
    | error e => exact h.elim⟩
theorem fn_upX {F : List D → Res D} {fr : Bool} (no : ∀ ds c, F ds ≠ .ex c) (G : FnOk P w K mg base CX0 k f fd ps (spF fr F)) : FnOk P w K mg base CX k f fd ps (spX fr F) :=
  (fn_up G).imp fun vs H Q E h => by
    obtain ⟨ds, O, oh, r, q⟩ := h
    refine ⟨ds, O, oh, r, ?_⟩
    cases e : F ds with
    | ok d => rw [e] at q; exact q
    | no => rw [e] at q; exact q
    | ex c => exact absurd e (no ds c)
end
end L2.L3
set_option maxHeartbeats 4000000
namespace L2.L3
open PySem PySem.Spec PyProof.Rows MR
variable [CN]
noncomputable def frB (n : Nat) (bs : List Int) : Nat → Nat → Nat
  | 0, d => d
  | k + 1, d => if bs.contains (d : Int) then frB n bs k ((d + 1) % n) else d
theorem rnd (n d : Nat) (hd : d < n) (b : Nat) (hb : b < n) : ∃ j, j < n ∧ (d + j) % n = b := by
  by_cases h : d ≤ b
  · exact ⟨b - d, by bv_omega, by rw [show d + (b - d) = b by bv_omega, Nat.mod_eq_of_lt hb]⟩
  · exact ⟨n - d + b, by bv_omega, by rw [show d + (n - d + b) = b + n by bv_omega, Nat.add_mod_right, Nat.mod_eq_of_lt hb]⟩
theorem frB_stop (n : Nat) (bs : List Int) : ∀ (k d : Nat), (∃ j, j < k ∧ bs.contains (((d + j) % n : Nat) : Int) = false) → d < n → bs.contains ((frB n bs k d : Nat) : Int) = false ∧ frB n bs k d < n
  | 0, d, h, _ => by obtain ⟨j, hj, _⟩ := h; bv_omega
  | k + 1, d, h, hd => by
    rw [frB]
    by_cases c : bs.contains (d : Int) = true
    · rw [if_pos c]
      obtain ⟨j, hj, e⟩ := h
      have n0 : 0 < n := by bv_omega
      refine frB_stop n bs k ((d + 1) % n) ?_ (Nat.mod_lt _ n0)
      cases j with
      | zero =>
        rw [Nat.add_zero, Nat.mod_eq_of_lt hd, c] at e
        cases e
      | succ j =>
        refine ⟨j, by bv_omega, ?_⟩
        rw [Nat.mod_add_mod, show d + 1 + j = d + (j + 1) by bv_omega]
        exact e
    · rw [if_neg c]
      exact ⟨by simpa using c, hd⟩
theorem free_box {n : Nat} {bs : List Int} (h : bs.length < n) (d : Nat) (hd : d < n) : ∃ j, j < n ∧ bs.contains (((d + j) % n : Nat) : Int) = false := by
  have cp := clN_pos n bs h
  obtain ⟨x, this⟩ := List.exists_mem_of_length_pos cp
  unfold clN at this
  obtain ⟨b, hb, _⟩ := List.mem_map.mp this
  obtain ⟨h1, h2⟩ := List.mem_filter.mp hb
  obtain ⟨j, hj, e⟩ := rnd n d hd b (List.mem_range.mp h1)
  exact ⟨j, hj, by rw [e]; simpa using h2⟩
noncomputable abbrev W2 := List (Nat × Nat)
noncomputable abbrev wB (ws : W2) : List Int := ws.map fun z => (z.1 : Int)
noncomputable abbrev wN (p : Nat) (ws : W2) : List Int := (p : Int) :: ws.map fun z => (z.2 : Int)
noncomputable def trH (n p : Nat) : Nat → W2 → Int → D × Int
  | 0, _, q => (.none, q)
  | l + 1, ws, q =>
    if q % ((n : Int) + 1) = (n : Int) then (.none, q / ((n : Int) + 1))
    else (fun (b : Nat) => (fun r : List D × Int => (PyData.tuple [.int (b : Int), .tuple r.1], r.2))
      (runG (fun i q => if (wN p ws).contains (i : Int) then (.none, q) else trH n p l (ws ++ [(b, i)]) q) n (q / ((n : Int) + 1)))) (frB n (wB ws) n (q % ((n : Int) + 1)).toNat)
noncomputable def nxH (n p l : Nat) (ws : W2) (b : Nat) : Nat → Int → D × Int := fun i q => if (wN p ws).contains (i : Int) then (.none, q) else trH n p l (ws ++ [(b, i)]) q
theorem trH_out {n p l : Nat} {ws : W2} {q : Int} (h : q % ((n : Int) + 1) = (n : Int)) : trH n p (l + 1) ws q = (.none, q / ((n : Int) + 1)) := by rw [trH, if_pos h]
theorem trH_in {n p l b : Nat} {ws : W2} {q : Int} (h : ¬ q % ((n : Int) + 1) = (n : Int)) (e : frB n (wB ws) n (q % ((n : Int) + 1)).toNat = b) :
    trH n p (l + 1) ws q = (.tuple [.int (b : Int), .tuple (runG (nxH n p l ws b) n (q / ((n : Int) + 1))).1], (runG (nxH n p l ws b) n (q / ((n : Int) + 1))).2) := by
  subst e
  rw [trH, if_neg h]
  rfl
inductive WV (H : Hp) : List V → W2 → Prop
  | nil : WV H [] []
  | cons {q : Addr} {b m : Nat} {vs : List V} {ws : W2} : Rd H q (.tup [.int (b : Int), .int (m : Int)]) → WV H vs ws → WV H (.ref q :: vs) ((b, m) :: ws)
theorem WV.keep {H H' : Hp} : ∀ {vs : List V} {ws : W2}, WV H vs ws → (∀ (q : Addr) (o : HO) (xs : List V), Rd H q (.tup xs) → H q = some o → H' q = some o) → WV H' vs ws
  | _, _, .nil, _ => .nil
  | _, _, .cons r t, k => .cons (rd_keep r fun o e => k _ o _ r e) (t.keep k)
theorem WV.app {H : Hp} {q : Addr} {b m : Nat} : ∀ {vs : List V} {ws : W2}, WV H vs ws → Rd H q (.tup [.int (b : Int), .int (m : Int)]) → WV H (vs ++ [.ref q]) (ws ++ [(b, m)])
  | _, _, .nil, r => .cons r .nil
  | _, _, .cons r t, r' => .cons r (t.app r')
theorem WV.len {H : Hp} : ∀ {vs : List V} {ws : W2}, WV H vs ws → vs.length = ws.length
  | _, _, .nil => rfl
  | _, _, .cons _ t => congrArg (· + 1) t.len
theorem WV.get {H : Hp} : ∀ {vs : List V} {ws : W2} {i : Nat} {x : V}, WV H vs ws → vs[i]? = some x → ∃ q b m, x = .ref q ∧ ws[i]? = some (b, m) ∧ Rd H q (.tup [.int (b : Int), .int (m : Int)])
  | _, _, _, _, .nil, e => by simp at e
  | _, _, 0, _, .cons r _, e => by simp at e; subst e; exact ⟨_, _, _, rfl, rfl, r⟩
  | _, _, i + 1, _, .cons _ t, e => by
    obtain ⟨q, b, m, h1, h2, h3⟩ := t.get (i := i) (by simpa using e)
    exact ⟨q, b, m, h1, by simpa using h2, h3⟩
theorem rd_ne {H : Hp} {a q : Addr} {xs ys : List V} (ha : H a = some (.lst xs)) (r : Rd H q (.tup ys)) : q ≠ a := fun z => by
  rw [z] at r
  rcases r with r | ⟨o, r⟩ <;> (rw [ha] at r; cases r)
theorem WV.pot {H H' : Hp} {a : Addr} {xs : List V} {vs : List V} {ws : W2} (h : WV H vs ws) (ha : H a = some (.lst xs)) (po : Pot a H H') : WV H' vs ws := h.keep fun q o ys r e => po q o e (rd_ne ha r)
noncomputable def spH (k : Nat) : Sp := fun vs H Q _ => ∃ (O : Addr → Prop) (a aw : Addr) (q : Int) (n p l : Nat) (ws : W2) (wv : List V), (∀ x, O x → H x ≠ none) ∧ O a ∧ H a = some (.lst [.int q]) ∧ vs = [.ref a, .int (p : Int), .int (n : Int), .ref aw, .int (l : Int)] ∧
  Rd H aw (.lst wv) ∧ aw ≠ a ∧ WV H wv ws ∧ l < k ∧ 0 < n ∧ n ≤ 100 ∧ ws.length + l ≤ n ∧
  ∀ v H', Pot a H H' → H' a = some (.lst [.int (trH n p l ws q).2]) → Rep H' O v (trH n p l ws q).1 → Q v H'
noncomputable def tHF (K : PySem.W.Frag) (sp : Sp) : TS := tFor (iRng1 (tCons (tVar 2) tNil)) (gName 9) (tSeq (tAsg (tC .non) (gName 10)) (tSeq (tIfS (tTest (tOp (rIn K true) (tVar 9) (tVar 7)))
  (tAsg (tCall sp [] E0 (tCons (tVar 0) (tCons (tVar 1) (tCons (tVar 2) (tCons (tOp rCatR (tVar 3) (tLst (tCons (tTup (tCons (tVar 5) (tCons (tVar 9) tNil))) tNil))) (tCons (tOp rSub (tVar 4) (tC (.int 1))) tNil)))))) (gName 10)) tNext) (tAppV K 8 (tVar 10))))
noncomputable def tHE (K : PySem.W.Frag) : TS := tRet (tTup (tCons (tVar 5) (tCons (tCB (rTup K) (tCons (tVar 8) tNil)) tNil)))
noncomputable def tHC (K : PySem.W.Frag) (j : Int) : TE := tComp (iList K (tVar 3)) (fun _ _ _ _ => tTrue) (fun _ _ _ _ => tOp (rIxT K) (tVar 0) (tC (.int j))) []
noncomputable def tHN (K : PySem.W.Frag) (sp : Sp) : TS := tSeq (tAsg (tOp rCatR (tLst (tCons (tVar 1) tNil)) (tHC K 1)) (gName 7)) (tSeq (tAsg (tLst tNil) (gName 8)) (tSeq (tHF K sp) (tHE K)))
noncomputable def tHW (K : PySem.W.Frag) : TS := tWhile (tTest (tOp (rIn K false) (tVar 5) (tVar 6))) (tAsg (tOp (rI (fun _ j => 0 < j) fun i j => .int (i % j)) (tOp rAdd (tVar 5) (tC (.int 1))) (tVar 2)) (gName 5))
noncomputable def tH (K : PySem.W.Frag) (sp : Sp) : TS :=
  tSeq (tIfS (tTest (tOp (rEqD K false) (tVar 4) (tC (.int 0)))) (tRet (tC .non)) tNext)
  (tSeq (tAsg (tCall spTake [] E0 (tCons (tVar 0) (tCons (tOp rAdd (tVar 2) (tC (.int 1))) tNil))) (gName 5))
  (tSeq (tIfS (tTest (tOp (rEqD K false) (tVar 5) (tVar 2))) (tRet (tC .non)) tNext)
  (tSeq (tAsg (tHC K 0) (gName 6)) (tSeq (tHW K) (tHN K sp)))))
theorem seqA {te : TE} {g : TG} {u : TS} {D : Ends} {σ : St} {H : Hp} (h : te σ H fun x H1 => g x σ H1 (u D)) : tSeq (tAsg te g) u D σ H := h
theorem hC_read {K : PySem.W.Frag} {σ : St} {H : Hp} {aw : Addr} {wv : List V} {ws : W2} {j : Int} {f : Nat × Nat → Nat} {Q : VK} (h3 : σ[3]? = some (some (.ref aw))) (rw' : Rd H aw (.lst wv)) (W : WV H wv ws) (hl : ws.length ≤ 900) (hf : ∀ z : Nat × Nat, atI [V.int (z.1 : Int), .int (z.2 : Int)] j = some (.int (f z : Int)))
    (k : ∀ p, H p = none → Q (.ref p) (upd H p (.lst ((ws.map fun z => ((f z : Nat) : Int)).map V.int)))) : tHC K j σ H Q := by
  have lw := W.len
  refine ⟨_, h3, aw, rfl, ⟨wv, .inl rw'⟩, fun C fp s₂ H₂ => ?_⟩
  refine comp_list (K := K) (a := aw) (xs := wv) (tt := tTrue) (te := tOp (rIxT K) (tVar 0) (tC (.int j))) (js := []) (σ := σ) (Q := Q) (fun i acc H' => H' = H ∧ acc = ((ws.take i).map fun z => ((f z : Nat) : Int)).map V.int) ⟨rfl, by simp⟩ (fun i acc H' _ h => by rw [h.1]; exact .inl rw') ?_ ?_
  · rintro i x acc H' hx ⟨rfl, rfl⟩
    unfold tTrue
    simp only [if_true]
    obtain ⟨q, b, m, rfl, e, r⟩ := W.get hx
    have hi : i < wv.length := (List.getElem?_eq_some_iff.mp hx).1
    refine ⟨_, rfl, q, _, j, _, rfl, rfl, .inl r, hf (b, m), by rw [List.length_map, List.length_map, List.length_take]; exact small1000 (by bv_omega), rfl, ?_⟩
    rw [List.take_succ, e, List.map_append, List.map_append]
    rfl
  · rintro acc H' ⟨rfl, rfl⟩ p hp
    rw [lw, List.take_length]
    exact k p hp
theorem hE_read {K : PySem.W.Frag} {O : Addr → Prop} {H0 H : Hp} {a la : Addr} {v1 v2 v3 v4 v6 v7 v9 v10 : Option V} {b q : Int} {vs : List V} {ds : List D} {E : Ends} (oh : ∀ x, O x → H0 x ≠ none) (po : Pot a H0 H) (ha : H a = some (.lst [.int q])) (fl : H0 la = none) (al : la ≠ a) (hl : H la = some (.lst vs)) (rs : Reps H (fun x => O x ∨ x = la) vs ds)
    (k : ∀ v H', Pot a H0 H' → H' a = some (.lst [.int q]) → Rep H' O v (.tuple [.int b, .tuple ds]) → E.rt v H') : tHE K E [some (.ref a), v1, v2, v3, v4, some (.int b), v6, v7, some (.ref la), v9, v10] H := by
  refine ⟨_, rfl, _, rfl, la, _, rfl, .inl ⟨SqL.of hl, fun t ht => ⟨by show 2 ≤ sizeLine; decide, fun r hr => ?_⟩⟩⟩
  have ta : t ≠ a := fun z => by rw [z, ha] at ht; cases ht
  have tr : t ≠ r := fun z => by rw [← z, upd_same] at hr; cases hr
  have hr1 : H r = none := by rw [upd_ne (fun z => tr z.symm)] at hr; exact hr
  have ra : r ≠ a := fun z => by rw [z, ha] at hr1; cases hr1
  have po1 := (po.new (o := .tup vs) ht).new (o := .tup [.int b, .ref t]) hr
  refine k _ _ po1 ?_ (.tup (.inl upd_same) (fun z => oh r z (po.none ra hr1)) (.cons (.int b) (.cons (.tup (xs := vs) (.inl ?_) (fun z => oh t z (po.none ta ht)) ?_) .nil)))
  · rw [upd_ne (fun z => ra z.symm), upd_ne (fun z => ta z.symm)]
    exact ha
  · rw [upd_ne tr]
    exact upd_same
  · refine rs.keep (fun x o e _ => ?_) fun x _ z => .inl z
    have xt : x ≠ t := fun z => by rw [z, ht] at e; cases e
    have xr : x ≠ r := fun z => by rw [z, hr1] at e; cases e
    rw [upd_ne xr, upd_ne xt]
    exact e
theorem hF_read {K : PySem.W.Frag} {k n p l b : Nat} {ws : W2} {wv : List V} {q2 : Int} {O : Addr → Prop} {H0 : Hp} {a aw an la : Addr} {v6 : Option V} {E : Ends} (oh : ∀ x, O x → H0 x ≠ none) (oa : O a) {q0 : Int} (ha0 : H0 a = some (.lst [.int q0])) (rw' : Rd H0 aw (.lst wv)) (nw : aw ≠ a) (W : WV H0 wv ws) (fl : H0 la = none) (al : la ≠ a) (fan : H0 an = none) (nan : an ≠ a) (lan : la ≠ an) (hk : l < k) (n0 : 0 < n) (hn : n ≤ 100) (hb : ws.length + (l + 1) ≤ n)
    (kk : ∀ v9 v10 vs H, Pot a H0 H → H a = some (.lst [.int (runG (nxH n p l ws b) n q2).2]) → H la = some (.lst vs) → Reps H (fun x => O x ∨ x = la) vs (runG (nxH n p l ws b) n q2).1 →
      E.nx [some (.ref a), some (.int (p : Int)), some (.int (n : Int)), some (.ref aw), some (.int ((l + 1 : Nat) : Int)), some (.int (b : Int)), v6, some (.ref an), some (.ref la), v9, v10] H)
    {H : Hp} (po : Pot a H0 H) (ha : H a = some (.lst [.int q2])) (hl : H la = some (.lst [])) (hn7 : H an = some (.lst ((wN p ws).map V.int))) :
    tHF K (spH k) E [some (.ref a), some (.int (p : Int)), some (.int (n : Int)), some (.ref aw), some (.int ((l + 1 : Nat) : Int)), some (.int (b : Int)), v6, some (.ref an), some (.ref la), none, none] H := by
  refine ⟨_, rfl, (n : Int), rfl, by bv_omega, by bv_omega, ?_⟩
  rw [Int.toNat_natCast]
  have keepL : ∀ {H' : Hp} {o : HO}, Pot a H0 H' → Pot a H0 (upd H' la o) := fun {H' o} h c u e n => by
    rw [upd_ne (fun z => by rw [z, fl] at e; cases e)]
    exact h c u e n
  refine for_range (fun i σ H => ∃ v9 v10 vs, σ = [some (.ref a), some (.int (p : Int)), some (.int (n : Int)), some (.ref aw), some (.int ((l + 1 : Nat) : Int)), some (.int (b : Int)), v6, some (.ref an), some (.ref la), v9, v10] ∧ Pot a H0 H ∧ H a = some (.lst [.int (runG (nxH n p l ws b) i q2).2]) ∧ H la = some (.lst vs) ∧ H an = some (.lst ((wN p ws).map V.int)) ∧ vs.length = i ∧ Reps H (fun x => O x ∨ x = la) vs (runG (nxH n p l ws b) i q2).1) ⟨none, none, [], rfl, po, ha, hl, hn7, rfl, .nil⟩ ?_ ?_
  · clear po ha hl hn7 H
    rintro i σ H hi ⟨v9, v10, vs, rfl, po, ha, hl, hn7, lv, rs⟩
    rw [Int.zero_add]
    have fin : ∀ {H' : Hp} {v : V} {d : D} {q : Int}, Pot a H0 H' → H' a = some (.lst [.int q]) → H' la = some (.lst vs) → H' an = some (.lst ((wN p ws).map V.int)) → Reps H' (fun x => O x ∨ x = la) vs (runG (nxH n p l ws b) i q2).1 → Rep H' (fun x => O x ∨ x = la) v d → nxH n p l ws b i (runG (nxH n p l ws b) i q2).2 = (d, q) →
        ∃ v9 v10 vs', [some (V.ref a), some (.int (p : Int)), some (.int (n : Int)), some (.ref aw), some (.int ((l + 1 : Nat) : Int)), some (.int (b : Int)), v6, some (.ref an), some (.ref la), some (.int (i : Int)), some v] = [some (.ref a), some (.int (p : Int)), some (.int (n : Int)), some (.ref aw), some (.int ((l + 1 : Nat) : Int)), some (.int (b : Int)), v6, some (.ref an), some (.ref la), v9, v10] ∧ Pot a H0 (upd H' la (.lst (vs ++ [v]))) ∧ (upd H' la (.lst (vs ++ [v]))) a = some (.lst [.int (runG (nxH n p l ws b) (i + 1) q2).2]) ∧ (upd H' la (.lst (vs ++ [v]))) la = some (.lst vs') ∧ (upd H' la (.lst (vs ++ [v]))) an = some (.lst ((wN p ws).map V.int)) ∧ vs'.length = i + 1 ∧ Reps (upd H' la (.lst (vs ++ [v]))) (fun x => O x ∨ x = la) vs' (runG (nxH n p l ws b) (i + 1) q2).1 := by
      intro H' v d q po' ha' hl' hn' rs' rv e
      have kp : ∀ c o, H' c = some o → ¬ (O c ∨ c = la) → (upd H' la (.lst (vs ++ [v]))) c = some o := fun c o e n => by rw [upd_ne (fun z => n (.inr z))]; exact e
      refine ⟨_, _, vs ++ [v], rfl, keepL po', ?_, upd_same, by rw [upd_ne (Ne.symm lan)]; exact hn', by rw [List.length_append, lv]; rfl, ?_⟩
      · rw [upd_ne (fun z => al z.symm), ha', runG, e]
      · rw [runG, e]
        exact (rs'.keep kp fun _ _ z => z).append (.one (rv.keep kp fun _ _ z => z))
    refine ⟨_, rfl, _, rfl, an, _, rfl, .inl (SqL.of hn7), rfl, flat_ints _, _, rfl, ?_⟩
    rw [inV_int]
    simp only [if_true]
    by_cases c : (wN p ws).contains (i : Int) = true
    · rw [c]
      simp only [Bool.not_true, Bool.false_eq_true, if_false]
      refine ⟨_, rfl, .inl ⟨rfl, _, SqL.of hl⟩, _, rfl, la, vs, .non, rfl, rfl, hl, by rw [lv]; exact small1000 (by bv_omega), ?_⟩
      exact fin po ha hl hn7 rs .non (by unfold nxH; rw [if_pos c])
    · rw [Bool.not_eq_true] at c
      rw [c]
      simp only [Bool.not_false, if_true]
      refine ⟨_, rfl, _, rfl, _, rfl, _, rfl, _, rfl, _, rfl, by show 2 ≤ sizeLine; decide, fun t1 h1 => ⟨by show 1 ≤ sizeLine; decide, fun t2 h2 => ?_⟩⟩
      have S1 := Same.new (H := H) (o := .tup [.int (b : Int), .int (i : Int)]) h1
      have S2 := Same.new (o := .lst [.ref t1]) h2
      have S12 := S1.trans S2
      have rwH : Rd H aw (.lst wv) := rd_pot rw' po nw
      have WH : WV H wv ws := W.pot ha0 po
      have lw := WH.len
      refine ⟨aw, t2, wv, [.ref t1], rfl, rfl, rd_keep rwH fun o e => S12 _ o e, .inl upd_same, by rw [lw]; exact Nat.le_of_lt (small1000 (by show ws.length + 1 ≤ 1000; bv_omega)), fun q1 h1' => ⟨_, rfl, _, _, rfl, rfl, ?_⟩⟩
      have S3 := Same.new (o := .lst (wv ++ [.ref t1])) h1'
      have S := S12.trans S3
      have qa : q1 ≠ a := fun z => by rw [z, S12 _ _ ha] at h1'; cases h1'
      have W3 : WV (upd (upd (upd H t1 (.tup [.int (b : Int), .int (i : Int)])) t2 (.lst [.ref t1])) q1 (.lst (wv ++ [.ref t1]))) (wv ++ [.ref t1]) (ws ++ [(b, i)]) := (WH.keep fun q o ys r e => S q o e).app (.inl ((S2.trans S3) _ _ upd_same))
      refine ⟨fun x => O x ∨ x = la, a, q1, _, n, p, l, ws ++ [(b, i)], wv ++ [.ref t1], ?_, .inl oa, S _ _ ha, ?_, .inl upd_same, qa, W3, hk, n0, hn, by rw [List.length_append]; simp; bv_omega, fun v H' po' ha' rv => ?_⟩
      · intro x hx
        rcases hx with hx | hx
        · by_cases z : x = a
          · rw [z, S _ _ ha]; exact fun z => nomatch z
          · cases e : H0 x with
            | none => exact absurd e (oh x hx)
            | some o => rw [S _ _ (po x o e z)]; exact fun z => nomatch z
        · rw [hx, S _ _ hl]; exact fun z => nomatch z
      · show [V.ref a, V.int (p : Int), V.int (n : Int), V.ref q1, V.int (((l + 1 : Nat) : Int) - 1)] = _
        rw [show ((l + 1 : Nat) : Int) - 1 = (l : Int) by bv_omega]
      · have pH : Pot a H H' := fun c o e n => po' c o (S c o e) n
        have kp : ∀ c o, H c = some o → ¬ (O c ∨ c = la) → H' c = some o := fun c o e n => pH c o e fun z => n (.inl (by rw [z]; exact oa))
        have hl' := pH la _ hl al
        refine ⟨_, rfl, .inl ⟨rfl, _, SqL.of hl'⟩, _, rfl, la, vs, v, rfl, rfl, hl', by rw [lv]; exact small1000 (by bv_omega), ?_⟩
        exact fin (po.trans pH) ha' hl' (pH an _ hn7 nan) (rs.keep kp fun _ _ z => z) rv (by unfold nxH; rw [c, if_neg Bool.false_ne_true])
  · rintro σ H ⟨v9, v10, vs, rfl, po, ha, hl, _, _, rs⟩
    exact kk v9 v10 vs H po ha hl rs
theorem hW_read {K : PySem.W.Frag} {n : Nat} {bs : List Int} {H : Hp} {ab : Addr} {v0 v1 v3 v4 : Option V} {E : Ends} (n0 : 0 < n) (hn : n ≤ 100) (hb : H ab = some (.lst (bs.map V.int))) : ∀ (k d : Nat), d < n → (∃ j, j < k ∧ bs.contains (((d + j) % n : Nat) : Int) = false) →
    E.nx [v0, v1, some (.int (n : Int)), v3, v4, some (.int ((frB n bs k d : Nat) : Int)), some (.ref ab), none, none, none, none] H → tHW K E [v0, v1, some (.int (n : Int)), v3, v4, some (.int (d : Int)), some (.ref ab), none, none, none, none] H := by
  intro k d hd hj kk
  refine ⟨fun m σ H' => ∃ d', d' < n ∧ (∃ j, j < m ∧ bs.contains (((d' + j) % n : Nat) : Int) = false) ∧ σ = [v0, v1, some (.int (n : Int)), v3, v4, some (.int ((d' : Nat) : Int)), some (.ref ab), none, none, none, none] ∧ H' = H ∧ frB n bs m d' = frB n bs k d, ⟨k, d, hd, hj, rfl, rfl, rfl⟩, ?_⟩
  clear hj
  rintro m σ H' ⟨d', hd', ⟨j, hj, ej⟩, rfl, rfl, e⟩
  obtain ⟨m, rfl⟩ : ∃ m', m = m' + 1 := ⟨m - 1, by bv_omega⟩
  refine ⟨_, rfl, _, rfl, ab, _, rfl, .inl (SqL.of hb), rfl, flat_ints bs, _, rfl, ?_⟩
  rw [inV_int]
  simp only [Bool.false_eq_true, if_false]
  rw [frB] at e
  cases c : bs.contains (d' : Int) with
  | true =>
    rw [if_pos c] at e
    simp only [if_true]
    refine ⟨fun σ' H'' => σ' = [v0, v1, some (.int (n : Int)), v3, v4, some (.int (((d' + 1) % n : Nat) : Int)), some (.ref ab), none, none, none, none] ∧ H'' = H', fun σ' H'' h => ⟨m, by bv_omega, (d' + 1) % n, Nat.mod_lt _ n0, ?_, h.1, h.2, e⟩, ?_⟩
    · cases j with
      | zero =>
        rw [Nat.add_zero, Nat.mod_eq_of_lt hd', c] at ej
        cases ej
      | succ j =>
        refine ⟨j, by bv_omega, ?_⟩
        rw [Nat.mod_add_mod, show d' + 1 + j = d' + (j + 1) by bv_omega]
        exact ej
    · refine ⟨_, rfl, _, _, rfl, rfl, _, rfl, _, _, rfl, rfl, by bv_omega, ?_, rfl⟩
      show [v0, v1, some (V.int (n : Int)), v3, v4, some (.int (((d' : Int) + 1) % (n : Int))), some (.ref ab), none, none, none, none] = _
      rw [show ((d' : Int) + 1) % (n : Int) = (((d' + 1) % n : Nat) : Int) by rw [Int.natCast_emod]; rfl]
  | false =>
    rw [if_neg (by rw [c]; exact Bool.false_ne_true)] at e
    simp only [Bool.false_eq_true, if_false]
    rw [← e] at kk
    exact kk
theorem treeH_read {K : PySem.W.Frag} {k n p l : Nat} {ws : W2} {wv : List V} {q : Int} {O : Addr → Prop} {H : Hp} {a aw : Addr} {E : Ends} (oh : ∀ x, O x → H x ≠ none) (oa : O a) (ha : H a = some (.lst [.int q])) (rw' : Rd H aw (.lst wv)) (nw : aw ≠ a) (W : WV H wv ws) (hk : l < k + 1) (n0 : 0 < n) (hn : n ≤ 100) (hb : ws.length + l ≤ n)
    (kk : ∀ v H', Pot a H H' → H' a = some (.lst [.int (trH n p l ws q).2]) → Rep H' O v (trH n p l ws q).1 → E.rt v H') :
    tH K (spH k) E [some (.ref a), some (.int (p : Int)), some (.int (n : Int)), some (.ref aw), some (.int (l : Int)), none, none, none, none, none, none] H := by
  refine ⟨_, rfl, .int _, .int 0, .int _, .int _, rfl, rfl, _, evI _ _, ?_⟩
  cases l with
  | zero =>
    rw [decide_eq_true (show ((0 : Nat) : Int) = 0 from rfl)]
    simp only [if_true]
    exact kk _ _ (Pot.refl a H) ha .non
  | succ l =>
    rw [decide_eq_false (show ¬ ((l + 1 : Nat) : Int) = 0 by bv_omega)]
    simp only [Bool.false_eq_true, if_false]
    refine ⟨_, rfl, _, rfl, _, _, rfl, rfl, a, q, _, rfl, ha, DivOk.small (by bv_omega) (by bv_omega), ?_⟩
    have q0 := Int.emod_nonneg q (show ((n : Int) + 1) ≠ 0 by bv_omega)
    have q1 := Int.emod_lt_of_pos q (show (0 : Int) < (n : Int) + 1 by bv_omega)
    refine ⟨_, rfl, _, rfl, .int _, .int _, .int _, .int _, rfl, rfl, _, evI _ _, ?_⟩
    by_cases c : q % ((n : Int) + 1) = (n : Int)
    · rw [decide_eq_true c]
      simp only [if_true]
      rw [trH_out c] at kk
      exact kk _ _ Pot.upd upd_same .non
    · rw [decide_eq_false c]
      simp only [Bool.false_eq_true, if_false]
      obtain ⟨d, ed⟩ : ∃ d : Nat, q % ((n : Int) + 1) = (d : Int) := ⟨(q % ((n : Int) + 1)).toNat, by bv_omega⟩
      have hd : d < n := by bv_omega
      have po1 : Pot a H (upd H a (.lst [.int (q / ((n : Int) + 1))])) := Pot.upd
      have ha1 : (upd H a (.lst [.int (q / ((n : Int) + 1))])) a = some (.lst [.int (q / ((n : Int) + 1))]) := upd_same
      have e := trH_in (p := p) (l := l) (ws := ws) (b := frB n (wB ws) n d) c (by rw [ed, Int.toNat_natCast])
      rw [e] at kk
      rw [ed]
      clear e
      show tSeq (tAsg (tHC K 0) (gName 6)) (tSeq (tHW K) (tHN K (spH k))) E [some (.ref a), some (.int (p : Int)), some (.int (n : Int)), some (.ref aw), some (.int ((l + 1 : Nat) : Int)), some (.int (d : Int)), none, none, none, none, none] (upd H a (.lst [.int (q / ((n : Int) + 1))]))
      generalize hH1 : upd H a (.lst [.int (q / ((n : Int) + 1))]) = H1 at po1 ha1 ⊢
      have rwH := rd_pot rw' po1 nw
      have WH := W.pot ha po1
      have fre := free_box (n := n) (bs := wB ws) (by rw [List.length_map]; bv_omega) d hd
      obtain ⟨fr1, fr2⟩ := frB_stop n (wB ws) n d fre hd
      generalize hbb : frB n (wB ws) n d = b at kk fr1 fr2
      refine seqA (hC_read (K := K) (j := 0) (f := fun z => z.1) (ws := ws) rfl rwH WH (by bv_omega) (fun z => rfl) fun ab hab => ?_)
      have aba : ab ≠ a := fun z => by rw [z, ha1] at hab; cases hab
      have S2 := Same.new (H := H1) (o := .lst ((wB ws).map V.int)) hab
      show tHW K { E with nx := tHN K (spH k) E } [some (.ref a), some (.int (p : Int)), some (.int (n : Int)), some (.ref aw), some (.int ((l + 1 : Nat) : Int)), some (.int (d : Int)), some (.ref ab), none, none, none, none] (upd H1 ab (.lst ((wB ws).map V.int)))
      refine hW_read (K := K) (n := n) (bs := wB ws) n0 hn upd_same n d hd fre ?_
      rw [hbb]
      show tHN K (spH k) E [some (.ref a), some (.int (p : Int)), some (.int (n : Int)), some (.ref aw), some (.int ((l + 1 : Nat) : Int)), some (.int (b : Int)), some (.ref ab), none, none, none, none] (upd H1 ab (.lst ((wB ws).map V.int)))
      refine ⟨_, rfl, by show 1 ≤ sizeLine; decide, fun t1 h1 => ?_⟩
      have S3 := Same.new (o := .lst [.int (p : Int)]) h1
      have S23 := S2.trans S3
      show tHC K 1 [some (.ref a), some (.int (p : Int)), some (.int (n : Int)), some (.ref aw), some (.int ((l + 1 : Nat) : Int)), some (.int (b : Int)), some (.ref ab), none, none, none, none] (upd (upd H1 ab (.lst ((wB ws).map V.int))) t1 (.lst [.int (p : Int)])) _
      refine hC_read (K := K) (j := 1) (f := fun z => z.2) (ws := ws) rfl (rd_keep rwH fun o e => S23 _ o e) (WH.keep fun q o ys r e => S23 q o e) (by bv_omega) (fun z => rfl) fun t2 h2 => ?_
      have S4 := Same.new (o := .lst ((ws.map fun z => ((z.2 : Nat) : Int)).map V.int)) h2
      refine ⟨t1, t2, [.int (p : Int)], _, rfl, rfl, .inl (S4 _ _ upd_same), .inl upd_same, by rw [List.length_map, List.length_map]; exact Nat.le_of_lt (small1000 (by show 1 + ws.length ≤ 1000; bv_omega)), fun an h3 => ?_⟩
      have S5 := Same.new (o := .lst ([.int (p : Int)] ++ (ws.map fun z => ((z.2 : Nat) : Int)).map V.int)) h3
      refine ⟨Nat.zero_le _, fun la h4 => ?_⟩
      have S6 := Same.new (o := .lst []) h4
      have S := ((S23.trans S4).trans S5).trans S6
      have lan : la ≠ an := fun z => by rw [z, upd_same] at h4; cases h4
      have up : ∀ {b : Addr}, H1 b = none → b ≠ a → H b = none := fun {b} h n => po1.none n h
      have n3 : H1 an = none := by
        cases e : H1 an with
        | none => rfl
        | some o => rw [(S23.trans S4) _ _ e] at h3; cases h3
      have n4 : H1 la = none := by
        cases e : H1 la with
        | none => rfl
        | some o => rw [((S23.trans S4).trans S5) _ _ e] at h4; cases h4
      have ana : an ≠ a := fun z => by rw [z, ha1] at n3; cases n3
      have laa : la ≠ a := fun z => by rw [z, ha1] at n4; cases n4
      show tHF K (spH k) { E with nx := tHE K E } [some (.ref a), some (.int (p : Int)), some (.int (n : Int)), some (.ref aw), some (.int ((l + 1 : Nat) : Int)), some (.int (b : Int)), some (.ref ab), some (.ref an), some (.ref la), none, none] _
      refine hF_read (K := K) (E := { E with nx := tHE K E }) (k := k) (n := n) (p := p) (l := l) (b := b) (ws := ws) (wv := wv) (q2 := q / ((n : Int) + 1)) (H0 := H) oh oa ha rw' nw W (up n4 laa) laa (up n3 ana) ana lan (by bv_omega) n0 hn hb (fun v9 v10 vs H2 po2 ha2 hl2 rs2 => hE_read oh po2 ha2 (up n4 laa) laa hl2 rs2 kk) ?_ (S _ _ ha1) upd_same (S6 _ _ upd_same)
      exact fun c o ec nc => S _ _ (po1 c o ec nc)
section
variable {P : Program} {w : World} {K : PySem.W.Frag} {mg : Str → Option Value} {base : Heap}
theorem treeH_no {k : Nat} {f : Addr} {fd : FuncData} {ps : List Str} : FnOk P w K mg base CX0 k f fd ps (spH 0) :=
  ⟨fun vs H Q E ⟨_, _, _, _, _, _, _, _, _, _, _, _, _, _, _, _, h, _⟩ => absurd h (Nat.not_lt_zero _), fun A outer s H args us vs Q E _ _ _ _ ⟨_, _, _, _, _, _, _, _, _, _, _, _, _, _, _, _, h, _⟩ => absurd h (Nat.not_lt_zero _)⟩
theorem fn_treeH {x : Str} {st : Stmt} {f : Addr} {fd : FuncData} {N ps : List Str} {j k : Nat} (F : Fun K x x st f fd) (S : FnScope N ps (defScope st)) (hp : ps.length = 5) (hN : N.length = 11)
    (hbody : ∀ (cdv : Value) (A : Around) (outer : List Env) (s : Shared) (H : Hp) (E : XK), Room j (A.deeper (envOfC x (defScope st) s.heap.objs.size f cdv)) → PSs (cxOf CX0 P w K mg base N x (defScope st) f cdv A outer s H E).nox (defBody st) (tH K (spH k))) :
    FnOk P w K mg base CX0 (j + 1) f fd ps (spH (k + 1)) := by
  refine F.ok S (fun vs H Q E ⟨O, a, aw, q, n, p, l, ws, wv, _, _, _, e, _⟩ => by rw [e, hp]; rfl) fun cdv A outer s H vs Q E hr h => ?_
  obtain ⟨O, a, aw, q, n, p, l, ws, wv, oh, oa, ha, rfl, rw', nw, W, hk, n0, hn, hb, kk⟩ := h
  refine ⟨_, hbody cdv A outer s H E hr, ?_⟩
  have st : start N [V.ref a, .int (p : Int), .int (n : Int), .ref aw, .int (l : Int)] = [some (.ref a), some (.int (p : Int)), some (.int (n : Int)), some (.ref aw), some (.int (l : Int)), none, none, none, none, none, none] := by
    unfold start
    rw [hN]
    rfl
  rw [st]
  exact treeH_read oh oa ha rw' nw W hk n0 hn hb kk
end
end L2.L3
set_option maxHeartbeats 4000000
namespace L2.L3
open PySem PySem.Spec PyProof.Rows MR
variable [CN]
noncomputable def opH (n : Nat) (most cell : Int) (i : Nat) : Int := if pwD ((n : Int) + 1) cell i % ((n : Int) + 1) < most then pwD ((n : Int) + 1) cell i % ((n : Int) + 1) else most
noncomputable def opsH (n : Nat) (most cell : Int) : List Int := (List.range n).map (opH n most cell)
noncomputable def nxP (n : Nat) (most cell : Int) : Nat → Int → D × Int := fun i q => trH n i (opH n most cell i).toNat [] q
noncomputable def trsH (n : Nat) (most cell : Int) : List D := (runG (nxP n most cell) n (pwD ((n : Int) + 1) cell n)).1
noncomputable def plH (n : Nat) (most cell : Int) : D := .tuple [tI (opsH n most cell), .tuple (trsH n most cell)]
open Classical in
noncomputable def plHF : List D → Res D
  | [.int cell, .int n, .int most] => if 1 ≤ n ∧ n ≤ 6 ∧ 0 ≤ most ∧ most ≤ n then .ok (plH n.toNat most cell) else .no
  | _ => .no
theorem plHF_no {ds : List D} {c : Str} : plHF ds ≠ .ex c := by
  unfold plHF
  split
  · split <;> exact fun z => nomatch z
  · exact fun z => nomatch z
theorem plHF_ok {ds : List D} {Q : D → Prop} {R : Str → Prop} (h : (plHF ds).post Q R) : ∃ (cell most : Int) (n : Nat), ds = [.int cell, .int (n : Int), .int most] ∧ 1 ≤ n ∧ n ≤ 6 ∧ 0 ≤ most ∧ most ≤ (n : Int) ∧ Q (plH n most cell) := by
  unfold plHF at h
  split at h
  · split at h
    · rename_i cell n most c
      obtain ⟨c1, c2, c3, c4⟩ := c
      obtain ⟨m, rfl⟩ : ∃ m : Nat, n = (m : Int) := ⟨n.toNat, by bv_omega⟩
      rw [Int.toNat_natCast] at h
      exact ⟨cell, most, m, rfl, by bv_omega, by bv_omega, c3, c4, h⟩
    · exact h.elim
  · exact h.elim
theorem plHF_eq {cell most : Int} {n : Nat} (h1 : 1 ≤ n) (h2 : n ≤ 6) (h3 : 0 ≤ most) (h4 : most ≤ (n : Int)) : plHF [.int cell, .int (n : Int), .int most] = .ok (plH n most cell) := by
  unfold plHF
  simp only
  rw [if_pos ⟨by bv_omega, by bv_omega, h3, h4⟩, Int.toNat_natCast]
theorem opH_in {n : Nat} {most cell : Int} (h3 : 0 ≤ most) (i : Nat) : 0 ≤ opH n most cell i ∧ opH n most cell i ≤ most := by
  have h0 := Int.emod_nonneg (pwD ((n : Int) + 1) cell i) (show ((n : Int) + 1) ≠ 0 by bv_omega)
  unfold opH
  split <;> bv_omega
noncomputable def rMin : List V → Hp → VK → Prop := fun xs H Q => ∃ i j, xs = [.int i, .int j] ∧ Q (.int (if j < i then j else i)) H
noncomputable def tPH1 (K : PySem.W.Frag) : TE := tCB (rTup K) (tCons (tComp (iRng1 (tCons (tVar 1) tNil)) (fun _ _ _ _ => tTrue) (fun _ _ _ _ => tCB rMin (tCons (tVar 1) (tCons (tCall spTake [] E0 (tCons (tVar 2) (tCons (tOp rAdd (tVar 3) (tC (.int 1))) tNil))) tNil))) [2, 3, 1]) tNil)
noncomputable def tPH2 (K : PySem.W.Frag) (k : Nat) : TE := tComp (iRng1 (tCons (tVar 1) tNil)) (fun _ _ _ _ => tTrue) (fun _ _ _ _ => tCall (spH k) [] E0 (tCons (tVar 1) (tCons (tVar 0) (tCons (tVar 2) (tCons (tLst tNil) (tCons (tOp (rIxT K) (tVar 3) (tVar 0)) tNil)))))) [3, 1, 4]
noncomputable def tPHE (K : PySem.W.Frag) : TS := tRet (tTup (tCons (tVar 4) (tCons (tCB (rTup K) (tCons (tVar 5) tNil)) tNil)))
noncomputable def tPH (K : PySem.W.Frag) (k : Nat) : TS := tSeq (tAsg (tLst (tCons (tVar 0) tNil)) (gName 3)) (tSeq (tAsg (tPH1 K) (gName 4)) (tSeq (tAsg (tPH2 K k) (gName 5)) (tPHE K)))
theorem ph1_read {K : PySem.W.Frag} {a : Addr} {cell most : Int} {n : Nat} {v4 v5 : Option V} {H : Hp} {Q : VK} (ha : H a = some (.lst [.int cell])) (hn : n ≤ 6)
    (k : ∀ b H', H b = none → H' b = some (.tup ((opsH n most cell).map V.int)) → H' a = some (.lst [.int (pwD ((n : Int) + 1) cell n)]) → Pot a H H' → Q (.ref b) H') : tPH1 K [some (.int cell), some (.int (n : Int)), some (.int most), some (.ref a), v4, v5] H Q := by
  refine ⟨_, rfl, (n : Int), rfl, by bv_omega, by bv_omega, ?_⟩
  rw [Int.toNat_natCast]
  intro C fp s₂ H₂
  refine comp_range (lo := 0) (n := n) (tt := tTrue) (te := tCB rMin (tCons (tVar 1) (tCons (tCall spTake [] E0 (tCons (tVar 2) (tCons (tOp rAdd (tVar 3) (tC (.int 1))) tNil))) tNil))) (js := [2, 3, 1]) (σ := [some (.int cell), some (.int (n : Int)), some (.int most), some (.ref a), v4, v5]) (Q := fun x H1 => rTup K [x] H1 Q) (fun i acc H1 => acc = ((List.range i).map (opH n most cell)).map V.int ∧ H1 a = some (.lst [.int (pwD ((n : Int) + 1) cell i)]) ∧ Pot a H H1) ⟨rfl, ha, Pot.refl a H⟩ ?_ ?_
  · rintro i acc H1 hi ⟨rfl, h1, po⟩
    unfold tTrue
    simp only [if_true]
    refine ⟨_, rfl, _, rfl, _, rfl, _, _, rfl, rfl, a, _, _, rfl, h1, DivOk.small (by bv_omega) (by bv_omega), most, _, rfl, by rw [List.length_map, List.length_map, List.length_range]; exact small1000 (by bv_omega), ?_, upd_same, po.trans Pot.upd⟩
    rw [List.range_succ, List.map_append, List.map_append]
    rfl
  · rintro acc H1 ⟨rfl, h1, po⟩ l hl
    have al : a ≠ l := fun z => by rw [← z, h1] at hl; cases hl
    refine ⟨l, _, rfl, .inl ⟨SqL.of upd_same, fun b hb => ?_⟩⟩
    have bl : b ≠ l := fun z => by rw [z, upd_same] at hb; cases hb
    have ba : b ≠ a := fun z => by rw [z, upd_ne al, h1] at hb; cases hb
    have hb1 : H1 b = none := by rw [upd_ne bl] at hb; exact hb
    refine k b _ (po.none ba hb1) upd_same ?_ ((po.new hl).new hb)
    rw [upd_ne (fun z => ba z.symm), upd_ne al]
    exact h1
theorem ph2_read {K : PySem.W.Frag} {k : Nat} {O : Addr → Prop} {a ao : Addr} {cell most q : Int} {n : Nat} {v5 : Option V} {H : Hp} {Q : VK} (oh : ∀ x, O x → H x ≠ none) (oa : O a) (ha : H a = some (.lst [.int (pwD ((n : Int) + 1) cell n)])) (ho : H ao = some (.tup ((opsH n most cell).map V.int))) (n0 : 1 ≤ n) (hn : n ≤ 6) (hk : 7 ≤ k) (h3 : 0 ≤ most) (h4 : most ≤ (n : Int))
    (kk : ∀ vs H' p, H' p = none → Pot a H H' → (∃ q', H' a = some (.lst [.int q'])) → Reps H' O vs (trsH n most cell) → vs.length = n → Q (.ref p) (upd H' p (.lst vs))) : tPH2 K k [some (.int cell), some (.int (n : Int)), some (.int most), some (.ref a), some (.ref ao), v5] H Q := by
  refine ⟨_, rfl, (n : Int), rfl, by bv_omega, by bv_omega, ?_⟩
  rw [Int.toNat_natCast]
  intro C fp s₂ H₂
  refine comp_range (lo := 0) (n := n) (tt := tTrue) (te := tCall (spH k) [] E0 (tCons (tVar 1) (tCons (tVar 0) (tCons (tVar 2) (tCons (tLst tNil) (tCons (tOp (rIxT K) (tVar 3) (tVar 0)) tNil)))))) (js := [3, 1, 4]) (σ := [some (.int cell), some (.int (n : Int)), some (.int most), some (.ref a), some (.ref ao), v5]) (Q := Q) (fun i acc H1 => Pot a H H1 ∧ H1 a = some (.lst [.int (runG (nxP n most cell) i (pwD ((n : Int) + 1) cell n)).2]) ∧ Reps H1 O acc (runG (nxP n most cell) i (pwD ((n : Int) + 1) cell n)).1 ∧ acc.length = i) ⟨Pot.refl a H, ha, .nil, rfl⟩ ?_ ?_
  · rintro i acc H1 hi ⟨po, h1, rs, la⟩
    unfold tTrue
    simp only [if_true]
    have aoa : ao ≠ a := fun z => by rw [z, ha] at ho; cases ho
    have ho1 := po ao _ ho aoa
    have bo := opH_in (n := n) (cell := cell) h3 i
    have at1 : atI ((opsH n most cell).map V.int) (0 + (i : Int)) = some (.int (opH n most cell i)) := by
      rw [Int.zero_add, atI_map, atI_getD (by unfold opsH; rw [List.length_map, List.length_range]; exact hi)]
      unfold opsH
      rw [List.getD, List.getElem?_map, List.getElem?_range hi]
      rfl
    refine ⟨_, rfl, _, rfl, _, rfl, Nat.zero_le _, fun aw hw => ⟨_, rfl, _, rfl, ao, _, _, _, rfl, rfl, .inl (.inl ?_), at1, ?_⟩⟩
    · rw [upd_ne (fun z => by rw [← z, ho1] at hw; cases hw)]
      exact ho1
    · have S := Same.new (H := H1) (o := .lst []) hw
      have wa : aw ≠ a := fun z => by rw [z, h1] at hw; cases hw
      refine ⟨O, a, aw, _, n, i, (opH n most cell i).toNat, [], [], fun x hx => ?_, oa, S _ _ h1, ?_, .inl upd_same, wa, .nil, by bv_omega, by bv_omega, by bv_omega, by show 0 + _ ≤ n; bv_omega, fun v H' po' ha' rv => ⟨by rw [la]; exact small1000 (by bv_omega), ?_⟩⟩
      · by_cases z : x = a
        · rw [z, S _ _ h1]; exact fun z => nomatch z
        · cases e : H x with
          | none => exact absurd e (oh x hx)
          | some o => rw [S _ _ (po x o e z)]; exact fun z => nomatch z
      · show [V.ref a, V.int (0 + (i : Int)), V.int (n : Int), V.ref aw, V.int (opH n most cell i)] = _
        rw [Int.zero_add, Int.toNat_of_nonneg bo.1]
      · have p1 : Pot a H1 H' := fun c o e n => po' c o (S c o e) n
        refine ⟨po.trans p1, ha', ?_, by rw [List.length_append, la]; rfl⟩
        rw [runG]
        exact (rs.keep (fun c o e n => p1 c o e fun z => n (by rw [z]; exact oa)) fun _ _ z => z).append (.one rv)
  · rintro acc H1 ⟨po, h1, rs, la⟩ p hp
    exact kk acc H1 p hp po ⟨_, h1⟩ rs la
theorem ph_read {K : PySem.W.Frag} {k : Nat} {O : Addr → Prop} {cell most : Int} {n : Nat} {H : Hp} {E : Ends} (oh : ∀ x, O x → H x ≠ none) (n0 : 1 ≤ n) (hn : n ≤ 6) (hk : 7 ≤ k) (h3 : 0 ≤ most) (h4 : most ≤ (n : Int)) (kk : ∀ v H', Same H H' → Rep H' O v (plH n most cell) → E.rt v H') :
    tPH K k E [some (.int cell), some (.int (n : Int)), some (.int most), none, none, none] H := by
  refine ⟨_, rfl, by show 1 ≤ sizeLine; decide, fun a ha => ?_⟩
  have S0 := Same.new (H := H) (o := .lst [.int cell]) ha
  show tSeq (tAsg (tPH1 K) (gName 4)) (tSeq (tAsg (tPH2 K k) (gName 5)) (tPHE K)) E [some (.int cell), some (.int (n : Int)), some (.int most), some (.ref a), none, none] (upd H a (.lst [.int cell]))
  refine seqA (ph1_read upd_same hn fun b H1 fb hb h1 po => ?_)
  show tSeq (tAsg (tPH2 K k) (gName 5)) (tPHE K) E [some (.int cell), some (.int (n : Int)), some (.int most), some (.ref a), some (.ref b), none] H1
  have sH : Same H H1 := fun c o e => po c o (S0 c o e) fun z => by rw [z, ha] at e; cases e
  refine seqA (ph2_read (O := fun x => O x ∨ x = a) (q := 0) (fun x hx => ?_) (.inr rfl) h1 hb n0 hn hk h3 h4 fun vs H2 p hp po2 hq rs lv => ?_)
  · rcases hx with hx | hx
    · exact Same.ne sH (oh x hx)
    · rw [hx, h1]; exact fun z => nomatch z
  · have sH2 : Same H H2 := fun c o e => po2 c o (sH c o e) fun z => by rw [z, ha] at e; cases e
    obtain ⟨q', hq⟩ := hq
    have ba : b ≠ a := fun z => by rw [z, h1] at hb; cases hb
    have hb2 : H2 b = some (.tup ((opsH n most cell).map V.int)) := po2 b _ hb ba
    show tPHE K E [some (.int cell), some (.int (n : Int)), some (.int most), some (.ref a), some (.ref b), some (.ref p)] (upd H2 p (.lst vs))
    have S3 := Same.new (H := H2) (o := .lst vs) hp
    refine ⟨_, rfl, _, rfl, p, vs, rfl, .inl ⟨SqL.of upd_same, fun t ht => ⟨by show 2 ≤ sizeLine; decide, fun r hr => ?_⟩⟩⟩
    have S4 := Same.new (o := .tup vs) ht
    have S5 := Same.new (o := .tup [.ref b, .ref t]) hr
    have S := (S3.trans S4).trans S5
    have fb0 : H b = none := S0.free fb
    have ft : H t = none := sH2.free (S3.free ht)
    have fr : H r = none := sH2.free ((S3.trans S4).free hr)
    refine kk _ _ (sH2.trans S) (.tup (.inl upd_same) (fun z => oh r z fr) (.cons (.tup (.inl (S _ _ hb2)) (fun z => oh b z fb0) (reps_ints _)) (.cons (.tup (xs := vs) (.inl (S5 _ _ upd_same)) (fun z => oh t z ft) ?_) .nil)))
    exact rs.keep (fun c o e _ => S c o e) fun c _ z => .inl z
section
variable {P : Program} {w : World} {K : PySem.W.Frag} {mg : Str → Option Value} {base : Heap}
theorem fn_planH {x : Str} {st : Stmt} {f : Addr} {fd : FuncData} {N ps : List Str} {j k : Nat} (hk : 7 ≤ k) (F : Fun K x x st f fd) (S : FnScope N ps (defScope st)) (hp : ps.length = 3) (hN : N.length = 6)
    (hbody : ∀ (cdv : Value) (A' : Around) (outer : List Env) (s : Shared) (H : Hp) (E : XK), Room j (A'.deeper (envOfC x (defScope st) s.heap.objs.size f cdv)) → PSs (cxOf CX0 P w K mg base N x (defScope st) f cdv A' outer s H E).nox (defBody st) (tPH K k)) :
    FnOk P w K mg base CX0 (j + 1) f fd ps (spF false plHF) := by
  refine F.ok S (fun vs H Q E ⟨ds, O, oh, r, q⟩ => ?_) fun cdv A' outer s H vs Q E hr h => ?_
  · obtain ⟨cell, most, n, rfl, _⟩ := plHF_ok q
    rw [r.length, hp]
    rfl
  · obtain ⟨ds, O, oh, r, q⟩ := h
    obtain ⟨cell, most, n, rfl, h1, h2, h3, h4, q⟩ := plHF_ok q
    refine ⟨_, hbody cdv A' outer s H E hr, ?_⟩
    cases r with
    | cons r1 r2 =>
      cases r1
      cases r2 with
      | cons r2 r3 =>
        cases r2
        cases r3 with
        | cons r3 r4 =>
          cases r3
          cases r4
          have st : start N [V.int cell, V.int (n : Int), V.int most] = [some (.int cell), some (.int (n : Int)), some (.int most), none, none, none] := by
            unfold start
            rw [hN]
            rfl
          rw [st]
          exact ph_read oh h1 h2 hk h3 h4 q
end
end L2.L3
namespace MR
theorem getD_mem {xs : List Int} {i : Nat} (h : i < xs.length) : xs.getD i 0 ∈ xs := by
  rw [List.getD, List.getElem?_eq_getElem h]
  exact List.getElem_mem h
theorem onto {n : Nat} {f : Nat → Nat} (h : ∀ i, i < n → f i < n) (hi : ∀ i j, i < n → j < n → f i = f j → i = j) {c : Nat} (hc : c < n) : ∃ i, i < n ∧ f i = c := by
  refine Classical.byContradiction fun no => ?_
  obtain ⟨i, j, h1, h2, e⟩ := pigeon n (fun i => if i = n then c else f i) fun i hi' => by
    show (if i = n then c else f i) < n
    split
    · exact hc
    · exact h i (by bv_omega)
  have e : (if i = n then c else f i) = (if j = n then c else f j) := e
  rw [if_neg (show i ≠ n by bv_omega)] at e
  by_cases q : j = n
  · rw [if_pos q] at e
    exact no ⟨i, by bv_omega, e⟩
  · rw [if_neg q] at e
    have := hi i j (by bv_omega) (by bv_omega) e
    bv_omega
theorem Ord.onto {n : Nat} {xs : List Int} (o : Ord n xs) {c : Nat} (hc : c < n) : ∃ b, b < n ∧ nxt xs b = c :=
  MR.onto (fun i hi => o.nxt_lt hi) (fun i j hi hj e => o.nxt_inj hi hj e) hc
end MR
namespace MR
noncomputable def ofN (n : Nat) (f : Nat → Nat) : List Int := (List.range n).map fun (b : Nat) => ((f b : Nat) : Int)
theorem ofN_length (n : Nat) (f : Nat → Nat) : (ofN n f).length = n := by unfold ofN; simp
theorem ofN_get {n : Nat} {f : Nat → Nat} {b : Nat} (h : b < n) : (ofN n f).getD b 0 = (f b : Int) := by
  unfold ofN
  simp [List.getD, h]
theorem ofN_ext {n : Nat} {f g : Nat → Nat} (h : ∀ b, b < n → f b = g b) : ofN n f = ofN n g := by
  unfold ofN
  refine List.map_congr_left fun b hb => ?_
  rw [h b (List.mem_range.mp hb)]
theorem ofN_same {n : Nat} {xs : List Int} (o : Ord n xs) : ofN n (nxt xs) = xs := by
  refine List.ext_getElem (by rw [ofN_length, o.len]) fun b h1 h2 => ?_
  rw [ofN_length] at h1
  have e := ofN_get (f := nxt xs) h1
  rw [← o.nxt_int h1] at e
  rw [List.getD_eq_getElem?_getD, List.getD_eq_getElem?_getD, List.getElem?_eq_getElem (by rw [ofN_length]; exact h1), List.getElem?_eq_getElem h2] at e
  exact e
theorem Ord.ext {n : Nat} {xs ys : List Int} (o : Ord n xs) (o' : Ord n ys) (h : ∀ b, b < n → nxt xs b = nxt ys b) : xs = ys := by
  rw [← ofN_same o, ← ofN_same o', ofN_ext h]
end MR
set_option maxHeartbeats 4000000
namespace L2.L3
open PySem PySem.Spec PyProof.Rows
variable [CN]
section
variable {X : Cx}
theorem vals_strs : ∀ {ts : List Str} {us : List Value}, Vals (ts.map V.str) us → ∃ l : List (Str × Tok), us = strValues l ∧ l.map (·.1) = ts
  | [], us, h => by cases h; exact ⟨[], rfl, rfl⟩
  | z :: ts, us, h => by
    cases h with
    | cons r rs =>
      obtain ⟨t, rfl⟩ := r
      obtain ⟨l, rfl, e⟩ := vals_strs rs
      exact ⟨(z, t) :: l, rfl, by rw [List.map_cons, e]⟩
theorem strs_vals : ∀ l : List (Str × Tok), Vals ((l.map (·.1)).map V.str) (strValues l)
  | [] => .nil
  | (z, t) :: l => .cons ⟨t, rfl⟩ (strs_vals l)
noncomputable def rDig : V → List V → Hp → VK → Prop := fun x vs H Q => ∃ z, x = .str z ∧ vs = [] ∧ Q (.bl (Txt.isdigit z)) H
theorem mt_isdigit : MtR X "str.isdigit" rDig := by
  rintro pins s σ H x vs v us Q I rx rv ⟨z, rfl, rfl, q⟩
  obtain ⟨t, rfl⟩ := rx
  cases rv
  exact SC.isdigit ⟨.bl _, H, I, rfl, q⟩
noncomputable def rStw : V → List V → Hp → VK → Prop := fun x vs H Q => ∃ z y, x = .str z ∧ vs = [.str y] ∧ Q (.bl (Txt.startswith z y)) H
theorem mt_startswith : MtR X "str.startswith" rStw := by
  rintro pins s σ H x vs v us Q I rx rv ⟨z, y, rfl, rfl, q⟩
  obtain ⟨t, rfl⟩ := rx
  obtain ⟨u, rfl, t2, rfl⟩ := vals1 rv
  exact SC.startswith ⟨.bl _, H, I, rfl, q⟩
noncomputable def rJoin (K : PySem.W.Frag) : V → List V → Hp → VK → Prop := fun x vs H Q => ∃ z p ts, x = .str z ∧ vs = [.ref p] ∧ SqL K H p (ts.map V.str) ∧ JoinOk z ts = true ∧ Q (.str (Txt.join z ts)) H
theorem mt_join : MtR X "str.join" (rJoin X.K) := by
  rintro pins s σ H x vs v us Q I rx rv ⟨z, p, ts, rfl, rfl, hq, ok, q⟩
  obtain ⟨t, rfl⟩ := rx
  obtain ⟨u, rfl, ru⟩ := vals1 rv
  cases ru
  obtain ⟨its, r, pl, _⟩ := I.list hq
  obtain ⟨l, rfl, el⟩ := vals_strs r
  exact SC.join pl.isList el ok fun t' k => ⟨.str _, H, I.tok _, ⟨_, rfl⟩, q⟩
noncomputable def rSpl : V → List V → Hp → VK → Prop := fun x vs H Q => ∃ z y, x = .str z ∧ vs = [.str y] ∧ 1 ≤ y.length ∧ z.length + 2 ≤ sizeLine ∧ ∀ p, H p = none → Q (.ref p) (upd H p (.lst ((Txt.split z y).map V.str)))
theorem mt_split : MtR X "str.split" rSpl := by
  rintro pins s σ H x vs v us Q I rx rv ⟨z, y, rfl, rfl, hy, hz, q⟩
  obtain ⟨t, rfl⟩ := rx
  obtain ⟨u, rfl, t2, rfl⟩ := vals1 rv
  have y0 : (y.length == 0) = false := by rw [beq_eq_false_iff_ne]; bv_omega
  have few := split_le z y
  have fin : ∀ (l : List (Str × Tok)) (k : Nat), l.map (·.1) = Txt.split z y → EP X pins σ Q (.ref s.heap.objs.size) { s with heap := s.heap.push { cls := .type "list", data := .seq (strValues l).toArray }, toks := k } := fun l k e => by
    have V0 := strs_vals l
    rw [e] at V0
    exact ⟨.ref _, _, I.lnew (t' := k) V0 (by rw [List.length_map]; bv_omega), rfl, q _ I.fresh⟩
  have one : ∀ k, Txt.split z y = [z] → EP X pins σ Q (.ref s.heap.objs.size) { s with heap := s.heap.push { cls := .type "list", data := .seq [Value.str z t].toArray }, toks := k } := fun k e => fin [(z, t)] k (by rw [e]; rfl)
  by_cases c1 : (decide (z.length < y.length) || decide (Builtin.Str.strKind z < Builtin.Str.strKind y)) = true
  · have e : Txt.split z y = [z] := by unfold Txt.split; rw [if_pos c1]
    exact call_meets F.slot_str_split (typeIs_str s z t) F.entry_str_split (F.args_str_split_2 _ _) (meets_str_split_cannot_occur z y t t2 c1) (one s.toks e)
  · have c1' := Bool.not_eq_true _ ▸ c1
    by_cases c2 : (Builtin.Str.occurrences z y 0 z.length (z.length + 1)).isEmpty = true
    · have e : Txt.split z y = [z] := by unfold Txt.split; rw [if_neg c1, if_pos c2]
      exact call_meets F.slot_str_split (typeIs_str s z t) F.entry_str_split (F.args_str_split_2 _ _) (meets_str_split_not_found z y t t2 (by simpa using c1) y0 c2) (one s.toks e)
    · have e : Txt.split z y = Builtin.Str.partsBetween z (Builtin.Str.occurrences z y 0 z.length (z.length + 1)) y.length := by unfold Txt.split; rw [if_neg c1, if_neg c2]
      rw [e] at few
      refine call_meets F.slot_str_split (typeIs_str s z t) F.entry_str_split (F.args_str_split_2 _ _) (meets_str_split_sep z y t t2 (by simpa using c1) y0 (by simpa using c2) (by bv_omega) (by bv_omega)) ?_
      have key := fin (numbered s.toks (Txt.split z y)) (s.toks + (Builtin.Str.partsBetween z (Builtin.Str.occurrences z y 0 z.length (z.length + 1)) y.length).length) (numbered_texts _ _)
      rw [e, ← strsFrom_eq] at key
      exact key
end
noncomputable def strD : D → Option Str
  | .str z => some z
  | _ => none
theorem strD_some {x : D} {z : Str} (h : strD x = some z) : x = .str z := by
  cases x with
  | str y => cases h; rfl
  | _ => cases h
theorem strD_s (z : Str) : strD (.str z) = some z := rfl
noncomputable def strsOf : List D → Option (List Str)
  | [] => some []
  | x :: xs => (strD x).bind fun z => (strsOf xs).bind fun zs => some (z :: zs)
theorem strsOf_map : ∀ zs : List Str, strsOf (zs.map PyData.str) = some zs
  | [] => rfl
  | z :: zs => by
    show (strD (.str z)).bind _ = _
    rw [strD_s, Option.bind_some, strsOf_map zs]
    rfl
theorem strsOf_some : ∀ {ds : List D} {zs : List Str}, strsOf ds = some zs → ds = zs.map PyData.str
  | [], zs, h => by cases h; rfl
  | x :: xs, zs, h => by
    obtain ⟨z, e1, h⟩ := Option.bind_eq_some_iff.mp h
    obtain ⟨ys, e2, h⟩ := Option.bind_eq_some_iff.mp h
    cases h
    rw [strD_some e1, strsOf_some e2]
    rfl
theorem reps_strs {H : Hp} {O : Addr → Prop} : ∀ {zs : List Str} {vs : List V}, Reps H O vs (zs.map PyData.str) → vs = zs.map V.str
  | [], vs, h => by cases h; rfl
  | z :: zs, vs, h => by
    cases h with
    | cons r rs =>
      cases r
      rw [reps_strs rs]
      rfl
theorem strs_reps {H : Hp} {O : Addr → Prop} : ∀ zs : List Str, Reps H O (zs.map V.str) (zs.map PyData.str)
  | [] => .nil
  | z :: zs => .cons (.str z) (strs_reps zs)
noncomputable def eM0S (f : Str → Option D) (mo : Ev → Res D) : Ev → Res D := fun ρ => (mo ρ).bind fun x => (Res.lft (strD x)).bind fun z => Res.lft (f z)
theorem eM0S_ap (f : Str → Option D) (mo : Ev → Res D) (ρ : Ev) : eM0S f mo ρ = (mo ρ).bind fun x => (Res.lft (strD x)).bind fun z => Res.lft (f z) := rfl
theorem re_isdigit {C : Ct} {o : Expr} {apos cpos : Pos} {md : Md} {mo : Ev → Res D} (ho : RE C md o mo)
    (hbase : autoParam (attributeBase o "isdigit" C.X.env (eval o C.X.env) = eval o C.X.env) autoK5._auto_1) (hline : autoParam ((apos.endLine == cpos.line) = true) autoK5._auto_1) :
    RE C .cl (.Call (.Attribute o "isdigit" apos) [] [] cpos) (eM0S (fun z => some (.bool (Txt.isdigit z))) mo) := by
  obtain ⟨to, po, qo⟩ := ho
  refine ⟨_, pe_bm0 PySem.F.plainAttrs_str PySem.F.slot_str_isdigit PySem.F.type_str_isdigit mt_isdigit po hbase hline, fun Oc Ob σ H ρ Q R h => ?_⟩
  refine qo Oc Ob σ H ρ _ R (Res.post_mono (Res.post_bind h) (fun dx _ k x H1 s1 vx => ?_) fun _ z => z)
  obtain ⟨z, ez, k1⟩ := Res.post_lft (Res.post_bind k)
  obtain rfl := strD_some ez
  obtain ⟨d, ed, k2⟩ := Res.post_lft k1
  cases ed
  obtain rfl := (vx.va R.oh).str
  exact ⟨rfl, z, rfl, rfl, k2 _ H1 s1 (Rep.bl _)⟩
noncomputable def eM1S (f : Str → D → Option D) (mo ma : Ev → Res D) : Ev → Res D := fun ρ => (mo ρ).bind fun x => (Res.lft (strD x)).bind fun z => (ma ρ).bind fun y => Res.lft (f z y)
theorem eM1S_ap (f : Str → D → Option D) (mo ma : Ev → Res D) (ρ : Ev) : eM1S f mo ma ρ = (mo ρ).bind fun x => (Res.lft (strD x)).bind fun z => (ma ρ).bind fun y => Res.lft (f z y) := rfl
noncomputable def Pr1S (r : V → List V → Hp → VK → Prop) (md : Md) (f : Str → D → Option D) : Prop :=
  ∀ (Oc : Wd) (Ob : Addr → Prop) (H : Hp) (z : Str) (y : V) (dy d : D) (Q : VK), (∀ a, Oc a ∨ Ob a → H a ≠ none) → VA Oc Ob H y dy → f z dy = some d → (∀ v H', Same H H' → VR md Oc Ob H H' v d → Q v H') → r (.str z) [y] H Q
theorem re_meth1S {C : Ct} {o a : Expr} {name : Str} {id : String} {apos cpos : Pos} {md mda mdr : Md} {mo ma : Ev → Res D} {r : V → List V → Hp → VK → Prop} {f : Str → D → Option D} (slot : Slot "str" name id) (hty : typeOf (.builtin id) = pure (.type "method_descriptor")) (hm : MtR C.X id r) (hp : Pr1S r mdr f) (ho : RE C md o mo) (ha : RE C mda a ma)
    (hbase : autoParam (attributeBase o name C.X.env (eval o C.X.env) = eval o C.X.env) autoK5._auto_1)
    (hfew : ((backTo cpos (starEach [a] C.X.env)).all (fun x => !x.1) && (backToKw cpos (keywordEach [] C.X.env)).all (fun x => x.1.isSome)
      && decide ([a].length + ([] : List Keyword).length + (if ([] : List Keyword).isEmpty then 0 else 1) < 30)) = true := by rfl)
    (hline : autoParam ((apos.endLine == cpos.line) = true) autoK5._auto_1) (hs : autoParam (starEach [a] C.X.env = (false, eval a C.X.env) :: starEach [] C.X.env) autoK5._auto_1) (hplain : autoParam ((backTo cpos (starEach [] C.X.env)).any (·.1) = false) autoK5._auto_1) :
    RE C mdr (.Call (.Attribute o name apos) [a] [] cpos) (eM1S f mo ma) := by
  obtain ⟨to, po, qo⟩ := ho
  obtain ⟨ta, pa, qa⟩ := ha
  refine ⟨_, pe_bm PySem.F.plainAttrs_str slot hty hm po (pa_cons pa pa_nil hs) hbase hfew hline hs hplain, fun Oc Ob σ H ρ Q R h => ?_⟩
  refine qo Oc Ob σ H ρ _ R (Res.post_mono (Res.post_bind h) (fun dx _ k x H1 s1 vx => ?_) fun _ z => z)
  obtain ⟨z, ez, k⟩ := Res.post_lft (Res.post_bind k)
  obtain rfl := strD_some ez
  obtain rfl := (vx.va R.oh).str
  refine ⟨rfl, qa Oc Ob σ H1 ρ _ (R.same s1) (Res.post_mono (Res.post_bind k) (fun dy _ k y H2 s2 vy => ?_) fun c z H' s' => z H' (s1.trans s'))⟩
  obtain ⟨d, ed, k⟩ := Res.post_lft k
  exact hp Oc Ob H2 z y dy d Q ((R.same s1).same s2).oh (vy.va (R.same s1).oh) ed fun v H' s3 rv => k v H' ((s1.trans s2).trans s3) (rv.from (s1.trans s2))
noncomputable def stwD (z : Str) (y : D) : Option D := (strD y).map fun u => .bool (Txt.startswith z u)
theorem p1_startswith : Pr1S rStw .cl stwD := by
  intro Oc Ob H z y dy d Q oh vy e k
  obtain ⟨u, e1, rfl⟩ := Option.map_eq_some_iff.mp e
  obtain rfl := strD_some e1
  obtain rfl := vy.str
  exact ⟨z, u, rfl, rfl, k _ H (Same.refl H) (Rep.bl _)⟩
noncomputable def splD (z : Str) (y : D) : Option D := (strD y).bind fun u => if 1 ≤ u.length ∧ z.length + 2 ≤ sizeLine then some (.list ((Txt.split z u).map PyData.str)) else none
theorem p1_split : Pr1S rSpl .new splD := by
  intro Oc Ob H z y dy d Q oh vy e k
  obtain ⟨u, e1, e0⟩ := Option.bind_eq_some_iff.mp e
  obtain rfl := strD_some e1
  obtain rfl := vy.str
  split at e0
  · rename_i h
    cases e0
    exact ⟨z, u, rfl, rfl, h.1, h.2, fun p hp => k _ _ (Same.new hp) (new_list (Same.refl H) hp (strs_reps _))⟩
  · cases e0
noncomputable def joinD (z : Str) (y : D) : Option D := (lstD y).bind fun ds => (strsOf ds).bind fun ts => if JoinOk z ts = true then some (.str (Str.join z ts)) else none
theorem p1_join {K : PySem.W.Frag} : Pr1S (rJoin K) .cl joinD := by
  intro Oc Ob H z y dy d Q oh vy e k
  obtain ⟨ds, e1, e3⟩ := Option.bind_eq_some_iff.mp e
  obtain ⟨ts, e2, e0⟩ := Option.bind_eq_some_iff.mp e3
  obtain rfl := lstD_some e1
  obtain rfl := strsOf_some e2
  obtain ⟨a, ys, rfl, rd, rs⟩ := vy.list
  obtain rfl := reps_strs rs
  split at e0
  · rename_i h
    cases e0
    refine ⟨z, a, ts, rfl, rfl, .inl rd, h, ?_⟩
    rw [show Txt.join z ts = Str.join z ts from StrLaws.glued_eq_join z ts]
    exact k _ H (Same.refl H) (Rep.str _)
  · cases e0
noncomputable def catS : D → D → Option D := fun x y => (strD x).bind fun a => (strD y).bind fun b => if a.length + b.length ≤ sizeLine then some (.str (a ++ b)) else none
theorem pr_catS : Pr2 (fun x y H Q => ∃ i j, x = .str i ∧ y = .str j ∧ i.length + j.length ≤ sizeLine ∧ Q (.str (i ++ j)) H) .cl catS := by
  intro Oc Ob H x y dx dy d Q oh vx vy e k
  obtain ⟨a, e1, e3⟩ := Option.bind_eq_some_iff.mp e
  obtain ⟨b, e2, e0⟩ := Option.bind_eq_some_iff.mp e3
  obtain rfl := strD_some e1
  obtain rfl := strD_some e2
  split at e0
  · rename_i h
    cases e0
    exact ⟨a, b, vx.str, vy.str, h, k _ H (Same.refl H) (Rep.str _)⟩
  · cases e0
noncomputable def strOfD : List D → Option D
  | [.int i] => if i.natAbs.log2 < 1920 then some (.str (toString i)) else none
  | _ => none
theorem pc_str : PrC (fun xs H Q => ∃ i, xs = [.int i] ∧ i.natAbs.log2 < 1920 ∧ Q (.str (toString i)) H) .cl strOfD := by
  intro Oc Ob H vs ds d Q oh r e k
  unfold strOfD at e
  split at e
  · split at e
    · rename_i h
      cases e
      obtain ⟨v, rfl, hv⟩ := vas_one r
      exact ⟨_, by rw [hv.int], h, k _ H (Same.refl H) (Rep.str _)⟩
    · cases e
  · cases e
theorem call_int_text {X : Cx} : CallR X (.type "int") (fun xs H Q => ∃ z n, xs = [.str z] ∧ PySem.intText? z = some n ∧ z.length ≤ 640 ∧ Q (.int n) H) := by
  rintro pins s σ H xs us Q I r ⟨z, n, rfl, e, hl, q⟩
  obtain ⟨u, rfl, t, rfl⟩ := vals1 r
  exact PySem.W.KIN.call_text e hl ⟨.int n, H, I.tok _, ⟨_, rfl⟩, q⟩
noncomputable def intTD : List D → Option D
  | [.str z] => if z.length ≤ 640 then (PySem.intText? z).map PyData.int else none
  | _ => none
theorem pc_intT : PrC (fun xs H Q => ∃ z n, xs = [.str z] ∧ PySem.intText? z = some n ∧ z.length ≤ 640 ∧ Q (.int n) H) .cl intTD := by
  intro Oc Ob H vs ds d Q oh r e k
  unfold intTD at e
  split at e
  · split at e
    · rename_i h
      obtain ⟨n, en, rfl⟩ := Option.map_eq_some_iff.mp e
      obtain ⟨v, rfl, hv⟩ := vas_one r
      exact ⟨_, n, by rw [hv.str], en, h, k _ H (Same.refl H) (Rep.int _)⟩
    · cases e
  · cases e
noncomputable def lenTD : List D → Option D
  | [.str z] => if z.length ≤ sizeLine then some (.int z.length) else none
  | _ => none
theorem pc_lenT : PrC (fun xs H Q => ∃ z, xs = [.str z] ∧ z.length ≤ sizeLine ∧ Q (.int z.length) H) .cl lenTD := by
  intro Oc Ob H vs ds d Q oh r e k
  unfold lenTD at e
  split at e
  · split at e
    · rename_i h
      cases e
      obtain ⟨v, rfl, hv⟩ := vas_one r
      exact ⟨_, by rw [hv.str], h, k _ H (Same.refl H) (Rep.int _)⟩
    · cases e
  · cases e
end L2.L3
set_option maxHeartbeats 4000000
namespace L2.L3
open PySem PySem.Spec PyProof.Rows
variable [CN]
section
variable {X : Cx}
noncomputable def rSlS : V → Option Int → Option Int → Hp → VK → Prop := fun x lo hi H Q => ∃ z, x = .str z ∧ z.length ≤ sizeLine ∧ Q (.str (Txt.slice z lo hi)) H
theorem part_of {v : Value} {o : Option Int} (h : IsPart v o) : ∃ l : Option (Int × Tok), v = partValue l ∧ l.map (·.1) = o := by
  cases h
  · exact ⟨none, rfl, rfl⟩
  · rename_i i t
    exact ⟨some (i, t), rfl, rfl⟩
theorem sl_str : SlR X rSlS := by
  rintro pins s σ H x v vl vu lo hi sl Q I rx hs pl pu ⟨z, rfl, hz, q⟩
  obtain ⟨t, rfl⟩ := rx
  obtain ⟨l, rfl, rfl⟩ := part_of pl
  obtain ⟨u, rfl, rfl⟩ := part_of pu
  refine ⟨"str", _, F.slot_str_getitem.lookup, typeIs_str _ _ _, wpAny_getItem_str_slice (l := l) (u := u) (st := none) hs rfl (post_val_or_str ⟨Nat.le_trans (Txt.slice_le z _ _) hz, fun t' k => ?_⟩)⟩
  exact ⟨.str _, H, I.tok _, ⟨_, rfl⟩, q⟩
end
noncomputable def slS (x : D) (lo hi : Option Int) : Option D := (strD x).bind fun z => if z.length ≤ sizeLine then some (.str (Txt.slice z lo hi)) else none
theorem ps_str : PrS rSlS .cl slS := by
  intro Oc Ob H x dx lo hi d Q oh va e k
  obtain ⟨z, e1, e0⟩ := Option.bind_eq_some_iff.mp e
  obtain rfl := strD_some e1
  split at e0
  · rename_i h
    cases e0
    exact ⟨z, va.str, h, k _ H (Same.refl H) (Rep.str _)⟩
  · cases e0
theorem re_sliceS {C : Ct} {e : Expr} {lo hi : Option Expr} {mda : Md} {me : Ev → Res D} {ml mh : Ev → Res (Option Int)} {p2 pos : Pos} (he : RE C mda e me) (hl : RO C lo ml) (hu : RO C hi mh) : RE C .cl (.Subscript e (.Slice lo hi none p2) pos) (eS slS me ml mh) := re_slice sl_str ps_str he hl hu
noncomputable def sTryN (mb : Ev → Res Out) : Ev → Res Out := fun ρ => noEx (mb ρ)
theorem rs_tryN {C : Ct} {fr : Bool} {body : List Stmt} {h0 : ExceptHandler} {hs0 : List ExceptHandler} {pos : Pos} {mb : Ev → Res Out}
    (hbody : ∀ (pn : List (Addr × Obj)) (xe : Value → Shared → Prop), RSs ⟨inTry C.X pn xe, fun _ _ => False, C.om, C.ln⟩ fr body mb) : RS C fr (.Try body (h0 :: hs0) [] [] pos) (sTryN mb) := by
  refine ⟨fun D σ H => ∀ pins s, Inv C.X pins σ H s → wpAny (model C.X.prog C.X.w) C.X.A (exec (.Try body (h0 :: hs0) [] [] pos) C.X.env) (SP C.X pins D) C.X.xe s, fun pins s σ H D I h => h pins s I, fun Oc Ob σ H ρ E R hp pins s I => ?_⟩
  refine wpAny_Try_except ?_
  generalize hxe : (fun (e : Value) (s₁ : Shared) => wpAny (model C.X.prog C.X.w) C.X.A (noteFrame e C.X.env) (fun _ s₂ => wpAny (model C.X.prog C.X.w) C.X.A (setFlight e none) (fun _ s₃ => wpAny (model C.X.prog C.X.w) C.X.A (handleBy e C.X.env (h0 :: hs0)) (SP C.X pins E) C.X.xe s₃) C.X.xe s₂) C.X.xe s₁) = xe'
  obtain ⟨tb, pb, qb⟩ := hbody (C.X.pn ++ pins) xe'
  refine wpAny_mono (pb [] s σ H E (Inv.toTry I _) (qb Oc Ob σ H ρ E R ?_)) (fun f s₁ hs => ?_) fun e s₁ z => z
  · unfold sTryN at hp
    cases em : mb ρ with
    | ok o => rw [em] at hp; exact hp
    | no => rw [em] at hp; exact hp.elim
    | ex c => rw [em] at hp; exact hp.elim
  · cases f with
    | next => exact wpAny_execs_nil (SP.ofTry hs)
    | brk => exact SP.ofTry (f := .brk) hs
    | cont => exact SP.ofTry (f := .cont) hs
    | ret u => exact SP.ofTry (f := .ret u) hs
end L2.L3
set_option maxHeartbeats 4000000
namespace L2.L3
open PySem PySem.Spec PyProof.Rows
variable [CN]
section
variable {X : Cx}
noncomputable def ptV (z y : Str) : List V := [.str (Txt.partition z y).1, .str (Txt.partition z y).2.1, .str (Txt.partition z y).2.2]
noncomputable def rPart : V → List V → Hp → VK → Prop := fun x vs H Q => ∃ z y, x = .str z ∧ vs = [.str y] ∧ 1 ≤ y.length ∧ z.length ≤ sizeLine ∧ ∀ p, H p = none → Q (.ref p) (upd H p (.tup (ptV z y)))
theorem Inv.tnew {its : List Value} {ys : List V} {t' : Nat} {pins : List (Addr × Obj)} {σ : St} {H : Hp} {s : Shared} (I : Inv X pins σ H s) (hv : Vals ys its) (hz : ys.length ≤ sizeLine) :
    Inv X pins σ (upd H s.heap.objs.size (.tup ys)) { s with heap := s.heap.push { cls := .type "tuple", data := .seq its.toArray }, toks := t' } :=
  I.laid (fun _ _ q => Heap.get?_push_of_some _ q) (Nat.le_refl _) ⟨hz, its, hv, _, Heap.get?_push_size _ rfl, rfl, ⟨_, rfl⟩, rfl⟩
theorem mt_partition : MtR X "str.partition" rPart := by
  rintro pins s σ H x vs v us Q I rx rv ⟨z, y, rfl, rfl, hy, hz, q⟩
  obtain ⟨t, rfl⟩ := rx
  obtain ⟨u, rfl, t2, rfl⟩ := vals1 rv
  have y0 : (y.length == 0) = false := by rw [beq_eq_false_iff_ne]; bv_omega
  have fin : ∀ (a b c : Tok) (k : Nat), EP X pins σ Q (.ref s.heap.objs.size) { s with heap := s.heap.push { cls := .type "tuple", data := .seq [Value.str (Txt.partition z y).1 a, .str (Txt.partition z y).2.1 b, .str (Txt.partition z y).2.2 c].toArray }, toks := k } := fun a b c k =>
    ⟨.ref _, _, Inv.tnew (ys := ptV z y) I (.cons ⟨a, rfl⟩ (.cons ⟨b, rfl⟩ (.cons ⟨c, rfl⟩ .nil))) (by show 3 ≤ sizeLine; decide), rfl, q _ I.fresh⟩
  refine call_meets F.slot_str_partition (typeIs_str s z t) F.entry_str_partition (F.args_str_partition_2 _ _) (meets_str_partition z y t t2 y0 hz) ?_
  unfold Txt.partition at fin
  generalize Builtin.Str.occurrences z y 0 z.length 1 = l at fin ⊢
  cases l with
  | cons i r => exact fin _ _ _ _
  | nil => exact fin _ _ _ _
end
end L2.L3
set_option maxHeartbeats 4000000
namespace L2.L3
open PySem PySem.Spec PyProof.Rows
variable [CN]
noncomputable def catZ (acc : Str) (zs : List Str) : Str := zs.foldl (fun a b => a ++ b) acc
noncomputable abbrev TJ := St → Hp → (List Str → Hp → Prop) → Prop
noncomputable def PJs (X : Cx) (n : Nat) (es : List Expr) (t : TJ) : Prop :=
  ∀ (pins : List (Addr × Obj)) (s : Shared) (σ : St) (H : Hp) (acc : Str) (K : Str → Hp → Prop), Inv X pins σ H s → acc.length ≤ n * 1000000 → t σ H (fun zs H' => K (catZ acc zs) H') →
    Joins (model X.prog X.w) X.A X.xe (evalEach es X.env) acc (fun out s₁ => out.length ≤ sizeLine ∧ ∃ H', Inv X pins σ H' s₁ ∧ K out H') s
theorem line16 : 16 * 1000000 ≤ sizeLine := by decide
section
variable {X : Cx} {n : Nat} {es : List Expr} {t : TJ}
theorem pj_nil (hn : n ≤ 16) : PJs X n [] (fun _ H Q => Q [] H) := by
  intro pins s σ H acc K I hl h
  have := line16
  have := Nat.mul_le_mul_right 1000000 hn
  exact ⟨by bv_omega, H, I, h⟩
theorem pj_const {a : Str} {j : Nat} {p : Pos} (ha : a.length ≤ 1000) (hn : n + 1 ≤ 16) (h : PJs X (n + 1) es t) : PJs X n (.Constant (.str a) j p :: es) (fun σ H Q => t σ H fun zs H' => Q (a :: zs) H') := by
  intro pins s σ H acc K I hl hk
  have := line16
  have := Nat.mul_le_mul_right 1000000 hn
  show wpAny _ _ (eval (.Constant (.str a) j p) X.env) _ _ _
  refine Calls.Constant_str ⟨a, _, rfl, by rw [Str.length_append]; bv_omega, ?_⟩
  exact h pins _ σ H (acc ++ a) K (I.tok _) (by rw [Str.length_append]; bv_omega) hk
theorem pj_str {e : Expr} {te : TE} {p : Pos} (he : PE X e te) (hn : n + 1 ≤ 16) (h : PJs X (n + 1) es t) : PJs X n (.FormattedValue e (-1) none p :: es) (fun σ H Q => te σ H fun x H1 => ∃ z, x = .str z ∧ z.length ≤ 1000000 ∧ t σ H1 fun zs H' => Q (z :: zs) H') := by
  intro pins s σ H acc K I hl hk
  have := line16
  have := Nat.mul_le_mul_right 1000000 hn
  show wpAny _ _ (eval (.FormattedValue e (-1) none p) X.env) _ _ _
  refine wpAny_FormattedValue_plain (thn (he pins _ σ H _ I hk) fun v s1 ⟨x, H1, I1, r1, z, ez, hz, q⟩ => ?_)
  subst ez
  obtain ⟨u, rfl⟩ := r1
  have go : ∀ s2, Inv X pins σ H1 s2 → Joins (model X.prog X.w) X.A X.xe (evalEach es X.env) (acc ++ z) (fun out s₁ => out.length ≤ sizeLine ∧ ∃ H', Inv X pins σ H' s₁ ∧ K out H') s2 := fun s2 I2 => h pins s2 σ H1 (acc ++ z) K I2 (by rw [Str.length_append]; bv_omega) q
  exact wpAny_formatField_str ⟨z, _, rfl, by rw [Str.length_append]; bv_omega, go _ I1⟩ ⟨z, _, rfl, by rw [Str.length_append]; bv_omega, go _ (I1.tok _)⟩ (by bv_omega)
theorem pj_int {e : Expr} {te : TE} {p : Pos} (he : PE X e te) (hn : n + 1 ≤ 16) (h : PJs X (n + 1) es t) : PJs X n (.FormattedValue e (-1) none p :: es) (fun σ H Q => te σ H fun x H1 => ∃ i, x = .int i ∧ i.natAbs.log2 < 1920 ∧ (toString i : Str).length ≤ 1000000 ∧ t σ H1 fun zs H' => Q ((toString i : Str) :: zs) H') := by
  intro pins s σ H acc K I hl hk
  have := line16
  have := Nat.mul_le_mul_right 1000000 hn
  show wpAny _ _ (eval (.FormattedValue e (-1) none p) X.env) _ _ _
  refine wpAny_FormattedValue_plain (thn (he pins _ σ H _ I hk) fun v s1 ⟨x, H1, I1, r1, i, ei, hd, hz, q⟩ => ?_)
  subst ei
  obtain ⟨u, rfl⟩ := r1
  refine wpAny_formatField_int hd ⟨_, _, rfl, by rw [Str.length_append]; bv_omega, ?_⟩
  exact h pins _ σ H1 (acc ++ (toString i : Str)) K (I1.tok _) (by rw [Str.length_append]; bv_omega) q
theorem pe_joined {v1 v2 : Expr} {pos : Pos} (h : PJs X 0 (v1 :: v2 :: es) t) : PE X (.JoinedStr (v1 :: v2 :: es) pos) (fun σ H Q => t σ H fun zs H' => Q (.str (catZ Str.empty zs)) H') := by
  intro pins s σ H Q I hk
  refine wpAny_JoinedStr ?_
  have key := h pins s σ H Str.empty (fun out H' => Q (.str out) H') I (Nat.zero_le _) hk
  have mono : ∀ (parts : List (Sem Value)) (acc : Str) (Q1 Q2 : Str → Shared → Prop) (s : Shared), (∀ o s, Q1 o s → Q2 o s) → Joins (model X.prog X.w) X.A X.xe parts acc Q1 s → Joins (model X.prog X.w) X.A X.xe parts acc Q2 s := fun parts => by
    induction parts with
    | nil => exact fun acc Q1 Q2 s h k => h _ _ k
    | cons p ps ih => exact fun acc Q1 Q2 s h k => wpAny_mono k (fun v s1 ⟨y, u, e, l, j⟩ => ⟨y, u, e, l, ih _ _ _ _ h j⟩) fun _ _ z => z
  refine mono _ _ _ _ _ (fun o s1 ⟨l, H', I', k⟩ => ⟨l, .str o, H', I'.tok _, ⟨_, rfl⟩, k⟩) key
end
noncomputable def RJ (C : Ct) (n : Nat) (es : List Expr) (ms : Ev → Res (List Str)) : Prop :=
  ∃ t, PJs C.X n es t ∧ ∀ (Oc : Wd) (Ob : Addr → Prop) (σ : St) (H : Hp) (ρ : Ev) (Q : List Str → Hp → Prop), Rel Oc Ob C.om C.ln σ H ρ →
    (ms ρ).post (fun zs => ∀ H', Same H H' → Q zs H') (fun c => ∀ H', Same H H' → C.XE c H') → t σ H Q
noncomputable def jN : Ev → Res (List Str) := fun _ => .ok []
noncomputable def jC (a : Str) (ms : Ev → Res (List Str)) : Ev → Res (List Str) := fun ρ => (ms ρ).bind fun zs => .ok (a :: zs)
noncomputable def jS (f : D → Option Str) (m : Ev → Res D) (ms : Ev → Res (List Str)) : Ev → Res (List Str) := fun ρ => (m ρ).bind fun x => (Res.lft (f x)).bind fun z => (ms ρ).bind fun zs => .ok (z :: zs)
noncomputable def fS (x : D) : Option Str := (strD x).bind fun z => if z.length ≤ 1000000 then some z else none
noncomputable def fI : D → Option Str
  | .int i => if i.natAbs.log2 < 1920 ∧ (toString i : Str).length ≤ 1000000 then some (toString i) else none
  | _ => none
section
variable {C : Ct} {n : Nat} {es : List Expr} {ms : Ev → Res (List Str)}
theorem rj_nil (hn : autoParam (n ≤ 16) autoK2._auto_1) : RJ C n [] jN := ⟨_, pj_nil hn, fun Oc Ob σ H ρ Q R h => h H (Same.refl H)⟩
theorem rj_const {a : Str} {j : Nat} {p : Pos} (h : RJ C (n + 1) es ms) (ha : autoParam (a.length ≤ 1000) autoK2._auto_1) (hn : autoParam (n + 1 ≤ 16) autoK2._auto_1) : RJ C n (.Constant (.str a) j p :: es) (jC a ms) := by
  obtain ⟨t, p, q⟩ := h
  exact ⟨_, pj_const ha hn p, fun Oc Ob σ H ρ Q R h => q Oc Ob σ H ρ _ R (Res.post_mono (Res.post_bind h) (fun zs _ k H' s => k H' s) fun _ z => z)⟩
theorem rj_str {e : Expr} {md : Md} {m : Ev → Res D} {p : Pos} (he : RE C md e m) (h : RJ C (n + 1) es ms) (hn : autoParam (n + 1 ≤ 16) autoK2._auto_1) : RJ C n (.FormattedValue e (-1) none p :: es) (jS fS m ms) := by
  obtain ⟨te, pe, qe⟩ := he
  obtain ⟨t, p, q⟩ := h
  refine ⟨_, pj_str pe hn p, fun Oc Ob σ H ρ Q R h => qe Oc Ob σ H ρ _ R (Res.post_mono (Res.post_bind h) (fun dx _ k x H1 s1 vx => ?_) fun _ z => z)⟩
  obtain ⟨z, ez, k1⟩ := Res.post_lft (Res.post_bind k)
  obtain ⟨y, e1, e0⟩ := Option.bind_eq_some_iff.mp ez
  obtain rfl := strD_some e1
  split at e0
  · rename_i hl
    cases e0
    exact ⟨z, (vx.va R.oh).str, hl, q Oc Ob σ H1 ρ _ (R.same s1) (Res.post_mono (Res.post_bind k1) (fun zs _ k2 H' s => k2 H' (s1.trans s)) fun c z H' s => z H' (s1.trans s))⟩
  · cases e0
theorem rj_int {e : Expr} {md : Md} {m : Ev → Res D} {p : Pos} (he : RE C md e m) (h : RJ C (n + 1) es ms) (hn : autoParam (n + 1 ≤ 16) autoK2._auto_1) : RJ C n (.FormattedValue e (-1) none p :: es) (jS fI m ms) := by
  obtain ⟨te, pe, qe⟩ := he
  obtain ⟨t, p, q⟩ := h
  refine ⟨_, pj_int pe hn p, fun Oc Ob σ H ρ Q R h => qe Oc Ob σ H ρ _ R (Res.post_mono (Res.post_bind h) (fun dx _ k x H1 s1 vx => ?_) fun _ z => z)⟩
  obtain ⟨z, ez, k1⟩ := Res.post_lft (Res.post_bind k)
  cases dx with
  | int i =>
    have e0 : (if i.natAbs.log2 < 1920 ∧ (toString i : Str).length ≤ 1000000 then some (toString i : Str) else none) = some z := ez
    split at e0
    · rename_i hl
      cases e0
      exact ⟨i, (vx.va R.oh).int, hl.1, hl.2, q Oc Ob σ H1 ρ _ (R.same s1) (Res.post_mono (Res.post_bind k1) (fun zs _ k2 H' s => k2 H' (s1.trans s)) fun c z H' s => z H' (s1.trans s))⟩
    · cases e0
  | _ => cases ez
noncomputable def eJ (ms : Ev → Res (List Str)) : Ev → Res D := fun ρ => (ms ρ).bind fun zs => .ok (.str (catZ Str.empty zs))
theorem re_joined {v1 v2 : Expr} {pos : Pos} (h : RJ C 0 (v1 :: v2 :: es) ms) : RE C .cl (.JoinedStr (v1 :: v2 :: es) pos) (eJ ms) := by
  obtain ⟨t, p, q⟩ := h
  exact ⟨_, pe_joined p, fun Oc Ob σ H ρ Q R h => q Oc Ob σ H ρ _ R (Res.post_mono (Res.post_bind h) (fun zs _ k H' s => k _ H' s (Rep.str _)) fun _ z => z)⟩
end
end L2.L3
set_option maxHeartbeats 4000000
namespace L2.L3
open PySem PySem.Spec PyProof.Rows MR
variable [CN]
noncomputable abbrev Fs := List (Int × List D)
noncomputable def Run (F1 F2 : List D → Res D) (r p : Int) (t : D) : Nat → Option D → Str → Fs → Prop
  | 0, _, _, _ => False
  | m + 1, none, s, fs => (s.length ≤ sizeLine ∧ fs.length ≤ 900) ∧ ((Txt.startswith s "-" = true ∧ ∃ s1, F2 [.str s, .str "-", .int r] = .ok (.str s1) ∧ Run F1 F2 r p t m (some .none) s1 fs) ∨
      (Txt.startswith s "-" = false ∧ ∃ n, F1 [.str (Txt.partition s "(").1, .int r] = .ok (.int n) ∧ Run F1 F2 r p t m none (Txt.partition s "(").2.2 ((n, []) :: fs)))
  | _ + 1, some d, s, [] => s = "" ∧ d = t
  | m + 1, some d, s, (n, ds) :: fs => ds.length ≤ 900 ∧ (((ds.length : Int) = p - 1 ∧ ∃ s1, F2 [.str s, .str ")", .int r] = .ok (.str s1) ∧ Run F1 F2 r p t m (some (.tuple [.int n, .tuple (ds ++ [d])])) s1 fs) ∨
      (¬ (ds.length : Int) = p - 1 ∧ ∃ s1, F2 [.str s, .str " ", .int r] = .ok (.str s1) ∧ Run F1 F2 r p t m none s1 ((n, ds ++ [d]) :: fs)))
theorem ok_inj {a b : Str} {x : Res D} (h : x = .ok (.str a)) (h' : x = .ok (.str b)) : a = b := by
  rw [h] at h'; cases h'; rfl
theorem run_det {F1 F2 : List D → Res D} {r p : Int} {t t' : D} : ∀ (m m' : Nat) (o : Option D) (s : Str) (fs : Fs), Run F1 F2 r p t m o s fs → Run F1 F2 r p t' m' o s fs → t = t'
  | 0, _, _, _, _, h, _ => h.elim
  | _ + 1, 0, _, _, _, _, h => h.elim
  | m + 1, m' + 1, none, s, fs, h, h' => by
    rcases h.2 with ⟨c, s1, e, k⟩ | ⟨c, n, e, k⟩ <;> rcases h'.2 with ⟨c', s1', e', k'⟩ | ⟨c', n', e', k'⟩
    · cases ok_inj e e'
      exact run_det m m' _ _ _ k k'
    · rw [c] at c'; cases c'
    · rw [c] at c'; cases c'
    · rw [e] at e'
      cases e'
      exact run_det m m' _ _ _ k k'
  | m + 1, m' + 1, some d, s, [], h, h' => h.2.symm.trans h'.2
  | m + 1, m' + 1, some d, s, (n, ds) :: fs, h, h' => by
    rcases h.2 with ⟨c, s1, e, k⟩ | ⟨c, s1, e, k⟩ <;> rcases h'.2 with ⟨c', s1', e', k'⟩ | ⟨c', s1', e', k'⟩
    · cases ok_inj e e'
      exact run_det m m' _ _ _ k k'
    · exact absurd c c'
    · exact absurd c' c
    · cases ok_inj e e'
      exact run_det m m' _ _ _ k k'
open Classical in
noncomputable def rtF (F1 F2 : List D → Res D) : List D → Res D
  | [.str z, .int p, .int r] => if h : ∃ t m, Run F1 F2 r p t m none z [] then .ok h.choose else .no
  | _ => .no
theorem rtF_eq {F1 F2 : List D → Res D} {r p : Int} {t : D} {m : Nat} {z : Str} (h : Run F1 F2 r p t m none z []) : rtF F1 F2 [.str z, .int p, .int r] = .ok t := by
  have hx : ∃ t m, Run F1 F2 r p t m none z [] := ⟨t, m, h⟩
  unfold rtF
  simp only
  rw [dif_pos hx]
  obtain ⟨m', h'⟩ := hx.choose_spec
  rw [run_det m' m _ _ _ h' h]
theorem rtF_ok {F1 F2 : List D → Res D} {ds : List D} {Q : D → Prop} {R : Str → Prop} (h : (rtF F1 F2 ds).post Q R) : ∃ z p r t m, ds = [.str z, .int p, .int r] ∧ Run F1 F2 r p t m none z [] ∧ Q t := by
  unfold rtF at h
  split at h
  · split at h
    · rename_i hx
      obtain ⟨m, hm⟩ := hx.choose_spec
      exact ⟨_, _, _, _, m, rfl, hm, h⟩
    · exact h.elim
  · exact h.elim
mutual
inductive TV (H0 H : Hp) : V → D → Prop
  | non : TV H0 H .non .none
  | int (i : Int) : TV H0 H (.int i) (.int i)
  | tup {q : Addr} {xs : List V} {ds : List D} : H q = some (.tup xs) → H0 q = none → TVs H0 H xs ds → TV H0 H (.ref q) (.tuple ds)
inductive TVs (H0 H : Hp) : List V → List D → Prop
  | nil : TVs H0 H [] []
  | cons {v : V} {d : D} {vs : List V} {ds : List D} : TV H0 H v d → TVs H0 H vs ds → TVs H0 H (v :: vs) (d :: ds)
end
noncomputable def TK (H H' : Hp) : Prop := ∀ q xs, H q = some (.tup xs) → H' q = some (.tup xs)
section
variable {H0 H H' : Hp}
mutual
theorem TV.keep (k : TK H H') : ∀ {v : V} {d : D}, TV H0 H v d → TV H0 H' v d
  | _, _, .non => .non
  | _, _, .int i => .int i
  | _, _, .tup e n t => .tup (k _ _ e) n (TVs.keep k t)
theorem TVs.keep (k : TK H H') : ∀ {vs : List V} {ds : List D}, TVs H0 H vs ds → TVs H0 H' vs ds
  | _, _, .nil => .nil
  | _, _, .cons h t => .cons (TV.keep k h) (TVs.keep k t)
end
mutual
theorem TV.rep {O : Addr → Prop} (oh : ∀ a, O a → H0 a ≠ none) : ∀ {v : V} {d : D}, TV H0 H v d → Rep H O v d
  | _, _, .non => .non
  | _, _, .int i => .int i
  | _, _, .tup e n t => .tup (.inl e) (fun z => oh _ z n) (TVs.rep oh t)
theorem TVs.rep {O : Addr → Prop} (oh : ∀ a, O a → H0 a ≠ none) : ∀ {vs : List V} {ds : List D}, TVs H0 H vs ds → Reps H O vs ds
  | _, _, .nil => .nil
  | _, _, .cons h t => .cons (TV.rep oh h) (TVs.rep oh t)
end
theorem TVs.len : ∀ {vs : List V} {ds : List D}, TVs H0 H vs ds → vs.length = ds.length
  | _, _, .nil => rfl
  | _, _, .cons _ t => congrArg (· + 1) (TVs.len t)
theorem TVs.app {v : V} {d : D} (h : TV H0 H v d) : ∀ {vs : List V} {ds : List D}, TVs H0 H vs ds → TVs H0 H (vs ++ [v]) (ds ++ [d])
  | _, _, .nil => .cons h .nil
  | _, _, .cons g t => .cons g (TVs.app h t)
theorem tk_same (s : Same H H') : TK H H' := fun q xs e => s q _ e
theorem tk_lst {a : Addr} {xs : List V} {o : HO} (h : H a = some (.lst xs)) : TK H (upd H a o) := fun q ys e => by
  rw [upd_ne (fun z => by rw [z, h] at e; cases e)]
  exact e
theorem TK.trans {H'' : Hp} (k : TK H H') (l : TK H' H'') : TK H H'' := fun q xs e => l q xs (k q xs e)
theorem same_own {a : Addr} {o : HO} (s : Same H0 H) (n : H0 a = none) : Same H0 (upd H a o) := fun q u e => by
  rw [upd_ne (fun z => by rw [z, n] at e; cases e)]
  exact s q u e
theorem same_none {a : Addr} (s : Same H H') (n : H' a = none) : H a = none := by
  cases e : H a with
  | none => rfl
  | some o => rw [s a o e] at n; cases n
end
inductive FR (H0 : Hp) (b : Addr) (H : Hp) : Fs → List V → List Addr → Prop
  | nil : FR H0 b H [] [] []
  | cons {n : Int} {ds : List D} {fs : Fs} {vs : List V} {las : List Addr} {q la : Addr} {ws : List V} : FR H0 b H fs vs las → H q = some (.tup [.int n, .ref la]) → H la = some (.lst ws) → H0 la = none → la ≠ b → la ∉ las → TVs H0 H ws ds → FR H0 b H ((n, ds) :: fs) (vs ++ [.ref q]) (la :: las)
section
variable {H0 H H' : Hp} {b : Addr}
theorem FR.keep (k : TK H H') : ∀ {fs : Fs} {vs : List V} {las : List Addr}, (∀ la ∈ las, ∀ ws, H la = some (.lst ws) → H' la = some (.lst ws)) → FR H0 b H fs vs las → FR H0 b H' fs vs las
  | _, _, _, _, .nil => .nil
  | _, _, _, l, .cons t hq hl n nb nl tv => .cons (t.keep k fun la h => l la (List.mem_cons_of_mem _ h)) (k _ _ hq) (l _ List.mem_cons_self _ hl) n nb nl (tv.keep k)
theorem FR.len : ∀ {fs : Fs} {vs : List V} {las : List Addr}, FR H0 b H fs vs las → vs.length = fs.length
  | _, _, _, .nil => rfl
  | _, _, _, .cons t _ _ _ _ _ _ => by rw [List.length_append, t.len]; rfl
theorem FR.mem : ∀ {fs : Fs} {vs : List V} {las : List Addr}, FR H0 b H fs vs las → ∀ la ∈ las, la ≠ b ∧ ∃ ws, H la = some (.lst ws)
  | _, _, _, .nil, _, h => nomatch h
  | _, _, _, .cons t _ hl _ nb _ _, la, h => by
    rcases List.mem_cons.mp h with rfl | h
    · exact ⟨nb, _, hl⟩
    · exact t.mem la h
end
noncomputable def Stt (H0 H : Hp) (b : Addr) (fs : Fs) : Prop := ∃ vs las, Same H0 H ∧ H0 b = none ∧ H b = some (.lst vs) ∧ FR H0 b H fs vs las
theorem Stt.same {H0 H H' : Hp} {b : Addr} {fs : Fs} (S : Stt H0 H b fs) (s : Same H H') : Stt H0 H' b fs := by
  obtain ⟨vs, las, sm, fb, hb, fr⟩ := S
  exact ⟨vs, las, sm.trans s, fb, s _ _ hb, fr.keep (tk_same s) fun la _ ws e => s _ _ e⟩
section
variable (K : PySem.W.Frag) (F1 F2 : List D → Res D)
noncomputable def tBs (sg : Str) : TS := tAsg (tCall (spX false F2) [] E0 (tCons (tVar 4) (tCons (tC (.str sg)) (tCons (tVar 2) tNil)))) (gName 4)
noncomputable def tDn : TS := tWhile (tNot (tB (tBM K "str" rStw (tVar 4) (tCons (tC (.str "-")) tNil)))) (tSeq (tAsg (tBM K "str" rPart (tVar 4) (tCons (tC (.str "(")) tNil)) (gName 5))
  (tSeq (tDrop (tBM K "list" rAppend (tVar 3) (tCons (tTup (tCons (tCall (spX false F1) [] E0 (tCons (tOp (rIxT K) (tVar 5) (tC (.int 0))) (tCons (tVar 2) tNil))) (tCons (tLst tNil) tNil))) tNil))) (tAsg (tOp (rIxT K) (tVar 5) (tC (.int 2))) (gName 4))))
noncomputable def tTop : TE := tOp (rIxT K) (tOp (rIxL K) (tVar 3) (tUn (rU fun i => .int (-i)) (tC (.int 1)))) (tC (.int 1))
noncomputable def tUpW : TS := tWhile (tAnd (tTest (tOp (rI0 fun i j => .bl (decide (j < i))) (tCB (rLnS K) (tCons (tVar 3) tNil)) (tC (.int 0)))) (tTest (tOp (rEqD K false) (tCB (rLnS K) (tCons (tTop K) tNil)) (tOp rSub (tVar 1) (tC (.int 1))))))
  (tSeq (tBs F2 ")") (tSeq (tAsg (tBM0 K "list" rPop (tVar 3)) (gName 7)) (tAsg (tTup (tCons (tOp (rIxT K) (tVar 7) (tC (.int 0))) (tCons (tCB (rTup K) (tCons (tOp rCatR (tOp (rIxT K) (tVar 7) (tC (.int 1))) (tLst (tCons (tVar 6) tNil))) tNil)) tNil))) (gName 6))))
noncomputable def tEn : TS := tSeq (tIfS (tTest (tOp (rEqD K false) (tCB (rLnS K) (tCons (tVar 3) tNil)) (tC (.int 0)))) (tSeq (tIfS (tTest (tOp (rEqD K true) (tVar 4) (tC (.str "")))) tNever tNext) (tRet (tVar 6))) tNext)
  (tSeq (tBs F2 " ") (tDrop (tBM K "list" rAppend (tTop K) (tCons (tVar 6) tNil))))
noncomputable def tRt : TS := tSeq (tAsg (tLst tNil) (gName 3)) (tSeq (tAsg (tVar 0) (gName 4)) (tWhile (tB (tC (.bl true))) (tSeq (tDn K F1) (tSeq (tBs F2 "-") (tSeq (tAsg (tC .non) (gName 6)) (tSeq (tUpW K F2) (tEn K F2)))))))
end
theorem callX {F : List D → Res D} {vs : List V} {ds : List D} {d : D} {H : Hp} {Q : VK} {E : XK} (e : F ds = .ok d) (r : Reps H (fun _ => False) vs ds) (k : ∀ v H', Same H H' → Rep H' (fun _ => False) v d → Q v H') : spX false F vs H Q E :=
  ⟨ds, fun _ => False, fun _ z => z.elim, r, by rw [e]; exact fun v H' s c => k v H' s c⟩
section
variable {K : PySem.W.Frag} {F1 F2 : List D → Res D} {r p : Int} {t : D} {H0 : Hp} {b : Addr} {z : V}
theorem bs_read {sg s s1 : Str} {v0 v1 v3 v5 v6 v7 : Option V} {H : Hp} {E : Ends} (e : F2 [.str s, .str sg, .int r] = .ok (.str s1)) (k : ∀ H', Same H H' → E.nx [v0, v1, some (.int r), v3, some (.str s1), v5, v6, v7] H') :
    tBs F2 sg E [v0, v1, some (.int r), v3, some (.str s), v5, v6, v7] H := by
  refine ⟨_, rfl, _, rfl, ?_⟩
  refine callX (ds := [.str s, .str sg, .int r]) e (.cons (.str _) (.cons (.str _) (.cons (.int _) .nil))) fun v H' sm rv => ?_
  cases rv
  exact k H' sm
theorem dn_read {m : Nat} {s : Str} {fs : Fs} {v5 v6 v7 : Option V} {H : Hp} {E : Ends} (S : Stt H0 H b fs) (R : Run F1 F2 r p t m none s fs)
    (kk : ∀ m' s fs v5 H, m' ≤ m → Run F1 F2 r p t m' none s fs → Txt.startswith s "-" = true → Stt H0 H b fs → E.nx [some z, some (.int p), some (.int r), some (.ref b), some (.str s), v5, v6, v7] H) :
    tDn K F1 E [some z, some (.int p), some (.int r), some (.ref b), some (.str s), v5, v6, v7] H := by
  refine ⟨fun m' σ H => m' ≤ m ∧ ∃ s fs v5, σ = [some z, some (.int p), some (.int r), some (.ref b), some (.str s), v5, v6, v7] ∧ Stt H0 H b fs ∧ Run F1 F2 r p t m' none s fs, ⟨m, Nat.le_refl _, s, fs, v5, rfl, S, R⟩, ?_⟩
  clear S R
  rintro m' σ H ⟨hm, s, fs, v5, rfl, S, R⟩
  cases m' with
  | zero => exact R.elim
  | succ m' =>
    obtain ⟨⟨hs, hf⟩, R⟩ := R
    refine ⟨_, rfl, rfl, s, "-", rfl, rfl, _, rfl, ?_⟩
    rcases R with ⟨h, R⟩ | ⟨h, n, e1, R⟩
    · rw [h]
      simp only [Bool.not_true, Bool.false_eq_true, if_false]
      exact kk (m' + 1) s fs v5 H hm ⟨⟨hs, hf⟩, .inl ⟨h, R⟩⟩ h S
    · rw [h]
      simp only [Bool.not_false, if_true]
      refine ⟨fun σ' H' => ∃ v5, σ' = [some z, some (.int p), some (.int r), some (.ref b), some (.str (Txt.partition s "(").2.2), v5, v6, v7] ∧ Stt H0 H' b ((n, []) :: fs), fun σ' H' ⟨v5, e, S'⟩ => ⟨m', by bv_omega, by bv_omega, _, _, v5, e, S', R⟩, ?_⟩
      obtain ⟨vs, las, sm, fb, hb, fr⟩ := S
      refine ⟨_, rfl, rfl, s, "(", rfl, rfl, by decide, hs, fun q hq => ?_⟩
      have s1 := Same.new (H := H) (o := .tup (ptV s "(")) hq
      refine ⟨_, rfl, .inl ⟨rfl, _, SqL.of (s1 _ _ hb)⟩, ?_⟩
      refine ⟨_, rfl, q, _, 0, _, rfl, rfl, .inl (.inl upd_same), rfl, _, rfl, ?_⟩
      refine callX (ds := [.str (Txt.partition s "(").1, .int r]) e1 (.cons (.str _) (.cons (.int _) .nil)) fun v H2 s2 rv => ?_
      cases rv
      refine ⟨Nat.zero_le _, fun la hla => ⟨by show 2 ≤ sizeLine; decide, fun q2 hq2 => ?_⟩⟩
      have s3 := Same.new (o := .lst []) hla
      have s4 := Same.new (o := .tup [.int n, .ref la]) hq2
      have s12 := s1.trans s2
      have s14 := (s12.trans s3).trans s4
      have hb4 := s14 _ _ hb
      refine ⟨b, vs, _, rfl, rfl, hb4, by rw [fr.len]; exact small1000 (by bv_omega), ?_⟩
      have qb : q ≠ b := fun y => by rw [y, hb] at hq; cases hq
      have hq5 : (upd (upd (upd H2 la (.lst [])) q2 (.tup [.int n, .ref la])) b (.lst (vs ++ [.ref q2]))) q = some (.tup (ptV s "(")) := by
        rw [upd_ne qb]
        exact ((s2.trans s3).trans s4) _ _ upd_same
      refine ⟨_, rfl, q, _, 2, _, rfl, rfl, .inl (.inl hq5), rfl, _, rfl, vs ++ [.ref q2], la :: las, same_own (sm.trans s14) fb, fb, upd_same, ?_⟩
      have lab : la ≠ b := fun y => by rw [y, s12 _ _ hb] at hla; cases hla
      have q2b : q2 ≠ b := fun y => by rw [y, (s12.trans s3) _ _ hb] at hq2; cases hq2
      refine .cons (fr.keep ((tk_same s14).trans (tk_lst hb4)) fun l hl ws e => ?_) ?_ (ws := []) ?_ (same_none (sm.trans s12) hla) lab (fun y => ?_) .nil
      · rw [upd_ne (fr.mem l hl).1]
        exact s14 _ _ e
      · rw [upd_ne q2b]
        exact upd_same
      · rw [upd_ne lab]
        exact s4 _ _ upd_same
      · obtain ⟨_, ws, e⟩ := fr.mem la y
        rw [s12 _ _ e] at hla
        cases hla
theorem up_read {m : Nat} {s : Str} {fs : Fs} {d : D} {v : V} {v5 v7 : Option V} {H : Hp} {E : Ends} (S : Stt H0 H b fs) (T : TV H0 H v d) (R : Run F1 F2 r p t m (some d) s fs)
    (kk : ∀ m' s fs d v v7 H, m' ≤ m → Run F1 F2 r p t m' (some d) s fs → (∀ n ds fs', fs = (n, ds) :: fs' → ¬ (ds.length : Int) = p - 1) → TV H0 H v d → Stt H0 H b fs → E.nx [some z, some (.int p), some (.int r), some (.ref b), some (.str s), v5, some v, v7] H) :
    tUpW K F2 E [some z, some (.int p), some (.int r), some (.ref b), some (.str s), v5, some v, v7] H := by
  refine ⟨fun m' σ H => m' ≤ m ∧ ∃ s fs d v v7, σ = [some z, some (.int p), some (.int r), some (.ref b), some (.str s), v5, some v, v7] ∧ Stt H0 H b fs ∧ TV H0 H v d ∧ Run F1 F2 r p t m' (some d) s fs, ⟨m, Nat.le_refl _, s, fs, d, v, v7, rfl, S, T, R⟩, ?_⟩
  clear S T R
  rintro m' σ H ⟨hm, s, fs, d, v, v7, rfl, S, T, R⟩
  cases m' with
  | zero => exact R.elim
  | succ m' =>
    obtain ⟨vs, las, sm, fb, hb, fr⟩ := id S
    refine ⟨_, rfl, b, vs, rfl, .inl (SqL.of hb), _, 0, rfl, rfl, _, rfl, ?_⟩
    cases fr with
    | nil =>
      rw [decide_eq_false (show ¬ (0 : Int) < (([] : List V).length : Int) from fun y => by cases y)]
      simp only [Bool.false_eq_true, if_false]
      exact kk (m' + 1) s [] d v v7 H hm R (fun _ _ _ y => nomatch y) T S
    | @cons n ds fs vs las q la ws fr hq hl n0 nb nl tv =>
      rw [decide_eq_true (show (0 : Int) < ((vs ++ [V.ref q]).length : Int) by rw [List.length_append, List.length_singleton]; bv_omega)]
      simp only [if_true]
      refine ⟨_, rfl, 1, rfl, b, _, -1, .ref q, rfl, rfl, SqL.of hb, atI_last _ _, q, _, 1, .ref la, rfl, rfl, .inl (.inl hq), rfl, la, ws, rfl, .inl (SqL.of hl), _, rfl, _, 1, rfl, rfl, .int _, .int _, .int _, .int _, rfl, rfl, _, evI _ _, ?_⟩
      obtain ⟨few, R⟩ := R
      rw [tv.len]
      rcases R with ⟨c, s1, e, R⟩ | ⟨c, s1, e, R⟩
      · rw [decide_eq_true c]
        simp only [if_true]
        refine ⟨fun σ' H' => ∃ v v7, σ' = [some z, some (.int p), some (.int r), some (.ref b), some (.str s1), v5, some v, v7] ∧ Stt H0 H' b fs ∧ TV H0 H' v (.tuple [.int n, .tuple (ds ++ [d])]), fun σ' H' ⟨v, v7, e, S', T'⟩ => ⟨m', by bv_omega, by bv_omega, s1, fs, _, v, v7, e, S', T', R⟩, ?_⟩
        refine bs_read e fun H1 s1' => ?_
        have hb1 := s1' _ _ hb
        refine ⟨_, rfl, .inl ⟨rfl, _, SqL.of hb1⟩, b, _, .ref q, rfl, rfl, hb1, by rw [List.length_append, List.getElem?_append_right (by simp)]; simp, ?_⟩
        rw [List.dropLast_concat]
        have lab : la ≠ b := nb
        have qb : q ≠ b := fun y => by rw [y, hb] at hq; cases hq
        have hq2 : (upd H1 b (.lst vs)) q = some (.tup [.int n, .ref la]) := by rw [upd_ne qb]; exact s1' _ _ hq
        have hl2 : (upd H1 b (.lst vs)) la = some (.lst ws) := by rw [upd_ne lab]; exact s1' _ _ hl
        have hb2 : (upd H1 b (.lst vs)) b = some (.lst vs) := upd_same
        have sm2 : Same H0 (upd H1 b (.lst vs)) := same_own (sm.trans s1') fb
        have tk2 : TK H (upd H1 b (.lst vs)) := (tk_same s1').trans (tk_lst hb1)
        have ls2 : ∀ l ∈ las, ∀ us, H l = some (.lst us) → (upd H1 b (.lst vs)) l = some (.lst us) := fun l hl us e => by
          rw [upd_ne (fr.mem l hl).1]
          exact s1' _ _ e
        generalize upd H1 b (.lst vs) = H2 at hq2 hl2 hb2 sm2 tk2 ls2 ⊢
        refine ⟨_, rfl, q, _, 0, _, rfl, rfl, .inl (.inl hq2), rfl, _, rfl, q, _, 1, _, rfl, rfl, .inl (.inl hq2), rfl, _, rfl, by show 1 ≤ sizeLine; decide, fun l1 h1 => ?_⟩
        have s3 := Same.new (o := .lst [v]) h1
        refine ⟨la, l1, ws, [v], rfl, rfl, .inl (s3 _ _ hl2), .inl upd_same, by rw [tv.len]; exact Nat.le_of_lt (small1000 (by show ds.length + 1 ≤ 1000; bv_omega)), fun l2 h2 => ?_⟩
        have s4 := Same.new (o := .lst (ws ++ [v])) h2
        refine ⟨l2, _, rfl, .inl ⟨SqL.of upd_same, fun t3 h3 => ⟨by show 2 ≤ sizeLine; decide, fun t4 h4 => ?_⟩⟩⟩
        have s5 := Same.new (o := .tup (ws ++ [v])) h3
        have s6 := Same.new (o := .tup [.int n, .ref t3]) h4
        have s34 := s3.trans s4
        have s35 := s34.trans s5
        have s36 := s35.trans s6
        have tk6 := tk2.trans (tk_same s36)
        refine ⟨.ref t4, _, rfl, ⟨vs, las, sm2.trans s36, fb, s36 _ _ hb2, fr.keep tk6 fun l hl us e => s36 _ _ (ls2 l hl us e)⟩, ?_⟩
        exact .tup upd_same (same_none (sm2.trans s35) h4) (.cons (.int n) (.cons (.tup (s6 _ _ upd_same) (same_none (sm2.trans s34) h3) ((tv.keep tk6).app (T.keep tk6))) .nil))
      · rw [decide_eq_false c]
        simp only [Bool.false_eq_true, if_false]
        exact kk (m' + 1) s ((n, ds) :: fs) d v v7 H hm (show _ ∧ _ from ⟨few, .inr ⟨c, s1, e, R⟩⟩) (fun n' ds' fs' y => by cases y; exact c) T S
theorem en_read {m : Nat} {s : Str} {fs : Fs} {d : D} {v : V} {v5 v7 : Option V} {H : Hp} {E : Ends} (S : Stt H0 H b fs) (T : TV H0 H v d) (R : Run F1 F2 r p t m (some d) s fs) (C : ∀ n ds fs', fs = (n, ds) :: fs' → ¬ (ds.length : Int) = p - 1)
    (kr : ∀ v H, Same H0 H → TV H0 H v t → E.rt v H) (kn : ∀ m' s fs H, m' < m → Run F1 F2 r p t m' none s fs → Stt H0 H b fs → E.nx [some z, some (.int p), some (.int r), some (.ref b), some (.str s), v5, some v, v7] H) :
    tEn K F2 E [some z, some (.int p), some (.int r), some (.ref b), some (.str s), v5, some v, v7] H := by
  cases m with
  | zero => exact R.elim
  | succ m =>
    obtain ⟨vs, las, sm, fb, hb, fr⟩ := id S
    refine ⟨_, rfl, b, vs, rfl, .inl (SqL.of hb), .int _, .int 0, .int _, .int _, rfl, rfl, _, evI _ _, ?_⟩
    cases fr with
    | nil =>
      obtain ⟨rfl, rfl⟩ := R
      rw [decide_eq_true (show (([] : List V).length : Int) = 0 from rfl)]
      simp only [if_true]
      refine ⟨_, rfl, .str "", .str "", .str _, .str _, by decide +kernel, by decide +kernel, false, rfl, ?_⟩
      simp only [Bool.false_eq_true, if_false]
      exact ⟨_, rfl, kr v H sm T⟩
    | @cons n ds fs vs las q la ws fr hq hl n0 nb nl tv =>
      rw [decide_eq_false (show ¬ ((vs ++ [V.ref q]).length : Int) = 0 by rw [List.length_append, List.length_singleton]; bv_omega)]
      simp only [Bool.false_eq_true, if_false]
      obtain ⟨few, R⟩ := R
      rcases R with ⟨c, s1, e, R⟩ | ⟨c, s1, e, R⟩
      · exact absurd c (C n ds fs rfl)
      · refine bs_read e fun H1 s1' => ?_
        have hb1 := s1' _ _ hb
        have hq1 := s1' _ _ hq
        have hl1 := s1' _ _ hl
        refine ⟨_, rfl, 1, rfl, b, _, -1, .ref q, rfl, rfl, SqL.of hb1, atI_last _ _, q, _, 1, .ref la, rfl, rfl, .inl (.inl hq1), rfl, .inl ⟨rfl, _, SqL.of hl1⟩, _, rfl, la, ws, v, rfl, rfl, hl1, by rw [tv.len]; exact small1000 (by bv_omega), ?_⟩
        have tk : TK H (upd H1 la (.lst (ws ++ [v]))) := (tk_same s1').trans (tk_lst hl1)
        refine kn m s1 _ _ (Nat.lt_succ_self _) R ⟨vs ++ [.ref q], la :: las, same_own (sm.trans s1') n0, fb, by rw [upd_ne (Ne.symm nb)]; exact hb1, .cons (fr.keep tk fun l hl' us e => ?_) (tk _ _ hq) upd_same n0 nb nl ((tv.keep tk).app (T.keep tk))⟩
        rw [upd_ne (fun y => by subst y; exact nl hl')]
        exact s1' _ _ e
theorem rt_read {m : Nat} {s : Str} {H : Hp} {E : Ends} (R : Run F1 F2 r p t m none s []) (kr : ∀ v H', Same H H' → TV H H' v t → E.rt v H') :
    tRt K F1 F2 E [some (.str s), some (.int p), some (.int r), none, none, none, none, none] H := by
  refine ⟨Nat.zero_le _, fun b hb => ⟨_, rfl, ?_⟩⟩
  refine ⟨fun m σ H' => ∃ s' fs v5 v6 v7, σ = [some (.str s), some (.int p), some (.int r), some (.ref b), some (.str s'), v5, v6, v7] ∧ Stt H H' b fs ∧ Run F1 F2 r p t m none s' fs, ⟨m, s, [], none, none, none, rfl, ⟨[], [], Same.new hb, hb, upd_same, .nil⟩, R⟩, ?_⟩
  clear R
  rintro m σ H' ⟨s', fs, v5, v6, v7, rfl, S, R⟩
  refine ⟨true, rfl, ?_⟩
  simp only [if_true]
  refine ⟨fun σ' H'' => ∃ m', m' < m ∧ ∃ s' fs v5 v6 v7, σ' = [some (.str s), some (.int p), some (.int r), some (.ref b), some (.str s'), v5, v6, v7] ∧ Stt H H'' b fs ∧ Run F1 F2 r p t m' none s' fs, fun σ' H'' h => h, ?_⟩
  refine dn_read S R fun m1 s1 fs1 v5 H1 hm1 R1 c S1 => ?_
  cases m1 with
  | zero => exact R1.elim
  | succ m1 =>
    rcases R1.2 with ⟨_, s2, e, R2⟩ | ⟨c', _⟩
    · refine bs_read e fun H2 sm2 => ?_
      show tSeq (tUpW K F2) (tEn K F2) _ [some (.str s), some (.int p), some (.int r), some (.ref b), some (.str s2), v5, some .non, v7] H2
      refine up_read (S1.same sm2) .non R2 fun m3 s3 fs3 d v v7 H3 hm3 R3 C T S3 => ?_
      refine en_read S3 T R3 C (fun v H'' sm tv => kr v H'' sm tv) fun m4 s4 fs4 H4 hm4 R4 S4 => ⟨m4, by bv_omega, s4, fs4, _, _, _, rfl, S4, R4⟩
    · rw [c] at c'
      cases c'
end
theorem passF {X : Cx} : Passes (CXV X.prog X.w) X E0 := fun pins σ H s e s' I h => by
  obtain ⟨_, _, _, _, _, _, _, _, _, _, _, _, _, z⟩ := h
  exact z.elim
section
variable {P : Program} {w : World} {K : PySem.W.Frag} {mg : Str → Option Value} {base : Heap}
theorem fn_rt {x : Str} {st : Stmt} {f : Addr} {fd : FuncData} {N ps : List Str} {k : Nat} (F1 F2 : List D → Res D) (F : Fun K x x st f fd) (S : FnScope N ps (defScope st)) (hp : ps.length = 3) (hN : N.length = 8)
    (hbody : ∀ (cdv : Value) (A : Around) (outer : List Env) (s : Shared) (H : Hp) (E : XK), Room k (A.deeper (envOfC x (defScope st) s.heap.objs.size f cdv)) → PSs (bodyX P w K mg base N x (defScope st) f cdv A outer s H E []).X (defBody st) (tRt K F1 F2)) :
    FnOk P w K mg base (CXV P w) (k + 1) f fd ps (spX false (rtF F1 F2)) := by
  have len : ∀ (vs : List V) (H : Hp) (Q : VK) (E : XK), spX false (rtF F1 F2) vs H Q E → vs.length = ps.length := fun vs H Q E h => by
    obtain ⟨ds, O, oh, r, k⟩ := h
    obtain ⟨z, p, r', t, m, rfl, _⟩ := rtF_ok k
    rw [r.length, hp]
    rfl
  obtain ⟨oc, od, kV, doc, pm, an, cdv, ct, osl, rfl, lk, hcd⟩ := F.ex
  refine fn_of lk hcd S len fun A outer s H vs Q E hr h => ?_
  obtain ⟨ds, O, oh, r, k⟩ := h
  obtain ⟨z, p, r', t, m, rfl, R, k⟩ := rtF_ok k
  refine ⟨_, hbody cdv A outer s H E hr, ?_⟩
  cases r with
  | cons r1 r =>
    cases r with
    | cons r2 r =>
      cases r with
      | cons r3 r =>
        cases r
        cases r1
        cases r2
        cases r3
        have st : start N [V.str z, .int p, .int r'] = [some (.str z), some (.int p), some (.int r'), none, none, none, none, none] := by
          unfold start
          rw [hN]
          rfl
        rw [st]
        exact rt_read R fun v H' s c => k v H' s (c.rep oh)
end
end L2.L3
set_option maxHeartbeats 4000000
namespace MR
open PySem PySem.StrLaws PySem.Builtin PySem.Builtin.Str
noncomputable def tl (x : Str) : List Nat := x.cps.toList
theorem tl_len (x : Str) : (tl x).length = x.length := by unfold tl Str.length; simp
theorem tl_app (a b : Str) : tl (a ++ b) = tl a ++ tl b := by unfold tl; rw [Str.cps_append]; simp
theorem tl_ext {a b : Str} (h : tl a = tl b) : a = b := by
  apply Str.ext'
  have : a.cps.toList.toArray = b.cps.toList.toArray := congrArg _ h
  simpa using this
theorem tl_mk (l : List Nat) : tl ⟨l.toArray⟩ = l := by unfold tl; simp
theorem join_cons (y p q : Str) (r : List Str) : Str.join y (p :: q :: r) = p ++ y ++ Str.join y (q :: r) := rfl
theorem at_iff {x y : Str} {k : Nat} (h1 : 1 ≤ y.length) : At x y x.length k ↔ ((tl x).drop k).take y.length = tl y := by
  unfold At
  rw [subAt_eq, beq_iff_eq]
  constructor
  · exact fun h => h.2
  · intro h
    refine ⟨?_, h⟩
    have l := congrArg List.length h
    rw [tl_len, List.length_take, List.length_drop, tl_len] at l
    bv_omega
theorem sub_tl (x : Str) (a b : Nat) : tl (strSub x a b) = ((tl x).drop a).take (b - a) := strSub_toList x a b
theorem parts_back {x y : Str} {c : Nat} {y' : List Nat} (hy : tl y = c :: y') : ∀ (ps : List Str) (a f : Nat) (cuts : List Nat), ps ≠ [] → (∀ p ∈ ps, c ∉ tl p) → (tl x).drop a = tl (Str.join y ps) → a ≤ x.length → ChainG x y x.length a cuts f → (∀ k, f ≤ k → ¬ At x y x.length k) → partsFrom x y.length a cuts = ps := by
  have y1 : 1 ≤ y.length := by rw [← tl_len, hy]; simp
  have fst : ∀ k, At x y x.length k → (tl x)[k]? = some c := fun k h => by
    have e := (at_iff y1).mp h
    rw [hy] at e
    have := congrArg (fun l => l[0]?) e
    simp only [List.getElem?_cons_zero] at this
    rw [List.getElem?_take_of_lt (by bv_omega), List.getElem?_drop] at this
    simpa using this
  intro ps
  induction ps with
  | nil => intro a f cuts h; exact absurd rfl h
  | cons p ps ih =>
    intro a f cuts _ hc hd ha hG hn
    have pc := hc p List.mem_cons_self
    cases ps with
    | nil =>
      have hd : (tl x).drop a = tl p := hd
      have no : ∀ k, a ≤ k → ¬ At x y x.length k := fun k hk h => by
        have e := fst k h
        have e2 : (tl p)[k - a]? = some c := by
          rw [← hd, List.getElem?_drop, show a + (k - a) = k by bv_omega]
          exact e
        exact pc (List.mem_of_getElem? e2)
      cases cuts with
      | cons d r => exact absurd hG.2.1 (no d hG.1)
      | nil =>
        show [strSub x a x.length] = [p]
        rw [show strSub x a x.length = p from tl_ext (by rw [sub_tl, hd, List.take_of_length_le]; rw [← hd, List.length_drop, tl_len]; exact Nat.le_refl _)]
    | cons q r =>
      rw [join_cons, tl_app, tl_app] at hd
      have len := congrArg List.length hd
      rw [List.length_drop, List.length_append, List.length_append, tl_len, tl_len, tl_len] at len
      have here : At x y x.length (a + p.length) := by
        refine (at_iff y1).mpr ?_
        rw [← List.drop_drop, hd, List.append_assoc, List.drop_append_of_le_length (by rw [tl_len]; exact Nat.le_refl _), ← tl_len p, List.drop_length, List.nil_append, ← tl_len y, List.take_append_of_le_length (Nat.le_refl _), List.take_length]
      have early : ∀ k, a ≤ k → k < a + p.length → ¬ At x y x.length k := fun k hk hl h => by
        have e := fst k h
        have e2 : (tl p)[k - a]? = some c := by
          have e3 : ((tl x).drop a)[k - a]? = some c := by rw [List.getElem?_drop, show a + (k - a) = k by bv_omega]; exact e
          rw [hd, List.append_assoc, List.getElem?_append_left (by rw [tl_len]; bv_omega)] at e3
          exact e3
        exact pc (List.mem_of_getElem? e2)
      cases cuts with
      | nil =>
        have ef : f = a := hG
        exact absurd here (hn _ (by bv_omega))
      | cons d r' =>
        obtain ⟨g1, g2, g3, g4⟩ := hG
        have ed : d = a + p.length := by
          by_cases l1 : d < a + p.length
          · exact absurd g2 (early d g1 l1)
          · by_cases l2 : a + p.length < d
            · exact absurd here (g3 _ (by bv_omega) l2)
            · bv_omega
        subst ed
        show strSub x a (a + p.length) :: partsFrom x y.length (a + p.length + y.length) r' = p :: q :: r
        have e1 : strSub x a (a + p.length) = p := tl_ext (by
          rw [sub_tl, hd, show a + p.length - a = p.length by bv_omega, List.append_assoc, ← tl_len p, List.take_append_of_le_length (Nat.le_refl _), List.take_length])
        rw [e1, ih (a + p.length + y.length) f r' (fun z => nomatch z) (fun z hz => hc z (List.mem_cons_of_mem _ hz)) ?_ (by bv_omega) g4 hn]
        rw [show a + p.length + y.length = a + (p.length + y.length) by bv_omega, ← List.drop_drop, hd, ← tl_app, List.drop_append_of_le_length (by rw [tl_len, Str.length_append]; exact Nat.le_refl _), show p.length + y.length = (tl (p ++ y)).length by rw [tl_len, Str.length_append], List.drop_length, List.nil_append]
theorem kind_pos (x : Str) : 1 ≤ Builtin.Str.strKind x := by
  unfold Builtin.Str.strKind
  split
  · exact Nat.le_refl _
  · split <;> decide
theorem split_join {y : Str} {c : Nat} {y' : List Nat} (hy : tl y = c :: y') (hk : Builtin.Str.strKind y = 1) {ps : List Str} (h0 : ps ≠ []) (hc : ∀ p ∈ ps, c ∉ tl p) : Txt.split (Str.join y ps) y = ps := by
  have y1 : 1 ≤ y.length := by rw [← tl_len, hy]; simp
  obtain ⟨f, hG, hn⟩ := occ_tight (Str.join y ps) y y1
  have key := parts_back hy ps 0 f _ h0 hc rfl (Nat.zero_le _) hG hn
  have whole : occurrences (Str.join y ps) y 0 (Str.join y ps).length ((Str.join y ps).length + 1) = [] → [Str.join y ps] = ps := fun e => by
    rw [e] at key
    have key : [strSub (Str.join y ps) 0 (Str.join y ps).length] = ps := key
    rw [sub_whole] at key
    exact key
  unfold Txt.split
  split
  · rename_i h
    refine whole ?_
    rw [Bool.or_eq_true, decide_eq_true_eq, decide_eq_true_eq] at h
    rcases h with h | h
    · cases e : occurrences (Str.join y ps) y 0 (Str.join y ps).length ((Str.join y ps).length + 1) with
      | nil => rfl
      | cons d r =>
        rw [e] at hG
        have := hG.2.1.1
        bv_omega
    · have := kind_pos (Str.join y ps)
      bv_omega
  · split
    · rename_i h
      exact whole (List.isEmpty_iff.mp h)
    · rw [partsBetween_eq]
      exact key
end MR
set_option maxHeartbeats 4000000
namespace MR
open PySem PySem.StrLaws PySem.Builtin PySem.Builtin.Str
theorem st_iff {x y : Str} : Txt.startswith x y = true ↔ (tl x).take y.length = tl y := by
  show (decide (0 + y.length ≤ x.length) && subAt x y 0) = true ↔ _
  rw [Bool.and_eq_true, decide_eq_true_eq, subAt_eq, beq_iff_eq]
  constructor
  · exact fun h => h.2
  · intro h
    refine ⟨?_, h⟩
    have l := congrArg List.length h
    rw [tl_len, List.length_take, tl_len] at l
    bv_omega
theorem st_app (a s : Str) : Txt.startswith (a ++ s) a = true := by
  rw [st_iff, tl_app, ← tl_len a, List.take_append_of_le_length (Nat.le_refl _), List.take_length]
theorem st_other {a s y : Str} {c : Nat} (hy : tl y = [c]) (ha : tl a ≠ []) (hc : c ∉ tl a) : Txt.startswith (a ++ s) y = false := by
  rw [Bool.eq_false_iff]
  intro h
  rw [st_iff, ← tl_len y, hy, tl_app] at h
  cases e : tl a with
  | nil => exact ha e
  | cons d r =>
    rw [e] at h hc
    have : d = c := by simpa using h
    exact hc (this ▸ List.mem_cons_self)
theorem part_app {a y s : Str} {c : Nat} (hy : tl y = [c]) (hc : c ∉ tl a) : (Txt.partition (a ++ (y ++ s)) y).1 = a ∧ (Txt.partition (a ++ (y ++ s)) y).2.2 = s := by
  have ly : y.length = 1 := by rw [← tl_len, hy]; rfl
  have la := tl_len a
  have tx : tl (a ++ (y ++ s)) = tl a ++ c :: tl s := by rw [tl_app, tl_app, hy]; rfl
  have lx : (a ++ (y ++ s)).length = a.length + (1 + s.length) := by rw [Str.length_append, Str.length_append, ly]
  have here : At (a ++ (y ++ s)) y (a ++ (y ++ s)).length a.length := by
    refine (at_iff (by bv_omega)).mpr ?_
    rw [tx, ← la, List.drop_left, ly, hy]
    rfl
  have early : ∀ k, k < a.length → ¬ At (a ++ (y ++ s)) y (a ++ (y ++ s)).length k := fun k hk h => by
    have e := (at_iff (by bv_omega)).mp h
    rw [tx, ly, hy, List.drop_append_of_le_length (by bv_omega)] at e
    have : (tl a).drop k ≠ [] := fun z => by have := congrArg List.length z; rw [List.length_drop] at this; simp at this; bv_omega
    cases e2 : (tl a).drop k with
    | nil => exact this e2
    | cons d r =>
      rw [e2] at e
      have e3 : d = c := by simpa using e
      exact hc (e3 ▸ List.mem_of_mem_drop (e2 ▸ List.mem_cons_self : d ∈ (tl a).drop k))
  unfold Txt.partition
  rcases occ_head (a ++ (y ++ s)) y 1 (Nat.le_refl 1) with ⟨_, hn⟩ | ⟨i, r, h0, hi, hn⟩
  · exact absurd here (hn _)
  · have ei : i = a.length := by
      by_cases l1 : i < a.length
      · exact absurd hi (early i l1)
      · by_cases l2 : a.length < i
        · exact absurd here (hn _ l2)
        · bv_omega
    subst ei
    rw [h0]
    refine ⟨tl_ext ?_, tl_ext ?_⟩
    · show tl (strSub (a ++ (y ++ s)) 0 a.length) = tl a
      rw [sub_tl, tx, List.drop_zero, Nat.sub_zero, ← la, List.take_left]
    · show tl (strSub (a ++ (y ++ s)) (a.length + y.length) (a ++ (y ++ s)).length) = tl s
      rw [sub_tl, tx, ly, lx, show tl a ++ c :: tl s = (tl a ++ [c]) ++ tl s by simp, show a.length + 1 = (tl a ++ [c]).length by simp [la], List.drop_left, List.take_of_length_le (by rw [tl_len, List.length_append, la]; simp; bv_omega)]
theorem slice_from (a s : Str) : Txt.slice (a ++ s) (some (a.length : Int)) none = s := by
  have e : Txt.slice (a ++ s) (some (a.length : Int)) none = sliceText (a ++ s) (some (a.length : Int)) none := rfl
  have l1 := tl_len (a ++ s)
  rw [Str.length_append] at l1
  rw [e, sliceText_from ⟨by bv_omega, by show (a.length : Int) ≤ ((tl (a ++ s)).length : Int); bv_omega⟩]
  refine tl_ext ?_
  rw [tl_mk]
  show ((tl (a ++ s)).drop (a.length : Int).toNat).take (((tl (a ++ s)).length : Int) - (a.length : Int)).toNat = tl s
  rw [Int.toNat_natCast, l1, tl_app, ← tl_len a, List.drop_left, List.take_of_length_le]
  rw [tl_len]
  bv_omega
theorem app_assoc (a b c : Str) : a ++ b ++ c = a ++ (b ++ c) := tl_ext (by rw [tl_app, tl_app, tl_app, tl_app, List.append_assoc])
theorem join_cons' (y p : Str) {r : List Str} (h : r ≠ []) : Str.join y (p :: r) = p ++ (y ++ Str.join y r) := by
  cases r with
  | nil => exact absurd rfl h
  | cons q r => rw [join_cons, app_assoc]
theorem join_le {sep : Str} {ts : List Str} {B n : Nat} (hs : sep.length = 1) (hl : ts.length ≤ n) (ht : ∀ t ∈ ts, t.length ≤ B) (hb : n * (B + 1) ≤ 16000000) : JoinOk sep ts = true ∧ (Str.join sep ts).length ≤ n * (B + 1) := by
  have h1 := Nat.mul_le_mul_right (B + 1) hl
  have e1 : ts.length * (B + 1) = ts.length * B + ts.length := Nat.mul_succ _ _
  have e2 : ts.length * sep.length = ts.length := by rw [hs, Nat.mul_one]
  refine ⟨?_, ?_⟩
  · unfold JoinOk
    rw [joinFits ht (by bv_omega)]
    rfl
  · have a := join_length_le sep ts
    have b := sumLen_le ts ht
    bv_omega
end MR
set_option maxHeartbeats 4000000
namespace K50
open PySem L2 L2.L3
noncomputable def top (i : Nat) : Stmt := PySem.Challenge.pw_ownboxes_k50_plans_written.main.body.getD i (.Pass ⟨0, 0, 0, 0⟩)
noncomputable abbrev s_made_openings : Stmt := top 7
noncomputable abbrev s_openings_of_a_plan : Stmt := top 10
noncomputable abbrev s_made_tree : Stmt := top 11
noncomputable abbrev s_made_plan : Stmt := top 12
noncomputable abbrev s_numbers_text : Stmt := top 15
noncomputable abbrev s_read_number : Stmt := top 16
noncomputable abbrev s_read_numbers : Stmt := top 17
noncomputable abbrev s_tree_text : Stmt := top 18
noncomputable abbrev s_plan_text : Stmt := top 19
noncomputable abbrev s_read_openings : Stmt := top 20
noncomputable abbrev s_behind_sign : Stmt := top 21
noncomputable abbrev s_read_tree : Stmt := top 22
noncomputable abbrev s_read_person : Stmt := top 23
noncomputable abbrev s_read_plan : Stmt := top 24
noncomputable abbrev s_l_cell_at : Stmt := top 26
noncomputable abbrev s_l_whole : Stmt := top 27
noncomputable abbrev s_l_all : Stmt := top 28
noncomputable abbrev s_l_taken : Stmt := top 29
noncomputable abbrev s_l_tree : Stmt := top 30
noncomputable abbrev s_l_plan : Stmt := top 31
noncomputable abbrev s_l_tree_text : Stmt := top 32
noncomputable abbrev s_l_plan_rows : Stmt := top 33
noncomputable abbrev s_l_same : Stmt := top 34
noncomputable abbrev s_law : Stmt := top 35
noncomputable def B_made_openings : Ev → Res Out := (sQ (sIf (tNt (b3 leI leI (eC (.int 1)) (eV 0) (eC (.int 60)))) (sRa "BadOpenings" (aC (eC (.str "openings are for 1 to 60 people")) aN)) sN) (sQ (sIf (b2 neD (eB lenD (aC (eV 1) aN)) (eV 0)) (sRa "BadOpenings" (aC (eC (.str "each person has its openings")) aN)) sN) (sQ (sIf (tO (b2 ltI (eB min1D (aC (eV 1) aN)) (eC (.int 0))) (b2 gtI (eB max1D (aC (eV 1) aN)) (eV 0))) (sRa "BadOpenings" (aC (eC (.str "openings are from 0 to as many as there are boxes")) aN)) sN) (sR (eB tupD (aC (eV 1) aN))))))
noncomputable def F_made_openings : List D → Res D := runF false 2 2 B_made_openings
noncomputable def B_openings_of_a_plan : Ev → Res Out := (sQ (sIf (b2 gtI (eB lenD (aC (eV 0) aN)) (eC (.int 6))) (sRa "BadOpenings" (aC (eC (.str "plans are for 1 to 6 people")) aN)) sN) (sR (eF F_made_openings (aC (eB lenD (aC (eV 0) aN)) (aC (eV 0) aN)))))
noncomputable def F_openings_of_a_plan : List D → Res D := runF false 1 1 B_openings_of_a_plan
noncomputable def B_made_tree (Fself : List D → Res D) : Ev → Res Out := (sQ (sIf (b2 (isND false) (eV 0) (eC .none)) (sR (eC .none)) sN) (sQ (sS 5 (e2 ixD (eV 0) (eC (.int 0)))) (sQ (sS 6 (e2 ixD (eV 0) (eC (.int 1)))) (sQ (sIf (b2 eqD (eV 2) (eC (.int 0))) (sRa "BadPlan" (aC (eC (.str "a way down a tree has more boxes than there are openings")) aN)) sN) (sQ (sIf (tNt (b3 leI ltI (eC (.int 0)) (eV 5) (eV 1))) (sRa "BadPlan" (aC (eC (.str "a tree has a box that is not there")) aN)) sN) (sQ (sIf (b2 (inD false) (eV 5) (eV 3)) (sRa "BadPlan" (aC (eC (.str "a way down a tree has a box twice")) aN)) sN) (sQ (sIf (b2 neD (eB lenD (aC (eV 6) aN)) (eV 1)) (sRa "BadPlan" (aC (eC (.str "each box of a tree has a next tree for each person")) aN)) sN) (sQ (sS 7 (eB mkL aN)) (sQ (sF (i_enumerate (eV 6)) (gT 2 (gsC (gN 8) (gsC (gN 9) gsN))) (sQ (sIf (tAn (b2 (isND true) (eV 9) (eC .none)) (b2 (inD false) (eV 8) (eV 4))) (sRa "BadPlan" (aC (eC (.str "a tree goes on by the own name, or by a name found before")) aN)) sN) (sM 7 appD (aC (eF Fself (aC (eV 9) (aC (eV 1) (aC (e2 subI (eV 2) (eC (.int 1))) (aC (e2 catL (eV 3) (eB mkL (aC (eV 5) aN))) (aC (e2 catL (eV 4) (eB mkL (aC (eV 8) aN))) aN)))))) aN)))) (sR (eB mkT (aC (eV 5) (aC (eB tupD (aC (eV 7) aN)) aN)))))))))))))
noncomputable def R_made_tree : Nat → List D → Res D
  | 0 => fun _ => .no
  | n + 1 => runF false 5 10 (B_made_tree (R_made_tree n))
noncomputable def F_made_tree : List D → Res D := R_made_tree 14
noncomputable def B_made_plan : Ev → Res Out := (sQ (sS 2 (eF F_openings_of_a_plan (aC (eV 0) aN))) (sQ (sS 3 (eB lenD (aC (eV 2) aN))) (sQ (sIf (b2 neD (eB lenD (aC (eV 1) aN)) (eV 3)) (sRa "BadPlan" (aC (eC (.str "a plan has a tree for each person")) aN)) sN) (sR (eB tupD (aC (eComp2 (i_enumerate (eV 1)) tYes (eF F_made_tree (aC (eV 1) (aC (eV 2) (aC (e2 ixD (eV 3) (eV 0)) (aC (eB mkL aN) (aC (eB mkL (aC (eV 0) aN)) aN)))))) [3, 2]) aN))))))
noncomputable def F_made_plan : List D → Res D := runF false 2 4 B_made_plan
noncomputable def B_numbers_text : Ev → Res Out := (sR (eM1S joinD (eC (.str " ")) (eComp (iS (eV 0)) tYes (eB strOfD (aC (eV 0) aN)) [])))
noncomputable def F_numbers_text : List D → Res D := runF false 1 1 B_numbers_text
noncomputable def B_read_number : Ev → Res Out := (sQ (sIf (tO (tNt (tV (eM0S (fun z => some (.bool (Txt.isdigit z))) (eV 0)))) (tO (b2 gtI (eB lenTD (aC (eV 0) aN)) (eC (.int 90))) (tAn (tV (eM1S stwD (eV 0) (eC (.str "0")))) (b2 neD (eV 0) (eC (.str "0")))))) sX sN) (sR (eB intTD (aC (eV 0) aN))))
noncomputable def F_read_number : List D → Res D := runF false 2 2 B_read_number
noncomputable def B_read_numbers : Ev → Res Out := (sR (eB tupD (aC (eComp (iS (eV 0)) tYes (eF F_read_number (aC (eV 0) (aC (eV 1) aN))) [1]) aN)))
noncomputable def F_read_numbers : List D → Res D := runF false 2 2 B_read_numbers
noncomputable def B_tree_text (Fself : List D → Res D) : Ev → Res Out := (sQ (sIf (b2 (isND false) (eV 0) (eC .none)) (sR (eC (.str "-"))) sN) (sQ (sS 1 (e2 ixD (eV 0) (eC (.int 0)))) (sQ (sS 2 (eM1S joinD (eC (.str " ")) (eComp (iS (e2 ixD (eV 0) (eC (.int 1)))) tYes (eF Fself (aC (eV 0) aN)) []))) (sR (eJ (jS fI (eV 1) (jC "(" (jS fS (eV 2) (jC ")" jN)))))))))
noncomputable def R_tree_text : Nat → List D → Res D
  | 0 => fun _ => .no
  | n + 1 => runF false 1 3 (B_tree_text (R_tree_text n))
noncomputable def F_tree_text : List D → Res D := R_tree_text 14
noncomputable def B_plan_text : Ev → Res Out := (sQ (sS 2 (eF F_numbers_text (aC (eF F_made_openings (aC (eB lenD (aC (eV 1) aN)) (aC (eV 0) aN))) aN))) (sQ (sS 3 (eB mkL (aC (eJ (jC "openings " (jS fS (eV 2) jN))) aN))) (sQ (sF (i_enumerate (eV 1)) (gT 2 (gsC (gN 4) (gsC (gN 5) gsN))) (sQ (sS 6 (eF F_tree_text (aC (eV 5) aN))) (sM 3 appD (aC (eJ (jC "person " (jS fI (eV 4) (jC " " (jS fS (eV 6) jN))))) aN)))) (sR (eM1S joinD (eC (.str "\n")) (eV 3))))))
noncomputable def F_plan_text : List D → Res D := runF false 2 7 B_plan_text
noncomputable def B_read_openings : Ev → Res Out := (sQ (sS 1 (eM1S splD (eV 0) (eC (.str " ")))) (sQ (sIf (b2 neD (e2 ixD (eV 1) (eC (.int 0))) (eC (.str "openings"))) sX sN) (sQ (sS 2 (eF F_read_numbers (aC (eS slD (eV 1) (oS (eC (.int 1))) oN) (aC (eC (.int 1)) aN)))) (sTryN (sR (eF F_openings_of_a_plan (aC (eV 2) aN)))))))
noncomputable def F_read_openings : List D → Res D := runF false 1 3 B_read_openings
noncomputable def B_behind_sign : Ev → Res Out := (sQ (sIf (tNt (tV (eM1S stwD (eV 0) (eV 1)))) sX sN) (sR (eS slS (eV 0) (oS (eB lenTD (aC (eV 1) aN))) oN)))
noncomputable def F_behind_sign : List D → Res D := runF false 3 3 B_behind_sign
noncomputable def F_read_tree : List D → Res D := rtF F_read_number F_behind_sign
noncomputable def B_read_person : Ev → Res Out := (sQ (sS 3 (e2 addI (eV 1) (eC (.int 2)))) (sR (eF F_read_tree (aC (eF F_behind_sign (aC (eV 0) (aC (eJ (jC "person " (jS fI (eV 1) (jC " " jN)))) (aC (eV 3) aN)))) (aC (eV 2) (aC (eV 3) aN))))))
noncomputable def F_read_person : List D → Res D := runF false 3 4 B_read_person
noncomputable def B_read_plan : Ev → Res Out := (sQ (sS 1 (eM1S splD (eV 0) (eC (.str "\n")))) (sQ (sS 2 (eF F_read_openings (aC (e2 ixD (eV 1) (eC (.int 0))) aN))) (sQ (sS 3 (eB lenD (aC (eV 2) aN))) (sQ (sS 4 (eComp2 (i_enumerate (eS slD (eV 1) (oS (eC (.int 1))) (oS (e2 addI (eV 3) (eC (.int 1)))))) tYes (eF F_read_person (aC (eV 1) (aC (eV 0) (aC (eV 2) aN)))) [3])) (sQ (sIf (b2 neD (eB lenD (aC (eV 1) aN)) (e2 addI (eV 3) (eC (.int 1)))) sX sN) (sR (eB mkT (aC (eV 2) (aC (eF F_made_plan (aC (eV 2) (aC (eV 4) aN))) aN)))))))))
noncomputable def F_read_plan : List D → Res D := runF false 1 5 B_read_plan
noncomputable def B_l_cell_at : Ev → Res Out := (sQ (sIf (b2 ltI (eV 1) (eB lenD (aC (eV 0) aN))) (sR (e2 ixD (eV 0) (eV 1))) sN) (sR (eC (.int 0))))
noncomputable def F_l_cell_at : List D → Res D := runF false 2 2 B_l_cell_at
noncomputable def B_l_whole : Ev → Res Out := (sR (vAn (e1 (isiD "int") (eV 0)) (vNt (e1 (isiD "bool") (eV 0)))))
noncomputable def F_l_whole : List D → Res D := runF false 1 1 B_l_whole
noncomputable def B_l_all : Ev → Res Out := (sQ (sS 1 (eC (.int 0))) (sQ (sF (iS (eV 0)) (gN 2) (sS 1 (e2 addI (e2 mulI (eV 1) (eC (.int 1000))) (eV 2)))) (sR (eV 1))))
noncomputable def F_l_all : List D → Res D := runF false 1 3 B_l_all
noncomputable def F_l_plan : List D → Res D := plHF
noncomputable def B_l_tree_text (Fself : List D → Res D) : Ev → Res Out := (sQ (sIf (b2 (isND false) (eV 0) (eC .none)) (sR (eC (.str "-"))) sN) (sR (e2 catS (e2 catS (e2 catS (eB strOfD (aC (e2 ixD (eV 0) (eC (.int 0))) aN)) (eC (.str "("))) (eM1S joinD (eC (.str " ")) (eComp (iS (e2 ixD (eV 0) (eC (.int 1)))) tYes (eF Fself (aC (eV 0) aN)) []))) (eC (.str ")")))))
noncomputable def R_l_tree_text : Nat → List D → Res D
  | 0 => fun _ => .no
  | n + 1 => runF false 1 1 (B_l_tree_text (R_l_tree_text n))
noncomputable def F_l_tree_text : List D → Res D := R_l_tree_text 14
noncomputable def B_l_plan_rows : Ev → Res Out := (sQ (sS 2 (eB mkL (aC (e2 catS (eC (.str "openings ")) (eM1S joinD (eC (.str " ")) (eComp (iS (eV 0)) tYes (eB strOfD (aC (eV 0) aN)) []))) aN))) (sQ (sF (iR rng1 (aC (eB lenD (aC (eV 1) aN)) aN)) (gN 3) (sM 2 appD (aC (e2 catS (e2 catS (e2 catS (eC (.str "person ")) (eB strOfD (aC (eV 3) aN))) (eC (.str " "))) (eF F_l_tree_text (aC (e2 ixD (eV 1) (eV 3)) aN))) aN))) (sR (eV 2))))
noncomputable def F_l_plan_rows : List D → Res D := runF true 2 4 B_l_plan_rows
noncomputable def B_l_same (Fself : List D → Res D) : Ev → Res Out := (sQ (sIf (tV (e1 (isiD "tuple") (eV 1))) (sQ (sIf (tO (tNt (tV (e1 (isiD "tuple") (eV 0)))) (b2 neD (eB lenD (aC (eV 0) aN)) (eB lenD (aC (eV 1) aN)))) (sR (eC (.bool false))) sN) (sR (eB allD (aC (eComp (iR rng1 (aC (eB lenD (aC (eV 1) aN)) aN)) tYes (eF Fself (aC (e2 ixD (eV 1) (eV 0)) (aC (e2 ixD (eV 2) (eV 0)) aN))) [0, 1]) aN)))) sN) (sQ (sIf (b2 (isND false) (eV 1) (eC .none)) (sR (e2 (fun x y => bD ((isND false) x y)) (eV 0) (eC .none))) sN) (sR (vAn (eF F_l_whole (aC (eV 0) aN)) (e2 (fun x y => bD (eqD x y)) (eV 0) (eV 1))))))
noncomputable def R_l_same : Nat → List D → Res D
  | 0 => fun _ => .no
  | n + 1 => runF false 2 2 (B_l_same (R_l_same n))
noncomputable def F_l_same : List D → Res D := R_l_same 14
noncomputable def B_law : Ev → Res Out := (sQ (sS 1 (e2 addI (eC (.int 1)) (e2 modI (eF F_l_cell_at (aC (eV 0) (aC (eC (.int 0)) aN))) (eC (.int 4))))) (sQ (sS 2 (eV 1)) (sQ (sIf (b2 eqD (e2 modI (e2 fdivI (eF F_l_cell_at (aC (eV 0) (aC (eC (.int 0)) aN))) (eC (.int 4))) (eC (.int 8))) (eC (.int 1))) (sQ (sS 1 (eC (.int 5))) (sS 2 (eC (.int 2)))) sN) (sQ (sIf (b2 eqD (e2 modI (e2 fdivI (eF F_l_cell_at (aC (eV 0) (aC (eC (.int 0)) aN))) (eC (.int 4))) (eC (.int 8))) (eC (.int 2))) (sQ (sS 1 (eC (.int 6))) (sS 2 (eC (.int 1)))) sN) (sQ (sA (eF F_l_plan (aC (eF F_l_all (aC (eV 0) aN)) (aC (eV 1) (aC (eV 2) aN)))) (gT 2 (gsC (gN 3) (gsC (gN 4) gsN)))) (sQ (sS 5 (eM1S joinD (eC (.str "\n")) (eF F_l_plan_rows (aC (eV 3) (aC (eV 4) aN))))) (sQ (sS 6 (eF F_plan_text (aC (eV 3) (aC (eV 4) aN)))) (sQ (sIf (tO (tNt (tV (e1 (isiD "str") (eV 6)))) (b2 neD (eV 6) (eV 5))) (sR (eC (.bool false))) sN) (sR (eF F_l_same (aC (eF F_read_plan (aC (eV 5) aN)) (aC (eB mkT (aC (eV 3) (aC (eV 4) aN))) aN))))))))))))
noncomputable def F_law : List D → Res D := runF false 1 7 B_law
structure Txt [CN] (K : PySem.W.Frag) (mg : Str → Option Value) : Prop where
  g_all : mg "all" = none
  g_bool : mg "bool" = none
  g_enumerate : mg "enumerate" = none
  g_int : mg "int" = none
  g_isinstance : mg "isinstance" = none
  g_len : mg "len" = none
  g_max : mg "max" = none
  g_min : mg "min" = none
  g_range : mg "range" = none
  g_str : mg "str" = none
  g_tuple : mg "tuple" = none
  c_MOST_FIGURES : ∃ u, mg "MOST_FIGURES" = some u ∧ RelV (.int 90) u
  c_MOST_IN_A_PLAN : ∃ u, mg "MOST_IN_A_PLAN" = some u ∧ RelV (.int 6) u
  c_MOST_PEOPLE : ∃ u, mg "MOST_PEOPLE" = some u ∧ RelV (.int 60) u
  k_bool : Kit K "bool"
  k_int : Kit K "int"
  k_str : Kit K "str"
  k_tuple : Kit K "tuple"
  d_made_openings : ∃ f fd, Has K mg "made_openings" s_made_openings f fd ["people", "numbers"]
  d_openings_of_a_plan : ∃ f fd, Has K mg "openings_of_a_plan" s_openings_of_a_plan f fd ["openings"]
  d_made_tree : ∃ f fd, Has K mg "made_tree" s_made_tree f fd ["tree", "people", "left", "boxes", "names"]
  d_made_plan : ∃ f fd, Has K mg "made_plan" s_made_plan f fd ["openings", "trees"]
  d_numbers_text : ∃ f fd, Has K mg "numbers_text" s_numbers_text f fd ["numbers"]
  d_read_number : ∃ f fd, Has K mg "read_number" s_read_number f fd ["word", "row"]
  d_read_numbers : ∃ f fd, Has K mg "read_numbers" s_read_numbers f fd ["words", "row"]
  d_tree_text : ∃ f fd, Has K mg "tree_text" s_tree_text f fd ["tree"]
  d_plan_text : ∃ f fd, Has K mg "plan_text" s_plan_text f fd ["openings", "plan"]
  d_read_openings : ∃ f fd, Has K mg "read_openings" s_read_openings f fd ["text"]
  d_behind_sign : ∃ f fd, Has K mg "behind_sign" s_behind_sign f fd ["text", "sign", "row"]
  d_read_tree : ∃ f fd, Has K mg "read_tree" s_read_tree f fd ["text", "people", "row"]
  d_read_person : ∃ f fd, Has K mg "read_person" s_read_person f fd ["text", "person", "people"]
  d_read_plan : ∃ f fd, Has K mg "read_plan" s_read_plan f fd ["text"]
  d_l_cell_at : ∃ f fd, Has K mg "_law_cell_at" s_l_cell_at f fd ["script", "k"]
  d_l_whole : ∃ f fd, Has K mg "_law_whole" s_l_whole f fd ["found"]
  d_l_all : ∃ f fd, Has K mg "_law_all" s_l_all f fd ["script"]
  d_l_taken : ∃ f fd, Has K mg "_law_taken" s_l_taken f fd ["digits", "most"]
  d_l_tree : ∃ f fd, Has K mg "_law_tree" s_l_tree f fd ["digits", "person", "people", "way", "left"]
  d_l_plan : ∃ f fd, Has K mg "_law_plan" s_l_plan f fd ["cell", "people", "most"]
  d_l_tree_text : ∃ f fd, Has K mg "_law_tree_text" s_l_tree_text f fd ["tree"]
  d_l_plan_rows : ∃ f fd, Has K mg "_law_plan_rows" s_l_plan_rows f fd ["openings", "plan"]
  d_l_same : ∃ f fd, Has K mg "_law_same" s_l_same f fd ["found", "due"]
  d_law : ∃ f fd, Has K mg "law" s_law f fd ["script"]
  x_BadOpenings : mg "BadOpenings" = some (.ref (CN.ad "BadOpenings"))
  x_BadPlan : mg "BadPlan" = some (.ref (CN.ad "BadPlan"))
  ox_BadOpenings : OwnX K "BadOpenings"
  ox_BadPlan : OwnX K "BadPlan"
section
variable [CN] {P : Program} {w : World} {K : PySem.W.Frag} {mg : Str → Option Value} {base : Heap}
theorem sc_made_openings : FnScope ["people", "numbers"] ["people", "numbers"] (defScope s_made_openings) := ⟨rfl, rfl, rfl, by decide +kernel, rfl, by decide +kernel, by decide +kernel⟩
theorem ok_made_openings (T : Txt K mg) {f : Addr} {fd : FuncData} (h : Has K mg "made_openings" s_made_openings f fd ["people", "numbers"]) : FnOk P w K mg base (CXV P w) 1 f fd ["people", "numbers"] (spX false F_made_openings) := by
  refine fnX_ok [] h.F sc_made_openings fun cdv A outer s H E hr => ?_
  have nd := sc_made_openings.nd
  have hu64 := hr.units
  have br := br_body (P := P) (w := w) (K := K) (mg := mg) (base := base) (N := ["people", "numbers"]) (x := "made_openings") (sc := defScope s_made_openings) (f := f) (cdv := cdv) (A := A) (outer := outer) (s := s) (H := H) (E := E) (om := [])
  exact (rss_cons (rs_if (rt_not (rt_chain op_le op_le pb_le pb_le re_int (re_var 0) (re_globI T.c_MOST_PEOPLE.choose_spec.1 T.c_MOST_PEOPLE.choose_spec.2))) (rss_one (rs_raise br T.ox_BadOpenings T.x_BadOpenings (ra_consA re_str ra_nil))) rss_nil) (rss_cons (rs_if (rt_cmp (op_neD hu64) pb_ne (re_callB call_len_seq pc_len T.g_len PySem.boot_len (ra_consA (re_var 1) ra_nil)) (re_var 0)) (rss_one (rs_raise br T.ox_BadOpenings T.x_BadOpenings (ra_consA re_str ra_nil))) rss_nil) (rss_cons (rs_if (RW.rt (rw_or (rt_cmp op_lt pb_lt (re_callB (call_min1 rfl) pc_min1 T.g_min PyProof.Rows.boot_min (ra_consA (re_var 1) ra_nil)) re_int) (rw_or1 (rt_cmp op_gt pb_gt (re_callB (call_max1 rfl) pc_max1 T.g_max PyProof.Rows.boot_max (ra_consA (re_var 1) ra_nil)) (re_var 0))))) (rss_one (rs_raise br T.ox_BadOpenings T.x_BadOpenings (ra_consA re_str ra_nil))) rss_nil) (rss_one (rs_ret (re_callTy call_tuple_of pc_tup T.g_tuple (by rfl) (ra_consA (re_var 1) ra_nil)))))))
theorem sc_openings_of_a_plan : FnScope ["openings"] ["openings"] (defScope s_openings_of_a_plan) := ⟨rfl, rfl, rfl, by decide +kernel, rfl, by decide +kernel, by decide +kernel⟩
theorem ok_openings_of_a_plan (T : Txt K mg) {f : Addr} {fd : FuncData} (h : Has K mg "openings_of_a_plan" s_openings_of_a_plan f fd ["openings"]) : FnOk P w K mg base (CXV P w) 2 f fd ["openings"] (spX false F_openings_of_a_plan) := by
  obtain ⟨f_made_openings, fd_made_openings, H_made_openings⟩ := T.d_made_openings
  have G_made_openings : FnOk P w K mg base (CXV P w) 1 f_made_openings fd_made_openings ["people", "numbers"] (spX false F_made_openings) := ok_made_openings T H_made_openings
  refine fnX_ok [] h.F sc_openings_of_a_plan fun cdv A outer s H E hr => ?_
  have nd := sc_openings_of_a_plan.nd
  have hu64 := hr.units
  have br := br_body (P := P) (w := w) (K := K) (mg := mg) (base := base) (N := ["openings"]) (x := "openings_of_a_plan") (sc := defScope s_openings_of_a_plan) (f := f) (cdv := cdv) (A := A) (outer := outer) (s := s) (H := H) (E := E) (om := [])
  exact (rss_cons (rs_if (rt_cmp op_gt pb_gt (re_callB call_len_seq pc_len T.g_len PySem.boot_len (ra_consA (re_var 0) ra_nil)) (re_globI T.c_MOST_IN_A_PLAN.choose_spec.1 T.c_MOST_IN_A_PLAN.choose_spec.2)) (rss_one (rs_raise br T.ox_BadOpenings T.x_BadOpenings (ra_consA re_str ra_nil))) rss_nil) (rss_one (rs_ret (reX_callC G_made_openings H_made_openings (hr.mono (by decide)) br (ra_cons (re_callB call_len_seq pc_len T.g_len PySem.boot_len (ra_consA (re_var 0) ra_nil)) (ra_cons (re_var 0) ra_nil))))))
theorem sc_made_tree : FnScope ["tree", "people", "left", "boxes", "names", "box", "nexts", "told", "name", "coming"] ["tree", "people", "left", "boxes", "names"] (defScope s_made_tree) := ⟨rfl, rfl, rfl, by decide +kernel, rfl, by decide +kernel, by decide +kernel⟩
theorem okR_made_tree (T : Txt K mg) {f : Addr} {fd : FuncData} (h : Has K mg "made_tree" s_made_tree f fd ["tree", "people", "left", "boxes", "names"]) : ∀ n, FnOk P w K mg base (CXV P w) (1 + n) f fd ["tree", "people", "left", "boxes", "names"] (spX false (R_made_tree n)) := by
  intro n
  induction n with
  | zero => exact fnX_no
  | succ n G_made_tree =>
  have H_made_tree := h
  refine fnX_ok [7] h.F sc_made_tree fun cdv A outer s H E hr => ?_
  have nd := sc_made_tree.nd
  have hu64 := hr.units
  have br := br_body (P := P) (w := w) (K := K) (mg := mg) (base := base) (N := ["tree", "people", "left", "boxes", "names", "box", "nexts", "told", "name", "coming"]) (x := "made_tree") (sc := defScope s_made_tree) (f := f) (cdv := cdv) (A := A) (outer := outer) (s := s) (H := H) (E := E) (om := [7])
  exact (rss_cons (rs_if (rt_cmp op_isN pb_is (re_var 0) re_non) (rss_one (rs_ret re_non)) rss_nil) (rss_cons (rs_set 5 nd (re_ix ix_seq pr_ix (re_var 0) re_int)) (rss_cons (rs_set 6 nd (re_ix ix_seq pr_ix (re_var 0) re_int)) (rss_cons (rs_if (rt_cmp (op_eqD hu64) pb_eq (re_var 2) re_int) (rss_one (rs_raise br T.ox_BadPlan T.x_BadPlan (ra_consA re_str ra_nil))) rss_nil) (rss_cons (rs_if (rt_not (rt_chain op_le op_lt pb_le pb_lt re_int (re_var 5) (re_var 1))) (rss_one (rs_raise br T.ox_BadPlan T.x_BadPlan (ra_consA re_str ra_nil))) rss_nil) (rss_cons (rs_if (rt_cmp op_in_seq pb_in (re_var 5) (re_var 3)) (rss_one (rs_raise br T.ox_BadPlan T.x_BadPlan (ra_consA re_str ra_nil))) rss_nil) (rss_cons (rs_if (rt_cmp (op_neD hu64) pb_ne (re_callB call_len_seq pc_len T.g_len PySem.boot_len (ra_consA (re_var 6) ra_nil)) (re_var 1)) (rss_one (rs_raise br T.ox_BadPlan T.x_BadPlan (ra_consA re_str ra_nil))) rss_nil) (rss_cons (rs_setO 7 nd (re_list ra_nil)) (rss_cons (rs_forO (ri_enumerate T.g_enumerate (RE.rd (re_var 6))) (rg_tup rfl (rgs_cons (rg_name 8 nd) (rgs_cons (rg_name 9 nd) rgs_nil))) (rss_cons (rs_if (RW.rt (rw_and (rt_cmp op_notN pb_isnot (re_var 9) re_non) (rw_and1 (rt_cmp op_in_seq pb_in (re_var 8) (re_var 4))))) (rss_one (rs_raise br T.ox_BadPlan T.x_BadPlan (ra_consA re_str ra_nil))) rss_nil) (rss_one (rs_meth 7 PySem.F.slot_list_append PySem.F.type_list_append mt_append pm_append (ra_cons (reX_callC G_made_tree H_made_tree hr br (ra_cons (re_var 9) (ra_cons (re_var 1) (ra_cons (re_op op_sub pr_sub (re_var 2) re_int) (ra_cons (RE.cl (re_op op_catR pr_cat (re_var 3) (re_list (ra_cons (re_var 5) ra_nil)))) (ra_cons (RE.cl (re_op op_catR pr_cat (re_var 4) (re_list (ra_cons (re_var 8) ra_nil)))) ra_nil)))))) ra_nil)))) PassesOwn.leaving) (rss_one (rs_ret (re_tup (ra_cons (re_var 5) (ra_cons (re_callTy call_tuple_of pc_tup T.g_tuple (by rfl) (ra_consA (re_own 7) ra_nil)) ra_nil))))))))))))))
theorem ok_made_tree (T : Txt K mg) {f : Addr} {fd : FuncData} (h : Has K mg "made_tree" s_made_tree f fd ["tree", "people", "left", "boxes", "names"]) : FnOk P w K mg base (CXV P w) 15 f fd ["tree", "people", "left", "boxes", "names"] (spX false F_made_tree) := okR_made_tree T h 14
theorem sc_made_plan : FnScope ["openings", "trees", "numbers", "people"] ["openings", "trees"] (defScope s_made_plan) := ⟨rfl, rfl, rfl, by decide +kernel, rfl, by decide +kernel, by decide +kernel⟩
theorem ok_made_plan (T : Txt K mg) {f : Addr} {fd : FuncData} (h : Has K mg "made_plan" s_made_plan f fd ["openings", "trees"]) : FnOk P w K mg base (CXV P w) 16 f fd ["openings", "trees"] (spX false F_made_plan) := by
  obtain ⟨f_openings_of_a_plan, fd_openings_of_a_plan, H_openings_of_a_plan⟩ := T.d_openings_of_a_plan
  have G_openings_of_a_plan : FnOk P w K mg base (CXV P w) 2 f_openings_of_a_plan fd_openings_of_a_plan ["openings"] (spX false F_openings_of_a_plan) := ok_openings_of_a_plan T H_openings_of_a_plan
  obtain ⟨f_made_tree, fd_made_tree, H_made_tree⟩ := T.d_made_tree
  have G_made_tree : FnOk P w K mg base (CXV P w) 15 f_made_tree fd_made_tree ["tree", "people", "left", "boxes", "names"] (spX false F_made_tree) := ok_made_tree T H_made_tree
  refine fnX_ok [] h.F sc_made_plan fun cdv A outer s H E hr => ?_
  have nd := sc_made_plan.nd
  have hu64 := hr.units
  have br := br_body (P := P) (w := w) (K := K) (mg := mg) (base := base) (N := ["openings", "trees", "numbers", "people"]) (x := "made_plan") (sc := defScope s_made_plan) (f := f) (cdv := cdv) (A := A) (outer := outer) (s := s) (H := H) (E := E) (om := [])
  exact (rss_cons (rs_set 2 nd (reX_callC G_openings_of_a_plan H_openings_of_a_plan (hr.mono (by decide)) br (ra_cons (re_var 0) ra_nil))) (rss_cons (rs_set 3 nd (re_callB call_len_seq pc_len T.g_len PySem.boot_len (ra_consA (re_var 2) ra_nil))) (rss_cons (rs_if (rt_cmp (op_neD hu64) pb_ne (re_callB call_len_seq pc_len T.g_len PySem.boot_len (ra_consA (re_var 1) ra_nil)) (re_var 3)) (rss_one (rs_raise br T.ox_BadPlan T.x_BadPlan (ra_consA re_str ra_nil))) rss_nil) (rss_one (rs_ret (re_callTy call_tuple_of pc_tup T.g_tuple (by rfl) (ra_consA (re_comp2 (sc0 := defScope s_made_plan) (N0 := ["openings", "trees", "numbers", "people"]) (fs := ["people", "numbers"]) (js := [3, 2]) (by exact ⟨rfl, by decide +kernel, by decide +kernel, by decide +kernel, by decide +kernel, by decide +kernel, rfl, by decide +kernel, by decide +kernel⟩) rfl rfl rfl (RIo.c (ri_enumerate T.g_enumerate (RE.rd (re_var 1)))) (fun _ _ _ _ => rts_nil) (fun _ _ _ _ => (reX_callC G_made_tree H_made_tree (hr.mono (by decide)) (br_no fun _ _ h => h) (ra_cons (re_var 1) (ra_cons (re_var 2) (ra_cons (re_ix ix_seq pr_ix (re_var 3) (re_var 0)) (ra_cons (RE.cl (re_list ra_nil)) (ra_cons (RE.cl (re_list (ra_cons (re_var 0) ra_nil))) ra_nil)))))))) ra_nil)))))))
theorem sc_numbers_text : FnScope ["numbers"] ["numbers"] (defScope s_numbers_text) := ⟨rfl, rfl, rfl, by decide +kernel, rfl, by decide +kernel, by decide +kernel⟩
theorem ok_numbers_text (T : Txt K mg) {f : Addr} {fd : FuncData} (h : Has K mg "numbers_text" s_numbers_text f fd ["numbers"]) : FnOk P w K mg base (CXV P w) 1 f fd ["numbers"] (spX false F_numbers_text) := by
  refine fnX_ok [] h.F sc_numbers_text fun cdv A outer s H E hr => ?_
  have nd := sc_numbers_text.nd
  have hu64 := hr.units
  have br := br_body (P := P) (w := w) (K := K) (mg := mg) (base := base) (N := ["numbers"]) (x := "numbers_text") (sc := defScope s_numbers_text) (f := f) (cdv := cdv) (A := A) (outer := outer) (s := s) (H := H) (E := E) (om := [])
  exact (rss_one (rs_ret (re_meth1S PySem.F.slot_str_join PySem.F.type_str_join mt_join p1_join re_str (re_comp (sc0 := defScope s_numbers_text) (N0 := ["numbers"]) (fs := []) (js := []) (by exact ⟨rfl, by decide +kernel, by decide +kernel, by decide +kernel, by decide +kernel, rfl, by decide +kernel, by decide +kernel⟩) rfl rfl rfl (RI.c (ri_seq (RE.rd (re_var 0)))) (fun _ _ _ _ => rts_nil) (fun _ _ _ _ => (re_callTy call_str_int pc_str T.g_str (by rfl) (ra_consA (re_var 0) ra_nil)))))))
theorem sc_read_number : FnScope ["word", "row"] ["word", "row"] (defScope s_read_number) := ⟨rfl, rfl, rfl, by decide +kernel, rfl, by decide +kernel, by decide +kernel⟩
theorem ok_read_number (T : Txt K mg) {f : Addr} {fd : FuncData} (h : Has K mg "read_number" s_read_number f fd ["word", "row"]) : FnOk P w K mg base (CXV P w) 1 f fd ["word", "row"] (spX false F_read_number) := by
  refine fnX_ok [] h.F sc_read_number fun cdv A outer s H E hr => ?_
  have nd := sc_read_number.nd
  have hu64 := hr.units
  have br := br_body (P := P) (w := w) (K := K) (mg := mg) (base := base) (N := ["word", "row"]) (x := "read_number") (sc := defScope s_read_number) (f := f) (cdv := cdv) (A := A) (outer := outer) (s := s) (H := H) (E := E) (om := [])
  exact (rss_cons (rs_if (RW.rt (rw_or (rt_not (rt_val (re_isdigit (re_var 0)))) (rw_or (rt_cmp op_gt pb_gt (re_callB call_len_str pc_lenT T.g_len PySem.boot_len (ra_consA (re_var 0) ra_nil)) (re_globI T.c_MOST_FIGURES.choose_spec.1 T.c_MOST_FIGURES.choose_spec.2)) (rw_or1 (RW.rt (rw_and (rt_val (re_meth1S PySem.F.slot_str_startswith PySem.F.type_str_startswith mt_startswith p1_startswith (re_var 0) re_str)) (rw_and1 (rt_cmp (op_neD hu64) pb_ne (re_var 0) re_str)))))))) (rss_one rs_never) rss_nil) (rss_one (rs_ret (re_callTy call_int_text pc_intT T.g_int (by rfl) (ra_consA (re_var 0) ra_nil)))))
theorem sc_read_numbers : FnScope ["words", "row"] ["words", "row"] (defScope s_read_numbers) := ⟨rfl, rfl, rfl, by decide +kernel, rfl, by decide +kernel, by decide +kernel⟩
theorem ok_read_numbers (T : Txt K mg) {f : Addr} {fd : FuncData} (h : Has K mg "read_numbers" s_read_numbers f fd ["words", "row"]) : FnOk P w K mg base (CXV P w) 2 f fd ["words", "row"] (spX false F_read_numbers) := by
  obtain ⟨f_read_number, fd_read_number, H_read_number⟩ := T.d_read_number
  have G_read_number : FnOk P w K mg base (CXV P w) 1 f_read_number fd_read_number ["word", "row"] (spX false F_read_number) := ok_read_number T H_read_number
  refine fnX_ok [] h.F sc_read_numbers fun cdv A outer s H E hr => ?_
  have nd := sc_read_numbers.nd
  have hu64 := hr.units
  have br := br_body (P := P) (w := w) (K := K) (mg := mg) (base := base) (N := ["words", "row"]) (x := "read_numbers") (sc := defScope s_read_numbers) (f := f) (cdv := cdv) (A := A) (outer := outer) (s := s) (H := H) (E := E) (om := [])
  exact (rss_one (rs_ret (re_callTy call_tuple_of pc_tup T.g_tuple (by rfl) (ra_consA (re_comp (sc0 := defScope s_read_numbers) (N0 := ["words", "row"]) (fs := ["row"]) (js := [1]) (by exact ⟨rfl, by decide +kernel, by decide +kernel, by decide +kernel, by decide +kernel, rfl, by decide +kernel, by decide +kernel⟩) rfl rfl rfl (RI.c (ri_seq (RE.rd (re_var 0)))) (fun _ _ _ _ => rts_nil) (fun _ _ _ _ => (reX_callC G_read_number H_read_number (hr.mono (by decide)) (br_no fun _ _ h => h) (ra_cons (re_var 0) (ra_cons (re_var 1) ra_nil))))) ra_nil))))
theorem sc_tree_text : FnScope ["tree", "box", "nexts"] ["tree"] (defScope s_tree_text) := ⟨rfl, rfl, rfl, by decide +kernel, rfl, by decide +kernel, by decide +kernel⟩
theorem okR_tree_text (T : Txt K mg) {f : Addr} {fd : FuncData} (h : Has K mg "tree_text" s_tree_text f fd ["tree"]) : ∀ n, FnOk P w K mg base (CXV P w) (1 + n) f fd ["tree"] (spX false (R_tree_text n)) := by
  intro n
  induction n with
  | zero => exact fnX_no
  | succ n G_tree_text =>
  have H_tree_text := h
  refine fnX_ok [] h.F sc_tree_text fun cdv A outer s H E hr => ?_
  have nd := sc_tree_text.nd
  have hu64 := hr.units
  have br := br_body (P := P) (w := w) (K := K) (mg := mg) (base := base) (N := ["tree", "box", "nexts"]) (x := "tree_text") (sc := defScope s_tree_text) (f := f) (cdv := cdv) (A := A) (outer := outer) (s := s) (H := H) (E := E) (om := [])
  exact (rss_cons (rs_if (rt_cmp op_isN pb_is (re_var 0) re_non) (rss_one (rs_ret re_str)) rss_nil) (rss_cons (rs_set 1 nd (re_ix ix_seq pr_ix (re_var 0) re_int)) (rss_cons (rs_set 2 nd (re_meth1S PySem.F.slot_str_join PySem.F.type_str_join mt_join p1_join re_str (re_comp (sc0 := defScope s_tree_text) (N0 := ["tree", "box", "nexts"]) (fs := []) (js := []) (by exact ⟨rfl, by decide +kernel, by decide +kernel, by decide +kernel, by decide +kernel, rfl, by decide +kernel, by decide +kernel⟩) rfl rfl rfl (RI.c (ri_seq (RE.rd (re_ix ix_seq pr_ix (re_var 0) re_int)))) (fun _ _ _ _ => rts_nil) (fun _ _ _ _ => (reX_callC G_tree_text H_tree_text hr (br_no fun _ _ h => h) (ra_cons (re_var 0) ra_nil)))))) (rss_one (rs_ret (re_joined (rj_int (re_var 1) (rj_const (rj_str (re_var 2) (rj_const rj_nil))))))))))
theorem ok_tree_text (T : Txt K mg) {f : Addr} {fd : FuncData} (h : Has K mg "tree_text" s_tree_text f fd ["tree"]) : FnOk P w K mg base (CXV P w) 15 f fd ["tree"] (spX false F_tree_text) := okR_tree_text T h 14
theorem sc_plan_text : FnScope ["openings", "plan", "numbers", "rows", "person", "tree", "way"] ["openings", "plan"] (defScope s_plan_text) := ⟨rfl, rfl, rfl, by decide +kernel, rfl, by decide +kernel, by decide +kernel⟩
theorem ok_plan_text (T : Txt K mg) {f : Addr} {fd : FuncData} (h : Has K mg "plan_text" s_plan_text f fd ["openings", "plan"]) : FnOk P w K mg base (CXV P w) 16 f fd ["openings", "plan"] (spX false F_plan_text) := by
  obtain ⟨f_numbers_text, fd_numbers_text, H_numbers_text⟩ := T.d_numbers_text
  have G_numbers_text : FnOk P w K mg base (CXV P w) 1 f_numbers_text fd_numbers_text ["numbers"] (spX false F_numbers_text) := ok_numbers_text T H_numbers_text
  obtain ⟨f_made_openings, fd_made_openings, H_made_openings⟩ := T.d_made_openings
  have G_made_openings : FnOk P w K mg base (CXV P w) 1 f_made_openings fd_made_openings ["people", "numbers"] (spX false F_made_openings) := ok_made_openings T H_made_openings
  obtain ⟨f_tree_text, fd_tree_text, H_tree_text⟩ := T.d_tree_text
  have G_tree_text : FnOk P w K mg base (CXV P w) 15 f_tree_text fd_tree_text ["tree"] (spX false F_tree_text) := ok_tree_text T H_tree_text
  refine fnX_ok [3] h.F sc_plan_text fun cdv A outer s H E hr => ?_
  have nd := sc_plan_text.nd
  have hu64 := hr.units
  have br := br_body (P := P) (w := w) (K := K) (mg := mg) (base := base) (N := ["openings", "plan", "numbers", "rows", "person", "tree", "way"]) (x := "plan_text") (sc := defScope s_plan_text) (f := f) (cdv := cdv) (A := A) (outer := outer) (s := s) (H := H) (E := E) (om := [3])
  exact (rss_cons (rs_set 2 nd (reX_callC G_numbers_text H_numbers_text (hr.mono (by decide)) br (ra_cons (reX_callC G_made_openings H_made_openings (hr.mono (by decide)) br (ra_cons (re_callB call_len_seq pc_len T.g_len PySem.boot_len (ra_consA (re_var 1) ra_nil)) (ra_cons (re_var 0) ra_nil))) ra_nil))) (rss_cons (rs_setO 3 nd (re_list (ra_cons (re_joined (rj_const (rj_str (re_var 2) rj_nil))) ra_nil))) (rss_cons (rs_forO (ri_enumerate T.g_enumerate (RE.rd (re_var 1))) (rg_tup rfl (rgs_cons (rg_name 4 nd) (rgs_cons (rg_name 5 nd) rgs_nil))) (rss_cons (rs_set 6 nd (reX_callC G_tree_text H_tree_text (hr.mono (by decide)) br (ra_cons (re_var 5) ra_nil))) (rss_one (rs_meth 3 PySem.F.slot_list_append PySem.F.type_list_append mt_append pm_append (ra_cons (re_joined (rj_const (rj_int (re_var 4) (rj_const (rj_str (re_var 6) rj_nil))))) ra_nil)))) PassesOwn.leaving) (rss_one (rs_ret (re_meth1S PySem.F.slot_str_join PySem.F.type_str_join mt_join p1_join re_str (re_own 3)))))))
theorem sc_read_openings : FnScope ["text", "words", "numbers"] ["text"] (defScope s_read_openings) := ⟨rfl, rfl, rfl, by decide +kernel, rfl, by decide +kernel, by decide +kernel⟩
theorem ok_read_openings (T : Txt K mg) {f : Addr} {fd : FuncData} (h : Has K mg "read_openings" s_read_openings f fd ["text"]) : FnOk P w K mg base (CXV P w) 3 f fd ["text"] (spX false F_read_openings) := by
  obtain ⟨f_read_numbers, fd_read_numbers, H_read_numbers⟩ := T.d_read_numbers
  have G_read_numbers : FnOk P w K mg base (CXV P w) 2 f_read_numbers fd_read_numbers ["words", "row"] (spX false F_read_numbers) := ok_read_numbers T H_read_numbers
  obtain ⟨f_openings_of_a_plan, fd_openings_of_a_plan, H_openings_of_a_plan⟩ := T.d_openings_of_a_plan
  have G_openings_of_a_plan : FnOk P w K mg base (CXV P w) 2 f_openings_of_a_plan fd_openings_of_a_plan ["openings"] (spX false F_openings_of_a_plan) := ok_openings_of_a_plan T H_openings_of_a_plan
  refine fnX_ok [] h.F sc_read_openings fun cdv A outer s H E hr => ?_
  have nd := sc_read_openings.nd
  have hu64 := hr.units
  have br := br_body (P := P) (w := w) (K := K) (mg := mg) (base := base) (N := ["text", "words", "numbers"]) (x := "read_openings") (sc := defScope s_read_openings) (f := f) (cdv := cdv) (A := A) (outer := outer) (s := s) (H := H) (E := E) (om := [])
  exact (rss_cons (rs_set 1 nd (RE.cl (re_meth1S PySem.F.slot_str_split PySem.F.type_str_split mt_split p1_split (re_var 0) re_str))) (rss_cons (rs_if (rt_cmp (op_neD hu64) pb_ne (re_ix ix_seq pr_ix (re_var 1) re_int) re_str) (rss_one rs_never) rss_nil) (rss_cons (rs_set 2 nd (reX_callC G_read_numbers H_read_numbers (hr.mono (by decide)) br (ra_cons (re_sliceD (re_var 1) (ro_some re_int) ro_none) (ra_cons re_int ra_nil)))) (rss_one (rs_tryN (fun _ _ => (rss_one (rs_ret (reX_callC G_openings_of_a_plan H_openings_of_a_plan (hr.mono (by decide)) (br_no fun _ _ h => h) (ra_cons (re_var 2) ra_nil))))))))))
theorem sc_behind_sign : FnScope ["text", "sign", "row"] ["text", "sign", "row"] (defScope s_behind_sign) := ⟨rfl, rfl, rfl, by decide +kernel, rfl, by decide +kernel, by decide +kernel⟩
theorem ok_behind_sign (T : Txt K mg) {f : Addr} {fd : FuncData} (h : Has K mg "behind_sign" s_behind_sign f fd ["text", "sign", "row"]) : FnOk P w K mg base (CXV P w) 1 f fd ["text", "sign", "row"] (spX false F_behind_sign) := by
  refine fnX_ok [] h.F sc_behind_sign fun cdv A outer s H E hr => ?_
  have nd := sc_behind_sign.nd
  have hu64 := hr.units
  have br := br_body (P := P) (w := w) (K := K) (mg := mg) (base := base) (N := ["text", "sign", "row"]) (x := "behind_sign") (sc := defScope s_behind_sign) (f := f) (cdv := cdv) (A := A) (outer := outer) (s := s) (H := H) (E := E) (om := [])
  exact (rss_cons (rs_if (rt_not (rt_val (re_meth1S PySem.F.slot_str_startswith PySem.F.type_str_startswith mt_startswith p1_startswith (re_var 0) (re_var 1)))) (rss_one rs_never) rss_nil) (rss_one (rs_ret (re_sliceS (re_var 0) (ro_some (re_callB call_len_str pc_lenT T.g_len PySem.boot_len (ra_consA (re_var 1) ra_nil))) ro_none))))
theorem sc_read_tree : FnScope ["text", "people", "row", "begun", "rest", "parts", "tree", "around"] ["text", "people", "row"] (defScope s_read_tree) := ⟨rfl, rfl, rfl, by decide +kernel, rfl, by decide +kernel, by decide +kernel⟩
theorem ok_read_tree (T : Txt K mg) {f : Addr} {fd : FuncData} (h : Has K mg "read_tree" s_read_tree f fd ["text", "people", "row"]) : FnOk P w K mg base (CXV P w) 2 f fd ["text", "people", "row"] (spX false F_read_tree) := by
  obtain ⟨f_read_number, fd_read_number, H_read_number⟩ := T.d_read_number
  have G_read_number : FnOk P w K mg base (CXV P w) 1 f_read_number fd_read_number ["word", "row"] (spX false F_read_number) := ok_read_number T H_read_number
  obtain ⟨f_behind_sign, fd_behind_sign, H_behind_sign⟩ := T.d_behind_sign
  have G_behind_sign : FnOk P w K mg base (CXV P w) 1 f_behind_sign fd_behind_sign ["text", "sign", "row"] (spX false F_behind_sign) := ok_behind_sign T H_behind_sign
  refine (fn_rt F_read_number F_behind_sign) h.F sc_read_tree rfl rfl fun cdv A outer s H E hr => ?_
  have nd := sc_read_tree.nd
  exact (pss_cons (ps_set (i := 3) nd rfl (by first | exact Or.inl rfl | exact Or.inr rfl) (pe_lst pa_nil)) (pss_cons (ps_set (i := 4) nd rfl (by first | exact Or.inl rfl | exact Or.inr rfl) (pv 0)) (pss_one (ps_while PassesOwn.leaving (pt_val pe_bl) (pss_cons (ps_while PassesOwn.leaving (pt_not (pt_val (pe_bm PySem.F.plainAttrs_str PySem.F.slot_str_startswith PySem.F.type_str_startswith mt_startswith (pv 4) (pa_cons pe_str pa_nil)))) (pss_cons (ps_set (i := 5) nd rfl (by first | exact Or.inl rfl | exact Or.inr rfl) (pe_bm PySem.F.plainAttrs_str PySem.F.slot_str_partition PySem.F.type_str_partition mt_partition (pv 4) (pa_cons pe_str pa_nil))) (pss_cons (ps_expr (pe_bm PySem.F.plainAttrs_list PySem.F.slot_list_append PySem.F.type_list_append mt_append (pv 3) (pa_cons (pe_tup (pa_cons (pe_call G_read_number (hr.mono (by decide)) rfl H_read_number.m H_read_number.F.kp H_read_number.b .nil passF (pa_cons (pe_ix ix_tup (pv 5) pe_int (fun _ _ => rfl)) (pa_cons (pv 2) pa_nil))) (pa_cons (pe_lst pa_nil) pa_nil))) pa_nil))) (pss_one (ps_set (i := 4) nd rfl (by first | exact Or.inl rfl | exact Or.inr rfl) (pe_ix ix_tup (pv 5) pe_int (fun _ _ => rfl))))))) (pss_cons (ps_set (i := 4) nd rfl (by first | exact Or.inl rfl | exact Or.inr rfl) (pe_call G_behind_sign (hr.mono (by decide)) rfl H_behind_sign.m H_behind_sign.F.kp H_behind_sign.b .nil passF (pa_cons (pv 4) (pa_cons pe_str (pa_cons (pv 2) pa_nil))))) (pss_cons (ps_set (i := 6) nd rfl (by first | exact Or.inl rfl | exact Or.inr rfl) pe_non) (pss_cons (ps_while PassesOwn.leaving (PW.pt (pw_and (pt_cmpR op_gt (pe_callB call_len_seq rfl T.g_len PySem.boot_len (pa_cons (pv 3) pa_nil)) pe_int (nomark _)) (pw_and1 (pt_cmpR (op_eqD hr.units) (pe_callB call_len_seq rfl T.g_len PySem.boot_len (pa_cons (pe_ix ix_tup (pe_ix ix_list (pv 3) (pe_un un_neg pe_int) (fun _ _ => rfl)) pe_int (fun _ _ => rfl)) pa_nil)) (pe_op op_sub (pv 1) pe_int) (nomark _))))) (pss_cons (ps_set (i := 4) nd rfl (by first | exact Or.inl rfl | exact Or.inr rfl) (pe_call G_behind_sign (hr.mono (by decide)) rfl H_behind_sign.m H_behind_sign.F.kp H_behind_sign.b .nil passF (pa_cons (pv 4) (pa_cons pe_str (pa_cons (pv 2) pa_nil))))) (pss_cons (ps_set (i := 7) nd rfl (by first | exact Or.inl rfl | exact Or.inr rfl) (pe_bm0 PySem.F.plainAttrs_list PySem.F.slot_list_pop PySem.F.type_list_pop mt_pop (pv 3))) (pss_one (ps_set (i := 6) nd rfl (by first | exact Or.inl rfl | exact Or.inr rfl) (pe_tup (pa_cons (pe_ix ix_tup (pv 7) pe_int (fun _ _ => rfl)) (pa_cons (pe_callTy call_tuple_of rfl T.g_tuple (by rfl) (pa_cons (pe_op op_catR (pe_ix ix_tup (pv 7) pe_int (fun _ _ => rfl)) (pe_lst (pa_cons (pv 6) pa_nil))) pa_nil)) pa_nil)))))))) (pss_cons (ps_if (pt_cmpR (op_eqD hr.units) (pe_callB call_len_seq rfl T.g_len PySem.boot_len (pa_cons (pv 3) pa_nil)) pe_int (nomark _)) (pss_cons (ps_if (pt_cmpR (op_neD hr.units) (pv 4) pe_str (nomark _)) (pss_one ps_never) pss_nil) (pss_one (ps_ret (pv 6)))) pss_nil) (pss_cons (ps_set (i := 4) nd rfl (by first | exact Or.inl rfl | exact Or.inr rfl) (pe_call G_behind_sign (hr.mono (by decide)) rfl H_behind_sign.m H_behind_sign.F.kp H_behind_sign.b .nil passF (pa_cons (pv 4) (pa_cons pe_str (pa_cons (pv 2) pa_nil))))) (pss_one (ps_expr (pe_bm PySem.F.plainAttrs_list PySem.F.slot_list_append PySem.F.type_list_append mt_append (pe_ix ix_tup (pe_ix ix_list (pv 3) (pe_un un_neg pe_int) (fun _ _ => rfl)) pe_int (fun _ _ => rfl)) (pa_cons (pv 6) pa_nil))))))))))))))
theorem sc_read_person : FnScope ["text", "person", "people", "row"] ["text", "person", "people"] (defScope s_read_person) := ⟨rfl, rfl, rfl, by decide +kernel, rfl, by decide +kernel, by decide +kernel⟩
theorem ok_read_person (T : Txt K mg) {f : Addr} {fd : FuncData} (h : Has K mg "read_person" s_read_person f fd ["text", "person", "people"]) : FnOk P w K mg base (CXV P w) 3 f fd ["text", "person", "people"] (spX false F_read_person) := by
  obtain ⟨f_read_tree, fd_read_tree, H_read_tree⟩ := T.d_read_tree
  have G_read_tree : FnOk P w K mg base (CXV P w) 2 f_read_tree fd_read_tree ["text", "people", "row"] (spX false F_read_tree) := ok_read_tree T H_read_tree
  obtain ⟨f_behind_sign, fd_behind_sign, H_behind_sign⟩ := T.d_behind_sign
  have G_behind_sign : FnOk P w K mg base (CXV P w) 1 f_behind_sign fd_behind_sign ["text", "sign", "row"] (spX false F_behind_sign) := ok_behind_sign T H_behind_sign
  refine fnX_ok [] h.F sc_read_person fun cdv A outer s H E hr => ?_
  have nd := sc_read_person.nd
  have hu64 := hr.units
  have br := br_body (P := P) (w := w) (K := K) (mg := mg) (base := base) (N := ["text", "person", "people", "row"]) (x := "read_person") (sc := defScope s_read_person) (f := f) (cdv := cdv) (A := A) (outer := outer) (s := s) (H := H) (E := E) (om := [])
  exact (rss_cons (rs_set 3 nd (re_op op_add pr_add (re_var 1) re_int)) (rss_one (rs_ret (reX_callC G_read_tree H_read_tree (hr.mono (by decide)) br (ra_cons (reX_callC G_behind_sign H_behind_sign (hr.mono (by decide)) br (ra_cons (re_var 0) (ra_cons (re_joined (rj_const (rj_int (re_var 1) (rj_const rj_nil)))) (ra_cons (re_var 3) ra_nil)))) (ra_cons (re_var 2) (ra_cons (re_var 3) ra_nil)))))))
theorem sc_read_plan : FnScope ["text", "rows", "openings", "people", "trees"] ["text"] (defScope s_read_plan) := ⟨rfl, rfl, rfl, by decide +kernel, rfl, by decide +kernel, by decide +kernel⟩
theorem ok_read_plan (T : Txt K mg) {f : Addr} {fd : FuncData} (h : Has K mg "read_plan" s_read_plan f fd ["text"]) : FnOk P w K mg base (CXV P w) 17 f fd ["text"] (spX false F_read_plan) := by
  obtain ⟨f_read_openings, fd_read_openings, H_read_openings⟩ := T.d_read_openings
  have G_read_openings : FnOk P w K mg base (CXV P w) 3 f_read_openings fd_read_openings ["text"] (spX false F_read_openings) := ok_read_openings T H_read_openings
  obtain ⟨f_read_person, fd_read_person, H_read_person⟩ := T.d_read_person
  have G_read_person : FnOk P w K mg base (CXV P w) 3 f_read_person fd_read_person ["text", "person", "people"] (spX false F_read_person) := ok_read_person T H_read_person
  obtain ⟨f_made_plan, fd_made_plan, H_made_plan⟩ := T.d_made_plan
  have G_made_plan : FnOk P w K mg base (CXV P w) 16 f_made_plan fd_made_plan ["openings", "trees"] (spX false F_made_plan) := ok_made_plan T H_made_plan
  refine fnX_ok [] h.F sc_read_plan fun cdv A outer s H E hr => ?_
  have nd := sc_read_plan.nd
  have hu64 := hr.units
  have br := br_body (P := P) (w := w) (K := K) (mg := mg) (base := base) (N := ["text", "rows", "openings", "people", "trees"]) (x := "read_plan") (sc := defScope s_read_plan) (f := f) (cdv := cdv) (A := A) (outer := outer) (s := s) (H := H) (E := E) (om := [])
  exact (rss_cons (rs_set 1 nd (RE.cl (re_meth1S PySem.F.slot_str_split PySem.F.type_str_split mt_split p1_split (re_var 0) re_str))) (rss_cons (rs_set 2 nd (reX_callC G_read_openings H_read_openings (hr.mono (by decide)) br (ra_cons (re_ix ix_seq pr_ix (re_var 1) re_int) ra_nil))) (rss_cons (rs_set 3 nd (re_callB call_len_seq pc_len T.g_len PySem.boot_len (ra_consA (re_var 2) ra_nil))) (rss_cons (rs_comp2 4 nd (sc0 := defScope s_read_plan) (N0 := ["text", "rows", "openings", "people", "trees"]) (fs := ["people"]) (js := [3]) (by exact ⟨rfl, by decide +kernel, by decide +kernel, by decide +kernel, by decide +kernel, by decide +kernel, rfl, by decide +kernel, by decide +kernel⟩) rfl rfl rfl (RIo.c (ri_enumerate T.g_enumerate (RE.rd (re_sliceD (re_var 1) (ro_some re_int) (ro_some (re_op op_add pr_add (re_var 3) re_int)))))) (fun _ _ _ _ => rts_nil) (fun _ _ _ _ => (reX_callC G_read_person H_read_person (hr.mono (by decide)) (br_no fun _ _ h => h) (ra_cons (re_var 1) (ra_cons (re_var 0) (ra_cons (re_var 2) ra_nil)))))) (rss_cons (rs_if (rt_cmp (op_neD hu64) pb_ne (re_callB call_len_seq pc_len T.g_len PySem.boot_len (ra_consA (re_var 1) ra_nil)) (re_op op_add pr_add (re_var 3) re_int)) (rss_one rs_never) rss_nil) (rss_one (rs_ret (re_tup (ra_cons (re_var 2) (ra_cons (reX_callC G_made_plan H_made_plan (hr.mono (by decide)) br (ra_cons (re_var 2) (ra_cons (re_var 4) ra_nil))) ra_nil))))))))))
theorem sc_l_cell_at : FnScope ["script", "k"] ["script", "k"] (defScope s_l_cell_at) := ⟨rfl, rfl, rfl, by decide +kernel, rfl, by decide +kernel, by decide +kernel⟩
theorem ok_l_cell_at (T : Txt K mg) {f : Addr} {fd : FuncData} (h : Has K mg "_law_cell_at" s_l_cell_at f fd ["script", "k"]) : FnOk P w K mg base (CXV P w) 1 f fd ["script", "k"] (spX false F_l_cell_at) := by
  refine fnX_ok [] h.F sc_l_cell_at fun cdv A outer s H E hr => ?_
  have nd := sc_l_cell_at.nd
  have hu64 := hr.units
  have br := br_body (P := P) (w := w) (K := K) (mg := mg) (base := base) (N := ["script", "k"]) (x := "_law_cell_at") (sc := defScope s_l_cell_at) (f := f) (cdv := cdv) (A := A) (outer := outer) (s := s) (H := H) (E := E) (om := [])
  exact (rss_cons (rs_if (rt_cmp op_lt pb_lt (re_var 1) (re_callB call_len_seq pc_len T.g_len PySem.boot_len (ra_consA (re_var 0) ra_nil))) (rss_one (rs_ret (re_ix ix_seq pr_ix (re_var 0) (re_var 1)))) rss_nil) (rss_one (rs_ret re_int)))
theorem sc_l_whole : FnScope ["found"] ["found"] (defScope s_l_whole) := ⟨rfl, rfl, rfl, by decide +kernel, rfl, by decide +kernel, by decide +kernel⟩
theorem ok_l_whole (T : Txt K mg) {f : Addr} {fd : FuncData} (h : Has K mg "_law_whole" s_l_whole f fd ["found"]) : FnOk P w K mg base (CXV P w) 1 f fd ["found"] (spX false F_l_whole) := by
  refine fnX_ok [] h.F sc_l_whole fun cdv A outer s H E hr => ?_
  have nd := sc_l_whole.nd
  have hu64 := hr.units
  have br := br_body (P := P) (w := w) (K := K) (mg := mg) (base := base) (N := ["found"]) (x := "_law_whole") (sc := defScope s_l_whole) (f := f) (cdv := cdv) (A := A) (outer := outer) (s := s) (H := H) (E := E) (om := [])
  exact (rss_one (rs_ret (re_and (re_isi T.k_int T.g_isinstance T.g_int (by decide +kernel) (re_var 0)) (re_one (re_not (re_isi T.k_bool T.g_isinstance T.g_bool (by decide +kernel) (re_var 0)))))))
theorem sc_l_all : FnScope ["script", "total", "cell"] ["script"] (defScope s_l_all) := ⟨rfl, rfl, rfl, by decide +kernel, rfl, by decide +kernel, by decide +kernel⟩
theorem ok_l_all (T : Txt K mg) {f : Addr} {fd : FuncData} (h : Has K mg "_law_all" s_l_all f fd ["script"]) : FnOk P w K mg base (CXV P w) 1 f fd ["script"] (spX false F_l_all) := by
  refine fnX_ok [] h.F sc_l_all fun cdv A outer s H E hr => ?_
  have nd := sc_l_all.nd
  have hu64 := hr.units
  have br := br_body (P := P) (w := w) (K := K) (mg := mg) (base := base) (N := ["script", "total", "cell"]) (x := "_law_all") (sc := defScope s_l_all) (f := f) (cdv := cdv) (A := A) (outer := outer) (s := s) (H := H) (E := E) (om := [])
  exact (rss_cons (rs_set 1 nd re_int) (rss_cons (rs_for (ri_seq (RE.rd (re_var 0))) (rg_name 2 nd) (rss_one (rs_set 1 nd (re_op op_add pr_add (re_op op_mulA pr_mul (re_var 1) re_int) (re_var 2)))) PassesOwn.leaving) (rss_one (rs_ret (re_var 1)))))
theorem sc_l_taken : FnScope ["digits", "most", "found"] ["digits", "most"] (defScope s_l_taken) := ⟨rfl, rfl, rfl, by decide +kernel, rfl, by decide +kernel, by decide +kernel⟩
theorem ok0_l_taken (T : Txt K mg) {f : Addr} {fd : FuncData} (h : Has K mg "_law_taken" s_l_taken f fd ["digits", "most"]) : FnOk P w K mg base CX0 1 f fd ["digits", "most"] spTake := by
  refine fn_take h.F sc_l_taken rfl rfl fun cdv A outer s H E hr => ?_
  have nd := sc_l_taken.nd
  exact (pss_cons (ps_set (i := 2) nd rfl (by first | exact Or.inl rfl | exact Or.inr rfl) (pe_op op_mod (pe_ix ix_list (pv 0) pe_int (fun _ _ => rfl)) (pv 1))) (pss_cons (ps_asg (pe_op op_fdivA (pe_ix ix_list (pv 0) pe_int (fun _ _ => rfl)) (pv 1)) (pg_sub (pv 0) pe_int set_list)) (pss_one (ps_ret (pv 2)))))
theorem sc_l_tree : FnScope ["digits", "person", "people", "way", "left", "drawn", "boxes", "names", "nexts", "name", "tree"] ["digits", "person", "people", "way", "left"] (defScope s_l_tree) := ⟨rfl, rfl, rfl, by decide +kernel, rfl, by decide +kernel, by decide +kernel⟩
theorem okR_l_tree (T : Txt K mg) {f : Addr} {fd : FuncData} (h : Has K mg "_law_tree" s_l_tree f fd ["digits", "person", "people", "way", "left"]) : ∀ n, FnOk P w K mg base CX0 (2 + n) f fd ["digits", "person", "people", "way", "left"] (spH n) := by
  intro n
  induction n with
  | zero => exact treeH_no
  | succ n G_l_tree =>
  have H_l_tree := h
  obtain ⟨f_l_taken, fd_l_taken, H_l_taken⟩ := T.d_l_taken
  have G_l_taken : FnOk P w K mg base CX0 1 f_l_taken fd_l_taken ["digits", "most"] spTake := ok0_l_taken T H_l_taken
  refine fn_treeH h.F sc_l_tree rfl rfl fun cdv A outer s H E hr => ?_
  have nd := sc_l_tree.nd
  exact (pss_cons (ps_if (pt_cmpR (op_eqD hr.units) (pv 4) pe_int (nomark _)) (pss_one (ps_ret pe_non)) pss_nil) (pss_cons (ps_set (i := 5) nd rfl (by first | exact Or.inl rfl | exact Or.inr rfl) (pe_call G_l_taken (hr.mono (Nat.le_trans (by decide) (Nat.le_add_right _ _))) rfl H_l_taken.m H_l_taken.F.kp H_l_taken.b .nil pass0 (pa_cons (pv 0) (pa_cons (pe_op op_add (pv 2) pe_int) pa_nil)))) (pss_cons (ps_if (pt_cmpR (op_eqD hr.units) (pv 5) (pv 2) (nomark _)) (pss_one (ps_ret pe_non)) pss_nil) (pss_cons (ps_comp (i := 6) (sc0 := defScope s_l_tree) (N0 := ["digits", "person", "people", "way", "left", "drawn", "boxes", "names", "nexts", "name", "tree"]) (fs := []) (js := []) (by exact ⟨rfl, by decide +kernel, by decide +kernel, by decide +kernel, by decide +kernel, rfl, by decide +kernel, by decide +kernel⟩) rfl rfl rfl (pi_list (pv 3)) (fun _ _ _ _ => .nil) (fun _ _ _ _ => (pe_ix ix_tup (pv 0) pe_int (fun _ _ => rfl))) nd rfl (by first | exact Or.inl rfl | exact Or.inr rfl) rfl (by intro _; rfl) (by first | exact .inl rfl | exact .inr rfl)) (pss_cons (ps_while PassesOwn.never (pt_cmpR op_in_seq (pv 5) (pv 6) rfl) (pss_one (ps_set (i := 5) nd rfl (by first | exact Or.inl rfl | exact Or.inr rfl) (pe_op op_mod (pe_op op_add (pv 5) pe_int) (pv 2))))) (pss_cons (ps_set (i := 7) nd rfl (by first | exact Or.inl rfl | exact Or.inr rfl) (pe_op op_catR (pe_lst (pa_cons (pv 1) pa_nil)) (pe_comp (sc0 := defScope s_l_tree) (N0 := ["digits", "person", "people", "way", "left", "drawn", "boxes", "names", "nexts", "name", "tree"]) (fs := []) (js := []) (by exact ⟨rfl, by decide +kernel, by decide +kernel, by decide +kernel, by decide +kernel, rfl, by decide +kernel, by decide +kernel⟩) rfl rfl rfl (pi_list (pv 3)) (fun _ _ _ _ => .nil) (fun _ _ _ _ => (pe_ix ix_tup (pv 0) pe_int (fun _ _ => rfl)))))) (pss_cons (ps_set (i := 8) nd rfl (by first | exact Or.inl rfl | exact Or.inr rfl) (pe_lst pa_nil)) (pss_cons (ps_for PassesOwn.never rfl (pi_range1 rfl T.g_range (pa_cons (pv 2) pa_nil)) (pg_name (i := 9) nd rfl (by first | exact Or.inl rfl | exact Or.inr rfl)) (pss_cons (ps_set (i := 10) nd rfl (by first | exact Or.inl rfl | exact Or.inr rfl) pe_non) (pss_cons (ps_if (pt_cmpR op_notIn_seq (pv 9) (pv 7) rfl) (pss_one (ps_set (i := 10) nd rfl (by first | exact Or.inl rfl | exact Or.inr rfl) (pe_call G_l_tree hr rfl H_l_tree.m H_l_tree.F.kp H_l_tree.b .nil pass0 (pa_cons (pv 0) (pa_cons (pv 1) (pa_cons (pv 2) (pa_cons (pe_op op_catR (pv 3) (pe_lst (pa_cons (pe_tup (pa_cons (pv 5) (pa_cons (pv 9) pa_nil))) pa_nil))) (pa_cons (pe_op op_sub (pv 4) pe_int) pa_nil)))))))) pss_nil) (pss_one (ps_expr (pe_bm PySem.F.plainAttrs_list PySem.F.slot_list_append PySem.F.type_list_append mt_append (pv 8) (pa_cons (pv 10) pa_nil))))))) (pss_one (ps_ret (pe_tup (pa_cons (pv 5) (pa_cons (pe_callTy call_tuple_of rfl T.g_tuple (by rfl) (pa_cons (pv 8) pa_nil)) pa_nil)))))))))))))
theorem ok0_l_tree (T : Txt K mg) {f : Addr} {fd : FuncData} (h : Has K mg "_law_tree" s_l_tree f fd ["digits", "person", "people", "way", "left"]) : FnOk P w K mg base CX0 16 f fd ["digits", "person", "people", "way", "left"] (spH 14) := okR_l_tree T h 14
theorem sc_l_plan : FnScope ["cell", "people", "most", "digits", "openings", "trees"] ["cell", "people", "most"] (defScope s_l_plan) := ⟨rfl, rfl, rfl, by decide +kernel, rfl, by decide +kernel, by decide +kernel⟩
theorem ok0_l_plan (T : Txt K mg) {f : Addr} {fd : FuncData} (h : Has K mg "_law_plan" s_l_plan f fd ["cell", "people", "most"]) : FnOk P w K mg base CX0 17 f fd ["cell", "people", "most"] (spF false F_l_plan) := by
  obtain ⟨f_l_taken, fd_l_taken, H_l_taken⟩ := T.d_l_taken
  have G_l_taken : FnOk P w K mg base CX0 1 f_l_taken fd_l_taken ["digits", "most"] spTake := ok0_l_taken T H_l_taken
  obtain ⟨f_l_tree, fd_l_tree, H_l_tree⟩ := T.d_l_tree
  have G_l_tree : FnOk P w K mg base CX0 16 f_l_tree fd_l_tree ["digits", "person", "people", "way", "left"] (spH 14) := ok0_l_tree T H_l_tree
  refine (fn_planH (k := 14) (by decide)) h.F sc_l_plan rfl rfl fun cdv A outer s H E hr => ?_
  have nd := sc_l_plan.nd
  exact (pss_cons (ps_set (i := 3) nd rfl (by first | exact Or.inl rfl | exact Or.inr rfl) (pe_lst (pa_cons (pv 0) pa_nil))) (pss_cons (ps_set (i := 4) nd rfl (by first | exact Or.inl rfl | exact Or.inr rfl) (pe_callTy call_tuple_of rfl T.g_tuple (by rfl) (pa_cons (pe_comp (sc0 := defScope s_l_plan) (N0 := ["cell", "people", "most", "digits", "openings", "trees"]) (fs := ["most", "digits", "people"]) (js := [2, 3, 1]) (by exact ⟨rfl, by decide +kernel, by decide +kernel, by decide +kernel, by decide +kernel, rfl, by decide +kernel, by decide +kernel⟩) rfl rfl rfl (pi_range1 rfl T.g_range (pa_cons (pv 1) pa_nil)) (fun _ _ _ _ => .nil) (fun _ _ _ _ => (pe_callB (call_min2 rfl) rfl T.g_min PyProof.Rows.boot_min (pa_cons (pv 1) (pa_cons (pe_call G_l_taken (hr.mono (by decide)) rfl H_l_taken.m H_l_taken.F.kp H_l_taken.b .nil pass0 (pa_cons (pv 2) (pa_cons (pe_op op_add (pv 3) pe_int) pa_nil))) pa_nil))))) pa_nil))) (pss_cons (ps_comp (i := 5) (sc0 := defScope s_l_plan) (N0 := ["cell", "people", "most", "digits", "openings", "trees"]) (fs := ["digits", "people", "openings"]) (js := [3, 1, 4]) (by exact ⟨rfl, by decide +kernel, by decide +kernel, by decide +kernel, by decide +kernel, rfl, by decide +kernel, by decide +kernel⟩) rfl rfl rfl (pi_range1 rfl T.g_range (pa_cons (pv 1) pa_nil)) (fun _ _ _ _ => .nil) (fun _ _ _ _ => (pe_call G_l_tree (hr.mono (by decide)) rfl H_l_tree.m H_l_tree.F.kp H_l_tree.b .nil pass0 (pa_cons (pv 1) (pa_cons (pv 0) (pa_cons (pv 2) (pa_cons (pe_lst pa_nil) (pa_cons (pe_ix ix_tup (pv 3) (pv 0) (fun _ _ => rfl)) pa_nil))))))) nd rfl (by first | exact Or.inl rfl | exact Or.inr rfl) rfl (by intro _; rfl) (by first | exact .inl rfl | exact .inr rfl)) (pss_one (ps_ret (pe_tup (pa_cons (pv 4) (pa_cons (pe_callTy call_tuple_of rfl T.g_tuple (by rfl) (pa_cons (pv 5) pa_nil)) pa_nil))))))))
theorem ok_l_plan (T : Txt K mg) {f : Addr} {fd : FuncData} (h : Has K mg "_law_plan" s_l_plan f fd ["cell", "people", "most"]) : FnOk P w K mg base (CXV P w) 17 f fd ["cell", "people", "most"] (spX false F_l_plan) := fn_upX (fun _ _ => plHF_no) (ok0_l_plan T h)
theorem sc_l_tree_text : FnScope ["tree"] ["tree"] (defScope s_l_tree_text) := ⟨rfl, rfl, rfl, by decide +kernel, rfl, by decide +kernel, by decide +kernel⟩
theorem okR_l_tree_text (T : Txt K mg) {f : Addr} {fd : FuncData} (h : Has K mg "_law_tree_text" s_l_tree_text f fd ["tree"]) : ∀ n, FnOk P w K mg base (CXV P w) (1 + n) f fd ["tree"] (spX false (R_l_tree_text n)) := by
  intro n
  induction n with
  | zero => exact fnX_no
  | succ n G_l_tree_text =>
  have H_l_tree_text := h
  refine fnX_ok [] h.F sc_l_tree_text fun cdv A outer s H E hr => ?_
  have nd := sc_l_tree_text.nd
  have hu64 := hr.units
  have br := br_body (P := P) (w := w) (K := K) (mg := mg) (base := base) (N := ["tree"]) (x := "_law_tree_text") (sc := defScope s_l_tree_text) (f := f) (cdv := cdv) (A := A) (outer := outer) (s := s) (H := H) (E := E) (om := [])
  exact (rss_cons (rs_if (rt_cmp op_isN pb_is (re_var 0) re_non) (rss_one (rs_ret re_str)) rss_nil) (rss_one (rs_ret (re_op op_add_str pr_catS (re_op op_add_str pr_catS (re_op op_add_str pr_catS (re_callTy call_str_int pc_str T.g_str (by rfl) (ra_consA (re_ix ix_seq pr_ix (re_var 0) re_int) ra_nil)) re_str) (re_meth1S PySem.F.slot_str_join PySem.F.type_str_join mt_join p1_join re_str (re_comp (sc0 := defScope s_l_tree_text) (N0 := ["tree"]) (fs := []) (js := []) (by exact ⟨rfl, by decide +kernel, by decide +kernel, by decide +kernel, by decide +kernel, rfl, by decide +kernel, by decide +kernel⟩) rfl rfl rfl (RI.c (ri_seq (RE.rd (re_ix ix_seq pr_ix (re_var 0) re_int)))) (fun _ _ _ _ => rts_nil) (fun _ _ _ _ => (reX_callC G_l_tree_text H_l_tree_text hr (br_no fun _ _ h => h) (ra_cons (re_var 0) ra_nil)))))) re_str))))
theorem ok_l_tree_text (T : Txt K mg) {f : Addr} {fd : FuncData} (h : Has K mg "_law_tree_text" s_l_tree_text f fd ["tree"]) : FnOk P w K mg base (CXV P w) 15 f fd ["tree"] (spX false F_l_tree_text) := okR_l_tree_text T h 14
theorem sc_l_plan_rows : FnScope ["openings", "plan", "rows", "person"] ["openings", "plan"] (defScope s_l_plan_rows) := ⟨rfl, rfl, rfl, by decide +kernel, rfl, by decide +kernel, by decide +kernel⟩
theorem ok_l_plan_rows (T : Txt K mg) {f : Addr} {fd : FuncData} (h : Has K mg "_law_plan_rows" s_l_plan_rows f fd ["openings", "plan"]) : FnOk P w K mg base (CXV P w) 16 f fd ["openings", "plan"] (spX true F_l_plan_rows) := by
  obtain ⟨f_l_tree_text, fd_l_tree_text, H_l_tree_text⟩ := T.d_l_tree_text
  have G_l_tree_text : FnOk P w K mg base (CXV P w) 15 f_l_tree_text fd_l_tree_text ["tree"] (spX false F_l_tree_text) := ok_l_tree_text T H_l_tree_text
  refine fnX_ok [2] h.F sc_l_plan_rows fun cdv A outer s H E hr => ?_
  have nd := sc_l_plan_rows.nd
  have hu64 := hr.units
  have br := br_body (P := P) (w := w) (K := K) (mg := mg) (base := base) (N := ["openings", "plan", "rows", "person"]) (x := "_law_plan_rows") (sc := defScope s_l_plan_rows) (f := f) (cdv := cdv) (A := A) (outer := outer) (s := s) (H := H) (E := E) (om := [2])
  exact (rss_cons (rs_setO 2 nd (re_list (ra_cons (re_op op_add_str pr_catS re_str (re_meth1S PySem.F.slot_str_join PySem.F.type_str_join mt_join p1_join re_str (re_comp (sc0 := defScope s_l_plan_rows) (N0 := ["openings", "plan", "rows", "person"]) (fs := []) (js := []) (by exact ⟨rfl, by decide +kernel, by decide +kernel, by decide +kernel, by decide +kernel, rfl, by decide +kernel, by decide +kernel⟩) rfl rfl rfl (RI.c (ri_seq (RE.rd (re_var 0)))) (fun _ _ _ _ => rts_nil) (fun _ _ _ _ => (re_callTy call_str_int pc_str T.g_str (by rfl) (ra_consA (re_var 0) ra_nil)))))) ra_nil))) (rss_cons (rs_for (ri_range1 T.g_range (ra_consA (re_callB call_len_seq pc_len T.g_len PySem.boot_len (ra_consA (re_var 1) ra_nil)) ra_nil)) (rg_name 3 nd) (rss_one (rs_meth 2 PySem.F.slot_list_append PySem.F.type_list_append mt_append pm_append (ra_cons (re_op op_add_str pr_catS (re_op op_add_str pr_catS (re_op op_add_str pr_catS re_str (re_callTy call_str_int pc_str T.g_str (by rfl) (ra_consA (re_var 3) ra_nil))) re_str) (reX_callC G_l_tree_text H_l_tree_text (hr.mono (by decide)) br (ra_cons (re_ix ix_seq pr_ix (re_var 1) (re_var 3)) ra_nil))) ra_nil))) PassesOwn.leaving) (rss_one (rs_retO 2))))
theorem sc_l_same : FnScope ["found", "due"] ["found", "due"] (defScope s_l_same) := ⟨rfl, rfl, rfl, by decide +kernel, rfl, by decide +kernel, by decide +kernel⟩
theorem okR_l_same (T : Txt K mg) {f : Addr} {fd : FuncData} (h : Has K mg "_law_same" s_l_same f fd ["found", "due"]) : ∀ n, FnOk P w K mg base (CXV P w) (2 + n) f fd ["found", "due"] (spX false (R_l_same n)) := by
  intro n
  induction n with
  | zero => exact fnX_no
  | succ n G_l_same =>
  have H_l_same := h
  obtain ⟨f_l_whole, fd_l_whole, H_l_whole⟩ := T.d_l_whole
  have G_l_whole : FnOk P w K mg base (CXV P w) 1 f_l_whole fd_l_whole ["found"] (spX false F_l_whole) := ok_l_whole T H_l_whole
  refine fnX_ok [] h.F sc_l_same fun cdv A outer s H E hr => ?_
  have nd := sc_l_same.nd
  have hu64 := hr.units
  have br := br_body (P := P) (w := w) (K := K) (mg := mg) (base := base) (N := ["found", "due"]) (x := "_law_same") (sc := defScope s_l_same) (f := f) (cdv := cdv) (A := A) (outer := outer) (s := s) (H := H) (E := E) (om := [])
  exact (rss_cons (rs_if (rt_val (re_isi T.k_tuple T.g_isinstance T.g_tuple (by decide +kernel) (re_var 1))) (rss_cons (rs_if (RW.rt (rw_or (rt_not (rt_val (re_isi T.k_tuple T.g_isinstance T.g_tuple (by decide +kernel) (re_var 0)))) (rw_or1 (rt_cmp (op_neD hu64) pb_ne (re_callB call_len_seq pc_len T.g_len PySem.boot_len (ra_consA (re_var 0) ra_nil)) (re_callB call_len_seq pc_len T.g_len PySem.boot_len (ra_consA (re_var 1) ra_nil)))))) (rss_one (rs_ret re_bl)) rss_nil) (rss_one (rs_ret (re_callB (call_allB rfl) pc_all T.g_all (by rfl) (ra_consA (re_comp (sc0 := defScope s_l_same) (N0 := ["found", "due"]) (fs := ["found", "due"]) (js := [0, 1]) (by exact ⟨rfl, by decide +kernel, by decide +kernel, by decide +kernel, by decide +kernel, rfl, by decide +kernel, by decide +kernel⟩) rfl rfl rfl (RI.c (ri_range1 T.g_range (ra_consA (re_callB call_len_seq pc_len T.g_len PySem.boot_len (ra_consA (re_var 1) ra_nil)) ra_nil))) (fun _ _ _ _ => rts_nil) (fun _ _ _ _ => (reX_callC G_l_same H_l_same hr (br_no fun _ _ h => h) (ra_cons (re_ix ix_seq pr_ix (re_var 1) (re_var 0)) (ra_cons (re_ix ix_seq pr_ix (re_var 2) (re_var 0)) ra_nil))))) ra_nil))))) rss_nil) (rss_cons (rs_if (rt_cmp op_isN pb_is (re_var 1) re_non) (rss_one (rs_ret (re_cmp op_isN pb_is (re_var 0) re_non))) rss_nil) (rss_one (rs_ret (re_and (reX_callC G_l_whole H_l_whole (hr.mono (Nat.le_trans (by decide) (Nat.le_add_right _ _))) br (ra_cons (re_var 0) ra_nil)) (re_one (re_cmp (op_eqD hu64) pb_eq (re_var 0) (re_var 1))))))))
theorem ok_l_same (T : Txt K mg) {f : Addr} {fd : FuncData} (h : Has K mg "_law_same" s_l_same f fd ["found", "due"]) : FnOk P w K mg base (CXV P w) 16 f fd ["found", "due"] (spX false F_l_same) := okR_l_same T h 14
theorem sc_law : FnScope ["script", "people", "most", "openings", "plan", "due", "found"] ["script"] (defScope s_law) := ⟨rfl, rfl, rfl, by decide +kernel, rfl, by decide +kernel, by decide +kernel⟩
theorem ok_law (T : Txt K mg) {f : Addr} {fd : FuncData} (h : Has K mg "law" s_law f fd ["script"]) : FnOk P w K mg base (CXV P w) 18 f fd ["script"] (spX false F_law) := by
  obtain ⟨f_l_cell_at, fd_l_cell_at, H_l_cell_at⟩ := T.d_l_cell_at
  have G_l_cell_at : FnOk P w K mg base (CXV P w) 1 f_l_cell_at fd_l_cell_at ["script", "k"] (spX false F_l_cell_at) := ok_l_cell_at T H_l_cell_at
  obtain ⟨f_l_plan, fd_l_plan, H_l_plan⟩ := T.d_l_plan
  have G_l_plan : FnOk P w K mg base (CXV P w) 17 f_l_plan fd_l_plan ["cell", "people", "most"] (spX false F_l_plan) := ok_l_plan T H_l_plan
  obtain ⟨f_l_all, fd_l_all, H_l_all⟩ := T.d_l_all
  have G_l_all : FnOk P w K mg base (CXV P w) 1 f_l_all fd_l_all ["script"] (spX false F_l_all) := ok_l_all T H_l_all
  obtain ⟨f_l_plan_rows, fd_l_plan_rows, H_l_plan_rows⟩ := T.d_l_plan_rows
  have G_l_plan_rows : FnOk P w K mg base (CXV P w) 16 f_l_plan_rows fd_l_plan_rows ["openings", "plan"] (spX true F_l_plan_rows) := ok_l_plan_rows T H_l_plan_rows
  obtain ⟨f_plan_text, fd_plan_text, H_plan_text⟩ := T.d_plan_text
  have G_plan_text : FnOk P w K mg base (CXV P w) 16 f_plan_text fd_plan_text ["openings", "plan"] (spX false F_plan_text) := ok_plan_text T H_plan_text
  obtain ⟨f_l_same, fd_l_same, H_l_same⟩ := T.d_l_same
  have G_l_same : FnOk P w K mg base (CXV P w) 16 f_l_same fd_l_same ["found", "due"] (spX false F_l_same) := ok_l_same T H_l_same
  obtain ⟨f_read_plan, fd_read_plan, H_read_plan⟩ := T.d_read_plan
  have G_read_plan : FnOk P w K mg base (CXV P w) 17 f_read_plan fd_read_plan ["text"] (spX false F_read_plan) := ok_read_plan T H_read_plan
  refine fnX_ok [] h.F sc_law fun cdv A outer s H E hr => ?_
  have nd := sc_law.nd
  have hu64 := hr.units
  have br := br_body (P := P) (w := w) (K := K) (mg := mg) (base := base) (N := ["script", "people", "most", "openings", "plan", "due", "found"]) (x := "law") (sc := defScope s_law) (f := f) (cdv := cdv) (A := A) (outer := outer) (s := s) (H := H) (E := E) (om := [])
  exact (rss_cons (rs_set 1 nd (re_op op_add pr_add re_int (re_op op_mod pr_mod (reX_callC G_l_cell_at H_l_cell_at (hr.mono (by decide)) br (ra_cons (re_var 0) (ra_cons re_int ra_nil))) re_int))) (rss_cons (rs_set 2 nd (re_var 1)) (rss_cons (rs_if (rt_cmp (op_eqD hu64) pb_eq (re_op op_mod pr_mod (re_op op_fdivA pr_fdiv (reX_callC G_l_cell_at H_l_cell_at (hr.mono (by decide)) br (ra_cons (re_var 0) (ra_cons re_int ra_nil))) re_int) re_int) re_int) (rss_cons (rs_set 1 nd re_int) (rss_one (rs_set 2 nd re_int))) rss_nil) (rss_cons (rs_if (rt_cmp (op_eqD hu64) pb_eq (re_op op_mod pr_mod (re_op op_fdivA pr_fdiv (reX_callC G_l_cell_at H_l_cell_at (hr.mono (by decide)) br (ra_cons (re_var 0) (ra_cons re_int ra_nil))) re_int) re_int) re_int) (rss_cons (rs_set 1 nd re_int) (rss_one (rs_set 2 nd re_int))) rss_nil) (rss_cons (rs_asgA (reX_callC G_l_plan H_l_plan (hr.mono (by decide)) br (ra_cons (reX_callC G_l_all H_l_all (hr.mono (by decide)) br (ra_cons (re_var 0) ra_nil)) (ra_cons (re_var 1) (ra_cons (re_var 2) ra_nil)))) (rg_tup rfl (rgs_cons (rg_name 3 nd) (rgs_cons (rg_name 4 nd) rgs_nil)))) (rss_cons (rs_set 5 nd (re_meth1S PySem.F.slot_str_join PySem.F.type_str_join mt_join p1_join re_str (reX_callN G_l_plan_rows H_l_plan_rows (hr.mono (by decide)) br (ra_cons (re_var 3) (ra_cons (re_var 4) ra_nil))))) (rss_cons (rs_set 6 nd (reX_callC G_plan_text H_plan_text (hr.mono (by decide)) br (ra_cons (re_var 3) (ra_cons (re_var 4) ra_nil)))) (rss_cons (rs_if (RW.rt (rw_or (rt_not (rt_val (re_isi T.k_str T.g_isinstance T.g_str (by decide +kernel) (re_var 6)))) (rw_or1 (rt_cmp (op_neD hu64) pb_ne (re_var 6) (re_var 5))))) (rss_one (rs_ret re_bl)) rss_nil) (rss_one (rs_ret (reX_callC G_l_same H_l_same (hr.mono (by decide)) br (ra_cons (reX_callC G_read_plan H_read_plan (hr.mono (by decide)) br (ra_cons (re_var 5) ra_nil)) (ra_cons (re_tup (ra_cons (re_var 3) (ra_cons (re_var 4) ra_nil))) ra_nil)))))))))))))
end
end K50
set_option maxHeartbeats 4000000
namespace K50
open PySem L2 L2.L3 MR
noncomputable def rI' (r : List Nat) : List Int := r.map fun (b : Nat) => (b : Int)
structure Opn (n : Nat) (ops : List Int) : Prop where
  len : ops.length = n
  bd : ∀ x ∈ ops, 0 ≤ x ∧ x ≤ n
theorem eq_made_openings {n : Nat} {ops : List Int} (p : Opn n ops) (h1 : 1 ≤ n) (h2 : n ≤ 60) : F_made_openings [.int n, tI ops] = .ok (tI ops) := by
  show (B_made_openings [some (.int n), some (tI ops)]).bind (fin false) = _
  unfold B_made_openings
  have hne : ops ≠ [] := fun z => by have := p.len; rw [z] at this; simp at this; bv_omega
  have a1 := p.bd _ (minL_mem hne)
  have a2 := p.bd _ (maxL_mem hne)
  simp -implicitDefEqProofs only [eM1_ap, eRevT_ap, eRevL_ap, sA_ap, i_enumerate_ap, sJ0_ap, eS3_ap, eS_ap, oN_ap, oS_ap, isI_ap, slL_ap, slD_l, slD_t, fin_rt, fin_nx, sN_ap, sX_ap, sQ_ap, sIf_ap, sR_ap, sS_ap, sE_ap, sM_ap, sI_ap, sV_ap, sF_ap, sW_ap, eC_ap, eV0, eVs, e1_ap, e2_ap, eB_ap, eF_ap, eFA_ap, b2_ap, b3_ap, vB_ap, tV_ap, tNt_ap, tAn_ap, tO_ap, vAn_ap, vO_ap, vNt_ap, eIf_ap, aN_ap, aC_ap, iS_ap, iR_ap, gN_ap, tYes_ap, i2_ap, c2_ap, lstD_ap, seqD_l, seqD_t, isB_ap, lenD_ap, listD_ap, tupD_ap, ixD_l, ixD_t, negD_ap, bD_ap, isi_ii, isi_bi, isi_bb, isi_ib, isi_tt, isi_ll, isi_tl, isi_lt, isi_tn, isi_bn, mkL0, mkL1, mkL2, mkL3, mkL4, mkT0, mkT1, mkT2, mkT3, Res.bind_ok, Res.bind_no, Res.bind_ex, Res.lft_some, Res.lft_none, Option.map_some, Option.bind_some, List.set_cons_zero, List.set_cons_succ, List.length_cons, List.length_nil, if_true, if_false, Bool.false_eq_true, ite_true, ite_false, Bool.not_true, Bool.not_false, List.length_map, p.len, neD_int, min1_tI hne, max1_tI hne, decide_eq_true (show (1 : Int) ≤ (n : Int) by bv_omega), decide_eq_true (show (n : Int) ≤ 60 by bv_omega), decide_true, decide_eq_false (show ¬ minL ops < 0 by bv_omega), decide_eq_false (show ¬ (n : Int) < maxL ops by bv_omega)]
theorem Opn.at {n : Nat} {ops : List Int} (q : Opn n ops) {p : Nat} (h : p < n) : 0 ≤ ops.getD p 0 ∧ ops.getD p 0 ≤ n := q.bd _ (MR.getD_mem (by rw [q.len]; exact h))
theorem atI_opn {n : Nat} {ops : List Int} (q : Opn n ops) {p : Nat} (h : p < n) : atI (ops.map PyData.int) (p : Int) = some (.int ((ops.getD p 0).toNat : Int)) := by
  have := q.at h
  rw [atI_map, atI_getD (by rw [q.len]; exact h), Option.map_some]
  congr 2
  bv_omega
theorem atI_rm {n i : Nat} (f : Nat → D) (h : i < n) : atI ((List.range n).map f) (i : Int) = some (f i) := by
  unfold atI
  rw [List.length_map, List.length_range, ixN_nat h, Option.bind_some, List.getElem?_map, List.getElem?_range h]
  rfl
theorem enum_rm (n : Nat) (f : Nat → D) : enumD ((List.range n).map f) = (List.range n).map fun (i : Nat) => PyData.tuple [.int (i : Int), f i] := by
  unfold enumD
  rw [List.length_map, List.length_range]
  refine List.map_congr_left fun i hi => ?_
  rw [List.getD, List.getElem?_map, List.getElem?_range (List.mem_range.mp hi)]
  rfl
theorem eq_openings_of_a_plan {n : Nat} {ops : List Int} (q : Opn n ops) (h1 : 1 ≤ n) (h2 : n ≤ 6) : F_openings_of_a_plan [tI ops] = .ok (tI ops) := by
  show (B_openings_of_a_plan [some (tI ops)]).bind (fin false) = _
  unfold B_openings_of_a_plan
  simp -implicitDefEqProofs only [eM1_ap, eRevT_ap, eRevL_ap, sA_ap, i_enumerate_ap, sJ0_ap, eS3_ap, eS_ap, oN_ap, oS_ap, isI_ap, slL_ap, slD_l, slD_t, fin_rt, fin_nx, sN_ap, sX_ap, sQ_ap, sIf_ap, sR_ap, sS_ap, sE_ap, sM_ap, sI_ap, sV_ap, sF_ap, sW_ap, eC_ap, eV0, eVs, e1_ap, e2_ap, eB_ap, eF_ap, eFA_ap, b2_ap, b3_ap, vB_ap, tV_ap, tNt_ap, tAn_ap, tO_ap, vAn_ap, vO_ap, vNt_ap, eIf_ap, aN_ap, aC_ap, iS_ap, iR_ap, gN_ap, tYes_ap, i2_ap, c2_ap, lstD_ap, seqD_l, seqD_t, isB_ap, lenD_ap, listD_ap, tupD_ap, ixD_l, ixD_t, negD_ap, bD_ap, isi_ii, isi_bi, isi_bb, isi_ib, isi_tt, isi_ll, isi_tl, isi_lt, isi_tn, isi_bn, mkL0, mkL1, mkL2, mkL3, mkL4, mkT0, mkT1, mkT2, mkT3, Res.bind_ok, Res.bind_no, Res.bind_ex, Res.lft_some, Res.lft_none, Option.map_some, Option.bind_some, List.set_cons_zero, List.set_cons_succ, List.length_cons, List.length_nil, if_true, if_false, Bool.false_eq_true, ite_true, ite_false, Bool.not_true, Bool.not_false, List.length_map, q.len, decide_eq_false (show ¬ (6 : Int) < (n : Int) by bv_omega), eq_made_openings q h1 (show n ≤ 60 by bv_omega)]
inductive TreeOk (n : Nat) : Nat → List Int → List Int → D → Prop
  | none {l : Nat} {bs ns : List Int} : TreeOk n l bs ns .none
  | node {l : Nat} {bs ns : List Int} (b : Nat) (f : Nat → D) : b < n → bs.contains (b : Int) = false → (∀ i, i < n → ns.contains (i : Int) = true → f i = .none) → (∀ i, i < n → TreeOk n l (bs ++ [(b : Int)]) (ns ++ [(i : Int)]) (f i)) → TreeOk n (l + 1) bs ns (.tuple [.int (b : Int), .tuple ((List.range n).map f)])
structure PlanOk (n : Nat) (ops : List Int) (t : Nat → D) : Prop where
  tree : ∀ p, p < n → TreeOk n (ops.getD p 0).toNat [] [(p : Int)] (t p)
theorem isN_some (d : D) : ∃ b, isND true d .none = some b := by cases d <;> exact ⟨_, rfl⟩
theorem runG_map (g : Nat → Int → D × Int) (p : Int) : ∀ k, (runG g k p).1 = (List.range k).map fun i => (g i (runG g i p).2).1
  | 0 => rfl
  | k + 1 => by
    rw [runG, runG_map g p k, List.range_succ, List.map_append]
    rfl
theorem mt_eq {n : Nat} (hn : n ≤ 6) {l : Nat} {bs ns : List Int} {d : D} (T : TreeOk n l bs ns d) : ∀ k, l < k → bs.length + l ≤ 100 → ns.length + l ≤ 100 → R_made_tree k [d, .int (n : Int), .int (l : Int), lI bs, lI ns] = .ok d := by
  induction T with
  | @none l bs ns =>
    intro k hk _ _
    obtain ⟨k, rfl⟩ : ∃ j, k = j + 1 := ⟨k - 1, by bv_omega⟩
    show (B_made_tree (R_made_tree k) [some .none, some (.int (n : Int)), some (.int (l : Int)), some (lI bs), some (lI ns), none, none, none, none, none]).bind (fin false) = _
    unfold B_made_tree
    have i0 : isND false .none .none = some true := rfl
    simp -implicitDefEqProofs only [eM1_ap, eRevT_ap, eRevL_ap, sA_ap, i_enumerate_ap, sJ0_ap, eS3_ap, eS_ap, oN_ap, oS_ap, isI_ap, slL_ap, slD_l, slD_t, fin_rt, fin_nx, sN_ap, sX_ap, sQ_ap, sIf_ap, sR_ap, sS_ap, sE_ap, sM_ap, sI_ap, sV_ap, sF_ap, sW_ap, eC_ap, eV0, eVs, e1_ap, e2_ap, eB_ap, eF_ap, eFA_ap, b2_ap, b3_ap, vB_ap, tV_ap, tNt_ap, tAn_ap, tO_ap, vAn_ap, vO_ap, vNt_ap, eIf_ap, aN_ap, aC_ap, iS_ap, iR_ap, gN_ap, tYes_ap, i2_ap, c2_ap, lstD_ap, seqD_l, seqD_t, isB_ap, lenD_ap, listD_ap, tupD_ap, ixD_l, ixD_t, negD_ap, bD_ap, isi_ii, isi_bi, isi_bb, isi_ib, isi_tt, isi_ll, isi_tl, isi_lt, isi_tn, isi_bn, mkL0, mkL1, mkL2, mkL3, mkL4, mkT0, mkT1, mkT2, mkT3, Res.bind_ok, Res.bind_no, Res.bind_ex, Res.lft_some, Res.lft_none, Option.map_some, Option.bind_some, List.set_cons_zero, List.set_cons_succ, List.length_cons, List.length_nil, if_true, if_false, Bool.false_eq_true, ite_true, ite_false, Bool.not_true, Bool.not_false, i0]
  | @node l bs ns b f hb nb hf _ ih =>
    intro k hk h1 h2
    obtain ⟨k, rfl⟩ : ∃ j, k = j + 1 := ⟨k - 1, by bv_omega⟩
    show (B_made_tree (R_made_tree k) [some (.tuple [.int (b : Int), .tuple ((List.range n).map f)]), some (.int (n : Int)), some (.int ((l + 1 : Nat) : Int)), some (lI bs), some (lI ns), none, none, none, none, none]).bind (fin false) = _
    unfold B_made_tree
    have i0 : isND false (.tuple [.int (b : Int), .tuple ((List.range n).map f)]) .none = some false := rfl
    have a0 : atI [PyData.int (b : Int), .tuple ((List.range n).map f)] 0 = some (.int (b : Int)) := rfl
    have a1 : atI [PyData.int (b : Int), .tuple ((List.range n).map f)] 1 = some (.tuple ((List.range n).map f)) := rfl
    have hl : ((List.range n).map f).length = n := by rw [List.length_map, List.length_range]
    have cb : catL (lI bs) (.list [.int (b : Int)]) = some (lI (bs ++ [(b : Int)])) := catL_lI (xs := bs) (ys := [(b : Int)]) (by simp; bv_omega)
    have sb : ((l + 1 : Nat) : Int) - 1 = (l : Int) := by bv_omega
    simp -implicitDefEqProofs only [eM1_ap, eRevT_ap, eRevL_ap, sA_ap, i_enumerate_ap, sJ0_ap, eS3_ap, eS_ap, oN_ap, oS_ap, isI_ap, slL_ap, slD_l, slD_t, fin_rt, fin_nx, sN_ap, sX_ap, sQ_ap, sIf_ap, sR_ap, sS_ap, sE_ap, sM_ap, sI_ap, sV_ap, sF_ap, sW_ap, eC_ap, eV0, eVs, e1_ap, e2_ap, eB_ap, eF_ap, eFA_ap, b2_ap, b3_ap, vB_ap, tV_ap, tNt_ap, tAn_ap, tO_ap, vAn_ap, vO_ap, vNt_ap, eIf_ap, aN_ap, aC_ap, iS_ap, iR_ap, gN_ap, tYes_ap, i2_ap, c2_ap, lstD_ap, seqD_l, seqD_t, isB_ap, lenD_ap, listD_ap, tupD_ap, ixD_l, ixD_t, negD_ap, bD_ap, isi_ii, isi_bi, isi_bb, isi_ib, isi_tt, isi_ll, isi_tl, isi_lt, isi_tn, isi_bn, mkL0, mkL1, mkL2, mkL3, mkL4, mkT0, mkT1, mkT2, mkT3, Res.bind_ok, Res.bind_no, Res.bind_ex, Res.lft_some, Res.lft_none, Option.map_some, Option.bind_some, List.set_cons_zero, List.set_cons_succ, List.length_cons, List.length_nil, if_true, if_false, Bool.false_eq_true, ite_true, ite_false, Bool.not_true, Bool.not_false, i0, a0, a1, eqD_int, decide_eq_false (show ¬ ((l + 1 : Nat) : Int) = 0 by bv_omega), decide_eq_true (show (0 : Int) ≤ (b : Int) by bv_omega), decide_eq_true (show (b : Int) < (n : Int) by bv_omega), inD_l, nb, hl, neD_int, decide_true, enum_rm]
    refine forM_b2 (fun i ρ => ∃ x y, ρ = [some (.tuple [.int (b : Int), .tuple ((List.range n).map f)]), some (.int (n : Int)), some (.int ((l + 1 : Nat) : Int)), some (lI bs), some (lI ns), some (.int (b : Int)), some (.tuple ((List.range n).map f)), some (.list ((List.range i).map f)), x, y]) ⟨none, none, rfl⟩ ?_ ?_
    · rintro i d ρ hd ⟨x, y, rfl⟩
      rw [List.getElem?_map] at hd
      obtain ⟨j, ej, rfl⟩ := Option.map_eq_some_iff.mp hd
      have hi : i < n := by simpa using (List.getElem?_eq_some_iff.mp ej).1
      rw [List.getElem?_range hi] at ej
      cases ej
      have cn : catL (lI ns) (.list [.int (i : Int)]) = some (lI (ns ++ [(i : Int)])) := catL_lI (xs := ns) (ys := [(i : Int)]) (by simp; bv_omega)
      have e1 := ih i hi k (by bv_omega) (by simp; bv_omega) (by simp; bv_omega)
      have ap := app_le (l := (List.range i).map f) (d := f i) (by rw [List.length_map, List.length_range]; bv_omega)
      have rs : (List.range i).map f ++ [f i] = (List.range (i + 1)).map f := by rw [List.range_succ, List.map_append]; rfl
      rw [rs] at ap
      refine ⟨_, [some (.tuple [.int (b : Int), .tuple ((List.range n).map f)]), some (.int (n : Int)), some (.int ((l + 1 : Nat) : Int)), some (lI bs), some (lI ns), some (.int (b : Int)), some (.tuple ((List.range n).map f)), some (.list ((List.range (i + 1)).map f)), some (.int (i : Int)), some (f i)], rfl, ?_, _, _, rfl⟩
      cases c : ns.contains (i : Int) with
      | true =>
        have fi := hf i hi c
        have i1 : isND true (f i) .none = some false := by rw [fi]; rfl
        simp -implicitDefEqProofs only [eM1_ap, eRevT_ap, eRevL_ap, sA_ap, i_enumerate_ap, sJ0_ap, eS3_ap, eS_ap, oN_ap, oS_ap, isI_ap, slL_ap, slD_l, slD_t, fin_rt, fin_nx, sN_ap, sX_ap, sQ_ap, sIf_ap, sR_ap, sS_ap, sE_ap, sM_ap, sI_ap, sV_ap, sF_ap, sW_ap, eC_ap, eV0, eVs, e1_ap, e2_ap, eB_ap, eF_ap, eFA_ap, b2_ap, b3_ap, vB_ap, tV_ap, tNt_ap, tAn_ap, tO_ap, vAn_ap, vO_ap, vNt_ap, eIf_ap, aN_ap, aC_ap, iS_ap, iR_ap, gN_ap, tYes_ap, i2_ap, c2_ap, lstD_ap, seqD_l, seqD_t, isB_ap, lenD_ap, listD_ap, tupD_ap, ixD_l, ixD_t, negD_ap, bD_ap, isi_ii, isi_bi, isi_bb, isi_ib, isi_tt, isi_ll, isi_tl, isi_lt, isi_tn, isi_bn, mkL0, mkL1, mkL2, mkL3, mkL4, mkT0, mkT1, mkT2, mkT3, Res.bind_ok, Res.bind_no, Res.bind_ex, Res.lft_some, Res.lft_none, Option.map_some, Option.bind_some, List.set_cons_zero, List.set_cons_succ, List.length_cons, List.length_nil, if_true, if_false, Bool.false_eq_true, ite_true, ite_false, Bool.not_true, Bool.not_false, i1, cb, cn, sb, e1, ap]
      | false =>
        obtain ⟨t, ht⟩ := isN_some (f i)
        cases t with
        | true => simp -implicitDefEqProofs only [eM1_ap, eRevT_ap, eRevL_ap, sA_ap, i_enumerate_ap, sJ0_ap, eS3_ap, eS_ap, oN_ap, oS_ap, isI_ap, slL_ap, slD_l, slD_t, fin_rt, fin_nx, sN_ap, sX_ap, sQ_ap, sIf_ap, sR_ap, sS_ap, sE_ap, sM_ap, sI_ap, sV_ap, sF_ap, sW_ap, eC_ap, eV0, eVs, e1_ap, e2_ap, eB_ap, eF_ap, eFA_ap, b2_ap, b3_ap, vB_ap, tV_ap, tNt_ap, tAn_ap, tO_ap, vAn_ap, vO_ap, vNt_ap, eIf_ap, aN_ap, aC_ap, iS_ap, iR_ap, gN_ap, tYes_ap, i2_ap, c2_ap, lstD_ap, seqD_l, seqD_t, isB_ap, lenD_ap, listD_ap, tupD_ap, ixD_l, ixD_t, negD_ap, bD_ap, isi_ii, isi_bi, isi_bb, isi_ib, isi_tt, isi_ll, isi_tl, isi_lt, isi_tn, isi_bn, mkL0, mkL1, mkL2, mkL3, mkL4, mkT0, mkT1, mkT2, mkT3, Res.bind_ok, Res.bind_no, Res.bind_ex, Res.lft_some, Res.lft_none, Option.map_some, Option.bind_some, List.set_cons_zero, List.set_cons_succ, List.length_cons, List.length_nil, if_true, if_false, Bool.false_eq_true, ite_true, ite_false, Bool.not_true, Bool.not_false, ht, inD_l, c, cb, cn, sb, e1, ap]
        | false => simp -implicitDefEqProofs only [eM1_ap, eRevT_ap, eRevL_ap, sA_ap, i_enumerate_ap, sJ0_ap, eS3_ap, eS_ap, oN_ap, oS_ap, isI_ap, slL_ap, slD_l, slD_t, fin_rt, fin_nx, sN_ap, sX_ap, sQ_ap, sIf_ap, sR_ap, sS_ap, sE_ap, sM_ap, sI_ap, sV_ap, sF_ap, sW_ap, eC_ap, eV0, eVs, e1_ap, e2_ap, eB_ap, eF_ap, eFA_ap, b2_ap, b3_ap, vB_ap, tV_ap, tNt_ap, tAn_ap, tO_ap, vAn_ap, vO_ap, vNt_ap, eIf_ap, aN_ap, aC_ap, iS_ap, iR_ap, gN_ap, tYes_ap, i2_ap, c2_ap, lstD_ap, seqD_l, seqD_t, isB_ap, lenD_ap, listD_ap, tupD_ap, ixD_l, ixD_t, negD_ap, bD_ap, isi_ii, isi_bi, isi_bb, isi_ib, isi_tt, isi_ll, isi_tl, isi_lt, isi_tn, isi_bn, mkL0, mkL1, mkL2, mkL3, mkL4, mkT0, mkT1, mkT2, mkT3, Res.bind_ok, Res.bind_no, Res.bind_ex, Res.lft_some, Res.lft_none, Option.map_some, Option.bind_some, List.set_cons_zero, List.set_cons_succ, List.length_cons, List.length_nil, if_true, if_false, Bool.false_eq_true, ite_true, ite_false, Bool.not_true, Bool.not_false, ht, cb, cn, sb, e1, ap]
    · rintro ρ ⟨x, y, rfl⟩
      rw [List.length_map, List.length_range]
      simp -implicitDefEqProofs only [eM1_ap, eRevT_ap, eRevL_ap, sA_ap, i_enumerate_ap, sJ0_ap, eS3_ap, eS_ap, oN_ap, oS_ap, isI_ap, slL_ap, slD_l, slD_t, fin_rt, fin_nx, sN_ap, sX_ap, sQ_ap, sIf_ap, sR_ap, sS_ap, sE_ap, sM_ap, sI_ap, sV_ap, sF_ap, sW_ap, eC_ap, eV0, eVs, e1_ap, e2_ap, eB_ap, eF_ap, eFA_ap, b2_ap, b3_ap, vB_ap, tV_ap, tNt_ap, tAn_ap, tO_ap, vAn_ap, vO_ap, vNt_ap, eIf_ap, aN_ap, aC_ap, iS_ap, iR_ap, gN_ap, tYes_ap, i2_ap, c2_ap, lstD_ap, seqD_l, seqD_t, isB_ap, lenD_ap, listD_ap, tupD_ap, ixD_l, ixD_t, negD_ap, bD_ap, isi_ii, isi_bi, isi_bb, isi_ib, isi_tt, isi_ll, isi_tl, isi_lt, isi_tn, isi_bn, mkL0, mkL1, mkL2, mkL3, mkL4, mkT0, mkT1, mkT2, mkT3, Res.bind_ok, Res.bind_no, Res.bind_ex, Res.lft_some, Res.lft_none, Option.map_some, Option.bind_some, List.set_cons_zero, List.set_cons_succ, List.length_cons, List.length_nil, if_true, if_false, Bool.false_eq_true, ite_true, ite_false, Bool.not_true, Bool.not_false]
theorem eq_made_plan {n : Nat} {ops : List Int} {t : Nat → D} (P : PlanOk n ops t) (q : Opn n ops) (h1 : 1 ≤ n) (h2 : n ≤ 6) {x : D} (hx : x = .tuple ((List.range n).map t) ∨ x = .list ((List.range n).map t)) : F_made_plan [tI ops, x] = .ok (.tuple ((List.range n).map t)) := by
  have hl : ((List.range n).map t).length = n := by rw [List.length_map, List.length_range]
  have lx : lenD [x] = some (.int (n : Int)) := by
    rcases hx with rfl | rfl
    · show some (PyData.int ((((List.range n).map t).length : Nat) : Int)) = _
      rw [hl]
    · show some (PyData.int ((((List.range n).map t).length : Nat) : Int)) = _
      rw [hl]
  have sx : seqD x = some ((List.range n).map t) := by rcases hx with rfl | rfl <;> rfl
  show (B_made_plan [some (tI ops), some x, none, none]).bind (fin false) = _
  unfold B_made_plan
  have cc : eComp2 (i_enumerate (eV 1)) tYes (eF F_made_tree (aC (eV 1) (aC (eV 2) (aC (e2 ixD (eV 3) (eV 0)) (aC (eB mkL aN) (aC (eB mkL (aC (eV 0) aN)) aN)))))) [3, 2] [some (tI ops), some x, some (tI ops), some (.int (n : Int))] = .ok (.list ((List.range n).map t)) := by
    refine eComp2_all (fun p : Nat => PyData.int (p : Int)) t t (List.range n) (by simp -implicitDefEqProofs only [eM1_ap, eRevT_ap, eRevL_ap, sA_ap, i_enumerate_ap, sJ0_ap, eS3_ap, eS_ap, oN_ap, oS_ap, isI_ap, slL_ap, slD_l, slD_t, fin_rt, fin_nx, sN_ap, sX_ap, sQ_ap, sIf_ap, sR_ap, sS_ap, sE_ap, sM_ap, sI_ap, sV_ap, sF_ap, sW_ap, eC_ap, eV0, eVs, e1_ap, e2_ap, eB_ap, eF_ap, eFA_ap, b2_ap, b3_ap, vB_ap, tV_ap, tNt_ap, tAn_ap, tO_ap, vAn_ap, vO_ap, vNt_ap, eIf_ap, aN_ap, aC_ap, iS_ap, iR_ap, gN_ap, tYes_ap, i2_ap, c2_ap, lstD_ap, seqD_l, seqD_t, isB_ap, lenD_ap, listD_ap, tupD_ap, ixD_l, ixD_t, negD_ap, bD_ap, isi_ii, isi_bi, isi_bb, isi_ib, isi_tt, isi_ll, isi_tl, isi_lt, isi_tn, isi_bn, mkL0, mkL1, mkL2, mkL3, mkL4, mkT0, mkT1, mkT2, mkT3, Res.bind_ok, Res.bind_no, Res.bind_ex, Res.lft_some, Res.lft_none, Option.map_some, Option.bind_some, List.set_cons_zero, List.set_cons_succ, List.length_cons, List.length_nil, if_true, if_false, Bool.false_eq_true, ite_true, ite_false, Bool.not_true, Bool.not_false, sx, enum_rm]) (by rw [List.length_range]; bv_omega) fun p hp => ?_
    have hp := List.mem_range.mp hp
    have b := q.at hp
    have e := mt_eq h2 (P.tree p hp) 14 (by bv_omega) (by show 0 + _ ≤ 100; bv_omega) (by show 1 + _ ≤ 100; bv_omega)
    have e' : F_made_tree [t p, .int (n : Int), .int ((ops.getD p 0).toNat : Int), .list [], .list [.int (p : Int)]] = .ok (t p) := e
    show eF F_made_tree _ [some (.int (p : Int)), some (t p), some (.int (n : Int)), some (tI ops)] = _
    simp -implicitDefEqProofs only [eM1_ap, eRevT_ap, eRevL_ap, sA_ap, i_enumerate_ap, sJ0_ap, eS3_ap, eS_ap, oN_ap, oS_ap, isI_ap, slL_ap, slD_l, slD_t, fin_rt, fin_nx, sN_ap, sX_ap, sQ_ap, sIf_ap, sR_ap, sS_ap, sE_ap, sM_ap, sI_ap, sV_ap, sF_ap, sW_ap, eC_ap, eV0, eVs, e1_ap, e2_ap, eB_ap, eF_ap, eFA_ap, b2_ap, b3_ap, vB_ap, tV_ap, tNt_ap, tAn_ap, tO_ap, vAn_ap, vO_ap, vNt_ap, eIf_ap, aN_ap, aC_ap, iS_ap, iR_ap, gN_ap, tYes_ap, i2_ap, c2_ap, lstD_ap, seqD_l, seqD_t, isB_ap, lenD_ap, listD_ap, tupD_ap, ixD_l, ixD_t, negD_ap, bD_ap, isi_ii, isi_bi, isi_bb, isi_ib, isi_tt, isi_ll, isi_tl, isi_lt, isi_tn, isi_bn, mkL0, mkL1, mkL2, mkL3, mkL4, mkT0, mkT1, mkT2, mkT3, Res.bind_ok, Res.bind_no, Res.bind_ex, Res.lft_some, Res.lft_none, Option.map_some, Option.bind_some, List.set_cons_zero, List.set_cons_succ, List.length_cons, List.length_nil, if_true, if_false, Bool.false_eq_true, ite_true, ite_false, Bool.not_true, Bool.not_false, atI_opn q hp, e']
  have ol : (ops.map PyData.int).length = n := by rw [List.length_map, q.len]
  simp -implicitDefEqProofs only [eM1_ap, eRevT_ap, eRevL_ap, sA_ap, i_enumerate_ap, sJ0_ap, eS3_ap, eS_ap, oN_ap, oS_ap, isI_ap, slL_ap, slD_l, slD_t, fin_rt, fin_nx, sN_ap, sX_ap, sQ_ap, sIf_ap, sR_ap, sS_ap, sE_ap, sM_ap, sI_ap, sV_ap, sF_ap, sW_ap, eC_ap, eV0, eVs, e1_ap, e2_ap, eB_ap, eF_ap, eFA_ap, b2_ap, b3_ap, vB_ap, tV_ap, tNt_ap, tAn_ap, tO_ap, vAn_ap, vO_ap, vNt_ap, eIf_ap, aN_ap, aC_ap, iS_ap, iR_ap, gN_ap, tYes_ap, i2_ap, c2_ap, lstD_ap, seqD_l, seqD_t, isB_ap, lenD_ap, listD_ap, tupD_ap, ixD_l, ixD_t, negD_ap, bD_ap, isi_ii, isi_bi, isi_bb, isi_ib, isi_tt, isi_ll, isi_tl, isi_lt, isi_tn, isi_bn, mkL0, mkL1, mkL2, mkL3, mkL4, mkT0, mkT1, mkT2, mkT3, Res.bind_ok, Res.bind_no, Res.bind_ex, Res.lft_some, Res.lft_none, Option.map_some, Option.bind_some, List.set_cons_zero, List.set_cons_succ, List.length_cons, List.length_nil, if_true, if_false, Bool.false_eq_true, ite_true, ite_false, Bool.not_true, Bool.not_false, eq_openings_of_a_plan q h1 h2, ol, lx, neD_int, decide_true, cc]
theorem wB_app (ws : W2) (b i : Nat) : wB (ws ++ [(b, i)]) = wB ws ++ [(b : Int)] := by rw [wB, List.map_append]; rfl
theorem wN_app (p : Nat) (ws : W2) (b i : Nat) : wN p (ws ++ [(b, i)]) = wN p ws ++ [(i : Int)] := by rw [wN, List.map_append]; rfl
theorem trH_ok {n p : Nat} (n0 : 0 < n) : ∀ (l : Nat) (ws : W2) (q : Int), ws.length + l ≤ n → TreeOk n l (wB ws) (wN p ws) (trH n p l ws q).1
  | 0, ws, q, _ => .none
  | l + 1, ws, q, h => by
    by_cases c : q % ((n : Int) + 1) = (n : Int)
    · rw [trH_out c]
      exact .none
    · have q0 := Int.emod_nonneg q (show ((n : Int) + 1) ≠ 0 by bv_omega)
      have q1 := Int.emod_lt_of_pos q (show (0 : Int) < (n : Int) + 1 by bv_omega)
      have hd : (q % ((n : Int) + 1)).toNat < n := by bv_omega
      obtain ⟨f1, f2⟩ := frB_stop n (wB ws) n _ (free_box (n := n) (bs := wB ws) (by rw [List.length_map]; bv_omega) _ hd) hd
      rw [trH_in c rfl, runG_map]
      generalize frB n (wB ws) n (q % ((n : Int) + 1)).toNat = b at f1 f2
      refine .node b _ f2 f1 (fun i hi c => ?_) fun i hi => ?_
      · unfold nxH
        rw [if_pos c]
      · by_cases c : (wN p ws).contains (i : Int) = true
        · have e : ∀ z : Int, (nxH n p l ws b i z).1 = .none := fun z => by unfold nxH; rw [if_pos c]
          rw [e]
          exact .none
        · have e : ∀ z : Int, nxH n p l ws b i z = trH n p l (ws ++ [(b, i)]) z := fun z => by unfold nxH; rw [if_neg c]
          rw [e, ← wB_app, ← wN_app]
          exact trH_ok n0 l _ _ (by rw [List.length_append]; simp; bv_omega)
theorem eq_l_plan {n : Nat} (cell most : Int) (h1 : 1 ≤ n) (h2 : n ≤ 6) (m0 : 0 ≤ most) (m1 : most ≤ (n : Int)) : ∃ (ops : List Int) (t : Nat → D), Opn n ops ∧ PlanOk n ops t ∧ (∀ x ∈ ops, x ≤ most) ∧ F_l_plan [.int cell, .int (n : Int), .int most] = .ok (.tuple [tI ops, .tuple ((List.range n).map t)]) := by
  have e : F_l_plan [.int cell, .int (n : Int), .int most] = .ok (plH n most cell) := plHF_eq h1 h2 m0 m1
  have b := fun i => opH_in (n := n) (most := most) (cell := cell) m0 i
  have g : ∀ i, i < n → (opsH n most cell).getD i 0 = opH n most cell i := fun i hi => by
    unfold opsH
    rw [List.getD, List.getElem?_map, List.getElem?_range hi]
    rfl
  refine ⟨opsH n most cell, fun i => (nxP n most cell i (runG (nxP n most cell) i (pwD ((n : Int) + 1) cell n)).2).1, ⟨by unfold opsH; simp, fun o ho => ?_⟩, ⟨fun p hp => ?_⟩, fun o ho => ?_, ?_⟩
  · unfold opsH at ho
    obtain ⟨i, _, rfl⟩ := List.mem_map.mp ho
    have := b i
    exact ⟨this.1, by bv_omega⟩
  · rw [g p hp]
    exact trH_ok (p := p) (by bv_omega) _ [] _ (by have := b p; show 0 + _ ≤ n; bv_omega)
  · unfold opsH at ho
    obtain ⟨i, _, rfl⟩ := List.mem_map.mp ho
    exact (b i).2
  · rw [e]
    unfold plH trsH
    rw [runG_map]
noncomputable def numT (b : Nat) : Str := toString (b : Int)
noncomputable def rT (r : List Nat) : Str := Str.join " " (r.map numT)
theorem num_ok : ∀ b, b < 61 → ((numT b).length ≤ 2 ∧ Txt.isdigit (numT b) = true ∧ (Txt.startswith (numT b) "0" = false ∨ numT b = "0") ∧ PySem.intText? (numT b) = some (b : Int)) ∧ 41 ∉ tl (numT b) ∧ 32 ∉ tl (numT b) ∧ ((b : Int).natAbs.log2 < 1920) ∧ PyData.strOk (numT b) = true ∧ 45 ∉ tl (numT b) ∧ 40 ∉ tl (numT b) ∧ tl (numT b) ≠ [] ∧ 10 ∉ tl (numT b) := by decide +kernel
theorem join_ok {sep : Str} {ts : List Str} (hs : sep.length ≤ 2) (hl : ts.length ≤ 60) (ht : ∀ t ∈ ts, t.length ≤ 200) : JoinOk sep ts = true ∧ (Str.join sep ts).length ≤ 202 * ts.length := by
  have h1 := Nat.mul_le_mul_right 200 hl
  have h2 := Nat.mul_le_mul_left ts.length hs
  refine ⟨?_, ?_⟩
  · unfold JoinOk
    rw [StrLaws.joinFits ht (by bv_omega)]
    rfl
  · have a := StrLaws.join_length_le sep ts
    have b := StrLaws.sumLen_le ts ht
    bv_omega
theorem joinD_ok {sep : Str} {ts : List Str} (h : JoinOk sep ts = true) : joinD sep (.list (ts.map PyData.str)) = some (.str (Str.join sep ts)) := by
  unfold joinD
  rw [show lstD (.list (ts.map PyData.str)) = some (ts.map PyData.str) from rfl, Option.bind_some, strsOf_map, Option.bind_some, if_pos h]
theorem str_shaped {z : Str} (h : PyData.strOk z = true) : SeqAt.shaped (.str z) = true := by
  unfold SeqAt.shaped
  rw [PyData.canLay0, PyData.depth, h]
  rfl
theorem neD_str {a b : Str} (ha : PyData.strOk a = true) (hb : PyData.strOk b = true) : neD (.str a) (.str b) = some (!decide (a = b)) := by
  unfold neD
  rw [if_pos ⟨str_shaped ha, str_shaped hb⟩, PyData.eqv]
  by_cases e : a = b <;> simp [e]
theorem sOk_iff {z : Str} : PyData.strOk z = true ↔ ∀ c ∈ tl z, c < 1114112 := by
  unfold PyData.strOk tl
  rw [← Array.all_toList, List.all_eq_true]
  exact ⟨fun h c hc => of_decide_eq_true (h c hc), fun h c hc => decide_eq_true (h c hc)⟩
theorem sOk_app {a b : Str} (ha : PyData.strOk a = true) (hb : PyData.strOk b = true) : PyData.strOk (a ++ b) = true := by
  rw [sOk_iff] at ha hb ⊢
  intro c hc
  rw [tl_app] at hc
  rcases List.mem_append.mp hc with h | h
  · exact ha c h
  · exact hb c h
theorem sOk_join {y : Str} (hy : PyData.strOk y = true) : ∀ ts : List Str, (∀ t ∈ ts, PyData.strOk t = true) → PyData.strOk (Str.join y ts) = true
  | [], _ => (by decide +kernel : PyData.strOk Str.empty = true)
  | [t], h => h t List.mem_cons_self
  | t :: u :: r, h => by
    rw [join_cons]
    exact sOk_app (sOk_app (h t List.mem_cons_self) hy) (sOk_join hy (u :: r) fun x hx => h x (List.mem_cons_of_mem _ hx))
theorem line_big : 100000 ≤ sizeLine := by decide
theorem rT_len {r : List Nat} (hr : ∀ x ∈ r, x < 61) (hl : r.length ≤ 60) : (rT r).length ≤ 180 := by
  have a := StrLaws.join_length_le " " (r.map numT)
  have b := StrLaws.sumLen_le (B := 2) (r.map numT) fun y hy => by
    obtain ⟨x, hx, rfl⟩ := List.mem_map.mp hy
    exact (num_ok x (hr x hx)).1.1
  rw [List.length_map] at a b
  have c : (" " : Str).length = 1 := rfl
  unfold rT
  rw [c] at a
  bv_omega
theorem num_comp {r : List Nat} {d : D} (hd : d = tI (rI' r) ∨ d = lI (rI' r)) (hr : ∀ x ∈ r, x < 61) (hl : r.length ≤ 60) : eComp (iS (eV 0)) tYes (eB strOfD (aC (eV 0) aN)) [] [some d] = .ok (.list ((r.map numT).map PyData.str)) := by
  rw [List.map_map]
  refine eComp_all (fun b : Nat => PyData.int (b : Int)) (fun b => PyData.str (numT b)) r (by
    rcases hd with rfl | rfl
    · simp -implicitDefEqProofs only [eM1_ap, eRevT_ap, eRevL_ap, sA_ap, i_enumerate_ap, sJ0_ap, eS3_ap, eS_ap, oN_ap, oS_ap, isI_ap, slL_ap, slD_l, slD_t, fin_rt, fin_nx, sN_ap, sX_ap, sQ_ap, sIf_ap, sR_ap, sS_ap, sE_ap, sM_ap, sI_ap, sV_ap, sF_ap, sW_ap, eC_ap, eV0, eVs, e1_ap, e2_ap, eB_ap, eF_ap, eFA_ap, b2_ap, b3_ap, vB_ap, tV_ap, tNt_ap, tAn_ap, tO_ap, vAn_ap, vO_ap, vNt_ap, eIf_ap, aN_ap, aC_ap, iS_ap, iR_ap, gN_ap, tYes_ap, i2_ap, c2_ap, lstD_ap, seqD_l, seqD_t, isB_ap, lenD_ap, listD_ap, tupD_ap, ixD_l, ixD_t, negD_ap, bD_ap, isi_ii, isi_bi, isi_bb, isi_ib, isi_tt, isi_ll, isi_tl, isi_lt, isi_tn, isi_bn, mkL0, mkL1, mkL2, mkL3, mkL4, mkT0, mkT1, mkT2, mkT3, Res.bind_ok, Res.bind_no, Res.bind_ex, Res.lft_some, Res.lft_none, Option.map_some, Option.bind_some, List.set_cons_zero, List.set_cons_succ, List.length_cons, List.length_nil, if_true, if_false, Bool.false_eq_true, ite_true, ite_false, Bool.not_true, Bool.not_false]
      unfold rI'
      rw [List.map_map]
      rfl
    · simp -implicitDefEqProofs only [eM1_ap, eRevT_ap, eRevL_ap, sA_ap, i_enumerate_ap, sJ0_ap, eS3_ap, eS_ap, oN_ap, oS_ap, isI_ap, slL_ap, slD_l, slD_t, fin_rt, fin_nx, sN_ap, sX_ap, sQ_ap, sIf_ap, sR_ap, sS_ap, sE_ap, sM_ap, sI_ap, sV_ap, sF_ap, sW_ap, eC_ap, eV0, eVs, e1_ap, e2_ap, eB_ap, eF_ap, eFA_ap, b2_ap, b3_ap, vB_ap, tV_ap, tNt_ap, tAn_ap, tO_ap, vAn_ap, vO_ap, vNt_ap, eIf_ap, aN_ap, aC_ap, iS_ap, iR_ap, gN_ap, tYes_ap, i2_ap, c2_ap, lstD_ap, seqD_l, seqD_t, isB_ap, lenD_ap, listD_ap, tupD_ap, ixD_l, ixD_t, negD_ap, bD_ap, isi_ii, isi_bi, isi_bb, isi_ib, isi_tt, isi_ll, isi_tl, isi_lt, isi_tn, isi_bn, mkL0, mkL1, mkL2, mkL3, mkL4, mkT0, mkT1, mkT2, mkT3, Res.bind_ok, Res.bind_no, Res.bind_ex, Res.lft_some, Res.lft_none, Option.map_some, Option.bind_some, List.set_cons_zero, List.set_cons_succ, List.length_cons, List.length_nil, if_true, if_false, Bool.false_eq_true, ite_true, ite_false, Bool.not_true, Bool.not_false]
      unfold rI'
      rw [List.map_map]
      rfl) (by bv_omega) fun b hb => ?_
  have h := num_ok b (hr b hb)
  show eB strOfD (aC (eV 0) aN) [some (.int (b : Int))] = _
  have e : strOfD [.int (b : Int)] = some (.str (numT b)) := if_pos h.2.2.2.1
  simp -implicitDefEqProofs only [eM1_ap, eRevT_ap, eRevL_ap, sA_ap, i_enumerate_ap, sJ0_ap, eS3_ap, eS_ap, oN_ap, oS_ap, isI_ap, slL_ap, slD_l, slD_t, fin_rt, fin_nx, sN_ap, sX_ap, sQ_ap, sIf_ap, sR_ap, sS_ap, sE_ap, sM_ap, sI_ap, sV_ap, sF_ap, sW_ap, eC_ap, eV0, eVs, e1_ap, e2_ap, eB_ap, eF_ap, eFA_ap, b2_ap, b3_ap, vB_ap, tV_ap, tNt_ap, tAn_ap, tO_ap, vAn_ap, vO_ap, vNt_ap, eIf_ap, aN_ap, aC_ap, iS_ap, iR_ap, gN_ap, tYes_ap, i2_ap, c2_ap, lstD_ap, seqD_l, seqD_t, isB_ap, lenD_ap, listD_ap, tupD_ap, ixD_l, ixD_t, negD_ap, bD_ap, isi_ii, isi_bi, isi_bb, isi_ib, isi_tt, isi_ll, isi_tl, isi_lt, isi_tn, isi_bn, mkL0, mkL1, mkL2, mkL3, mkL4, mkT0, mkT1, mkT2, mkT3, Res.bind_ok, Res.bind_no, Res.bind_ex, Res.lft_some, Res.lft_none, Option.map_some, Option.bind_some, List.set_cons_zero, List.set_cons_succ, List.length_cons, List.length_nil, if_true, if_false, Bool.false_eq_true, ite_true, ite_false, Bool.not_true, Bool.not_false, e]
theorem num_join {r : List Nat} (hr : ∀ x ∈ r, x < 61) (hl : r.length ≤ 60) : joinD " " (.list ((r.map numT).map PyData.str)) = some (.str (rT r)) := by
  refine joinD_ok (join_ok (by decide) (by rw [List.length_map]; exact hl) fun t ht => ?_).1
  obtain ⟨x, hx, rfl⟩ := List.mem_map.mp ht
  have := (num_ok x (hr x hx)).1.1
  bv_omega
theorem eq_numbers_text {r : List Nat} {d : D} (hd : d = tI (rI' r) ∨ d = lI (rI' r)) (hr : ∀ x ∈ r, x < 61) (hl : r.length ≤ 60) : F_numbers_text [d] = .ok (.str (rT r)) := by
  show (B_numbers_text [some d]).bind (fin false) = _
  unfold B_numbers_text
  simp -implicitDefEqProofs only [eM1_ap, eRevT_ap, eRevL_ap, sA_ap, i_enumerate_ap, sJ0_ap, eS3_ap, eS_ap, oN_ap, oS_ap, isI_ap, slL_ap, slD_l, slD_t, fin_rt, fin_nx, sN_ap, sX_ap, sQ_ap, sIf_ap, sR_ap, sS_ap, sE_ap, sM_ap, sI_ap, sV_ap, sF_ap, sW_ap, eC_ap, eV0, eVs, e1_ap, e2_ap, eB_ap, eF_ap, eFA_ap, b2_ap, b3_ap, vB_ap, tV_ap, tNt_ap, tAn_ap, tO_ap, vAn_ap, vO_ap, vNt_ap, eIf_ap, aN_ap, aC_ap, iS_ap, iR_ap, gN_ap, tYes_ap, i2_ap, c2_ap, lstD_ap, seqD_l, seqD_t, isB_ap, lenD_ap, listD_ap, tupD_ap, ixD_l, ixD_t, negD_ap, bD_ap, isi_ii, isi_bi, isi_bb, isi_ib, isi_tt, isi_ll, isi_tl, isi_lt, isi_tn, isi_bn, mkL0, mkL1, mkL2, mkL3, mkL4, mkT0, mkT1, mkT2, mkT3, Res.bind_ok, Res.bind_no, Res.bind_ex, Res.lft_some, Res.lft_none, Option.map_some, Option.bind_some, List.set_cons_zero, List.set_cons_succ, List.length_cons, List.length_nil, if_true, if_false, Bool.false_eq_true, ite_true, ite_false, Bool.not_true, Bool.not_false, eM1S_ap, strD_s, num_comp hd hr hl, num_join hr hl]
theorem eq_read_number {b : Nat} (h : b < 61) (w : Int) : F_read_number [.str (numT b), .int w] = .ok (.int (b : Int)) := by
  obtain ⟨⟨n1, n2, n3, n4⟩, _, _, _, n5, _⟩ := num_ok b h
  have lb := line_big
  have e1 : lenTD [.str (numT b)] = some (.int ((numT b).length : Int)) := if_pos (by bv_omega)
  have e2' : intTD [.str (numT b)] = some (.int (b : Int)) := by
    show (if (numT b).length ≤ 640 then (PySem.intText? (numT b)).map PyData.int else none) = _
    rw [if_pos (by bv_omega), n4]
    rfl
  have e3 : stwD (numT b) (.str "0") = some (.bool (Txt.startswith (numT b) "0")) := rfl
  show (B_read_number [some (.str (numT b)), some (.int w)]).bind (fin false) = _
  unfold B_read_number
  rcases n3 with n3 | n3
  · simp -implicitDefEqProofs only [eM1_ap, eRevT_ap, eRevL_ap, sA_ap, i_enumerate_ap, sJ0_ap, eS3_ap, eS_ap, oN_ap, oS_ap, isI_ap, slL_ap, slD_l, slD_t, fin_rt, fin_nx, sN_ap, sX_ap, sQ_ap, sIf_ap, sR_ap, sS_ap, sE_ap, sM_ap, sI_ap, sV_ap, sF_ap, sW_ap, eC_ap, eV0, eVs, e1_ap, e2_ap, eB_ap, eF_ap, eFA_ap, b2_ap, b3_ap, vB_ap, tV_ap, tNt_ap, tAn_ap, tO_ap, vAn_ap, vO_ap, vNt_ap, eIf_ap, aN_ap, aC_ap, iS_ap, iR_ap, gN_ap, tYes_ap, i2_ap, c2_ap, lstD_ap, seqD_l, seqD_t, isB_ap, lenD_ap, listD_ap, tupD_ap, ixD_l, ixD_t, negD_ap, bD_ap, isi_ii, isi_bi, isi_bb, isi_ib, isi_tt, isi_ll, isi_tl, isi_lt, isi_tn, isi_bn, mkL0, mkL1, mkL2, mkL3, mkL4, mkT0, mkT1, mkT2, mkT3, Res.bind_ok, Res.bind_no, Res.bind_ex, Res.lft_some, Res.lft_none, Option.map_some, Option.bind_some, List.set_cons_zero, List.set_cons_succ, List.length_cons, List.length_nil, if_true, if_false, Bool.false_eq_true, ite_true, ite_false, Bool.not_true, Bool.not_false, eM0S_ap, eM1S_ap, strD_s, n2, e1, decide_eq_false (show ¬ (90 : Int) < ((numT b).length : Int) by bv_omega), e3, n3, e2']
  · have nn : neD (.str (numT b)) (.str "0") = some false := by
      rw [← n3, neD_str n5 n5, decide_eq_true rfl]
      rfl
    generalize Txt.startswith (numT b) "0" = v at e3
    cases v
    · simp -implicitDefEqProofs only [eM1_ap, eRevT_ap, eRevL_ap, sA_ap, i_enumerate_ap, sJ0_ap, eS3_ap, eS_ap, oN_ap, oS_ap, isI_ap, slL_ap, slD_l, slD_t, fin_rt, fin_nx, sN_ap, sX_ap, sQ_ap, sIf_ap, sR_ap, sS_ap, sE_ap, sM_ap, sI_ap, sV_ap, sF_ap, sW_ap, eC_ap, eV0, eVs, e1_ap, e2_ap, eB_ap, eF_ap, eFA_ap, b2_ap, b3_ap, vB_ap, tV_ap, tNt_ap, tAn_ap, tO_ap, vAn_ap, vO_ap, vNt_ap, eIf_ap, aN_ap, aC_ap, iS_ap, iR_ap, gN_ap, tYes_ap, i2_ap, c2_ap, lstD_ap, seqD_l, seqD_t, isB_ap, lenD_ap, listD_ap, tupD_ap, ixD_l, ixD_t, negD_ap, bD_ap, isi_ii, isi_bi, isi_bb, isi_ib, isi_tt, isi_ll, isi_tl, isi_lt, isi_tn, isi_bn, mkL0, mkL1, mkL2, mkL3, mkL4, mkT0, mkT1, mkT2, mkT3, Res.bind_ok, Res.bind_no, Res.bind_ex, Res.lft_some, Res.lft_none, Option.map_some, Option.bind_some, List.set_cons_zero, List.set_cons_succ, List.length_cons, List.length_nil, if_true, if_false, Bool.false_eq_true, ite_true, ite_false, Bool.not_true, Bool.not_false, eM0S_ap, eM1S_ap, strD_s, n2, e1, decide_eq_false (show ¬ (90 : Int) < ((numT b).length : Int) by bv_omega), e3, e2']
    · simp -implicitDefEqProofs only [eM1_ap, eRevT_ap, eRevL_ap, sA_ap, i_enumerate_ap, sJ0_ap, eS3_ap, eS_ap, oN_ap, oS_ap, isI_ap, slL_ap, slD_l, slD_t, fin_rt, fin_nx, sN_ap, sX_ap, sQ_ap, sIf_ap, sR_ap, sS_ap, sE_ap, sM_ap, sI_ap, sV_ap, sF_ap, sW_ap, eC_ap, eV0, eVs, e1_ap, e2_ap, eB_ap, eF_ap, eFA_ap, b2_ap, b3_ap, vB_ap, tV_ap, tNt_ap, tAn_ap, tO_ap, vAn_ap, vO_ap, vNt_ap, eIf_ap, aN_ap, aC_ap, iS_ap, iR_ap, gN_ap, tYes_ap, i2_ap, c2_ap, lstD_ap, seqD_l, seqD_t, isB_ap, lenD_ap, listD_ap, tupD_ap, ixD_l, ixD_t, negD_ap, bD_ap, isi_ii, isi_bi, isi_bb, isi_ib, isi_tt, isi_ll, isi_tl, isi_lt, isi_tn, isi_bn, mkL0, mkL1, mkL2, mkL3, mkL4, mkT0, mkT1, mkT2, mkT3, Res.bind_ok, Res.bind_no, Res.bind_ex, Res.lft_some, Res.lft_none, Option.map_some, Option.bind_some, List.set_cons_zero, List.set_cons_succ, List.length_cons, List.length_nil, if_true, if_false, Bool.false_eq_true, ite_true, ite_false, Bool.not_true, Bool.not_false, eM0S_ap, eM1S_ap, strD_s, n2, e1, decide_eq_false (show ¬ (90 : Int) < ((numT b).length : Int) by bv_omega), e3, nn, e2']
theorem eq_read_numbers {r : List Nat} (hr : ∀ x ∈ r, x < 61) (hl : r.length ≤ 60) : F_read_numbers [.list ((r.map numT).map PyData.str), .int 1] = .ok (tI (rI' r)) := by
  have cc : eComp (iS (eV 0)) tYes (eF F_read_number (aC (eV 0) (aC (eV 1) aN))) [1] [some (.list ((r.map numT).map PyData.str)), some (.int 1)] = .ok (.list (r.map fun b : Nat => PyData.int (b : Int))) := by
    refine eComp_all (fun b : Nat => PyData.str (numT b)) (fun b => PyData.int (b : Int)) r (by
      simp -implicitDefEqProofs only [eM1_ap, eRevT_ap, eRevL_ap, sA_ap, i_enumerate_ap, sJ0_ap, eS3_ap, eS_ap, oN_ap, oS_ap, isI_ap, slL_ap, slD_l, slD_t, fin_rt, fin_nx, sN_ap, sX_ap, sQ_ap, sIf_ap, sR_ap, sS_ap, sE_ap, sM_ap, sI_ap, sV_ap, sF_ap, sW_ap, eC_ap, eV0, eVs, e1_ap, e2_ap, eB_ap, eF_ap, eFA_ap, b2_ap, b3_ap, vB_ap, tV_ap, tNt_ap, tAn_ap, tO_ap, vAn_ap, vO_ap, vNt_ap, eIf_ap, aN_ap, aC_ap, iS_ap, iR_ap, gN_ap, tYes_ap, i2_ap, c2_ap, lstD_ap, seqD_l, seqD_t, isB_ap, lenD_ap, listD_ap, tupD_ap, ixD_l, ixD_t, negD_ap, bD_ap, isi_ii, isi_bi, isi_bb, isi_ib, isi_tt, isi_ll, isi_tl, isi_lt, isi_tn, isi_bn, mkL0, mkL1, mkL2, mkL3, mkL4, mkT0, mkT1, mkT2, mkT3, Res.bind_ok, Res.bind_no, Res.bind_ex, Res.lft_some, Res.lft_none, Option.map_some, Option.bind_some, List.set_cons_zero, List.set_cons_succ, List.length_cons, List.length_nil, if_true, if_false, Bool.false_eq_true, ite_true, ite_false, Bool.not_true, Bool.not_false]
      rw [List.map_map]
      rfl) (by bv_omega) fun b hb => ?_
    show eF F_read_number (aC (eV 0) (aC (eV 1) aN)) [some (.str (numT b)), some (.int 1)] = _
    simp -implicitDefEqProofs only [eM1_ap, eRevT_ap, eRevL_ap, sA_ap, i_enumerate_ap, sJ0_ap, eS3_ap, eS_ap, oN_ap, oS_ap, isI_ap, slL_ap, slD_l, slD_t, fin_rt, fin_nx, sN_ap, sX_ap, sQ_ap, sIf_ap, sR_ap, sS_ap, sE_ap, sM_ap, sI_ap, sV_ap, sF_ap, sW_ap, eC_ap, eV0, eVs, e1_ap, e2_ap, eB_ap, eF_ap, eFA_ap, b2_ap, b3_ap, vB_ap, tV_ap, tNt_ap, tAn_ap, tO_ap, vAn_ap, vO_ap, vNt_ap, eIf_ap, aN_ap, aC_ap, iS_ap, iR_ap, gN_ap, tYes_ap, i2_ap, c2_ap, lstD_ap, seqD_l, seqD_t, isB_ap, lenD_ap, listD_ap, tupD_ap, ixD_l, ixD_t, negD_ap, bD_ap, isi_ii, isi_bi, isi_bb, isi_ib, isi_tt, isi_ll, isi_tl, isi_lt, isi_tn, isi_bn, mkL0, mkL1, mkL2, mkL3, mkL4, mkT0, mkT1, mkT2, mkT3, Res.bind_ok, Res.bind_no, Res.bind_ex, Res.lft_some, Res.lft_none, Option.map_some, Option.bind_some, List.set_cons_zero, List.set_cons_succ, List.length_cons, List.length_nil, if_true, if_false, Bool.false_eq_true, ite_true, ite_false, Bool.not_true, Bool.not_false, eq_read_number (hr b hb) 1]
  have e : (PyData.tuple (r.map fun b : Nat => PyData.int (b : Int))) = tI (rI' r) := by
    unfold tI rI'
    rw [List.map_map]
    rfl
  show (B_read_numbers [some (.list ((r.map numT).map PyData.str)), some (.int 1)]).bind (fin false) = _
  unfold B_read_numbers
  simp -implicitDefEqProofs only [eM1_ap, eRevT_ap, eRevL_ap, sA_ap, i_enumerate_ap, sJ0_ap, eS3_ap, eS_ap, oN_ap, oS_ap, isI_ap, slL_ap, slD_l, slD_t, fin_rt, fin_nx, sN_ap, sX_ap, sQ_ap, sIf_ap, sR_ap, sS_ap, sE_ap, sM_ap, sI_ap, sV_ap, sF_ap, sW_ap, eC_ap, eV0, eVs, e1_ap, e2_ap, eB_ap, eF_ap, eFA_ap, b2_ap, b3_ap, vB_ap, tV_ap, tNt_ap, tAn_ap, tO_ap, vAn_ap, vO_ap, vNt_ap, eIf_ap, aN_ap, aC_ap, iS_ap, iR_ap, gN_ap, tYes_ap, i2_ap, c2_ap, lstD_ap, seqD_l, seqD_t, isB_ap, lenD_ap, listD_ap, tupD_ap, ixD_l, ixD_t, negD_ap, bD_ap, isi_ii, isi_bi, isi_bb, isi_ib, isi_tt, isi_ll, isi_tl, isi_lt, isi_tn, isi_bn, mkL0, mkL1, mkL2, mkL3, mkL4, mkT0, mkT1, mkT2, mkT3, Res.bind_ok, Res.bind_no, Res.bind_ex, Res.lft_some, Res.lft_none, Option.map_some, Option.bind_some, List.set_cons_zero, List.set_cons_succ, List.length_cons, List.length_nil, if_true, if_false, Bool.false_eq_true, ite_true, ite_false, Bool.not_true, Bool.not_false, cc, e]
noncomputable def ttx : Nat → D → Str
  | k + 1, .tuple [.int b, .tuple ts] => toString b ++ "(" ++ Str.join " " (ts.map (ttx k)) ++ ")"
  | _, _ => "-"
theorem ttx_none (l : Nat) : ttx l .none = "-" := by cases l <;> rfl
theorem ttx_node (l b : Nat) (ts : List D) : ttx (l + 1) (.tuple [.int (b : Int), .tuple ts]) = numT b ++ "(" ++ Str.join " " (ts.map (ttx l)) ++ ")" := rfl
theorem ttx_len {n : Nat} (hn : n ≤ 6) {l : Nat} {bs ns : List Int} {d : D} (T : TreeOk n l bs ns d) : l ≤ 6 → 5 * (ttx l d).length + 11 ≤ 16 * 6 ^ l ∧ PyData.strOk (ttx l d) = true ∧ 10 ∉ tl (ttx l d) := by
  induction T with
  | none =>
    intro _
    rw [ttx_none]
    refine ⟨?_, by decide +kernel, by decide⟩
    have : 0 < 6 ^ (‹Nat› : Nat) := Nat.pow_pos (by decide)
    have e : ("-" : Str).length = 1 := rfl
    rw [e]
    bv_omega
  | @node l bs ns b f hb _ _ _ ih =>
    intro hl
    have nb := num_ok b (by bv_omega)
    rw [ttx_node]
    have c1 : ("(" : Str).length = 1 := rfl
    have c2 : (")" : Str).length = 1 := rfl
    have six : (6 : Nat) ^ (l + 1) = 6 * 6 ^ l := Nat.pow_succ'
    have small : 6 ^ l ≤ 6 ^ 6 := Nat.pow_le_pow_right (by decide) (by bv_omega)
    have e6 : (6 : Nat) ^ 6 = 46656 := by decide
    have each : ∀ t ∈ ((List.range n).map f).map (ttx l), (5 * t.length + 11 ≤ 16 * 6 ^ l) ∧ PyData.strOk t = true ∧ 10 ∉ tl t := fun t ht => by
      rw [List.map_map] at ht
      obtain ⟨i, hi, rfl⟩ := List.mem_map.mp ht
      exact ih i (List.mem_range.mp hi) (by bv_omega)
    obtain ⟨B, hB⟩ : ∃ B, B = (16 * 6 ^ l - 11) / 5 := ⟨_, rfl⟩
    have j := join_le (sep := " ") (ts := ((List.range n).map f).map (ttx l)) (B := B) (n := 6) rfl (by simp; exact hn) (fun t ht => by have := (each t ht).1; bv_omega) (by bv_omega)
    refine ⟨?_, ?_, ?_⟩
    · rw [Str.length_append, Str.length_append, Str.length_append, c1, c2, six]
      have := nb.1.1
      have := j.2
      have : 0 < 6 ^ l := Nat.pow_pos (by decide)
      bv_omega
    · exact sOk_app (sOk_app (sOk_app nb.2.2.2.2.1 (by decide +kernel)) (sOk_join (by decide +kernel) _ fun t ht => (each t ht).2.1)) (by decide +kernel)
    · have jn : ∀ ts : List Str, (∀ t ∈ ts, 10 ∉ tl t) → 10 ∉ tl (Str.join " " ts) := fun ts => by
        induction ts with
        | nil => exact fun _ z => by cases z
        | cons a r ih2 =>
          intro h
          cases r with
          | nil => exact h a List.mem_cons_self
          | cons b r =>
            rw [join_cons, tl_app, tl_app]
            intro z
            rcases List.mem_append.mp z with z | z
            · rcases List.mem_append.mp z with z | z
              · exact h a List.mem_cons_self z
              · exact absurd z (by decide)
            · exact ih2 (fun x hx => h x (List.mem_cons_of_mem _ hx)) z
      intro z
      rw [tl_app, tl_app, tl_app] at z
      rcases List.mem_append.mp z with z | z
      · rcases List.mem_append.mp z with z | z
        · rcases List.mem_append.mp z with z | z
          · exact nb.2.2.2.2.2.2.2.2 z
          · exact absurd z (by decide)
        · exact jn _ (fun t ht => (each t ht).2.2) z
      · exact absurd z (by decide)
theorem ttx_small {n : Nat} (hn : n ≤ 6) {l : Nat} {bs ns : List Int} {d : D} (T : TreeOk n l bs ns d) (hl : l ≤ 6) : (ttx l d).length ≤ 150000 := by
  have h := (ttx_len hn T hl).1
  have small : 6 ^ l ≤ 6 ^ 6 := Nat.pow_le_pow_right (by decide) hl
  have e6 : (6 : Nat) ^ 6 = 46656 := by decide
  bv_omega
theorem kids_ok {n : Nat} (hn : n ≤ 6) {l : Nat} {bs : List Int} {ns : Nat → List Int} {f : Nat → D} (T : ∀ i, i < n → TreeOk n l bs (ns i) (f i)) (hl : l ≤ 5) : JoinOk " " (((List.range n).map f).map (ttx l)) = true ∧ (Str.join " " (((List.range n).map f).map (ttx l))).length ≤ 150000 := by
  have small : 6 ^ l ≤ 6 ^ 5 := Nat.pow_le_pow_right (by decide) hl
  have e6 : (6 : Nat) ^ 5 = 7776 := by decide
  have j := join_le (sep := " ") (ts := ((List.range n).map f).map (ttx l)) (B := 24900) (n := 6) rfl (by simp; exact hn) (fun t ht => by
    rw [List.map_map] at ht
    obtain ⟨i, hi, rfl⟩ := List.mem_map.mp ht
    have := (ttx_len hn (T i (List.mem_range.mp hi)) (by bv_omega)).1
    show (ttx l (f i)).length ≤ 24900
    bv_omega) (by decide)
  exact ⟨j.1, by have := j.2; bv_omega⟩
theorem big_line : 1000000 ≤ sizeLine := by decide
theorem tt_eq {n : Nat} (hn : n ≤ 6) {l : Nat} {bs ns : List Int} {d : D} (T : TreeOk n l bs ns d) : ∀ k, l < k → l ≤ 6 → R_tree_text k [d] = .ok (.str (ttx l d)) ∧ R_l_tree_text k [d] = .ok (.str (ttx l d)) := by
  induction T with
  | @none l bs ns =>
    intro k hk _
    obtain ⟨k, rfl⟩ : ∃ j, k = j + 1 := ⟨k - 1, by bv_omega⟩
    have i0 : isND false .none .none = some true := rfl
    rw [ttx_none]
    constructor
    · show (B_tree_text (R_tree_text k) [some .none, none, none]).bind (fin false) = _
      unfold B_tree_text
      simp -implicitDefEqProofs only [eM1_ap, eRevT_ap, eRevL_ap, sA_ap, i_enumerate_ap, sJ0_ap, eS3_ap, eS_ap, oN_ap, oS_ap, isI_ap, slL_ap, slD_l, slD_t, fin_rt, fin_nx, sN_ap, sX_ap, sQ_ap, sIf_ap, sR_ap, sS_ap, sE_ap, sM_ap, sI_ap, sV_ap, sF_ap, sW_ap, eC_ap, eV0, eVs, e1_ap, e2_ap, eB_ap, eF_ap, eFA_ap, b2_ap, b3_ap, vB_ap, tV_ap, tNt_ap, tAn_ap, tO_ap, vAn_ap, vO_ap, vNt_ap, eIf_ap, aN_ap, aC_ap, iS_ap, iR_ap, gN_ap, tYes_ap, i2_ap, c2_ap, lstD_ap, seqD_l, seqD_t, isB_ap, lenD_ap, listD_ap, tupD_ap, ixD_l, ixD_t, negD_ap, bD_ap, isi_ii, isi_bi, isi_bb, isi_ib, isi_tt, isi_ll, isi_tl, isi_lt, isi_tn, isi_bn, mkL0, mkL1, mkL2, mkL3, mkL4, mkT0, mkT1, mkT2, mkT3, Res.bind_ok, Res.bind_no, Res.bind_ex, Res.lft_some, Res.lft_none, Option.map_some, Option.bind_some, List.set_cons_zero, List.set_cons_succ, List.length_cons, List.length_nil, if_true, if_false, Bool.false_eq_true, ite_true, ite_false, Bool.not_true, Bool.not_false, i0]
    · show (B_l_tree_text (R_l_tree_text k) [some .none]).bind (fin false) = _
      unfold B_l_tree_text
      simp -implicitDefEqProofs only [eM1_ap, eRevT_ap, eRevL_ap, sA_ap, i_enumerate_ap, sJ0_ap, eS3_ap, eS_ap, oN_ap, oS_ap, isI_ap, slL_ap, slD_l, slD_t, fin_rt, fin_nx, sN_ap, sX_ap, sQ_ap, sIf_ap, sR_ap, sS_ap, sE_ap, sM_ap, sI_ap, sV_ap, sF_ap, sW_ap, eC_ap, eV0, eVs, e1_ap, e2_ap, eB_ap, eF_ap, eFA_ap, b2_ap, b3_ap, vB_ap, tV_ap, tNt_ap, tAn_ap, tO_ap, vAn_ap, vO_ap, vNt_ap, eIf_ap, aN_ap, aC_ap, iS_ap, iR_ap, gN_ap, tYes_ap, i2_ap, c2_ap, lstD_ap, seqD_l, seqD_t, isB_ap, lenD_ap, listD_ap, tupD_ap, ixD_l, ixD_t, negD_ap, bD_ap, isi_ii, isi_bi, isi_bb, isi_ib, isi_tt, isi_ll, isi_tl, isi_lt, isi_tn, isi_bn, mkL0, mkL1, mkL2, mkL3, mkL4, mkT0, mkT1, mkT2, mkT3, Res.bind_ok, Res.bind_no, Res.bind_ex, Res.lft_some, Res.lft_none, Option.map_some, Option.bind_some, List.set_cons_zero, List.set_cons_succ, List.length_cons, List.length_nil, if_true, if_false, Bool.false_eq_true, ite_true, ite_false, Bool.not_true, Bool.not_false, i0]
  | @node l bs ns b f hb nb hf Tk ih =>
    intro k hk hl
    obtain ⟨k, rfl⟩ : ∃ j, k = j + 1 := ⟨k - 1, by bv_omega⟩
    have i0 : isND false (.tuple [.int (b : Int), .tuple ((List.range n).map f)]) .none = some false := rfl
    have a0 : atI [PyData.int (b : Int), .tuple ((List.range n).map f)] 0 = some (.int (b : Int)) := rfl
    have a1 : atI [PyData.int (b : Int), .tuple ((List.range n).map f)] 1 = some (.tuple ((List.range n).map f)) := rfl
    obtain ⟨j1, j2⟩ := kids_ok hn Tk (by bv_omega)
    have jd := joinD_ok j1
    have nk := num_ok b (by bv_omega)
    have so : strOfD [.int (b : Int)] = some (.str (numT b)) := if_pos nk.2.2.2.1
    have bl := big_line
    have c1 : ("(" : Str).length = 1 := rfl
    have c2 : (")" : Str).length = 1 := rfl
    have n2 := nk.1.1
    rw [ttx_node]
    constructor
    · have cc : eComp (iS (e2 ixD (eV 0) (eC (.int 1)))) tYes (eF (R_tree_text k) (aC (eV 0) aN)) [] [some (.tuple [.int (b : Int), .tuple ((List.range n).map f)]), some (.int (b : Int)), none] = .ok (.list ((((List.range n).map f).map (ttx l)).map PyData.str)) := by
        rw [List.map_map, List.map_map]
        refine eComp_all f (fun i => PyData.str (ttx l (f i))) (List.range n) (by simp -implicitDefEqProofs only [eM1_ap, eRevT_ap, eRevL_ap, sA_ap, i_enumerate_ap, sJ0_ap, eS3_ap, eS_ap, oN_ap, oS_ap, isI_ap, slL_ap, slD_l, slD_t, fin_rt, fin_nx, sN_ap, sX_ap, sQ_ap, sIf_ap, sR_ap, sS_ap, sE_ap, sM_ap, sI_ap, sV_ap, sF_ap, sW_ap, eC_ap, eV0, eVs, e1_ap, e2_ap, eB_ap, eF_ap, eFA_ap, b2_ap, b3_ap, vB_ap, tV_ap, tNt_ap, tAn_ap, tO_ap, vAn_ap, vO_ap, vNt_ap, eIf_ap, aN_ap, aC_ap, iS_ap, iR_ap, gN_ap, tYes_ap, i2_ap, c2_ap, lstD_ap, seqD_l, seqD_t, isB_ap, lenD_ap, listD_ap, tupD_ap, ixD_l, ixD_t, negD_ap, bD_ap, isi_ii, isi_bi, isi_bb, isi_ib, isi_tt, isi_ll, isi_tl, isi_lt, isi_tn, isi_bn, mkL0, mkL1, mkL2, mkL3, mkL4, mkT0, mkT1, mkT2, mkT3, Res.bind_ok, Res.bind_no, Res.bind_ex, Res.lft_some, Res.lft_none, Option.map_some, Option.bind_some, List.set_cons_zero, List.set_cons_succ, List.length_cons, List.length_nil, if_true, if_false, Bool.false_eq_true, ite_true, ite_false, Bool.not_true, Bool.not_false, a1]) (by rw [List.length_range]; bv_omega) fun i hi => ?_
        have e := (ih i (List.mem_range.mp hi) k (by bv_omega) (by bv_omega)).1
        show eF (R_tree_text k) (aC (eV 0) aN) [some (f i)] = _
        simp -implicitDefEqProofs only [eM1_ap, eRevT_ap, eRevL_ap, sA_ap, i_enumerate_ap, sJ0_ap, eS3_ap, eS_ap, oN_ap, oS_ap, isI_ap, slL_ap, slD_l, slD_t, fin_rt, fin_nx, sN_ap, sX_ap, sQ_ap, sIf_ap, sR_ap, sS_ap, sE_ap, sM_ap, sI_ap, sV_ap, sF_ap, sW_ap, eC_ap, eV0, eVs, e1_ap, e2_ap, eB_ap, eF_ap, eFA_ap, b2_ap, b3_ap, vB_ap, tV_ap, tNt_ap, tAn_ap, tO_ap, vAn_ap, vO_ap, vNt_ap, eIf_ap, aN_ap, aC_ap, iS_ap, iR_ap, gN_ap, tYes_ap, i2_ap, c2_ap, lstD_ap, seqD_l, seqD_t, isB_ap, lenD_ap, listD_ap, tupD_ap, ixD_l, ixD_t, negD_ap, bD_ap, isi_ii, isi_bi, isi_bb, isi_ib, isi_tt, isi_ll, isi_tl, isi_lt, isi_tn, isi_bn, mkL0, mkL1, mkL2, mkL3, mkL4, mkT0, mkT1, mkT2, mkT3, Res.bind_ok, Res.bind_no, Res.bind_ex, Res.lft_some, Res.lft_none, Option.map_some, Option.bind_some, List.set_cons_zero, List.set_cons_succ, List.length_cons, List.length_nil, if_true, if_false, Bool.false_eq_true, ite_true, ite_false, Bool.not_true, Bool.not_false, e]
      have f1 : fI (.int (b : Int)) = some (numT b) := if_pos ⟨nk.2.2.2.1, by show (numT b).length ≤ 1000000; bv_omega⟩
      have f2 : fS (.str (Str.join " " (((List.range n).map f).map (ttx l)))) = some (Str.join " " (((List.range n).map f).map (ttx l))) := by
        unfold fS
        rw [strD_s, Option.bind_some, if_pos (by bv_omega)]
      have jj : eJ (jS fI (eV 1) (jC "(" (jS fS (eV 2) (jC ")" jN)))) [some (.tuple [.int (b : Int), .tuple ((List.range n).map f)]), some (.int (b : Int)), some (.str (Str.join " " (((List.range n).map f).map (ttx l))))] = .ok (.str (numT b ++ "(" ++ Str.join " " (((List.range n).map f).map (ttx l)) ++ ")")) := by
        unfold eJ jS jC jN
        simp -implicitDefEqProofs only [eM1_ap, eRevT_ap, eRevL_ap, sA_ap, i_enumerate_ap, sJ0_ap, eS3_ap, eS_ap, oN_ap, oS_ap, isI_ap, slL_ap, slD_l, slD_t, fin_rt, fin_nx, sN_ap, sX_ap, sQ_ap, sIf_ap, sR_ap, sS_ap, sE_ap, sM_ap, sI_ap, sV_ap, sF_ap, sW_ap, eC_ap, eV0, eVs, e1_ap, e2_ap, eB_ap, eF_ap, eFA_ap, b2_ap, b3_ap, vB_ap, tV_ap, tNt_ap, tAn_ap, tO_ap, vAn_ap, vO_ap, vNt_ap, eIf_ap, aN_ap, aC_ap, iS_ap, iR_ap, gN_ap, tYes_ap, i2_ap, c2_ap, lstD_ap, seqD_l, seqD_t, isB_ap, lenD_ap, listD_ap, tupD_ap, ixD_l, ixD_t, negD_ap, bD_ap, isi_ii, isi_bi, isi_bb, isi_ib, isi_tt, isi_ll, isi_tl, isi_lt, isi_tn, isi_bn, mkL0, mkL1, mkL2, mkL3, mkL4, mkT0, mkT1, mkT2, mkT3, Res.bind_ok, Res.bind_no, Res.bind_ex, Res.lft_some, Res.lft_none, Option.map_some, Option.bind_some, List.set_cons_zero, List.set_cons_succ, List.length_cons, List.length_nil, if_true, if_false, Bool.false_eq_true, ite_true, ite_false, Bool.not_true, Bool.not_false, f1, f2]
        show Res.ok (PyData.str (Str.empty ++ numT b ++ "(" ++ Str.join " " (((List.range n).map f).map (ttx l)) ++ ")")) = _
        rw [Str.empty_append]
      show (B_tree_text (R_tree_text k) [some (.tuple [.int (b : Int), .tuple ((List.range n).map f)]), none, none]).bind (fin false) = _
      unfold B_tree_text
      simp -implicitDefEqProofs only [eM1_ap, eRevT_ap, eRevL_ap, sA_ap, i_enumerate_ap, sJ0_ap, eS3_ap, eS_ap, oN_ap, oS_ap, isI_ap, slL_ap, slD_l, slD_t, fin_rt, fin_nx, sN_ap, sX_ap, sQ_ap, sIf_ap, sR_ap, sS_ap, sE_ap, sM_ap, sI_ap, sV_ap, sF_ap, sW_ap, eC_ap, eV0, eVs, e1_ap, e2_ap, eB_ap, eF_ap, eFA_ap, b2_ap, b3_ap, vB_ap, tV_ap, tNt_ap, tAn_ap, tO_ap, vAn_ap, vO_ap, vNt_ap, eIf_ap, aN_ap, aC_ap, iS_ap, iR_ap, gN_ap, tYes_ap, i2_ap, c2_ap, lstD_ap, seqD_l, seqD_t, isB_ap, lenD_ap, listD_ap, tupD_ap, ixD_l, ixD_t, negD_ap, bD_ap, isi_ii, isi_bi, isi_bb, isi_ib, isi_tt, isi_ll, isi_tl, isi_lt, isi_tn, isi_bn, mkL0, mkL1, mkL2, mkL3, mkL4, mkT0, mkT1, mkT2, mkT3, Res.bind_ok, Res.bind_no, Res.bind_ex, Res.lft_some, Res.lft_none, Option.map_some, Option.bind_some, List.set_cons_zero, List.set_cons_succ, List.length_cons, List.length_nil, if_true, if_false, Bool.false_eq_true, ite_true, ite_false, Bool.not_true, Bool.not_false, i0, a0, eM1S_ap, strD_s, cc, jd, jj]
    · have cc : eComp (iS (e2 ixD (eV 0) (eC (.int 1)))) tYes (eF (R_l_tree_text k) (aC (eV 0) aN)) [] [some (.tuple [.int (b : Int), .tuple ((List.range n).map f)])] = .ok (.list ((((List.range n).map f).map (ttx l)).map PyData.str)) := by
        rw [List.map_map, List.map_map]
        refine eComp_all f (fun i => PyData.str (ttx l (f i))) (List.range n) (by simp -implicitDefEqProofs only [eM1_ap, eRevT_ap, eRevL_ap, sA_ap, i_enumerate_ap, sJ0_ap, eS3_ap, eS_ap, oN_ap, oS_ap, isI_ap, slL_ap, slD_l, slD_t, fin_rt, fin_nx, sN_ap, sX_ap, sQ_ap, sIf_ap, sR_ap, sS_ap, sE_ap, sM_ap, sI_ap, sV_ap, sF_ap, sW_ap, eC_ap, eV0, eVs, e1_ap, e2_ap, eB_ap, eF_ap, eFA_ap, b2_ap, b3_ap, vB_ap, tV_ap, tNt_ap, tAn_ap, tO_ap, vAn_ap, vO_ap, vNt_ap, eIf_ap, aN_ap, aC_ap, iS_ap, iR_ap, gN_ap, tYes_ap, i2_ap, c2_ap, lstD_ap, seqD_l, seqD_t, isB_ap, lenD_ap, listD_ap, tupD_ap, ixD_l, ixD_t, negD_ap, bD_ap, isi_ii, isi_bi, isi_bb, isi_ib, isi_tt, isi_ll, isi_tl, isi_lt, isi_tn, isi_bn, mkL0, mkL1, mkL2, mkL3, mkL4, mkT0, mkT1, mkT2, mkT3, Res.bind_ok, Res.bind_no, Res.bind_ex, Res.lft_some, Res.lft_none, Option.map_some, Option.bind_some, List.set_cons_zero, List.set_cons_succ, List.length_cons, List.length_nil, if_true, if_false, Bool.false_eq_true, ite_true, ite_false, Bool.not_true, Bool.not_false, a1]) (by rw [List.length_range]; bv_omega) fun i hi => ?_
        have e := (ih i (List.mem_range.mp hi) k (by bv_omega) (by bv_omega)).2
        show eF (R_l_tree_text k) (aC (eV 0) aN) [some (f i)] = _
        simp -implicitDefEqProofs only [eM1_ap, eRevT_ap, eRevL_ap, sA_ap, i_enumerate_ap, sJ0_ap, eS3_ap, eS_ap, oN_ap, oS_ap, isI_ap, slL_ap, slD_l, slD_t, fin_rt, fin_nx, sN_ap, sX_ap, sQ_ap, sIf_ap, sR_ap, sS_ap, sE_ap, sM_ap, sI_ap, sV_ap, sF_ap, sW_ap, eC_ap, eV0, eVs, e1_ap, e2_ap, eB_ap, eF_ap, eFA_ap, b2_ap, b3_ap, vB_ap, tV_ap, tNt_ap, tAn_ap, tO_ap, vAn_ap, vO_ap, vNt_ap, eIf_ap, aN_ap, aC_ap, iS_ap, iR_ap, gN_ap, tYes_ap, i2_ap, c2_ap, lstD_ap, seqD_l, seqD_t, isB_ap, lenD_ap, listD_ap, tupD_ap, ixD_l, ixD_t, negD_ap, bD_ap, isi_ii, isi_bi, isi_bb, isi_ib, isi_tt, isi_ll, isi_tl, isi_lt, isi_tn, isi_bn, mkL0, mkL1, mkL2, mkL3, mkL4, mkT0, mkT1, mkT2, mkT3, Res.bind_ok, Res.bind_no, Res.bind_ex, Res.lft_some, Res.lft_none, Option.map_some, Option.bind_some, List.set_cons_zero, List.set_cons_succ, List.length_cons, List.length_nil, if_true, if_false, Bool.false_eq_true, ite_true, ite_false, Bool.not_true, Bool.not_false, e]
      have k1 : catS (.str (numT b)) (.str "(") = some (.str (numT b ++ "(")) := if_pos (by bv_omega)
      have k2 : catS (.str (numT b ++ "(")) (.str (Str.join " " (((List.range n).map f).map (ttx l)))) = some (.str (numT b ++ "(" ++ Str.join " " (((List.range n).map f).map (ttx l)))) := if_pos (by rw [Str.length_append]; bv_omega)
      have k3 : catS (.str (numT b ++ "(" ++ Str.join " " (((List.range n).map f).map (ttx l)))) (.str ")") = some (.str (numT b ++ "(" ++ Str.join " " (((List.range n).map f).map (ttx l)) ++ ")")) := if_pos (by rw [Str.length_append, Str.length_append]; bv_omega)
      show (B_l_tree_text (R_l_tree_text k) [some (.tuple [.int (b : Int), .tuple ((List.range n).map f)])]).bind (fin false) = _
      unfold B_l_tree_text
      simp -implicitDefEqProofs only [eM1_ap, eRevT_ap, eRevL_ap, sA_ap, i_enumerate_ap, sJ0_ap, eS3_ap, eS_ap, oN_ap, oS_ap, isI_ap, slL_ap, slD_l, slD_t, fin_rt, fin_nx, sN_ap, sX_ap, sQ_ap, sIf_ap, sR_ap, sS_ap, sE_ap, sM_ap, sI_ap, sV_ap, sF_ap, sW_ap, eC_ap, eV0, eVs, e1_ap, e2_ap, eB_ap, eF_ap, eFA_ap, b2_ap, b3_ap, vB_ap, tV_ap, tNt_ap, tAn_ap, tO_ap, vAn_ap, vO_ap, vNt_ap, eIf_ap, aN_ap, aC_ap, iS_ap, iR_ap, gN_ap, tYes_ap, i2_ap, c2_ap, lstD_ap, seqD_l, seqD_t, isB_ap, lenD_ap, listD_ap, tupD_ap, ixD_l, ixD_t, negD_ap, bD_ap, isi_ii, isi_bi, isi_bb, isi_ib, isi_tt, isi_ll, isi_tl, isi_lt, isi_tn, isi_bn, mkL0, mkL1, mkL2, mkL3, mkL4, mkT0, mkT1, mkT2, mkT3, Res.bind_ok, Res.bind_no, Res.bind_ex, Res.lft_some, Res.lft_none, Option.map_some, Option.bind_some, List.set_cons_zero, List.set_cons_succ, List.length_cons, List.length_nil, if_true, if_false, Bool.false_eq_true, ite_true, ite_false, Bool.not_true, Bool.not_false, i0, a0, so, k1, eM1S_ap, strD_s, cc, jd, k2, k3]
theorem eq_behind_sign {a s : Str} {w : Int} (h : (a ++ s).length ≤ 1000000) : F_behind_sign [.str (a ++ s), .str a, .int w] = .ok (.str s) := by
  have bl := big_line
  have la : a.length ≤ (a ++ s).length := by rw [Str.length_append]; bv_omega
  have e1 : stwD (a ++ s) (.str a) = some (.bool true) := by
    unfold stwD
    rw [strD_s, Option.map_some, st_app]
  have e2' : lenTD [.str a] = some (.int (a.length : Int)) := if_pos (by bv_omega)
  have e3 : slS (.str (a ++ s)) (some (a.length : Int)) none = some (.str s) := by
    unfold slS
    rw [strD_s, Option.bind_some, if_pos (by bv_omega), slice_from]
  show (B_behind_sign [some (.str (a ++ s)), some (.str a), some (.int w)]).bind (fin false) = _
  unfold B_behind_sign
  simp -implicitDefEqProofs only [eM1_ap, eRevT_ap, eRevL_ap, sA_ap, i_enumerate_ap, sJ0_ap, eS3_ap, eS_ap, oN_ap, oS_ap, isI_ap, slL_ap, slD_l, slD_t, fin_rt, fin_nx, sN_ap, sX_ap, sQ_ap, sIf_ap, sR_ap, sS_ap, sE_ap, sM_ap, sI_ap, sV_ap, sF_ap, sW_ap, eC_ap, eV0, eVs, e1_ap, e2_ap, eB_ap, eF_ap, eFA_ap, b2_ap, b3_ap, vB_ap, tV_ap, tNt_ap, tAn_ap, tO_ap, vAn_ap, vO_ap, vNt_ap, eIf_ap, aN_ap, aC_ap, iS_ap, iR_ap, gN_ap, tYes_ap, i2_ap, c2_ap, lstD_ap, seqD_l, seqD_t, isB_ap, lenD_ap, listD_ap, tupD_ap, ixD_l, ixD_t, negD_ap, bD_ap, isi_ii, isi_bi, isi_bb, isi_ib, isi_tt, isi_ll, isi_tl, isi_lt, isi_tn, isi_bn, mkL0, mkL1, mkL2, mkL3, mkL4, mkT0, mkT1, mkT2, mkT3, Res.bind_ok, Res.bind_no, Res.bind_ex, Res.lft_some, Res.lft_none, Option.map_some, Option.bind_some, List.set_cons_zero, List.set_cons_succ, List.length_cons, List.length_nil, if_true, if_false, Bool.false_eq_true, ite_true, ite_false, Bool.not_true, Bool.not_false, eM1S_ap, strD_s, e1, e2', e3]
theorem run_tree {n : Nat} (h1 : 1 ≤ n) (hn : n ≤ 6) {w : Int} {R : D} {l : Nat} {bs ns : List Int} {d : D} (T : TreeOk n l bs ns d) : ∀ (s : Str) (fs : Fs) (m : Nat), l ≤ 6 → (ttx l d ++ s).length ≤ 1000000 → fs.length + l ≤ 100 →
    Run F_read_number F_behind_sign w (n : Int) R m (some d) s fs → ∃ m', Run F_read_number F_behind_sign w (n : Int) R m' none (ttx l d ++ s) fs := by
  have bl := big_line
  induction T with
  | none =>
    intro s fs m hl hs hf h
    rw [ttx_none] at hs ⊢
    exact ⟨m + 1, ⟨by bv_omega, by bv_omega⟩, .inl ⟨st_app _ _, s, eq_behind_sign hs, h⟩⟩
  | @node l bs ns b f hb nb hf' Tk ih =>
    intro s fs m hl hs hf h
    have nk := num_ok b (by bv_omega)
    have kids : ∀ (j i : Nat), i + (j + 1) = n → (Str.join " " (((List.range' i (j + 1)).map f).map (ttx l)) ++ (")" ++ s)).length ≤ 1000000 → ∃ m', Run F_read_number F_behind_sign w (n : Int) R m' none (Str.join " " (((List.range' i (j + 1)).map f).map (ttx l)) ++ (")" ++ s)) (((b : Int), (List.range i).map f) :: fs) := by
      intro j
      induction j with
      | zero =>
        intro i hi hlen
        have e : Str.join " " (((List.range' i (0 + 1)).map f).map (ttx l)) = ttx l (f i) := rfl
        rw [e] at hlen ⊢
        have hlen2 : (")" ++ s : Str).length ≤ 1000000 := by rw [Str.length_append] at hlen; bv_omega
        refine ih i (by bv_omega) (")" ++ s) _ (m + 1) (by bv_omega) hlen (by rw [List.length_cons]; bv_omega) ⟨by rw [List.length_map, List.length_range]; bv_omega, .inl ⟨by rw [List.length_map, List.length_range]; bv_omega, s, eq_behind_sign hlen2, ?_⟩⟩
        have e2 : (List.range i).map f ++ [f i] = (List.range n).map f := by rw [← show i + 1 = n by bv_omega, List.range_succ, List.map_append]; rfl
        rw [e2]
        exact h
      | succ j ihj =>
        intro i hi hlen
        have e : Str.join " " (((List.range' i (j + 1 + 1)).map f).map (ttx l)) ++ (")" ++ s) = ttx l (f i) ++ (" " ++ (Str.join " " (((List.range' (i + 1) (j + 1)).map f).map (ttx l)) ++ (")" ++ s))) := by
          rw [List.range'_succ, List.map_cons, List.map_cons, join_cons' _ _ (by rw [List.range'_succ]; exact fun z => nomatch z), app_assoc, app_assoc]
        rw [e] at hlen ⊢
        have hlen2 : (" " ++ (Str.join " " (((List.range' (i + 1) (j + 1)).map f).map (ttx l)) ++ (")" ++ s)) : Str).length ≤ 1000000 := by rw [Str.length_append] at hlen; bv_omega
        have hlen3 : (Str.join " " (((List.range' (i + 1) (j + 1)).map f).map (ttx l)) ++ (")" ++ s) : Str).length ≤ 1000000 := by rw [Str.length_append] at hlen2; bv_omega
        obtain ⟨m', h'⟩ := ihj (i + 1) (by bv_omega) hlen3
        have e2 : (List.range i).map f ++ [f i] = (List.range (i + 1)).map f := by rw [List.range_succ, List.map_append]; rfl
        refine ih i (by bv_omega) _ _ (m' + 1) (by bv_omega) hlen (by rw [List.length_cons]; bv_omega) ⟨by rw [List.length_map, List.length_range]; bv_omega, .inr ⟨by rw [List.length_map, List.length_range]; bv_omega, _, eq_behind_sign hlen2, ?_⟩⟩
        rw [e2]
        exact h'
    have e : ttx (l + 1) (.tuple [.int (b : Int), .tuple ((List.range n).map f)]) ++ s = numT b ++ ("(" ++ (Str.join " " (((List.range n).map f).map (ttx l)) ++ (")" ++ s))) := by
      rw [ttx_node, app_assoc, app_assoc, app_assoc]
    rw [e] at hs ⊢
    have hs2 : ("(" ++ (Str.join " " (((List.range n).map f).map (ttx l)) ++ (")" ++ s)) : Str).length ≤ 1000000 := by rw [Str.length_append] at hs; bv_omega
    have hs3 : (Str.join " " (((List.range n).map f).map (ttx l)) ++ (")" ++ s) : Str).length ≤ 1000000 := by rw [Str.length_append] at hs2; bv_omega
    have er : List.range n = List.range' 0 (n - 1 + 1) := by rw [show n - 1 + 1 = n by bv_omega, List.range_eq_range']
    obtain ⟨m', h'⟩ := kids (n - 1) 0 (by bv_omega) (by rw [← er]; exact hs3)
    rw [← er] at h'
    obtain ⟨p1, p2⟩ := part_app (a := numT b) (y := "(") (s := Str.join " " (((List.range n).map f).map (ttx l)) ++ (")" ++ s)) (c := 40) rfl nk.2.2.2.2.2.2.1
    refine ⟨m' + 1, ⟨by bv_omega, by bv_omega⟩, .inr ⟨st_other (c := 45) rfl nk.2.2.2.2.2.2.2.1 nk.2.2.2.2.2.1, (b : Int), ?_, ?_⟩⟩
    · rw [p1]
      exact eq_read_number (by bv_omega) w
    · rw [p2]
      exact h'
theorem eq_read_tree {n : Nat} (h1 : 1 ≤ n) (hn : n ≤ 6) {w : Int} {l : Nat} {bs ns : List Int} {d : D} (T : TreeOk n l bs ns d) (hl : l ≤ 6) : F_read_tree [.str (ttx l d), .int (n : Int), .int w] = .ok d := by
  have small := ttx_small hn T hl
  have e : ttx l d ++ "" = ttx l d := tl_ext (by rw [tl_app]; exact List.append_nil _)
  obtain ⟨m, h⟩ := run_tree (w := w) (R := d) h1 hn T "" [] 1 hl (by rw [e]; bv_omega) (by show 0 + l ≤ 100; bv_omega) ⟨rfl, rfl⟩
  rw [e] at h
  exact rtF_eq h
noncomputable def opN (ops : List Int) : List Nat := ops.map Int.toNat
theorem opN_ops {n : Nat} {ops : List Int} (q : Opn n ops) : rI' (opN ops) = ops := by
  unfold rI' opN
  rw [List.map_map]
  have : ∀ x ∈ ops, ((fun (b : Nat) => (b : Int)) ∘ Int.toNat) x = x := fun x hx => by
    have := (q.bd x hx).1
    show ((x.toNat : Nat) : Int) = x
    bv_omega
  rw [List.map_congr_left this, List.map_id']
theorem opN_lt {n : Nat} {ops : List Int} (q : Opn n ops) (hn : n ≤ 6) : ∀ x ∈ opN ops, x < 61 := fun x hx => by
  obtain ⟨y, hy, rfl⟩ := List.mem_map.mp hx
  have := (q.bd y hy).2
  bv_omega
theorem opN_len {n : Nat} {ops : List Int} (q : Opn n ops) : (opN ops).length = n := by unfold opN; rw [List.length_map, q.len]
noncomputable def opT (ops : List Int) : Str := "openings " ++ rT (opN ops)
noncomputable def pT (p : Nat) (x : Str) : Str := "person " ++ numT p ++ " " ++ x
noncomputable def lv (ops : List Int) (p : Nat) : Nat := (ops.getD p 0).toNat
noncomputable def prw (n : Nat) (ops : List Int) (t : Nat → D) : List Str := opT ops :: (List.range n).map fun p => pT p (ttx (lv ops p) (t p))
section
variable {n : Nat} {ops : List Int} {t : Nat → D}
theorem lv_le (q : Opn n ops) (hn : n ≤ 6) {p : Nat} (hp : p < n) : lv ops p ≤ 6 := by
  have := q.at hp
  unfold lv
  bv_omega
theorem opT_len (q : Opn n ops) (hn : n ≤ 6) : (opT ops).length ≤ 200 ∧ (rT (opN ops)).length ≤ 180 := by
  have h := rT_len (opN_lt q hn) (by rw [opN_len q]; bv_omega)
  have c : ("openings " : Str).length = 9 := rfl
  unfold opT
  rw [Str.length_append]
  exact ⟨by bv_omega, h⟩
theorem pT_len (P : PlanOk n ops t) (q : Opn n ops) (hn : n ≤ 6) {p : Nat} (hp : p < n) : (pT p (ttx (lv ops p) (t p))).length ≤ 150010 := by
  have h := ttx_small hn (P.tree p hp) (lv_le q hn hp)
  have nk := (num_ok p (by bv_omega)).1.1
  have c : ("person " : Str).length = 7 := rfl
  have c2 : (" " : Str).length = 1 := rfl
  unfold pT
  rw [Str.length_append, Str.length_append, Str.length_append]
  have h' : (ttx (lv ops p) (t p)).length ≤ 150000 := h
  bv_omega
theorem prw_len (P : PlanOk n ops t) (q : Opn n ops) (hn : n ≤ 6) : ∀ x ∈ prw n ops t, x.length ≤ 150010 := fun x hx => by
  rcases List.mem_cons.mp hx with rfl | hx
  · have := (opT_len q hn).1
    bv_omega
  · obtain ⟨p, hp, rfl⟩ := List.mem_map.mp hx
    exact pT_len P q hn (List.mem_range.mp hp)
theorem prw_num : (prw n ops t).length = n + 1 := by unfold prw; simp
theorem prw_join (P : PlanOk n ops t) (q : Opn n ops) (hn : n ≤ 6) : JoinOk "\n" (prw n ops t) = true ∧ (Str.join "\n" (prw n ops t)).length ≤ 7 * (150010 + 1) :=
  join_le rfl (by rw [prw_num]; bv_omega) (prw_len P q hn) (by decide)
theorem rT_ok {r : List Nat} (hr : ∀ x ∈ r, x < 61) : PyData.strOk (rT r) = true ∧ 10 ∉ tl (rT r) := by
  refine ⟨sOk_join (by decide +kernel) _ fun t ht => ?_, ?_⟩
  · obtain ⟨x, hx, rfl⟩ := List.mem_map.mp ht
    exact (num_ok x (hr x hx)).2.2.2.2.1
  · have : ∀ l : List Nat, (∀ x ∈ l, x < 61) → 10 ∉ tl (Str.join " " (l.map numT)) := fun l => by
      induction l with
      | nil => exact fun _ z => by cases z
      | cons a l ih =>
        intro h
        have ha := (num_ok a (h a List.mem_cons_self)).2.2.2.2.2.2.2.2
        cases l with
        | nil => exact ha
        | cons b l =>
          rw [List.map_cons, List.map_cons, join_cons, tl_app, tl_app]
          intro z
          rcases List.mem_append.mp z with z | z
          · rcases List.mem_append.mp z with z | z
            · exact ha z
            · exact absurd z (by decide)
          · exact ih (fun x hx => h x (List.mem_cons_of_mem _ hx)) z
    exact this r hr
theorem prw_ok (P : PlanOk n ops t) (q : Opn n ops) (hn : n ≤ 6) : ∀ x ∈ prw n ops t, PyData.strOk x = true ∧ 10 ∉ tl x := fun x hx => by
  rcases List.mem_cons.mp hx with rfl | hx
  · have h := rT_ok (opN_lt q hn)
    refine ⟨sOk_app (by decide +kernel) h.1, fun z => ?_⟩
    unfold opT at z
    rw [tl_app] at z
    rcases List.mem_append.mp z with z | z
    · exact absurd z (by decide +kernel)
    · exact h.2 z
  · obtain ⟨p, hp, rfl⟩ := List.mem_map.mp hx
    have hp := List.mem_range.mp hp
    have h := ttx_len hn (P.tree p hp) (lv_le q hn hp)
    have nk := num_ok p (by bv_omega)
    refine ⟨sOk_app (sOk_app (sOk_app (by decide +kernel) nk.2.2.2.2.1) (by decide +kernel)) h.2.1, fun z => ?_⟩
    unfold pT at z
    rw [tl_app, tl_app, tl_app] at z
    rcases List.mem_append.mp z with z | z
    · rcases List.mem_append.mp z with z | z
      · rcases List.mem_append.mp z with z | z
        · exact absurd z (by decide +kernel)
        · exact nk.2.2.2.2.2.2.2.2 z
      · exact absurd z (by decide)
    · exact h.2.2 z
theorem prw_split (P : PlanOk n ops t) (q : Opn n ops) (hn : n ≤ 6) : Txt.split (Str.join "\n" (prw n ops t)) "\n" = prw n ops t :=
  split_join (c := 10) (y' := []) rfl (by decide +kernel) (fun z => nomatch z) fun p hp => (prw_ok P q hn p hp).2
theorem prw_take (i : Nat) : (opT ops :: (List.range i).map fun p => pT p (ttx (lv ops p) (t p))).map PyData.str ++ [PyData.str (pT i (ttx (lv ops i) (t i)))] = (opT ops :: (List.range (i + 1)).map fun p => pT p (ttx (lv ops p) (t p))).map PyData.str := by
  rw [List.range_succ, List.map_append, List.map_cons, List.map_cons, List.map_append]
  rfl
theorem eq_l_plan_rows (P : PlanOk n ops t) (q : Opn n ops) (hn : n ≤ 6) : F_l_plan_rows [tI ops, .tuple ((List.range n).map t)] = .ok (.list ((prw n ops t).map PyData.str)) := by
  show (B_l_plan_rows [some (tI ops), some (.tuple ((List.range n).map t)), none, none]).bind (fin true) = _
  have bl := big_line
  have e0 := opN_ops q
  have lr := (opT_len q hn).2
  have c9 : ("openings " : Str).length = 9 := rfl
  have c7 : ("person " : Str).length = 7 := rfl
  have c1 : (" " : Str).length = 1 := rfl
  have cc : eComp (iS (eV 0)) tYes (eB strOfD (aC (eV 0) aN)) [] [some (tI ops), some (.tuple ((List.range n).map t)), none, none] = .ok (.list (((opN ops).map numT).map PyData.str)) := by
    rw [List.map_map]
    refine eComp_all (fun b : Nat => PyData.int (b : Int)) (fun b => PyData.str (numT b)) (opN ops) (by
      have e1 : ops.map PyData.int = (opN ops).map fun b : Nat => PyData.int (b : Int) := by
        conv => lhs; rw [← e0]
        unfold rI'
        rw [List.map_map]
        rfl
      simp -implicitDefEqProofs only [eM1_ap, eRevT_ap, eRevL_ap, sA_ap, i_enumerate_ap, sJ0_ap, eS3_ap, eS_ap, oN_ap, oS_ap, isI_ap, slL_ap, slD_l, slD_t, fin_rt, fin_nx, sN_ap, sX_ap, sQ_ap, sIf_ap, sR_ap, sS_ap, sE_ap, sM_ap, sI_ap, sV_ap, sF_ap, sW_ap, eC_ap, eV0, eVs, e1_ap, e2_ap, eB_ap, eF_ap, eFA_ap, b2_ap, b3_ap, vB_ap, tV_ap, tNt_ap, tAn_ap, tO_ap, vAn_ap, vO_ap, vNt_ap, eIf_ap, aN_ap, aC_ap, iS_ap, iR_ap, gN_ap, tYes_ap, i2_ap, c2_ap, lstD_ap, seqD_l, seqD_t, isB_ap, lenD_ap, listD_ap, tupD_ap, ixD_l, ixD_t, negD_ap, bD_ap, isi_ii, isi_bi, isi_bb, isi_ib, isi_tt, isi_ll, isi_tl, isi_lt, isi_tn, isi_bn, mkL0, mkL1, mkL2, mkL3, mkL4, mkT0, mkT1, mkT2, mkT3, Res.bind_ok, Res.bind_no, Res.bind_ex, Res.lft_some, Res.lft_none, Option.map_some, Option.bind_some, List.set_cons_zero, List.set_cons_succ, List.length_cons, List.length_nil, if_true, if_false, Bool.false_eq_true, ite_true, ite_false, Bool.not_true, Bool.not_false, e1]) (by rw [opN_len q]; bv_omega) fun b hb => ?_
    have h := num_ok b (opN_lt q hn b hb)
    show eB strOfD (aC (eV 0) aN) [some (.int (b : Int))] = _
    have e : strOfD [.int (b : Int)] = some (.str (numT b)) := if_pos h.2.2.2.1
    simp -implicitDefEqProofs only [eM1_ap, eRevT_ap, eRevL_ap, sA_ap, i_enumerate_ap, sJ0_ap, eS3_ap, eS_ap, oN_ap, oS_ap, isI_ap, slL_ap, slD_l, slD_t, fin_rt, fin_nx, sN_ap, sX_ap, sQ_ap, sIf_ap, sR_ap, sS_ap, sE_ap, sM_ap, sI_ap, sV_ap, sF_ap, sW_ap, eC_ap, eV0, eVs, e1_ap, e2_ap, eB_ap, eF_ap, eFA_ap, b2_ap, b3_ap, vB_ap, tV_ap, tNt_ap, tAn_ap, tO_ap, vAn_ap, vO_ap, vNt_ap, eIf_ap, aN_ap, aC_ap, iS_ap, iR_ap, gN_ap, tYes_ap, i2_ap, c2_ap, lstD_ap, seqD_l, seqD_t, isB_ap, lenD_ap, listD_ap, tupD_ap, ixD_l, ixD_t, negD_ap, bD_ap, isi_ii, isi_bi, isi_bb, isi_ib, isi_tt, isi_ll, isi_tl, isi_lt, isi_tn, isi_bn, mkL0, mkL1, mkL2, mkL3, mkL4, mkT0, mkT1, mkT2, mkT3, Res.bind_ok, Res.bind_no, Res.bind_ex, Res.lft_some, Res.lft_none, Option.map_some, Option.bind_some, List.set_cons_zero, List.set_cons_succ, List.length_cons, List.length_nil, if_true, if_false, Bool.false_eq_true, ite_true, ite_false, Bool.not_true, Bool.not_false, e]
  have nj := num_join (r := opN ops) (opN_lt q hn) (by rw [opN_len q]; bv_omega)
  have ct : catS (.str "openings ") (.str (rT (opN ops))) = some (.str (opT ops)) := if_pos (by bv_omega)
  have hl : ((List.range n).map t).length = n := by rw [List.length_map, List.length_range]
  unfold B_l_plan_rows
  simp -implicitDefEqProofs only [eM1_ap, eRevT_ap, eRevL_ap, sA_ap, i_enumerate_ap, sJ0_ap, eS3_ap, eS_ap, oN_ap, oS_ap, isI_ap, slL_ap, slD_l, slD_t, fin_rt, fin_nx, sN_ap, sX_ap, sQ_ap, sIf_ap, sR_ap, sS_ap, sE_ap, sM_ap, sI_ap, sV_ap, sF_ap, sW_ap, eC_ap, eV0, eVs, e1_ap, e2_ap, eB_ap, eF_ap, eFA_ap, b2_ap, b3_ap, vB_ap, tV_ap, tNt_ap, tAn_ap, tO_ap, vAn_ap, vO_ap, vNt_ap, eIf_ap, aN_ap, aC_ap, iS_ap, iR_ap, gN_ap, tYes_ap, i2_ap, c2_ap, lstD_ap, seqD_l, seqD_t, isB_ap, lenD_ap, listD_ap, tupD_ap, ixD_l, ixD_t, negD_ap, bD_ap, isi_ii, isi_bi, isi_bb, isi_ib, isi_tt, isi_ll, isi_tl, isi_lt, isi_tn, isi_bn, mkL0, mkL1, mkL2, mkL3, mkL4, mkT0, mkT1, mkT2, mkT3, Res.bind_ok, Res.bind_no, Res.bind_ex, Res.lft_some, Res.lft_none, Option.map_some, Option.bind_some, List.set_cons_zero, List.set_cons_succ, List.length_cons, List.length_nil, if_true, if_false, Bool.false_eq_true, ite_true, ite_false, Bool.not_true, Bool.not_false, eM1S_ap, strD_s, cc, nj, ct, hl, rng_nat (show n ≤ 1000 by bv_omega)]
  refine forM_b2 (fun i ρ => ∃ x, ρ = [some (tI ops), some (.tuple ((List.range n).map t)), some (.list ((opT ops :: (List.range i).map fun p => pT p (ttx (lv ops p) (t p))).map PyData.str)), x]) ⟨none, rfl⟩ ?_ ?_
  · rintro i d ρ hd ⟨x, rfl⟩
    obtain ⟨hi, rfl⟩ := rng_get hd
    have nk := num_ok i (by bv_omega)
    have so : strOfD [.int (i : Int)] = some (.str (numT i)) := if_pos nk.2.2.2.1
    have tx := ttx_small hn (P.tree i hi) (lv_le q hn hi)
    have tx : (ttx (lv ops i) (t i)).length ≤ 150000 := tx
    have e1 : F_l_tree_text [t i] = .ok (.str (ttx (lv ops i) (t i))) := (tt_eq hn (P.tree i hi) 14 (by have := lv_le q hn hi; unfold lv at this; bv_omega) (lv_le q hn hi)).2
    have n2 := nk.1.1
    have k1 : catS (.str "person ") (.str (numT i)) = some (.str ("person " ++ numT i)) := if_pos (by bv_omega)
    have k2 : catS (.str ("person " ++ numT i)) (.str " ") = some (.str ("person " ++ numT i ++ " ")) := if_pos (by rw [Str.length_append]; bv_omega)
    have k3 : catS (.str ("person " ++ numT i ++ " ")) (.str (ttx (lv ops i) (t i))) = some (.str (pT i (ttx (lv ops i) (t i)))) := if_pos (by rw [Str.length_append, Str.length_append]; bv_omega)
    have at2 := atI_rm t hi
    have ap : appD ((opT ops :: (List.range i).map fun p => pT p (ttx (lv ops p) (t p))).map PyData.str) [.str (pT i (ttx (lv ops i) (t i)))] = some ((opT ops :: (List.range (i + 1)).map fun p => pT p (ttx (lv ops p) (t p))).map PyData.str) := by
      rw [← prw_take]
      exact app_le (by simp; bv_omega)
    refine ⟨_, [some (tI ops), some (.tuple ((List.range n).map t)), some (.list ((opT ops :: (List.range (i + 1)).map fun p => pT p (ttx (lv ops p) (t p))).map PyData.str)), some (.int (i : Int))], rfl, ?_, _, rfl⟩
    simp -implicitDefEqProofs only [eM1_ap, eRevT_ap, eRevL_ap, sA_ap, i_enumerate_ap, sJ0_ap, eS3_ap, eS_ap, oN_ap, oS_ap, isI_ap, slL_ap, slD_l, slD_t, fin_rt, fin_nx, sN_ap, sX_ap, sQ_ap, sIf_ap, sR_ap, sS_ap, sE_ap, sM_ap, sI_ap, sV_ap, sF_ap, sW_ap, eC_ap, eV0, eVs, e1_ap, e2_ap, eB_ap, eF_ap, eFA_ap, b2_ap, b3_ap, vB_ap, tV_ap, tNt_ap, tAn_ap, tO_ap, vAn_ap, vO_ap, vNt_ap, eIf_ap, aN_ap, aC_ap, iS_ap, iR_ap, gN_ap, tYes_ap, i2_ap, c2_ap, lstD_ap, seqD_l, seqD_t, isB_ap, lenD_ap, listD_ap, tupD_ap, ixD_l, ixD_t, negD_ap, bD_ap, isi_ii, isi_bi, isi_bb, isi_ib, isi_tt, isi_ll, isi_tl, isi_lt, isi_tn, isi_bn, mkL0, mkL1, mkL2, mkL3, mkL4, mkT0, mkT1, mkT2, mkT3, Res.bind_ok, Res.bind_no, Res.bind_ex, Res.lft_some, Res.lft_none, Option.map_some, Option.bind_some, List.set_cons_zero, List.set_cons_succ, List.length_cons, List.length_nil, if_true, if_false, Bool.false_eq_true, ite_true, ite_false, Bool.not_true, Bool.not_false, so, k1, k2, at2, e1, k3, ap]
  · rintro ρ ⟨x, rfl⟩
    rw [List.length_map, List.length_range]
    simp -implicitDefEqProofs only [eM1_ap, eRevT_ap, eRevL_ap, sA_ap, i_enumerate_ap, sJ0_ap, eS3_ap, eS_ap, oN_ap, oS_ap, isI_ap, slL_ap, slD_l, slD_t, fin_rt, fin_nx, sN_ap, sX_ap, sQ_ap, sIf_ap, sR_ap, sS_ap, sE_ap, sM_ap, sI_ap, sV_ap, sF_ap, sW_ap, eC_ap, eV0, eVs, e1_ap, e2_ap, eB_ap, eF_ap, eFA_ap, b2_ap, b3_ap, vB_ap, tV_ap, tNt_ap, tAn_ap, tO_ap, vAn_ap, vO_ap, vNt_ap, eIf_ap, aN_ap, aC_ap, iS_ap, iR_ap, gN_ap, tYes_ap, i2_ap, c2_ap, lstD_ap, seqD_l, seqD_t, isB_ap, lenD_ap, listD_ap, tupD_ap, ixD_l, ixD_t, negD_ap, bD_ap, isi_ii, isi_bi, isi_bb, isi_ib, isi_tt, isi_ll, isi_tl, isi_lt, isi_tn, isi_bn, mkL0, mkL1, mkL2, mkL3, mkL4, mkT0, mkT1, mkT2, mkT3, Res.bind_ok, Res.bind_no, Res.bind_ex, Res.lft_some, Res.lft_none, Option.map_some, Option.bind_some, List.set_cons_zero, List.set_cons_succ, List.length_cons, List.length_nil, if_true, if_false, Bool.false_eq_true, ite_true, ite_false, Bool.not_true, Bool.not_false]
    rfl
theorem eq_plan_text (P : PlanOk n ops t) (q : Opn n ops) (h1 : 1 ≤ n) (hn : n ≤ 6) : F_plan_text [tI ops, .tuple ((List.range n).map t)] = .ok (.str (Str.join "\n" (prw n ops t))) := by
  show (B_plan_text [some (tI ops), some (.tuple ((List.range n).map t)), none, none, none, none, none]).bind (fin false) = _
  have e0 := opN_ops q
  have lr := (opT_len q hn).2
  have hl : ((List.range n).map t).length = n := by rw [List.length_map, List.length_range]
  have en : F_numbers_text [tI ops] = .ok (.str (rT (opN ops))) := eq_numbers_text (r := opN ops) (.inl (by rw [e0])) (opN_lt q hn) (by rw [opN_len q]; bv_omega)
  have fs : fS (.str (rT (opN ops))) = some (rT (opN ops)) := by
    unfold fS
    rw [strD_s, Option.bind_some, if_pos (by bv_omega)]
  have jo : eJ (jC "openings " (jS fS (eV 2) jN)) [some (tI ops), some (.tuple ((List.range n).map t)), some (.str (rT (opN ops))), none, none, none, none] = .ok (.str (opT ops)) := by
    unfold eJ jS jC jN
    simp -implicitDefEqProofs only [eM1_ap, eRevT_ap, eRevL_ap, sA_ap, i_enumerate_ap, sJ0_ap, eS3_ap, eS_ap, oN_ap, oS_ap, isI_ap, slL_ap, slD_l, slD_t, fin_rt, fin_nx, sN_ap, sX_ap, sQ_ap, sIf_ap, sR_ap, sS_ap, sE_ap, sM_ap, sI_ap, sV_ap, sF_ap, sW_ap, eC_ap, eV0, eVs, e1_ap, e2_ap, eB_ap, eF_ap, eFA_ap, b2_ap, b3_ap, vB_ap, tV_ap, tNt_ap, tAn_ap, tO_ap, vAn_ap, vO_ap, vNt_ap, eIf_ap, aN_ap, aC_ap, iS_ap, iR_ap, gN_ap, tYes_ap, i2_ap, c2_ap, lstD_ap, seqD_l, seqD_t, isB_ap, lenD_ap, listD_ap, tupD_ap, ixD_l, ixD_t, negD_ap, bD_ap, isi_ii, isi_bi, isi_bb, isi_ib, isi_tt, isi_ll, isi_tl, isi_lt, isi_tn, isi_bn, mkL0, mkL1, mkL2, mkL3, mkL4, mkT0, mkT1, mkT2, mkT3, Res.bind_ok, Res.bind_no, Res.bind_ex, Res.lft_some, Res.lft_none, Option.map_some, Option.bind_some, List.set_cons_zero, List.set_cons_succ, List.length_cons, List.length_nil, if_true, if_false, Bool.false_eq_true, ite_true, ite_false, Bool.not_true, Bool.not_false, fs]
    show Res.ok (PyData.str (Str.empty ++ "openings " ++ rT (opN ops))) = _
    rw [Str.empty_append]
    rfl
  have jd := joinD_ok (prw_join P q hn).1
  unfold B_plan_text
  simp -implicitDefEqProofs only [eM1_ap, eRevT_ap, eRevL_ap, sA_ap, i_enumerate_ap, sJ0_ap, eS3_ap, eS_ap, oN_ap, oS_ap, isI_ap, slL_ap, slD_l, slD_t, fin_rt, fin_nx, sN_ap, sX_ap, sQ_ap, sIf_ap, sR_ap, sS_ap, sE_ap, sM_ap, sI_ap, sV_ap, sF_ap, sW_ap, eC_ap, eV0, eVs, e1_ap, e2_ap, eB_ap, eF_ap, eFA_ap, b2_ap, b3_ap, vB_ap, tV_ap, tNt_ap, tAn_ap, tO_ap, vAn_ap, vO_ap, vNt_ap, eIf_ap, aN_ap, aC_ap, iS_ap, iR_ap, gN_ap, tYes_ap, i2_ap, c2_ap, lstD_ap, seqD_l, seqD_t, isB_ap, lenD_ap, listD_ap, tupD_ap, ixD_l, ixD_t, negD_ap, bD_ap, isi_ii, isi_bi, isi_bb, isi_ib, isi_tt, isi_ll, isi_tl, isi_lt, isi_tn, isi_bn, mkL0, mkL1, mkL2, mkL3, mkL4, mkT0, mkT1, mkT2, mkT3, Res.bind_ok, Res.bind_no, Res.bind_ex, Res.lft_some, Res.lft_none, Option.map_some, Option.bind_some, List.set_cons_zero, List.set_cons_succ, List.length_cons, List.length_nil, if_true, if_false, Bool.false_eq_true, ite_true, ite_false, Bool.not_true, Bool.not_false, hl, eq_made_openings q h1 (show n ≤ 60 by bv_omega), en, jo, enum_rm]
  refine forM_b2 (fun i ρ => ∃ x y z, ρ = [some (tI ops), some (.tuple ((List.range n).map t)), some (.str (rT (opN ops))), some (.list ((opT ops :: (List.range i).map fun p => pT p (ttx (lv ops p) (t p))).map PyData.str)), x, y, z]) ⟨none, none, none, rfl⟩ ?_ ?_
  · rintro i d ρ hd ⟨x, y, z, rfl⟩
    rw [List.getElem?_map] at hd
    obtain ⟨j, ej, rfl⟩ := Option.map_eq_some_iff.mp hd
    have hi : i < n := by simpa using (List.getElem?_eq_some_iff.mp ej).1
    rw [List.getElem?_range hi] at ej
    cases ej
    have nk := num_ok i (by bv_omega)
    have n2 := nk.1.1
    have tx := ttx_small hn (P.tree i hi) (lv_le q hn hi)
    have tx : (ttx (lv ops i) (t i)).length ≤ 150000 := tx
    have e1 : F_tree_text [t i] = .ok (.str (ttx (lv ops i) (t i))) := (tt_eq hn (P.tree i hi) 14 (by have := lv_le q hn hi; unfold lv at this; bv_omega) (lv_le q hn hi)).1
    have f1 : fI (.int (i : Int)) = some (numT i) := if_pos ⟨nk.2.2.2.1, by show (numT i).length ≤ 1000000; bv_omega⟩
    have f2 : fS (.str (ttx (lv ops i) (t i))) = some (ttx (lv ops i) (t i)) := by
      unfold fS
      rw [strD_s, Option.bind_some, if_pos (by bv_omega)]
    have jj : eJ (jC "person " (jS fI (eV 4) (jC " " (jS fS (eV 6) jN)))) [some (tI ops), some (.tuple ((List.range n).map t)), some (.str (rT (opN ops))), some (.list ((opT ops :: (List.range i).map fun p => pT p (ttx (lv ops p) (t p))).map PyData.str)), some (.int (i : Int)), some (t i), some (.str (ttx (lv ops i) (t i)))] = .ok (.str (pT i (ttx (lv ops i) (t i)))) := by
      unfold eJ jS jC jN
      simp -implicitDefEqProofs only [eM1_ap, eRevT_ap, eRevL_ap, sA_ap, i_enumerate_ap, sJ0_ap, eS3_ap, eS_ap, oN_ap, oS_ap, isI_ap, slL_ap, slD_l, slD_t, fin_rt, fin_nx, sN_ap, sX_ap, sQ_ap, sIf_ap, sR_ap, sS_ap, sE_ap, sM_ap, sI_ap, sV_ap, sF_ap, sW_ap, eC_ap, eV0, eVs, e1_ap, e2_ap, eB_ap, eF_ap, eFA_ap, b2_ap, b3_ap, vB_ap, tV_ap, tNt_ap, tAn_ap, tO_ap, vAn_ap, vO_ap, vNt_ap, eIf_ap, aN_ap, aC_ap, iS_ap, iR_ap, gN_ap, tYes_ap, i2_ap, c2_ap, lstD_ap, seqD_l, seqD_t, isB_ap, lenD_ap, listD_ap, tupD_ap, ixD_l, ixD_t, negD_ap, bD_ap, isi_ii, isi_bi, isi_bb, isi_ib, isi_tt, isi_ll, isi_tl, isi_lt, isi_tn, isi_bn, mkL0, mkL1, mkL2, mkL3, mkL4, mkT0, mkT1, mkT2, mkT3, Res.bind_ok, Res.bind_no, Res.bind_ex, Res.lft_some, Res.lft_none, Option.map_some, Option.bind_some, List.set_cons_zero, List.set_cons_succ, List.length_cons, List.length_nil, if_true, if_false, Bool.false_eq_true, ite_true, ite_false, Bool.not_true, Bool.not_false, f1, f2]
      show Res.ok (PyData.str (Str.empty ++ "person " ++ numT i ++ " " ++ ttx (lv ops i) (t i))) = _
      rw [Str.empty_append]
      rfl
    have ap : appD ((opT ops :: (List.range i).map fun p => pT p (ttx (lv ops p) (t p))).map PyData.str) [.str (pT i (ttx (lv ops i) (t i)))] = some ((opT ops :: (List.range (i + 1)).map fun p => pT p (ttx (lv ops p) (t p))).map PyData.str) := by
      rw [← prw_take]
      exact app_le (by simp; bv_omega)
    refine ⟨_, [some (tI ops), some (.tuple ((List.range n).map t)), some (.str (rT (opN ops))), some (.list ((opT ops :: (List.range (i + 1)).map fun p => pT p (ttx (lv ops p) (t p))).map PyData.str)), some (.int (i : Int)), some (t i), some (.str (ttx (lv ops i) (t i)))], rfl, ?_, _, _, _, rfl⟩
    simp -implicitDefEqProofs only [eM1_ap, eRevT_ap, eRevL_ap, sA_ap, i_enumerate_ap, sJ0_ap, eS3_ap, eS_ap, oN_ap, oS_ap, isI_ap, slL_ap, slD_l, slD_t, fin_rt, fin_nx, sN_ap, sX_ap, sQ_ap, sIf_ap, sR_ap, sS_ap, sE_ap, sM_ap, sI_ap, sV_ap, sF_ap, sW_ap, eC_ap, eV0, eVs, e1_ap, e2_ap, eB_ap, eF_ap, eFA_ap, b2_ap, b3_ap, vB_ap, tV_ap, tNt_ap, tAn_ap, tO_ap, vAn_ap, vO_ap, vNt_ap, eIf_ap, aN_ap, aC_ap, iS_ap, iR_ap, gN_ap, tYes_ap, i2_ap, c2_ap, lstD_ap, seqD_l, seqD_t, isB_ap, lenD_ap, listD_ap, tupD_ap, ixD_l, ixD_t, negD_ap, bD_ap, isi_ii, isi_bi, isi_bb, isi_ib, isi_tt, isi_ll, isi_tl, isi_lt, isi_tn, isi_bn, mkL0, mkL1, mkL2, mkL3, mkL4, mkT0, mkT1, mkT2, mkT3, Res.bind_ok, Res.bind_no, Res.bind_ex, Res.lft_some, Res.lft_none, Option.map_some, Option.bind_some, List.set_cons_zero, List.set_cons_succ, List.length_cons, List.length_nil, if_true, if_false, Bool.false_eq_true, ite_true, ite_false, Bool.not_true, Bool.not_false, e1, jj, ap]
  · rintro ρ ⟨x, y, z, rfl⟩
    rw [List.length_map, List.length_range]
    have jd' : joinD "\n" (.list ((opT ops :: (List.range n).map fun p => pT p (ttx (lv ops p) (t p))).map PyData.str)) = some (.str (Str.join "\n" (prw n ops t))) := jd
    simp -implicitDefEqProofs only [eM1_ap, eRevT_ap, eRevL_ap, sA_ap, i_enumerate_ap, sJ0_ap, eS3_ap, eS_ap, oN_ap, oS_ap, isI_ap, slL_ap, slD_l, slD_t, fin_rt, fin_nx, sN_ap, sX_ap, sQ_ap, sIf_ap, sR_ap, sS_ap, sE_ap, sM_ap, sI_ap, sV_ap, sF_ap, sW_ap, eC_ap, eV0, eVs, e1_ap, e2_ap, eB_ap, eF_ap, eFA_ap, b2_ap, b3_ap, vB_ap, tV_ap, tNt_ap, tAn_ap, tO_ap, vAn_ap, vO_ap, vNt_ap, eIf_ap, aN_ap, aC_ap, iS_ap, iR_ap, gN_ap, tYes_ap, i2_ap, c2_ap, lstD_ap, seqD_l, seqD_t, isB_ap, lenD_ap, listD_ap, tupD_ap, ixD_l, ixD_t, negD_ap, bD_ap, isi_ii, isi_bi, isi_bb, isi_ib, isi_tt, isi_ll, isi_tl, isi_lt, isi_tn, isi_bn, mkL0, mkL1, mkL2, mkL3, mkL4, mkT0, mkT1, mkT2, mkT3, Res.bind_ok, Res.bind_no, Res.bind_ex, Res.lft_some, Res.lft_none, Option.map_some, Option.bind_some, List.set_cons_zero, List.set_cons_succ, List.length_cons, List.length_nil, if_true, if_false, Bool.false_eq_true, ite_true, ite_false, Bool.not_true, Bool.not_false, eM1S_ap, strD_s, jd']
theorem eq_read_openings (q : Opn n ops) (h1 : 1 ≤ n) (hn : n ≤ 6) : F_read_openings [.str (opT ops)] = .ok (tI ops) := by
  have bl := big_line
  have lo := (opT_len q hn).1
  have ne : (opN ops).map numT ≠ [] := fun z => by
    have e := congrArg List.length z
    rw [List.length_map, opN_len q] at e
    have : n = 0 := e
    bv_omega
  have jn : opT ops = Str.join " " (("openings" : Str) :: (opN ops).map numT) := by
    rw [join_cons' _ _ ne, ← app_assoc]
    show "openings " ++ rT (opN ops) = _
    rw [show ("openings " : Str) = "openings" ++ " " from tl_ext (by decide +kernel)]
    rfl
  have sp : splD (opT ops) (.str " ") = some (.list (((("openings" : Str) :: (opN ops).map numT)).map PyData.str)) := by
    unfold splD
    have sj : Txt.split (Str.join " " (("openings" : Str) :: (opN ops).map numT)) " " = ("openings" : Str) :: (opN ops).map numT := split_join (c := 32) (y' := []) rfl (by decide +kernel) (fun z => nomatch z) fun p hp => by
      rcases List.mem_cons.mp hp with rfl | hp
      · decide +kernel
      · obtain ⟨x, hx, rfl⟩ := List.mem_map.mp hp
        exact (num_ok x (opN_lt q hn x hx)).2.2.1
    rw [strD_s, Option.bind_some, if_pos ⟨by decide, by bv_omega⟩, jn, sj]
  have a0 : atI (PyData.str "openings" :: ((opN ops).map numT).map PyData.str) 0 = some (.str "openings") := atI_zero _ _
  have nn : neD (.str "openings") (.str "openings") = some false := by
    rw [neD_str (by decide +kernel) (by decide +kernel), decide_eq_true rfl]
    rfl
  have sl : slD (.list (PyData.str "openings" :: ((opN ops).map numT).map PyData.str)) (some 1) none = some (.list (((opN ops).map numT).map PyData.str)) := by
    show some (PyData.list (cutD (PyData.str "openings" :: ((opN ops).map numT).map PyData.str) (some ((1 : Nat) : Int)) none)) = _
    rw [cut_from]
    rfl
  have er := eq_read_numbers (r := opN ops) (opN_lt q hn) (by rw [opN_len q]; bv_omega)
  rw [opN_ops q] at er
  have ty : ∀ (mb : Ev → Res Out) (ρ : Ev), sTryN mb ρ = noEx (mb ρ) := fun _ _ => rfl
  have nx : ∀ x : Out, noEx (Res.ok x) = .ok x := fun _ => rfl
  rw [List.map_cons] at sp
  show (B_read_openings [some (.str (opT ops)), none, none]).bind (fin false) = _
  unfold B_read_openings
  simp -implicitDefEqProofs only [eM1_ap, eRevT_ap, eRevL_ap, sA_ap, i_enumerate_ap, sJ0_ap, eS3_ap, eS_ap, oN_ap, oS_ap, isI_ap, slL_ap, slD_l, slD_t, fin_rt, fin_nx, sN_ap, sX_ap, sQ_ap, sIf_ap, sR_ap, sS_ap, sE_ap, sM_ap, sI_ap, sV_ap, sF_ap, sW_ap, eC_ap, eV0, eVs, e1_ap, e2_ap, eB_ap, eF_ap, eFA_ap, b2_ap, b3_ap, vB_ap, tV_ap, tNt_ap, tAn_ap, tO_ap, vAn_ap, vO_ap, vNt_ap, eIf_ap, aN_ap, aC_ap, iS_ap, iR_ap, gN_ap, tYes_ap, i2_ap, c2_ap, lstD_ap, seqD_l, seqD_t, isB_ap, lenD_ap, listD_ap, tupD_ap, ixD_l, ixD_t, negD_ap, bD_ap, isi_ii, isi_bi, isi_bb, isi_ib, isi_tt, isi_ll, isi_tl, isi_lt, isi_tn, isi_bn, mkL0, mkL1, mkL2, mkL3, mkL4, mkT0, mkT1, mkT2, mkT3, Res.bind_ok, Res.bind_no, Res.bind_ex, Res.lft_some, Res.lft_none, Option.map_some, Option.bind_some, List.set_cons_zero, List.set_cons_succ, List.length_cons, List.length_nil, if_true, if_false, Bool.false_eq_true, ite_true, ite_false, Bool.not_true, Bool.not_false, eM1S_ap, strD_s, sp, a0, nn, sl, er, ty, nx, eq_openings_of_a_plan q h1 hn]
theorem eq_read_person (P : PlanOk n ops t) (q : Opn n ops) (h1 : 1 ≤ n) (hn : n ≤ 6) {p : Nat} (hp : p < n) : F_read_person [.str (pT p (ttx (lv ops p) (t p))), .int (p : Int), .int (n : Int)] = .ok (t p) := by
  have nk := num_ok p (by bv_omega)
  have n2 := nk.1.1
  have lp := pT_len P q hn hp
  have f1 : fI (.int (p : Int)) = some (numT p) := if_pos ⟨nk.2.2.2.1, by show (numT p).length ≤ 1000000; bv_omega⟩
  have jj : eJ (jC "person " (jS fI (eV 1) (jC " " jN))) [some (.str (pT p (ttx (lv ops p) (t p)))), some (.int (p : Int)), some (.int (n : Int)), some (.int ((p : Int) + 2))] = .ok (.str ("person " ++ numT p ++ " ")) := by
    unfold eJ jS jC jN
    simp -implicitDefEqProofs only [eM1_ap, eRevT_ap, eRevL_ap, sA_ap, i_enumerate_ap, sJ0_ap, eS3_ap, eS_ap, oN_ap, oS_ap, isI_ap, slL_ap, slD_l, slD_t, fin_rt, fin_nx, sN_ap, sX_ap, sQ_ap, sIf_ap, sR_ap, sS_ap, sE_ap, sM_ap, sI_ap, sV_ap, sF_ap, sW_ap, eC_ap, eV0, eVs, e1_ap, e2_ap, eB_ap, eF_ap, eFA_ap, b2_ap, b3_ap, vB_ap, tV_ap, tNt_ap, tAn_ap, tO_ap, vAn_ap, vO_ap, vNt_ap, eIf_ap, aN_ap, aC_ap, iS_ap, iR_ap, gN_ap, tYes_ap, i2_ap, c2_ap, lstD_ap, seqD_l, seqD_t, isB_ap, lenD_ap, listD_ap, tupD_ap, ixD_l, ixD_t, negD_ap, bD_ap, isi_ii, isi_bi, isi_bb, isi_ib, isi_tt, isi_ll, isi_tl, isi_lt, isi_tn, isi_bn, mkL0, mkL1, mkL2, mkL3, mkL4, mkT0, mkT1, mkT2, mkT3, Res.bind_ok, Res.bind_no, Res.bind_ex, Res.lft_some, Res.lft_none, Option.map_some, Option.bind_some, List.set_cons_zero, List.set_cons_succ, List.length_cons, List.length_nil, if_true, if_false, Bool.false_eq_true, ite_true, ite_false, Bool.not_true, Bool.not_false, f1]
    show Res.ok (PyData.str (Str.empty ++ "person " ++ numT p ++ " ")) = _
    rw [Str.empty_append]
  have bs : F_behind_sign [.str (pT p (ttx (lv ops p) (t p))), .str ("person " ++ numT p ++ " "), .int ((p : Int) + 2)] = .ok (.str (ttx (lv ops p) (t p))) := eq_behind_sign (Nat.le_trans (show (pT p (ttx (lv ops p) (t p))).length ≤ 150010 from lp) (by decide))
  have rt : F_read_tree [.str (ttx (lv ops p) (t p)), .int (n : Int), .int ((p : Int) + 2)] = .ok (t p) := eq_read_tree h1 hn (P.tree p hp) (lv_le q hn hp)
  show (B_read_person [some (.str (pT p (ttx (lv ops p) (t p)))), some (.int (p : Int)), some (.int (n : Int)), none]).bind (fin false) = _
  unfold B_read_person
  simp -implicitDefEqProofs only [eM1_ap, eRevT_ap, eRevL_ap, sA_ap, i_enumerate_ap, sJ0_ap, eS3_ap, eS_ap, oN_ap, oS_ap, isI_ap, slL_ap, slD_l, slD_t, fin_rt, fin_nx, sN_ap, sX_ap, sQ_ap, sIf_ap, sR_ap, sS_ap, sE_ap, sM_ap, sI_ap, sV_ap, sF_ap, sW_ap, eC_ap, eV0, eVs, e1_ap, e2_ap, eB_ap, eF_ap, eFA_ap, b2_ap, b3_ap, vB_ap, tV_ap, tNt_ap, tAn_ap, tO_ap, vAn_ap, vO_ap, vNt_ap, eIf_ap, aN_ap, aC_ap, iS_ap, iR_ap, gN_ap, tYes_ap, i2_ap, c2_ap, lstD_ap, seqD_l, seqD_t, isB_ap, lenD_ap, listD_ap, tupD_ap, ixD_l, ixD_t, negD_ap, bD_ap, isi_ii, isi_bi, isi_bb, isi_ib, isi_tt, isi_ll, isi_tl, isi_lt, isi_tn, isi_bn, mkL0, mkL1, mkL2, mkL3, mkL4, mkT0, mkT1, mkT2, mkT3, Res.bind_ok, Res.bind_no, Res.bind_ex, Res.lft_some, Res.lft_none, Option.map_some, Option.bind_some, List.set_cons_zero, List.set_cons_succ, List.length_cons, List.length_nil, if_true, if_false, Bool.false_eq_true, ite_true, ite_false, Bool.not_true, Bool.not_false, jj, bs, rt]
theorem eq_read_plan (P : PlanOk n ops t) (q : Opn n ops) (h1 : 1 ≤ n) (hn : n ≤ 6) : F_read_plan [.str (Str.join "\n" (prw n ops t))] = .ok (.tuple [tI ops, .tuple ((List.range n).map t)]) := by
  have bl := line16
  have lj := (prw_join P q hn).2
  have sp : splD (Str.join "\n" (prw n ops t)) (.str "\n") = some (.list ((prw n ops t).map PyData.str)) := by
    unfold splD
    rw [strD_s, Option.bind_some, if_pos ⟨by decide, by bv_omega⟩, prw_split P q hn]
  have a0 : atI ((prw n ops t).map PyData.str) 0 = some (.str (opT ops)) := atI_zero _ _
  have sl : slD (.list ((prw n ops t).map PyData.str)) (some 1) (some ((n : Int) + 1)) = some (.list ((List.range n).map fun p => PyData.str (pT p (ttx (lv ops p) (t p))))) := by
    show some (PyData.list (cutD ((prw n ops t).map PyData.str) (some ((1 : Nat) : Int)) (some ((n + 1 : Nat) : Int)))) = _
    have e : cutD ((prw n ops t).map PyData.str) (some ((1 : Nat) : Int)) (some ((n + 1 : Nat) : Int)) = (List.range n).map fun p => PyData.str (pT p (ttx (lv ops p) (t p))) := by
      have ln : ((prw n ops t).map PyData.str).length = n + 1 := by rw [List.length_map, prw_num]
      have e1 : cutD ((prw n ops t).map PyData.str) (some ((1 : Nat) : Int)) (some ((n + 1 : Nat) : Int)) = cutD ((prw n ops t).map PyData.str) (some ((1 : Nat) : Int)) none := by
        unfold cutD
        rw [ln]
        have : HT.sIx (n + 1) (n + 1) (some ((n + 1 : Nat) : Int)) = HT.sIx (n + 1) (n + 1) none := by
          rw [HT.sIx_none, HT.sIx_nat, Nat.min_self]
        rw [this]
      rw [e1, cut_from]
      show ((List.range n).map fun p => pT p (ttx (lv ops p) (t p))).map PyData.str = _
      rw [List.map_map]
      rfl
    rw [e]
  have en : ∀ f : Nat → D, enumD ((List.range n).map f) = (List.range n).map fun (i : Nat) => PyData.tuple [.int (i : Int), f i] := enum_rm n
  have cc : eComp2 (i_enumerate (eS slD (eV 1) (oS (eC (.int 1))) (oS (e2 addI (eV 3) (eC (.int 1)))))) tYes (eF F_read_person (aC (eV 1) (aC (eV 0) (aC (eV 2) aN)))) [3] [some (.str (Str.join "\n" (prw n ops t))), some (.list ((prw n ops t).map PyData.str)), some (tI ops), some (.int (n : Int)), none] = .ok (.list ((List.range n).map t)) := by
    refine eComp2_all (fun p : Nat => PyData.int (p : Int)) (fun p => PyData.str (pT p (ttx (lv ops p) (t p)))) t (List.range n) (by simp -implicitDefEqProofs only [eM1_ap, eRevT_ap, eRevL_ap, sA_ap, i_enumerate_ap, sJ0_ap, eS3_ap, eS_ap, oN_ap, oS_ap, isI_ap, slL_ap, slD_l, slD_t, fin_rt, fin_nx, sN_ap, sX_ap, sQ_ap, sIf_ap, sR_ap, sS_ap, sE_ap, sM_ap, sI_ap, sV_ap, sF_ap, sW_ap, eC_ap, eV0, eVs, e1_ap, e2_ap, eB_ap, eF_ap, eFA_ap, b2_ap, b3_ap, vB_ap, tV_ap, tNt_ap, tAn_ap, tO_ap, vAn_ap, vO_ap, vNt_ap, eIf_ap, aN_ap, aC_ap, iS_ap, iR_ap, gN_ap, tYes_ap, i2_ap, c2_ap, lstD_ap, seqD_l, seqD_t, isB_ap, lenD_ap, listD_ap, tupD_ap, ixD_l, ixD_t, negD_ap, bD_ap, isi_ii, isi_bi, isi_bb, isi_ib, isi_tt, isi_ll, isi_tl, isi_lt, isi_tn, isi_bn, mkL0, mkL1, mkL2, mkL3, mkL4, mkT0, mkT1, mkT2, mkT3, Res.bind_ok, Res.bind_no, Res.bind_ex, Res.lft_some, Res.lft_none, Option.map_some, Option.bind_some, List.set_cons_zero, List.set_cons_succ, List.length_cons, List.length_nil, if_true, if_false, Bool.false_eq_true, ite_true, ite_false, Bool.not_true, Bool.not_false, sl, en]) (by rw [List.length_range]; bv_omega) fun p hp => ?_
    have hp := List.mem_range.mp hp
    show eF F_read_person _ [some (.int (p : Int)), some (.str (pT p (ttx (lv ops p) (t p)))), some (.int (n : Int))] = _
    simp -implicitDefEqProofs only [eM1_ap, eRevT_ap, eRevL_ap, sA_ap, i_enumerate_ap, sJ0_ap, eS3_ap, eS_ap, oN_ap, oS_ap, isI_ap, slL_ap, slD_l, slD_t, fin_rt, fin_nx, sN_ap, sX_ap, sQ_ap, sIf_ap, sR_ap, sS_ap, sE_ap, sM_ap, sI_ap, sV_ap, sF_ap, sW_ap, eC_ap, eV0, eVs, e1_ap, e2_ap, eB_ap, eF_ap, eFA_ap, b2_ap, b3_ap, vB_ap, tV_ap, tNt_ap, tAn_ap, tO_ap, vAn_ap, vO_ap, vNt_ap, eIf_ap, aN_ap, aC_ap, iS_ap, iR_ap, gN_ap, tYes_ap, i2_ap, c2_ap, lstD_ap, seqD_l, seqD_t, isB_ap, lenD_ap, listD_ap, tupD_ap, ixD_l, ixD_t, negD_ap, bD_ap, isi_ii, isi_bi, isi_bb, isi_ib, isi_tt, isi_ll, isi_tl, isi_lt, isi_tn, isi_bn, mkL0, mkL1, mkL2, mkL3, mkL4, mkT0, mkT1, mkT2, mkT3, Res.bind_ok, Res.bind_no, Res.bind_ex, Res.lft_some, Res.lft_none, Option.map_some, Option.bind_some, List.set_cons_zero, List.set_cons_succ, List.length_cons, List.length_nil, if_true, if_false, Bool.false_eq_true, ite_true, ite_false, Bool.not_true, Bool.not_false, eq_read_person P q h1 hn hp]
  have ln : ((prw n ops t).map PyData.str).length = n + 1 := by rw [List.length_map, prw_num]
  have ol : (ops.map PyData.int).length = n := by rw [List.length_map, q.len]
  have ei : (((n + 1 : Nat) : Nat) : Int) = (n : Int) + 1 := by bv_omega
  have mp := eq_made_plan P q h1 hn (x := .list ((List.range n).map t)) (.inr rfl)
  show (B_read_plan [some (.str (Str.join "\n" (prw n ops t))), none, none, none, none]).bind (fin false) = _
  unfold B_read_plan
  simp -implicitDefEqProofs only [eM1_ap, eRevT_ap, eRevL_ap, sA_ap, i_enumerate_ap, sJ0_ap, eS3_ap, eS_ap, oN_ap, oS_ap, isI_ap, slL_ap, slD_l, slD_t, fin_rt, fin_nx, sN_ap, sX_ap, sQ_ap, sIf_ap, sR_ap, sS_ap, sE_ap, sM_ap, sI_ap, sV_ap, sF_ap, sW_ap, eC_ap, eV0, eVs, e1_ap, e2_ap, eB_ap, eF_ap, eFA_ap, b2_ap, b3_ap, vB_ap, tV_ap, tNt_ap, tAn_ap, tO_ap, vAn_ap, vO_ap, vNt_ap, eIf_ap, aN_ap, aC_ap, iS_ap, iR_ap, gN_ap, tYes_ap, i2_ap, c2_ap, lstD_ap, seqD_l, seqD_t, isB_ap, lenD_ap, listD_ap, tupD_ap, ixD_l, ixD_t, negD_ap, bD_ap, isi_ii, isi_bi, isi_bb, isi_ib, isi_tt, isi_ll, isi_tl, isi_lt, isi_tn, isi_bn, mkL0, mkL1, mkL2, mkL3, mkL4, mkT0, mkT1, mkT2, mkT3, Res.bind_ok, Res.bind_no, Res.bind_ex, Res.lft_some, Res.lft_none, Option.map_some, Option.bind_some, List.set_cons_zero, List.set_cons_succ, List.length_cons, List.length_nil, if_true, if_false, Bool.false_eq_true, ite_true, ite_false, Bool.not_true, Bool.not_false, eM1S_ap, strD_s, sp, a0, eq_read_openings q h1 hn, ol, cc, ln, ei, neD_int, decide_true, mp]
end
theorem eq_l_cell_at (ns : List Int) (k : Nat) : F_l_cell_at [lI ns, .int k] = .ok (.int (ns.getD k 0)) := by
  show (B_l_cell_at [some (lI ns), some (.int k)]).bind (fin false) = _
  unfold B_l_cell_at
  simp -implicitDefEqProofs only [eM1_ap, eRevT_ap, eRevL_ap, sA_ap, i_enumerate_ap, sJ0_ap, eS3_ap, eS_ap, oN_ap, oS_ap, isI_ap, slL_ap, slD_l, slD_t, fin_rt, fin_nx, sN_ap, sX_ap, sQ_ap, sIf_ap, sR_ap, sS_ap, sE_ap, sM_ap, sI_ap, sV_ap, sF_ap, sW_ap, eC_ap, eV0, eVs, e1_ap, e2_ap, eB_ap, eF_ap, eFA_ap, b2_ap, b3_ap, vB_ap, tV_ap, tNt_ap, tAn_ap, tO_ap, vAn_ap, vO_ap, vNt_ap, eIf_ap, aN_ap, aC_ap, iS_ap, iR_ap, gN_ap, tYes_ap, i2_ap, c2_ap, lstD_ap, seqD_l, seqD_t, isB_ap, lenD_ap, listD_ap, tupD_ap, ixD_l, ixD_t, negD_ap, bD_ap, isi_ii, isi_bi, isi_bb, isi_ib, isi_tt, isi_ll, isi_tl, isi_lt, isi_tn, isi_bn, mkL0, mkL1, mkL2, mkL3, mkL4, mkT0, mkT1, mkT2, mkT3, Res.bind_ok, Res.bind_no, Res.bind_ex, Res.lft_some, Res.lft_none, Option.map_some, Option.bind_some, List.set_cons_zero, List.set_cons_succ, List.length_cons, List.length_nil, if_true, if_false, Bool.false_eq_true, ite_true, ite_false, Bool.not_true, Bool.not_false, List.length_map, atI_map]
  by_cases h : k < ns.length
  · rw [decide_eq_true (by bv_omega)]
    simp -implicitDefEqProofs only [eM1_ap, eRevT_ap, eRevL_ap, sA_ap, i_enumerate_ap, sJ0_ap, eS3_ap, eS_ap, oN_ap, oS_ap, isI_ap, slL_ap, slD_l, slD_t, fin_rt, fin_nx, sN_ap, sX_ap, sQ_ap, sIf_ap, sR_ap, sS_ap, sE_ap, sM_ap, sI_ap, sV_ap, sF_ap, sW_ap, eC_ap, eV0, eVs, e1_ap, e2_ap, eB_ap, eF_ap, eFA_ap, b2_ap, b3_ap, vB_ap, tV_ap, tNt_ap, tAn_ap, tO_ap, vAn_ap, vO_ap, vNt_ap, eIf_ap, aN_ap, aC_ap, iS_ap, iR_ap, gN_ap, tYes_ap, i2_ap, c2_ap, lstD_ap, seqD_l, seqD_t, isB_ap, lenD_ap, listD_ap, tupD_ap, ixD_l, ixD_t, negD_ap, bD_ap, isi_ii, isi_bi, isi_bb, isi_ib, isi_tt, isi_ll, isi_tl, isi_lt, isi_tn, isi_bn, mkL0, mkL1, mkL2, mkL3, mkL4, mkT0, mkT1, mkT2, mkT3, Res.bind_ok, Res.bind_no, Res.bind_ex, Res.lft_some, Res.lft_none, Option.map_some, Option.bind_some, List.set_cons_zero, List.set_cons_succ, List.length_cons, List.length_nil, if_true, if_false, Bool.false_eq_true, ite_true, ite_false, Bool.not_true, Bool.not_false, atI_getD h]
  · rw [decide_eq_false (by bv_omega)]
    simp -implicitDefEqProofs only [eM1_ap, eRevT_ap, eRevL_ap, sA_ap, i_enumerate_ap, sJ0_ap, eS3_ap, eS_ap, oN_ap, oS_ap, isI_ap, slL_ap, slD_l, slD_t, fin_rt, fin_nx, sN_ap, sX_ap, sQ_ap, sIf_ap, sR_ap, sS_ap, sE_ap, sM_ap, sI_ap, sV_ap, sF_ap, sW_ap, eC_ap, eV0, eVs, e1_ap, e2_ap, eB_ap, eF_ap, eFA_ap, b2_ap, b3_ap, vB_ap, tV_ap, tNt_ap, tAn_ap, tO_ap, vAn_ap, vO_ap, vNt_ap, eIf_ap, aN_ap, aC_ap, iS_ap, iR_ap, gN_ap, tYes_ap, i2_ap, c2_ap, lstD_ap, seqD_l, seqD_t, isB_ap, lenD_ap, listD_ap, tupD_ap, ixD_l, ixD_t, negD_ap, bD_ap, isi_ii, isi_bi, isi_bb, isi_ib, isi_tt, isi_ll, isi_tl, isi_lt, isi_tn, isi_bn, mkL0, mkL1, mkL2, mkL3, mkL4, mkT0, mkT1, mkT2, mkT3, Res.bind_ok, Res.bind_no, Res.bind_ex, Res.lft_some, Res.lft_none, Option.map_some, Option.bind_some, List.set_cons_zero, List.set_cons_succ, List.length_cons, List.length_nil, if_true, if_false, Bool.false_eq_true, ite_true, ite_false, Bool.not_true, Bool.not_false, List.getD_eq_getElem?_getD, List.getElem?_eq_none (Nat.le_of_not_lt h), Option.getD_none]
theorem eq_l_whole (i : Int) : F_l_whole [.int i] = .ok (.bool true) := by
  show (B_l_whole [some (.int i)]).bind (fin false) = _
  unfold B_l_whole
  simp -implicitDefEqProofs only [eM1_ap, eRevT_ap, eRevL_ap, sA_ap, i_enumerate_ap, sJ0_ap, eS3_ap, eS_ap, oN_ap, oS_ap, isI_ap, slL_ap, slD_l, slD_t, fin_rt, fin_nx, sN_ap, sX_ap, sQ_ap, sIf_ap, sR_ap, sS_ap, sE_ap, sM_ap, sI_ap, sV_ap, sF_ap, sW_ap, eC_ap, eV0, eVs, e1_ap, e2_ap, eB_ap, eF_ap, eFA_ap, b2_ap, b3_ap, vB_ap, tV_ap, tNt_ap, tAn_ap, tO_ap, vAn_ap, vO_ap, vNt_ap, eIf_ap, aN_ap, aC_ap, iS_ap, iR_ap, gN_ap, tYes_ap, i2_ap, c2_ap, lstD_ap, seqD_l, seqD_t, isB_ap, lenD_ap, listD_ap, tupD_ap, ixD_l, ixD_t, negD_ap, bD_ap, isi_ii, isi_bi, isi_bb, isi_ib, isi_tt, isi_ll, isi_tl, isi_lt, isi_tn, isi_bn, mkL0, mkL1, mkL2, mkL3, mkL4, mkT0, mkT1, mkT2, mkT3, Res.bind_ok, Res.bind_no, Res.bind_ex, Res.lft_some, Res.lft_none, Option.map_some, Option.bind_some, List.set_cons_zero, List.set_cons_succ, List.length_cons, List.length_nil, if_true, if_false, Bool.false_eq_true, ite_true, ite_false, Bool.not_true, Bool.not_false]
theorem eq_l_all (ns : List Int) : ∃ c : Int, F_l_all [lI ns] = .ok (.int c) := by
  show ∃ c : Int, (B_l_all [some (lI ns), none, none]).bind (fin false) = _
  unfold B_l_all
  simp -implicitDefEqProofs only [eM1_ap, eRevT_ap, eRevL_ap, sA_ap, i_enumerate_ap, sJ0_ap, eS3_ap, eS_ap, oN_ap, oS_ap, isI_ap, slL_ap, slD_l, slD_t, fin_rt, fin_nx, sN_ap, sX_ap, sQ_ap, sIf_ap, sR_ap, sS_ap, sE_ap, sM_ap, sI_ap, sV_ap, sF_ap, sW_ap, eC_ap, eV0, eVs, e1_ap, e2_ap, eB_ap, eF_ap, eFA_ap, b2_ap, b3_ap, vB_ap, tV_ap, tNt_ap, tAn_ap, tO_ap, vAn_ap, vO_ap, vNt_ap, eIf_ap, aN_ap, aC_ap, iS_ap, iR_ap, gN_ap, tYes_ap, i2_ap, c2_ap, lstD_ap, seqD_l, seqD_t, isB_ap, lenD_ap, listD_ap, tupD_ap, ixD_l, ixD_t, negD_ap, bD_ap, isi_ii, isi_bi, isi_bb, isi_ib, isi_tt, isi_ll, isi_tl, isi_lt, isi_tn, isi_bn, mkL0, mkL1, mkL2, mkL3, mkL4, mkT0, mkT1, mkT2, mkT3, Res.bind_ok, Res.bind_no, Res.bind_ex, Res.lft_some, Res.lft_none, Option.map_some, Option.bind_some, List.set_cons_zero, List.set_cons_succ, List.length_cons, List.length_nil, if_true, if_false, Bool.false_eq_true, ite_true, ite_false, Bool.not_true, Bool.not_false]
  obtain ⟨ρ', e, t, x, rfl⟩ := forM_ok (g := gN 2) (b := sS 1 (e2 addI (e2 mulI (eV 1) (eC (.int 1000))) (eV 2)))
    (fun i ρ => ∃ t x, ρ = [some (lI ns), some (.int t), x]) (ns.map PyData.int) [some (lI ns), some (.int 0), none] ⟨0, none, rfl⟩ (by
      rintro i d ρ hd ⟨t, x, rfl⟩
      obtain ⟨v, _, rfl⟩ := List.mem_map.mp (List.mem_of_getElem? hd)
      refine ⟨_, _, rfl, ?_, t * 1000 + v, some (.int v), rfl⟩
      simp -implicitDefEqProofs only [eM1_ap, eRevT_ap, eRevL_ap, sA_ap, i_enumerate_ap, sJ0_ap, eS3_ap, eS_ap, oN_ap, oS_ap, isI_ap, slL_ap, slD_l, slD_t, fin_rt, fin_nx, sN_ap, sX_ap, sQ_ap, sIf_ap, sR_ap, sS_ap, sE_ap, sM_ap, sI_ap, sV_ap, sF_ap, sW_ap, eC_ap, eV0, eVs, e1_ap, e2_ap, eB_ap, eF_ap, eFA_ap, b2_ap, b3_ap, vB_ap, tV_ap, tNt_ap, tAn_ap, tO_ap, vAn_ap, vO_ap, vNt_ap, eIf_ap, aN_ap, aC_ap, iS_ap, iR_ap, gN_ap, tYes_ap, i2_ap, c2_ap, lstD_ap, seqD_l, seqD_t, isB_ap, lenD_ap, listD_ap, tupD_ap, ixD_l, ixD_t, negD_ap, bD_ap, isi_ii, isi_bi, isi_bb, isi_ib, isi_tt, isi_ll, isi_tl, isi_lt, isi_tn, isi_bn, mkL0, mkL1, mkL2, mkL3, mkL4, mkT0, mkT1, mkT2, mkT3, Res.bind_ok, Res.bind_no, Res.bind_ex, Res.lft_some, Res.lft_none, Option.map_some, Option.bind_some, List.set_cons_zero, List.set_cons_succ, List.length_cons, List.length_nil, if_true, if_false, Bool.false_eq_true, ite_true, ite_false, Bool.not_true, Bool.not_false, mulO_ok (MulOk.right (i := t) (j := 1000) (by decide) (by decide))])
  exact ⟨t, by rw [e]; rfl⟩
theorem sm_none (k : Nat) : R_l_same (k + 1) [.none, .none] = .ok (.bool true) := by
  show (B_l_same (R_l_same k) [some .none, some .none]).bind (fin false) = _
  unfold B_l_same
  have s1 : isiD "tuple" .none = some (.bool false) := rfl
  have i0 : isND false .none .none = some true := rfl
  simp -implicitDefEqProofs only [eM1_ap, eRevT_ap, eRevL_ap, sA_ap, i_enumerate_ap, sJ0_ap, eS3_ap, eS_ap, oN_ap, oS_ap, isI_ap, slL_ap, slD_l, slD_t, fin_rt, fin_nx, sN_ap, sX_ap, sQ_ap, sIf_ap, sR_ap, sS_ap, sE_ap, sM_ap, sI_ap, sV_ap, sF_ap, sW_ap, eC_ap, eV0, eVs, e1_ap, e2_ap, eB_ap, eF_ap, eFA_ap, b2_ap, b3_ap, vB_ap, tV_ap, tNt_ap, tAn_ap, tO_ap, vAn_ap, vO_ap, vNt_ap, eIf_ap, aN_ap, aC_ap, iS_ap, iR_ap, gN_ap, tYes_ap, i2_ap, c2_ap, lstD_ap, seqD_l, seqD_t, isB_ap, lenD_ap, listD_ap, tupD_ap, ixD_l, ixD_t, negD_ap, bD_ap, isi_ii, isi_bi, isi_bb, isi_ib, isi_tt, isi_ll, isi_tl, isi_lt, isi_tn, isi_bn, mkL0, mkL1, mkL2, mkL3, mkL4, mkT0, mkT1, mkT2, mkT3, Res.bind_ok, Res.bind_no, Res.bind_ex, Res.lft_some, Res.lft_none, Option.map_some, Option.bind_some, List.set_cons_zero, List.set_cons_succ, List.length_cons, List.length_nil, if_true, if_false, Bool.false_eq_true, ite_true, ite_false, Bool.not_true, Bool.not_false, s1, i0]
theorem sm_int (k : Nat) (x : Int) : R_l_same (k + 1) [.int x, .int x] = .ok (.bool true) := by
  show (B_l_same (R_l_same k) [some (.int x), some (.int x)]).bind (fin false) = _
  unfold B_l_same
  have s1 : isiD "tuple" (.int x) = some (.bool false) := rfl
  have i0 : isND false (.int x) .none = some false := rfl
  simp -implicitDefEqProofs only [eM1_ap, eRevT_ap, eRevL_ap, sA_ap, i_enumerate_ap, sJ0_ap, eS3_ap, eS_ap, oN_ap, oS_ap, isI_ap, slL_ap, slD_l, slD_t, fin_rt, fin_nx, sN_ap, sX_ap, sQ_ap, sIf_ap, sR_ap, sS_ap, sE_ap, sM_ap, sI_ap, sV_ap, sF_ap, sW_ap, eC_ap, eV0, eVs, e1_ap, e2_ap, eB_ap, eF_ap, eFA_ap, b2_ap, b3_ap, vB_ap, tV_ap, tNt_ap, tAn_ap, tO_ap, vAn_ap, vO_ap, vNt_ap, eIf_ap, aN_ap, aC_ap, iS_ap, iR_ap, gN_ap, tYes_ap, i2_ap, c2_ap, lstD_ap, seqD_l, seqD_t, isB_ap, lenD_ap, listD_ap, tupD_ap, ixD_l, ixD_t, negD_ap, bD_ap, isi_ii, isi_bi, isi_bb, isi_ib, isi_tt, isi_ll, isi_tl, isi_lt, isi_tn, isi_bn, mkL0, mkL1, mkL2, mkL3, mkL4, mkT0, mkT1, mkT2, mkT3, Res.bind_ok, Res.bind_no, Res.bind_ex, Res.lft_some, Res.lft_none, Option.map_some, Option.bind_some, List.set_cons_zero, List.set_cons_succ, List.length_cons, List.length_nil, if_true, if_false, Bool.false_eq_true, ite_true, ite_false, Bool.not_true, Bool.not_false, s1, i0, eq_l_whole, eqD_int, decide_true]
theorem sm_tup (k : Nat) (ds : List D) (h : ds.length ≤ 1000) (hd : ∀ (i : Nat) (d : D), ds[i]? = some d → R_l_same k [d, d] = .ok (.bool true)) : R_l_same (k + 1) [.tuple ds, .tuple ds] = .ok (.bool true) := by
  show (B_l_same (R_l_same k) [some (.tuple ds), some (.tuple ds)]).bind (fin false) = _
  have s1 : isiD "tuple" (.tuple ds) = some (.bool true) := rfl
  have cc : eComp (iR rng1 (aC (eB lenD (aC (eV 1) aN)) aN)) tYes (eF (R_l_same k) (aC (e2 ixD (eV 1) (eV 0)) (aC (e2 ixD (eV 2) (eV 0)) aN))) [0, 1] [some (.tuple ds), some (.tuple ds)] = .ok (.list ((List.range ds.length).map fun _ => PyData.bool true)) := by
    refine eComp_all (fun i : Nat => PyData.int (i : Int)) (fun _ => PyData.bool true) (List.range ds.length) (by simp -implicitDefEqProofs only [eM1_ap, eRevT_ap, eRevL_ap, sA_ap, i_enumerate_ap, sJ0_ap, eS3_ap, eS_ap, oN_ap, oS_ap, isI_ap, slL_ap, slD_l, slD_t, fin_rt, fin_nx, sN_ap, sX_ap, sQ_ap, sIf_ap, sR_ap, sS_ap, sE_ap, sM_ap, sI_ap, sV_ap, sF_ap, sW_ap, eC_ap, eV0, eVs, e1_ap, e2_ap, eB_ap, eF_ap, eFA_ap, b2_ap, b3_ap, vB_ap, tV_ap, tNt_ap, tAn_ap, tO_ap, vAn_ap, vO_ap, vNt_ap, eIf_ap, aN_ap, aC_ap, iS_ap, iR_ap, gN_ap, tYes_ap, i2_ap, c2_ap, lstD_ap, seqD_l, seqD_t, isB_ap, lenD_ap, listD_ap, tupD_ap, ixD_l, ixD_t, negD_ap, bD_ap, isi_ii, isi_bi, isi_bb, isi_ib, isi_tt, isi_ll, isi_tl, isi_lt, isi_tn, isi_bn, mkL0, mkL1, mkL2, mkL3, mkL4, mkT0, mkT1, mkT2, mkT3, Res.bind_ok, Res.bind_no, Res.bind_ex, Res.lft_some, Res.lft_none, Option.map_some, Option.bind_some, List.set_cons_zero, List.set_cons_succ, List.length_cons, List.length_nil, if_true, if_false, Bool.false_eq_true, ite_true, ite_false, Bool.not_true, Bool.not_false, rng_nat h]) (by rw [List.length_range]; exact h) fun i hi => ?_
    have hi := List.mem_range.mp hi
    have g : ds[i]? = some (ds[i]'hi) := List.getElem?_eq_getElem hi
    show eF (R_l_same k) (aC (e2 ixD (eV 1) (eV 0)) (aC (e2 ixD (eV 2) (eV 0)) aN)) [some (.int (i : Int)), some (.tuple ds), some (.tuple ds)] = _
    simp -implicitDefEqProofs only [eM1_ap, eRevT_ap, eRevL_ap, sA_ap, i_enumerate_ap, sJ0_ap, eS3_ap, eS_ap, oN_ap, oS_ap, isI_ap, slL_ap, slD_l, slD_t, fin_rt, fin_nx, sN_ap, sX_ap, sQ_ap, sIf_ap, sR_ap, sS_ap, sE_ap, sM_ap, sI_ap, sV_ap, sF_ap, sW_ap, eC_ap, eV0, eVs, e1_ap, e2_ap, eB_ap, eF_ap, eFA_ap, b2_ap, b3_ap, vB_ap, tV_ap, tNt_ap, tAn_ap, tO_ap, vAn_ap, vO_ap, vNt_ap, eIf_ap, aN_ap, aC_ap, iS_ap, iR_ap, gN_ap, tYes_ap, i2_ap, c2_ap, lstD_ap, seqD_l, seqD_t, isB_ap, lenD_ap, listD_ap, tupD_ap, ixD_l, ixD_t, negD_ap, bD_ap, isi_ii, isi_bi, isi_bb, isi_ib, isi_tt, isi_ll, isi_tl, isi_lt, isi_tn, isi_bn, mkL0, mkL1, mkL2, mkL3, mkL4, mkT0, mkT1, mkT2, mkT3, Res.bind_ok, Res.bind_no, Res.bind_ex, Res.lft_some, Res.lft_none, Option.map_some, Option.bind_some, List.set_cons_zero, List.set_cons_succ, List.length_cons, List.length_nil, if_true, if_false, Bool.false_eq_true, ite_true, ite_false, Bool.not_true, Bool.not_false, atI_nat g, hd i _ g]
  unfold B_l_same
  simp -implicitDefEqProofs only [eM1_ap, eRevT_ap, eRevL_ap, sA_ap, i_enumerate_ap, sJ0_ap, eS3_ap, eS_ap, oN_ap, oS_ap, isI_ap, slL_ap, slD_l, slD_t, fin_rt, fin_nx, sN_ap, sX_ap, sQ_ap, sIf_ap, sR_ap, sS_ap, sE_ap, sM_ap, sI_ap, sV_ap, sF_ap, sW_ap, eC_ap, eV0, eVs, e1_ap, e2_ap, eB_ap, eF_ap, eFA_ap, b2_ap, b3_ap, vB_ap, tV_ap, tNt_ap, tAn_ap, tO_ap, vAn_ap, vO_ap, vNt_ap, eIf_ap, aN_ap, aC_ap, iS_ap, iR_ap, gN_ap, tYes_ap, i2_ap, c2_ap, lstD_ap, seqD_l, seqD_t, isB_ap, lenD_ap, listD_ap, tupD_ap, ixD_l, ixD_t, negD_ap, bD_ap, isi_ii, isi_bi, isi_bb, isi_ib, isi_tt, isi_ll, isi_tl, isi_lt, isi_tn, isi_bn, mkL0, mkL1, mkL2, mkL3, mkL4, mkT0, mkT1, mkT2, mkT3, Res.bind_ok, Res.bind_no, Res.bind_ex, Res.lft_some, Res.lft_none, Option.map_some, Option.bind_some, List.set_cons_zero, List.set_cons_succ, List.length_cons, List.length_nil, if_true, if_false, Bool.false_eq_true, ite_true, ite_false, Bool.not_true, Bool.not_false, s1, neD_int, decide_true, cc, allD_true (List.range ds.length) (fun _ => true) (fun _ _ => rfl)]
theorem sm_tree {n : Nat} (hn : n ≤ 6) {l : Nat} {bs ns : List Int} {d : D} (T : TreeOk n l bs ns d) : ∀ k, 2 * l + 1 ≤ k → R_l_same k [d, d] = .ok (.bool true) := by
  induction T with
  | none =>
    intro k hk
    obtain ⟨k, rfl⟩ : ∃ j, k = j + 1 := ⟨k - 1, by bv_omega⟩
    exact sm_none k
  | @node l bs ns b f _ _ _ _ ih =>
    intro k hk
    obtain ⟨k, rfl⟩ : ∃ j, k = j + 2 := ⟨k - 2, by bv_omega⟩
    refine sm_tup (k + 1) _ (by show 2 ≤ 1000; decide) fun i d hd => ?_
    match i with
    | 0 =>
      cases hd
      exact sm_int k _
    | 1 =>
      cases hd
      refine sm_tup k _ (by simp; bv_omega) fun i d hd => ?_
      rw [List.getElem?_map] at hd
      obtain ⟨j, ej, rfl⟩ := Option.map_eq_some_iff.mp hd
      have hi : i < n := by simpa using (List.getElem?_eq_some_iff.mp ej).1
      rw [List.getElem?_range hi] at ej
      cases ej
      exact ih i hi k (by bv_omega)
    | i + 2 => cases hd
theorem eq_l_same {n : Nat} {ops : List Int} {t : Nat → D} (P : PlanOk n ops t) (q : Opn n ops) (hn : n ≤ 6) (hm : ∀ x ∈ ops, x ≤ 5) : F_l_same [.tuple [tI ops, .tuple ((List.range n).map t)], .tuple [tI ops, .tuple ((List.range n).map t)]] = .ok (.bool true) := by
  refine sm_tup 13 _ (by show 2 ≤ 1000; decide) fun i d hd => ?_
  match i with
  | 0 =>
    cases hd
    refine sm_tup 12 _ (by rw [List.length_map, q.len]; bv_omega) fun i d hd => ?_
    rw [List.getElem?_map] at hd
    obtain ⟨x, _, rfl⟩ := Option.map_eq_some_iff.mp hd
    exact sm_int 11 x
  | 1 =>
    cases hd
    refine sm_tup 12 _ (by simp; bv_omega) fun i d hd => ?_
    rw [List.getElem?_map] at hd
    obtain ⟨j, ej, rfl⟩ := Option.map_eq_some_iff.mp hd
    have hi : i < n := by simpa using (List.getElem?_eq_some_iff.mp ej).1
    rw [List.getElem?_range hi] at ej
    cases ej
    have := hm _ (MR.getD_mem (xs := ops) (i := i) (by rw [q.len]; exact hi))
    exact sm_tree hn (P.tree i hi) 12 (by bv_omega)
  | i + 2 => cases hd
theorem law_tail {n : Nat} {ops : List Int} {t : Nat → D} (P : PlanOk n ops t) (q : Opn n ops) (h1 : 1 ≤ n) (hn : n ≤ 6) (hm : ∀ x ∈ ops, x ≤ 5) (a b : Option D) (m : Option D) :
    (sQ (sS 5 (eM1S joinD (eC (.str "\n")) (eF F_l_plan_rows (aC (eV 3) (aC (eV 4) aN))))) (sQ (sS 6 (eF F_plan_text (aC (eV 3) (aC (eV 4) aN)))) (sQ (sIf (tO (tNt (tV (e1 (isiD "str") (eV 6)))) (b2 neD (eV 6) (eV 5))) (sR (eC (.bool false))) sN) (sR (eF F_l_same (aC (eF F_read_plan (aC (eV 5) aN)) (aC (eB mkT (aC (eV 3) (aC (eV 4) aN))) aN)))))))
      [a, b, m, some (tI ops), some (.tuple ((List.range n).map t)), none, none] = .ok (.rt (.bool true)) := by
  have jd := joinD_ok (prw_join P q hn).1
  have ok := sOk_join (y := "\n") (by decide +kernel) (prw n ops t) fun x hx => (prw_ok P q hn x hx).1
  have nn : neD (.str (Str.join "\n" (prw n ops t))) (.str (Str.join "\n" (prw n ops t))) = some false := by
    rw [neD_str ok ok, decide_eq_true rfl]
    rfl
  have is : isiD "str" (.str (Str.join "\n" (prw n ops t))) = some (.bool true) := rfl
  simp -implicitDefEqProofs only [eM1_ap, eRevT_ap, eRevL_ap, sA_ap, i_enumerate_ap, sJ0_ap, eS3_ap, eS_ap, oN_ap, oS_ap, isI_ap, slL_ap, slD_l, slD_t, fin_rt, fin_nx, sN_ap, sX_ap, sQ_ap, sIf_ap, sR_ap, sS_ap, sE_ap, sM_ap, sI_ap, sV_ap, sF_ap, sW_ap, eC_ap, eV0, eVs, e1_ap, e2_ap, eB_ap, eF_ap, eFA_ap, b2_ap, b3_ap, vB_ap, tV_ap, tNt_ap, tAn_ap, tO_ap, vAn_ap, vO_ap, vNt_ap, eIf_ap, aN_ap, aC_ap, iS_ap, iR_ap, gN_ap, tYes_ap, i2_ap, c2_ap, lstD_ap, seqD_l, seqD_t, isB_ap, lenD_ap, listD_ap, tupD_ap, ixD_l, ixD_t, negD_ap, bD_ap, isi_ii, isi_bi, isi_bb, isi_ib, isi_tt, isi_ll, isi_tl, isi_lt, isi_tn, isi_bn, mkL0, mkL1, mkL2, mkL3, mkL4, mkT0, mkT1, mkT2, mkT3, Res.bind_ok, Res.bind_no, Res.bind_ex, Res.lft_some, Res.lft_none, Option.map_some, Option.bind_some, List.set_cons_zero, List.set_cons_succ, List.length_cons, List.length_nil, if_true, if_false, Bool.false_eq_true, ite_true, ite_false, Bool.not_true, Bool.not_false, eM1S_ap, strD_s, eq_l_plan_rows P q hn, jd, eq_plan_text P q h1 hn, is, nn, eq_read_plan P q h1 hn, eq_l_same P q hn hm]
theorem law_true (ns : List Int) (h : ns.length ≤ 63) : F_law [.list (ns.map PyData.int)] = .ok (.bool true) := by
  show (B_law [some (lI ns), none, none, none, none, none, none]).bind (fin false) = _
  obtain ⟨cell, ec⟩ := eq_l_all ns
  have e0 := eq_l_cell_at ns 0
  have e0 : F_l_cell_at [lI ns, .int 0] = .ok (.int (ns.getD 0 0)) := e0
  have key : ∀ (n : Nat) (most : Int), 1 ≤ n → n ≤ 6 → 0 ≤ most → most ≤ (n : Int) → most ≤ 5 →
      (sQ (sA (eF F_l_plan (aC (eF F_l_all (aC (eV 0) aN)) (aC (eV 1) (aC (eV 2) aN)))) (gT 2 (gsC (gN 3) (gsC (gN 4) gsN)))) (sQ (sS 5 (eM1S joinD (eC (.str "\n")) (eF F_l_plan_rows (aC (eV 3) (aC (eV 4) aN))))) (sQ (sS 6 (eF F_plan_text (aC (eV 3) (aC (eV 4) aN)))) (sQ (sIf (tO (tNt (tV (e1 (isiD "str") (eV 6)))) (b2 neD (eV 6) (eV 5))) (sR (eC (.bool false))) sN) (sR (eF F_l_same (aC (eF F_read_plan (aC (eV 5) aN)) (aC (eB mkT (aC (eV 3) (aC (eV 4) aN))) aN))))))))
        [some (lI ns), some (.int (n : Int)), some (.int most), none, none, none, none] = .ok (.rt (.bool true)) := by
    intro n most h1 h2 m0 m1 m5
    obtain ⟨ops, t, q, P, hm, ep⟩ := eq_l_plan cell most h1 h2 m0 m1
    have tl' := law_tail P q h1 h2 (fun x hx => Int.le_trans (hm x hx) m5) (some (lI ns)) (some (.int (n : Int))) (some (.int most))
    have gt : gT 2 (gsC (gN 3) (gsC (gN 4) gsN)) (.tuple [tI ops, .tuple ((List.range n).map t)]) [some (lI ns), some (.int (n : Int)), some (.int most), none, none, none, none] = some [some (lI ns), some (.int (n : Int)), some (.int most), some (tI ops), some (.tuple ((List.range n).map t)), none, none] := rfl
    revert tl'
    generalize (sQ (sS 5 (eM1S joinD (eC (.str "\n")) (eF F_l_plan_rows (aC (eV 3) (aC (eV 4) aN))))) (sQ (sS 6 (eF F_plan_text (aC (eV 3) (aC (eV 4) aN)))) (sQ (sIf (tO (tNt (tV (e1 (isiD "str") (eV 6)))) (b2 neD (eV 6) (eV 5))) (sR (eC (.bool false))) sN) (sR (eF F_l_same (aC (eF F_read_plan (aC (eV 5) aN)) (aC (eB mkT (aC (eV 3) (aC (eV 4) aN))) aN))))))) = rest
    intro tl'
    simp -implicitDefEqProofs only [eM1_ap, eRevT_ap, eRevL_ap, sA_ap, i_enumerate_ap, sJ0_ap, eS3_ap, eS_ap, oN_ap, oS_ap, isI_ap, slL_ap, slD_l, slD_t, fin_rt, fin_nx, sN_ap, sX_ap, sQ_ap, sIf_ap, sR_ap, sS_ap, sE_ap, sM_ap, sI_ap, sV_ap, sF_ap, sW_ap, eC_ap, eV0, eVs, e1_ap, e2_ap, eB_ap, eF_ap, eFA_ap, b2_ap, b3_ap, vB_ap, tV_ap, tNt_ap, tAn_ap, tO_ap, vAn_ap, vO_ap, vNt_ap, eIf_ap, aN_ap, aC_ap, iS_ap, iR_ap, gN_ap, tYes_ap, i2_ap, c2_ap, lstD_ap, seqD_l, seqD_t, isB_ap, lenD_ap, listD_ap, tupD_ap, ixD_l, ixD_t, negD_ap, bD_ap, isi_ii, isi_bi, isi_bb, isi_ib, isi_tt, isi_ll, isi_tl, isi_lt, isi_tn, isi_bn, mkL0, mkL1, mkL2, mkL3, mkL4, mkT0, mkT1, mkT2, mkT3, Res.bind_ok, Res.bind_no, Res.bind_ex, Res.lft_some, Res.lft_none, Option.map_some, Option.bind_some, List.set_cons_zero, List.set_cons_succ, List.length_cons, List.length_nil, if_true, if_false, Bool.false_eq_true, ite_true, ite_false, Bool.not_true, Bool.not_false, ec, ep, gt, tl']
  unfold B_law
  revert key
  generalize (sQ (sA (eF F_l_plan (aC (eF F_l_all (aC (eV 0) aN)) (aC (eV 1) (aC (eV 2) aN)))) (gT 2 (gsC (gN 3) (gsC (gN 4) gsN)))) (sQ (sS 5 (eM1S joinD (eC (.str "\n")) (eF F_l_plan_rows (aC (eV 3) (aC (eV 4) aN))))) (sQ (sS 6 (eF F_plan_text (aC (eV 3) (aC (eV 4) aN)))) (sQ (sIf (tO (tNt (tV (e1 (isiD "str") (eV 6)))) (b2 neD (eV 6) (eV 5))) (sR (eC (.bool false))) sN) (sR (eF F_l_same (aC (eF F_read_plan (aC (eV 5) aN)) (aC (eB mkT (aC (eV 3) (aC (eV 4) aN))) aN)))))))) = rest
  intro key
  have g0 := Int.emod_nonneg (ns.getD 0 0) (show (4 : Int) ≠ 0 by decide)
  have g4 := Int.emod_lt_of_pos (ns.getD 0 0) (show (0 : Int) < 4 by decide)
  obtain ⟨n, en⟩ : ∃ n : Nat, 1 + ns.getD 0 0 % 4 = (n : Int) := ⟨(1 + ns.getD 0 0 % 4).toNat, by bv_omega⟩
  generalize hx : ns.getD 0 0 = x at e0 en g0 g4
  have k0 := key n (n : Int) (by bv_omega) (by bv_omega) (by bv_omega) (by bv_omega) (by bv_omega)
  have k1 := key 5 2 (by decide) (by decide) (by decide) (by decide) (by decide)
  have k2 := key 6 1 (by decide) (by decide) (by decide) (by decide) (by decide)
  have k1 : rest [some (lI ns), some (.int 5), some (.int 2), none, none, none, none] = .ok (.rt (.bool true)) := k1
  have k2 : rest [some (lI ns), some (.int 6), some (.int 1), none, none, none, none] = .ok (.rt (.bool true)) := k2
  by_cases c1 : x / 4 % 8 = 1
  · have c2 : ¬ x / 4 % 8 = 2 := by bv_omega
    simp -implicitDefEqProofs only [eM1_ap, eRevT_ap, eRevL_ap, sA_ap, i_enumerate_ap, sJ0_ap, eS3_ap, eS_ap, oN_ap, oS_ap, isI_ap, slL_ap, slD_l, slD_t, fin_rt, fin_nx, sN_ap, sX_ap, sQ_ap, sIf_ap, sR_ap, sS_ap, sE_ap, sM_ap, sI_ap, sV_ap, sF_ap, sW_ap, eC_ap, eV0, eVs, e1_ap, e2_ap, eB_ap, eF_ap, eFA_ap, b2_ap, b3_ap, vB_ap, tV_ap, tNt_ap, tAn_ap, tO_ap, vAn_ap, vO_ap, vNt_ap, eIf_ap, aN_ap, aC_ap, iS_ap, iR_ap, gN_ap, tYes_ap, i2_ap, c2_ap, lstD_ap, seqD_l, seqD_t, isB_ap, lenD_ap, listD_ap, tupD_ap, ixD_l, ixD_t, negD_ap, bD_ap, isi_ii, isi_bi, isi_bb, isi_ib, isi_tt, isi_ll, isi_tl, isi_lt, isi_tn, isi_bn, mkL0, mkL1, mkL2, mkL3, mkL4, mkT0, mkT1, mkT2, mkT3, Res.bind_ok, Res.bind_no, Res.bind_ex, Res.lft_some, Res.lft_none, Option.map_some, Option.bind_some, List.set_cons_zero, List.set_cons_succ, List.length_cons, List.length_nil, if_true, if_false, Bool.false_eq_true, ite_true, ite_false, Bool.not_true, Bool.not_false, e0, modO, fdivO, if_pos (DivOk.small (show (0:Int) < 4 by decide) (by decide)), if_pos (show (0 : Int) < 4 by decide), if_pos (show (0 : Int) < 8 by decide), en, eqD_int, decide_eq_true c1, decide_eq_false c2, k1]
  · by_cases c2 : x / 4 % 8 = 2
    · simp -implicitDefEqProofs only [eM1_ap, eRevT_ap, eRevL_ap, sA_ap, i_enumerate_ap, sJ0_ap, eS3_ap, eS_ap, oN_ap, oS_ap, isI_ap, slL_ap, slD_l, slD_t, fin_rt, fin_nx, sN_ap, sX_ap, sQ_ap, sIf_ap, sR_ap, sS_ap, sE_ap, sM_ap, sI_ap, sV_ap, sF_ap, sW_ap, eC_ap, eV0, eVs, e1_ap, e2_ap, eB_ap, eF_ap, eFA_ap, b2_ap, b3_ap, vB_ap, tV_ap, tNt_ap, tAn_ap, tO_ap, vAn_ap, vO_ap, vNt_ap, eIf_ap, aN_ap, aC_ap, iS_ap, iR_ap, gN_ap, tYes_ap, i2_ap, c2_ap, lstD_ap, seqD_l, seqD_t, isB_ap, lenD_ap, listD_ap, tupD_ap, ixD_l, ixD_t, negD_ap, bD_ap, isi_ii, isi_bi, isi_bb, isi_ib, isi_tt, isi_ll, isi_tl, isi_lt, isi_tn, isi_bn, mkL0, mkL1, mkL2, mkL3, mkL4, mkT0, mkT1, mkT2, mkT3, Res.bind_ok, Res.bind_no, Res.bind_ex, Res.lft_some, Res.lft_none, Option.map_some, Option.bind_some, List.set_cons_zero, List.set_cons_succ, List.length_cons, List.length_nil, if_true, if_false, Bool.false_eq_true, ite_true, ite_false, Bool.not_true, Bool.not_false, e0, modO, fdivO, if_pos (DivOk.small (show (0:Int) < 4 by decide) (by decide)), if_pos (show (0 : Int) < 4 by decide), if_pos (show (0 : Int) < 8 by decide), en, eqD_int, decide_eq_false c1, decide_eq_true c2, k2]
    · simp -implicitDefEqProofs only [eM1_ap, eRevT_ap, eRevL_ap, sA_ap, i_enumerate_ap, sJ0_ap, eS3_ap, eS_ap, oN_ap, oS_ap, isI_ap, slL_ap, slD_l, slD_t, fin_rt, fin_nx, sN_ap, sX_ap, sQ_ap, sIf_ap, sR_ap, sS_ap, sE_ap, sM_ap, sI_ap, sV_ap, sF_ap, sW_ap, eC_ap, eV0, eVs, e1_ap, e2_ap, eB_ap, eF_ap, eFA_ap, b2_ap, b3_ap, vB_ap, tV_ap, tNt_ap, tAn_ap, tO_ap, vAn_ap, vO_ap, vNt_ap, eIf_ap, aN_ap, aC_ap, iS_ap, iR_ap, gN_ap, tYes_ap, i2_ap, c2_ap, lstD_ap, seqD_l, seqD_t, isB_ap, lenD_ap, listD_ap, tupD_ap, ixD_l, ixD_t, negD_ap, bD_ap, isi_ii, isi_bi, isi_bb, isi_ib, isi_tt, isi_ll, isi_tl, isi_lt, isi_tn, isi_bn, mkL0, mkL1, mkL2, mkL3, mkL4, mkT0, mkT1, mkT2, mkT3, Res.bind_ok, Res.bind_no, Res.bind_ex, Res.lft_some, Res.lft_none, Option.map_some, Option.bind_some, List.set_cons_zero, List.set_cons_succ, List.length_cons, List.length_nil, if_true, if_false, Bool.false_eq_true, ite_true, ite_false, Bool.not_true, Bool.not_false, e0, modO, fdivO, if_pos (DivOk.small (show (0:Int) < 4 by decide) (by decide)), if_pos (show (0 : Int) < 4 by decide), if_pos (show (0 : Int) < 8 by decide), en, eqD_int, decide_eq_false c1, decide_eq_false c2, k0]
end K50
open PySem PySem.W PyProof.Rows
theorem K50.big_mk {K : PySem.W.Frag} {a_BadOpenings a_BadPlan : PySem.Addr} (n_BadOpenings : PySem.W.nsIn K PySem.mainGlobals "BadOpenings" = some (some (.ref a_BadOpenings))) (n_BadPlan : PySem.W.nsIn K PySem.mainGlobals "BadPlan" = some (some (.ref a_BadPlan))) (o_BadOpenings : PySem.W.excIn K a_BadOpenings L2.L3.bmV "ValueError.__new__" = true) (g1_BadOpenings : PySem.W.findIn K (.ref a_BadOpenings) "__getattribute__" = some (some (.builtin "BaseException.__getattribute__"))) (g2_BadOpenings : PySem.W.findIn K (.ref a_BadOpenings) "__getattr__" = some none) (g3_BadOpenings : PySem.W.findIn K (.ref a_BadOpenings) "__class__" = some (some (.builtin "object.__class__"))) (g4_BadOpenings : PySem.W.kitOne K (.ref a_BadOpenings) (.type "BaseException") = some true) (g5_BadOpenings : PySem.W.kitOne K (.ref a_BadOpenings) (.type "object") = some true) (g6_BadOpenings : (PySem.W.clsIn K a_BadOpenings).isSome = true) (o_BadPlan : PySem.W.excIn K a_BadPlan L2.L3.bmV "ValueError.__new__" = true) (g1_BadPlan : PySem.W.findIn K (.ref a_BadPlan) "__getattribute__" = some (some (.builtin "BaseException.__getattribute__"))) (g2_BadPlan : PySem.W.findIn K (.ref a_BadPlan) "__getattr__" = some none) (g3_BadPlan : PySem.W.findIn K (.ref a_BadPlan) "__class__" = some (some (.builtin "object.__class__"))) (g4_BadPlan : PySem.W.kitOne K (.ref a_BadPlan) (.type "BaseException") = some true) (g5_BadPlan : PySem.W.kitOne K (.ref a_BadPlan) (.type "object") = some true) (g6_BadPlan : (PySem.W.clsIn K a_BadPlan).isSome = true) : ∃ a_BadOpenings a_BadPlan : PySem.Addr, (PySem.W.nsIn K PySem.mainGlobals "BadOpenings" = some (some (.ref a_BadOpenings))) ∧ (PySem.W.nsIn K PySem.mainGlobals "BadPlan" = some (some (.ref a_BadPlan))) ∧ (PySem.W.excIn K a_BadOpenings L2.L3.bmV "ValueError.__new__" = true) ∧ (PySem.W.findIn K (.ref a_BadOpenings) "__getattribute__" = some (some (.builtin "BaseException.__getattribute__"))) ∧ (PySem.W.findIn K (.ref a_BadOpenings) "__getattr__" = some none) ∧ (PySem.W.findIn K (.ref a_BadOpenings) "__class__" = some (some (.builtin "object.__class__"))) ∧ (PySem.W.kitOne K (.ref a_BadOpenings) (.type "BaseException") = some true) ∧ (PySem.W.kitOne K (.ref a_BadOpenings) (.type "object") = some true) ∧ ((PySem.W.clsIn K a_BadOpenings).isSome = true) ∧ (PySem.W.excIn K a_BadPlan L2.L3.bmV "ValueError.__new__" = true) ∧ (PySem.W.findIn K (.ref a_BadPlan) "__getattribute__" = some (some (.builtin "BaseException.__getattribute__"))) ∧ (PySem.W.findIn K (.ref a_BadPlan) "__getattr__" = some none) ∧ (PySem.W.findIn K (.ref a_BadPlan) "__class__" = some (some (.builtin "object.__class__"))) ∧ (PySem.W.kitOne K (.ref a_BadPlan) (.type "BaseException") = some true) ∧ (PySem.W.kitOne K (.ref a_BadPlan) (.type "object") = some true) ∧ ((PySem.W.clsIn K a_BadPlan).isSome = true) := ⟨a_BadOpenings, a_BadPlan, n_BadOpenings, n_BadPlan, o_BadOpenings, g1_BadOpenings, g2_BadOpenings, g3_BadOpenings, g4_BadOpenings, g5_BadOpenings, g6_BadOpenings, o_BadPlan, g1_BadPlan, g2_BadPlan, g3_BadPlan, g4_BadPlan, g5_BadPlan, g6_BadPlan⟩
set_option maxRecDepth 100000 in
set_option maxHeartbeats 0 in
theorem PySem.Challenge.cw_ownboxes_k50_plans_written_holds : PySem.Challenge.rw_ownboxes_k50_plans_written.Holds := by
  w_on; o_law; k_head; (case hw => w_witness2)
  k_fill
  refine L2.L3.walk_valX (F := K50.F_law) (k := 18) (l := PySem.Challenge.rw_ownboxes_k50_plans_written) K50.law_true ⟨rfl, by decide, by decide⟩ rfl rfl (fun w h Y => PySem.W.kIn_of Y) (fun w => by rfl) ?F
  case F =>
    intro w mg fa h KX G hmg
    letI cn : L2.L3.CN := L2.L3.cnOf (L2.KOf KX)
    have D_made_openings : ∃ f fd, L2.Has (L2.KOf KX) mg "made_openings" K50.s_made_openings f fd ["people", "numbers"] := by
      dsimp only [L2.KOf]
      refine' ⟨_, _, L2.has_mk KX G ?a ?l ?c ?k ?b⟩
      (case a => k_is); (case l => k_is); (case c => k_is); (case k => k_is)
      (case b => intro _ _ _ _ _ _; refine L2.L3.ls2 ?_; exact fun _ _ => rfl)
    have D_openings_of_a_plan : ∃ f fd, L2.Has (L2.KOf KX) mg "openings_of_a_plan" K50.s_openings_of_a_plan f fd ["openings"] := by
      dsimp only [L2.KOf]
      refine' ⟨_, _, L2.has_mk KX G ?a ?l ?c ?k ?b⟩
      (case a => k_is); (case l => k_is); (case c => k_is); (case k => k_is)
      (case b => intro _ _ _ _ _ _; refine L2.L3.ls1 ?_; exact fun _ => rfl)
    have D_made_tree : ∃ f fd, L2.Has (L2.KOf KX) mg "made_tree" K50.s_made_tree f fd ["tree", "people", "left", "boxes", "names"] := by
      dsimp only [L2.KOf]
      refine' ⟨_, _, L2.has_mk KX G ?a ?l ?c ?k ?b⟩
      (case a => k_is); (case l => k_is); (case c => k_is); (case k => k_is)
      (case b => intro _ _ _ _ _ _; refine L2.L3.ls5 ?_; exact fun _ _ _ _ _ => rfl)
    have D_made_plan : ∃ f fd, L2.Has (L2.KOf KX) mg "made_plan" K50.s_made_plan f fd ["openings", "trees"] := by
      dsimp only [L2.KOf]
      refine' ⟨_, _, L2.has_mk KX G ?a ?l ?c ?k ?b⟩
      (case a => k_is); (case l => k_is); (case c => k_is); (case k => k_is)
      (case b => intro _ _ _ _ _ _; refine L2.L3.ls2 ?_; exact fun _ _ => rfl)
    have D_numbers_text : ∃ f fd, L2.Has (L2.KOf KX) mg "numbers_text" K50.s_numbers_text f fd ["numbers"] := by
      dsimp only [L2.KOf]
      refine' ⟨_, _, L2.has_mk KX G ?a ?l ?c ?k ?b⟩
      (case a => k_is); (case l => k_is); (case c => k_is); (case k => k_is)
      (case b => intro _ _ _ _ _ _; refine L2.L3.ls1 ?_; exact fun _ => rfl)
    have D_read_number : ∃ f fd, L2.Has (L2.KOf KX) mg "read_number" K50.s_read_number f fd ["word", "row"] := by
      dsimp only [L2.KOf]
      refine' ⟨_, _, L2.has_mk KX G ?a ?l ?c ?k ?b⟩
      (case a => k_is); (case l => k_is); (case c => k_is); (case k => k_is)
      (case b => intro _ _ _ _ _ _; refine L2.L3.ls2 ?_; exact fun _ _ => rfl)
    have D_read_numbers : ∃ f fd, L2.Has (L2.KOf KX) mg "read_numbers" K50.s_read_numbers f fd ["words", "row"] := by
      dsimp only [L2.KOf]
      refine' ⟨_, _, L2.has_mk KX G ?a ?l ?c ?k ?b⟩
      (case a => k_is); (case l => k_is); (case c => k_is); (case k => k_is)
      (case b => intro _ _ _ _ _ _; refine L2.L3.ls2 ?_; exact fun _ _ => rfl)
    have D_tree_text : ∃ f fd, L2.Has (L2.KOf KX) mg "tree_text" K50.s_tree_text f fd ["tree"] := by
      dsimp only [L2.KOf]
      refine' ⟨_, _, L2.has_mk KX G ?a ?l ?c ?k ?b⟩
      (case a => k_is); (case l => k_is); (case c => k_is); (case k => k_is)
      (case b => intro _ _ _ _ _ _; refine L2.L3.ls1 ?_; exact fun _ => rfl)
    have D_plan_text : ∃ f fd, L2.Has (L2.KOf KX) mg "plan_text" K50.s_plan_text f fd ["openings", "plan"] := by
      dsimp only [L2.KOf]
      refine' ⟨_, _, L2.has_mk KX G ?a ?l ?c ?k ?b⟩
      (case a => k_is); (case l => k_is); (case c => k_is); (case k => k_is)
      (case b => intro _ _ _ _ _ _; refine L2.L3.ls2 ?_; exact fun _ _ => rfl)
    have D_read_openings : ∃ f fd, L2.Has (L2.KOf KX) mg "read_openings" K50.s_read_openings f fd ["text"] := by
      dsimp only [L2.KOf]
      refine' ⟨_, _, L2.has_mk KX G ?a ?l ?c ?k ?b⟩
      (case a => k_is); (case l => k_is); (case c => k_is); (case k => k_is)
      (case b => intro _ _ _ _ _ _; refine L2.L3.ls1 ?_; exact fun _ => rfl)
    have D_behind_sign : ∃ f fd, L2.Has (L2.KOf KX) mg "behind_sign" K50.s_behind_sign f fd ["text", "sign", "row"] := by
      dsimp only [L2.KOf]
      refine' ⟨_, _, L2.has_mk KX G ?a ?l ?c ?k ?b⟩
      (case a => k_is); (case l => k_is); (case c => k_is); (case k => k_is)
      (case b => intro _ _ _ _ _ _; refine L2.L3.ls3 ?_; exact fun _ _ _ => rfl)
    have D_read_tree : ∃ f fd, L2.Has (L2.KOf KX) mg "read_tree" K50.s_read_tree f fd ["text", "people", "row"] := by
      dsimp only [L2.KOf]
      refine' ⟨_, _, L2.has_mk KX G ?a ?l ?c ?k ?b⟩
      (case a => k_is); (case l => k_is); (case c => k_is); (case k => k_is)
      (case b => intro _ _ _ _ _ _; refine L2.L3.ls3 ?_; exact fun _ _ _ => rfl)
    have D_read_person : ∃ f fd, L2.Has (L2.KOf KX) mg "read_person" K50.s_read_person f fd ["text", "person", "people"] := by
      dsimp only [L2.KOf]
      refine' ⟨_, _, L2.has_mk KX G ?a ?l ?c ?k ?b⟩
      (case a => k_is); (case l => k_is); (case c => k_is); (case k => k_is)
      (case b => intro _ _ _ _ _ _; refine L2.L3.ls3 ?_; exact fun _ _ _ => rfl)
    have D_read_plan : ∃ f fd, L2.Has (L2.KOf KX) mg "read_plan" K50.s_read_plan f fd ["text"] := by
      dsimp only [L2.KOf]
      refine' ⟨_, _, L2.has_mk KX G ?a ?l ?c ?k ?b⟩
      (case a => k_is); (case l => k_is); (case c => k_is); (case k => k_is)
      (case b => intro _ _ _ _ _ _; refine L2.L3.ls1 ?_; exact fun _ => rfl)
    have D_l_cell_at : ∃ f fd, L2.Has (L2.KOf KX) mg "_law_cell_at" K50.s_l_cell_at f fd ["script", "k"] := by
      dsimp only [L2.KOf]
      refine' ⟨_, _, L2.has_mk KX G ?a ?l ?c ?k ?b⟩
      (case a => k_is); (case l => k_is); (case c => k_is); (case k => k_is)
      (case b => intro _ _ _ _ _ _; refine L2.L3.ls2 ?_; exact fun _ _ => rfl)
    have D_l_whole : ∃ f fd, L2.Has (L2.KOf KX) mg "_law_whole" K50.s_l_whole f fd ["found"] := by
      dsimp only [L2.KOf]
      refine' ⟨_, _, L2.has_mk KX G ?a ?l ?c ?k ?b⟩
      (case a => k_is); (case l => k_is); (case c => k_is); (case k => k_is)
      (case b => intro _ _ _ _ _ _; refine L2.L3.ls1 ?_; exact fun _ => rfl)
    have D_l_all : ∃ f fd, L2.Has (L2.KOf KX) mg "_law_all" K50.s_l_all f fd ["script"] := by
      dsimp only [L2.KOf]
      refine' ⟨_, _, L2.has_mk KX G ?a ?l ?c ?k ?b⟩
      (case a => k_is); (case l => k_is); (case c => k_is); (case k => k_is)
      (case b => intro _ _ _ _ _ _; refine L2.L3.ls1 ?_; exact fun _ => rfl)
    have D_l_taken : ∃ f fd, L2.Has (L2.KOf KX) mg "_law_taken" K50.s_l_taken f fd ["digits", "most"] := by
      dsimp only [L2.KOf]
      refine' ⟨_, _, L2.has_mk KX G ?a ?l ?c ?k ?b⟩
      (case a => k_is); (case l => k_is); (case c => k_is); (case k => k_is)
      (case b => intro _ _ _ _ _ _; refine L2.L3.ls2 ?_; exact fun _ _ => rfl)
    have D_l_tree : ∃ f fd, L2.Has (L2.KOf KX) mg "_law_tree" K50.s_l_tree f fd ["digits", "person", "people", "way", "left"] := by
      dsimp only [L2.KOf]
      refine' ⟨_, _, L2.has_mk KX G ?a ?l ?c ?k ?b⟩
      (case a => k_is); (case l => k_is); (case c => k_is); (case k => k_is)
      (case b => intro _ _ _ _ _ _; refine L2.L3.ls5 ?_; exact fun _ _ _ _ _ => rfl)
    have D_l_plan : ∃ f fd, L2.Has (L2.KOf KX) mg "_law_plan" K50.s_l_plan f fd ["cell", "people", "most"] := by
      dsimp only [L2.KOf]
      refine' ⟨_, _, L2.has_mk KX G ?a ?l ?c ?k ?b⟩
      (case a => k_is); (case l => k_is); (case c => k_is); (case k => k_is)
      (case b => intro _ _ _ _ _ _; refine L2.L3.ls3 ?_; exact fun _ _ _ => rfl)
    have D_l_tree_text : ∃ f fd, L2.Has (L2.KOf KX) mg "_law_tree_text" K50.s_l_tree_text f fd ["tree"] := by
      dsimp only [L2.KOf]
      refine' ⟨_, _, L2.has_mk KX G ?a ?l ?c ?k ?b⟩
      (case a => k_is); (case l => k_is); (case c => k_is); (case k => k_is)
      (case b => intro _ _ _ _ _ _; refine L2.L3.ls1 ?_; exact fun _ => rfl)
    have D_l_plan_rows : ∃ f fd, L2.Has (L2.KOf KX) mg "_law_plan_rows" K50.s_l_plan_rows f fd ["openings", "plan"] := by
      dsimp only [L2.KOf]
      refine' ⟨_, _, L2.has_mk KX G ?a ?l ?c ?k ?b⟩
      (case a => k_is); (case l => k_is); (case c => k_is); (case k => k_is)
      (case b => intro _ _ _ _ _ _; refine L2.L3.ls2 ?_; exact fun _ _ => rfl)
    have D_l_same : ∃ f fd, L2.Has (L2.KOf KX) mg "_law_same" K50.s_l_same f fd ["found", "due"] := by
      dsimp only [L2.KOf]
      refine' ⟨_, _, L2.has_mk KX G ?a ?l ?c ?k ?b⟩
      (case a => k_is); (case l => k_is); (case c => k_is); (case k => k_is)
      (case b => intro _ _ _ _ _ _; refine L2.L3.ls2 ?_; exact fun _ _ => rfl)
    have D_law : ∃ f fd, L2.Has (L2.KOf KX) mg "law" K50.s_law f fd ["script"] ∧ (∀ (s : Shared) (u : Value), BindsTo s fd ⟨[u], []⟩ [("script", u)]) := by
      dsimp only [L2.KOf]
      refine' ⟨_, _, L2.has_mk KX G ?a ?l ?c ?k ?b, ?d⟩
      (case a => k_is); (case l => k_is); (case c => k_is); (case k => k_is)
      (case b => intro _ _ _ _ _ _; refine L2.L3.ls1 ?_; exact fun _ => rfl)
      (case d => exact fun s u => .of_eq rfl)
    have BIG : ∃ a_BadOpenings a_BadPlan : PySem.Addr, (PySem.W.nsIn (L2.KOf KX) PySem.mainGlobals "BadOpenings" = some (some (.ref a_BadOpenings))) ∧ (PySem.W.nsIn (L2.KOf KX) PySem.mainGlobals "BadPlan" = some (some (.ref a_BadPlan))) ∧ (PySem.W.excIn (L2.KOf KX) a_BadOpenings L2.L3.bmV "ValueError.__new__" = true) ∧ (PySem.W.findIn (L2.KOf KX) (.ref a_BadOpenings) "__getattribute__" = some (some (.builtin "BaseException.__getattribute__"))) ∧ (PySem.W.findIn (L2.KOf KX) (.ref a_BadOpenings) "__getattr__" = some none) ∧ (PySem.W.findIn (L2.KOf KX) (.ref a_BadOpenings) "__class__" = some (some (.builtin "object.__class__"))) ∧ (PySem.W.kitOne (L2.KOf KX) (.ref a_BadOpenings) (.type "BaseException") = some true) ∧ (PySem.W.kitOne (L2.KOf KX) (.ref a_BadOpenings) (.type "object") = some true) ∧ ((PySem.W.clsIn (L2.KOf KX) a_BadOpenings).isSome = true) ∧ (PySem.W.excIn (L2.KOf KX) a_BadPlan L2.L3.bmV "ValueError.__new__" = true) ∧ (PySem.W.findIn (L2.KOf KX) (.ref a_BadPlan) "__getattribute__" = some (some (.builtin "BaseException.__getattribute__"))) ∧ (PySem.W.findIn (L2.KOf KX) (.ref a_BadPlan) "__getattr__" = some none) ∧ (PySem.W.findIn (L2.KOf KX) (.ref a_BadPlan) "__class__" = some (some (.builtin "object.__class__"))) ∧ (PySem.W.kitOne (L2.KOf KX) (.ref a_BadPlan) (.type "BaseException") = some true) ∧ (PySem.W.kitOne (L2.KOf KX) (.ref a_BadPlan) (.type "object") = some true) ∧ ((PySem.W.clsIn (L2.KOf KX) a_BadPlan).isSome = true) := by
      dsimp only [L2.KOf]
      refine' K50.big_mk ?q_n_BadOpenings ?q_n_BadPlan ?q_o_BadOpenings ?q_g1_BadOpenings ?q_g2_BadOpenings ?q_g3_BadOpenings ?q_g4_BadOpenings ?q_g5_BadOpenings ?q_g6_BadOpenings ?q_o_BadPlan ?q_g1_BadPlan ?q_g2_BadPlan ?q_g3_BadPlan ?q_g4_BadPlan ?q_g5_BadPlan ?q_g6_BadPlan
      (case q_n_BadOpenings => k_is)
      (case q_n_BadPlan => k_is)
      (case q_o_BadOpenings => k_exc)
      (case q_g1_BadOpenings => k_is)
      (case q_g2_BadOpenings => k_is)
      (case q_g3_BadOpenings => k_is)
      (case q_g4_BadOpenings => kit_is)
      (case q_g5_BadOpenings => kit_is)
      (case q_g6_BadOpenings => first | k_is | rfl | decide +kernel)
      (case q_o_BadPlan => k_exc)
      (case q_g1_BadPlan => k_is)
      (case q_g2_BadPlan => k_is)
      (case q_g3_BadPlan => k_is)
      (case q_g4_BadPlan => kit_is)
      (case q_g5_BadPlan => kit_is)
      (case q_g6_BadPlan => first | k_is | rfl | decide +kernel)
    obtain ⟨a_BadOpenings, a_BadPlan, n_BadOpenings, n_BadPlan, o_BadOpenings, g1_BadOpenings, g2_BadOpenings, g3_BadOpenings, g4_BadOpenings, g5_BadOpenings, g6_BadOpenings, o_BadPlan, g1_BadPlan, g2_BadPlan, g3_BadPlan, g4_BadPlan, g5_BadPlan, g6_BadPlan⟩ := BIG
    have e_BadOpenings : L2.L3.CN.ad "BadOpenings" = a_BadOpenings := L2.L3.cn_ad n_BadOpenings
    have e_BadPlan : L2.L3.CN.ad "BadPlan" = a_BadPlan := L2.L3.cn_ad n_BadPlan
    have k_BadOpenings : PySem.ExK (L2.KOf KX) (L2.L3.CN.ad "BadOpenings") := by rw [e_BadOpenings]; exact ⟨g1_BadOpenings, g2_BadOpenings, g3_BadOpenings, L2.L3.subT_of g4_BadOpenings, L2.L3.subT_of g5_BadOpenings, g6_BadOpenings⟩
    have k_BadPlan : PySem.ExK (L2.KOf KX) (L2.L3.CN.ad "BadPlan") := by rw [e_BadPlan]; exact ⟨g1_BadPlan, g2_BadPlan, g3_BadPlan, L2.L3.subT_of g4_BadPlan, L2.L3.subT_of g5_BadPlan, g6_BadPlan⟩
    have T : K50.Txt (L2.KOf KX) mg := by
      dsimp only [L2.KOf]
      refine' ⟨PySem.W.mg_none_of KX G ?z0, PySem.W.mg_none_of KX G ?z1, PySem.W.mg_none_of KX G ?z2, PySem.W.mg_none_of KX G ?z3, PySem.W.mg_none_of KX G ?z4, PySem.W.mg_none_of KX G ?z5, PySem.W.mg_none_of KX G ?z6, PySem.W.mg_none_of KX G ?z7, PySem.W.mg_none_of KX G ?z8, PySem.W.mg_none_of KX G ?z9, PySem.W.mg_none_of KX G ?z10, ⟨_, PySem.W.mg_of KX G ?y0, ?x0⟩, ⟨_, PySem.W.mg_of KX G ?y1, ?x1⟩, ⟨_, PySem.W.mg_of KX G ?y2, ?x2⟩, ⟨?k0_0, ?k0_1, ?k0_2, ?k0_3, ?k0_4, ?k0_5⟩, ⟨?k1_0, ?k1_1, ?k1_2, ?k1_3, ?k1_4, ?k1_5⟩, ⟨?k2_0, ?k2_1, ?k2_2, ?k2_3, ?k2_4, ?k2_5⟩, ⟨?k3_0, ?k3_1, ?k3_2, ?k3_3, ?k3_4, ?k3_5⟩, D_made_openings, D_openings_of_a_plan, D_made_tree, D_made_plan, D_numbers_text, D_read_number, D_read_numbers, D_tree_text, D_plan_text, D_read_openings, D_behind_sign, D_read_tree, D_read_person, D_read_plan, D_l_cell_at, D_l_whole, D_l_all, D_l_taken, D_l_tree, D_l_plan, D_l_tree_text, D_l_plan_rows, D_l_same, (let ⟨f, fd, h, _⟩ := D_law; ⟨f, fd, h⟩), ?xa0, ?xa1, ?xb0, ?xb1⟩
      (case z0 => k_is)
      (case z1 => k_is)
      (case z2 => k_is)
      (case z3 => k_is)
      (case z4 => k_is)
      (case z5 => k_is)
      (case z6 => k_is)
      (case z7 => k_is)
      (case z8 => k_is)
      (case z9 => k_is)
      (case z10 => k_is)
      (case y0 => k_is); (case x0 => exact ⟨_, rfl⟩)
      (case y1 => k_is); (case x1 => exact ⟨_, rfl⟩)
      (case y2 => k_is); (case x2 => exact ⟨_, rfl⟩)
      (case k0_0 => first | kit_is | rfl)
      (case k0_1 => first | kit_is | rfl)
      (case k0_2 => first | kit_is | rfl)
      (case k0_3 => first | kit_is | rfl)
      (case k0_4 => first | kit_is | rfl)
      (case k0_5 => first | kit_is | rfl)
      (case k1_0 => first | kit_is | rfl)
      (case k1_1 => first | kit_is | rfl)
      (case k1_2 => first | kit_is | rfl)
      (case k1_3 => first | kit_is | rfl)
      (case k1_4 => first | kit_is | rfl)
      (case k1_5 => first | kit_is | rfl)
      (case k2_0 => first | kit_is | rfl)
      (case k2_1 => first | kit_is | rfl)
      (case k2_2 => first | kit_is | rfl)
      (case k2_3 => first | kit_is | rfl)
      (case k2_4 => first | kit_is | rfl)
      (case k2_5 => first | kit_is | rfl)
      (case k3_0 => first | kit_is | rfl)
      (case k3_1 => first | kit_is | rfl)
      (case k3_2 => first | kit_is | rfl)
      (case k3_3 => first | kit_is | rfl)
      (case k3_4 => first | kit_is | rfl)
      (case k3_5 => first | kit_is | rfl)
      (case xa0 => rw [e_BadOpenings]; exact PySem.W.mg_of KX G n_BadOpenings)
      (case xa1 => rw [e_BadPlan]; exact PySem.W.mg_of KX G n_BadPlan)
      (case xb0 => unfold L2.L3.OwnX; rw [e_BadOpenings]; exact o_BadOpenings)
      (case xb1 => unfold L2.L3.OwnX; rw [e_BadPlan]; exact o_BadPlan)
    obtain ⟨fl, fdl, HL, HB⟩ := D_law
    have e0 := hmg.symm.trans HL.m
    cases e0
    exact ⟨fdl, HB, fun base kb nb => K50.ok_law T HL⟩
#print axioms PySem.Challenge.cw_ownboxes_k50_plans_written_holds