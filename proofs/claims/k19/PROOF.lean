import PyProof.Rows.All
import HandS.ForMost
import HandS.ForExc
import HandS.Codes
import HandS.Conv
import HandS.IsInst
import HandS.TupLe
import HandS.TupAny
import HandS.TupMul
import HandS.Defaults
import KE.LtData
import HandS.Deep
import HandS.Ends
import KE.DatumOrd
import HandS.Rev
import HandS.RaiseMore
import HandS.Text
import HandS.Zip
import HandS.NestedK
import HandS.ExcInit
import HandS.ExcField
import HandS.TryMany
import HandS.TryOnly
import HandS.FStr
import KE.KExcSuper
import PyProof.P3Eq
import HandS.Iter
import HandS.Zip0
import PyProof.EnumMake
import KE.DatumMore
import HandS.Dict
import KE.KDictDisplayH
import KE.KRevSl
import PySem.Challenge.RW_normalwords_k19_first_and_second_led
set_option Elab.async false
set_option linter.all false
set_option maxRecDepth 100000
set_option maxHeartbeats 4000000
/-! DLa: a deterministic reading over the hand layer. PV values, a store of cells; how they stand in the abstract heap. -/
namespace DL
open PySem PySem.Spec PyProof.Rows L2

/-- values: a tuple by its items, a mutable object by its number in the store -/
inductive PV where
  | non | bl (b : Bool) | int (i : Int) | str (x : Str) | tup (xs : List PV) | cell (n : Nat) | con (v : V)
inductive Cell where
  | lst (xs : List PV)
  | rls (xs : List PV)
  | ins (C : Str) (fs : List (Str × PV))
  | obj
  | xdc (fs : List (Str × PV))
  | fns (ns : List Str)
  | dK (kvs : List (Key × PV))
  | dT (kvs : List (List Key × PV))
abbrev Store := List Cell
structure Exn where
  cls : Str
  fs : List (Str × PV)
inductive Out (β : Type) where
  | ok (b : β) (S : Store)
  | ex (c : Exn) (S : Store)
  | bad
abbrev M (β : Type) := Store → Out β
def Out.bind {β γ : Type} (o : Out β) (k : β → M γ) : Out γ := match o with
  | .ok b S => k b S
  | .ex c S => .ex c S
  | .bad => .bad
def M.bind {β γ : Type} (m : M β) (k : β → M γ) : M γ := fun S => (m S).bind k
def M.ret {β : Type} (b : β) : M β := fun S => .ok b S
def M.bad {β : Type} : M β := fun _ => .bad
instance : Monad M where
  pure := M.ret
  bind := M.bind
abbrev PEnv := List (Option PV)

/-- a tuple that is tracked, or stands in the written part -/
def ST (K : PySem.W.Frag) (H : Hp) (a : Addr) (vs : List V) : Prop := H a = some (.tup vs) ∨
  ∃ (o : Obj) (its : Array Value) (n : Nat), K.lookup a = some o ∧ o.cls = .type "tuple" ∧ o.data = .seq its n ∧ its.size ≤ sizeLine ∧ Vals vs its.toList
theorem ST.sq {K : PySem.W.Frag} {H : Hp} {a : Addr} {vs : List V} (h : ST K H a vs) : SqT K H a vs := by
  rcases h with h | h
  · exact .inl (.inl h)
  · exact .inr h
mutual
inductive Rep (K : PySem.W.Frag) (α : List Addr) (H : Hp) : PV → V → Prop
  | non : Rep K α H .non .non
  | bl (b : Bool) : Rep K α H (.bl b) (.bl b)
  | int (i : Int) : Rep K α H (.int i) (.int i)
  | str (x : Str) : Rep K α H (.str x) (.str x)
  | tup {a : Addr} {vs : List V} {xs : List PV} : ST K H a vs → Reps K α H xs vs → Rep K α H (.tup xs) (.ref a)
  | cell {n : Nat} {a : Addr} : α[n]? = some a → Rep K α H (.cell n) (.ref a)
  | con (v : V) : Rep K α H (.con v) v
inductive Reps (K : PySem.W.Frag) (α : List Addr) (H : Hp) : List PV → List V → Prop
  | nil : Reps K α H [] []
  | cons {x : PV} {v : V} {xs : List PV} {vs : List V} : Rep K α H x v → Reps K α H xs vs → Reps K α H (x :: xs) (v :: vs)
end

/-- where the class of that name stands -/
def clsOf (K : PySem.W.Frag) (C : Str) : Option Addr := match PySem.W.nsIn K mainGlobals C with
  | some (some (.ref a)) => some a
  | _ => none
/-- a list of what stands under these names -/
def fnsV (K : PySem.W.Frag) (ns : List Str) : List V := ns.map fun n => match clsOf K n with
  | some a => .ref a
  | none => .non
/-- tuples, locked objects and the dicts of exceptions stay -/
structure Grow (H H' : Hp) : Prop where
  tup : ∀ a xs, H a = some (.tup xs) → H' a = some (.tup xs)
  frz : ∀ a o u, H a = some (.frz o u) → H' a = some (.frz o u)
  xd : ∀ a fs, H a = some (.xd fs) → H' a = some (.xd fs)
theorem Grow.refl (H : Hp) : Grow H H := ⟨fun _ _ h => h, fun _ _ _ h => h, fun _ _ h => h⟩
theorem Grow.trans {H H1 H2 : Hp} (a : Grow H H1) (b : Grow H1 H2) : Grow H H2 := ⟨fun _ _ h => b.tup _ _ (a.tup _ _ h), fun _ _ _ h => b.frz _ _ _ (a.frz _ _ _ h), fun _ _ h => b.xd _ _ (a.xd _ _ h)⟩
theorem Grow.new {H : Hp} {p : Addr} {o : HO} (h : H p = none) : Grow H (upd H p o) :=
  ⟨fun a xs e => by rw [upd_ne (ne_of_none e h)]; exact e, fun a o u e => by rw [upd_ne (ne_of_none e h)]; exact e, fun a fs e => by rw [upd_ne (ne_of_none e h)]; exact e⟩
theorem Grow.sT {K : PySem.W.Frag} {H H' : Hp} (g : Grow H H') {a : Addr} {vs : List V} (h : ST K H a vs) : ST K H' a vs := by
  rcases h with h | h
  · exact .inl (g.tup _ _ h)
  · exact .inr h
def Le (α α' : List Addr) : Prop := ∀ (n : Nat) (a : Addr), α[n]? = some a → α'[n]? = some a
theorem Le.refl (α : List Addr) : Le α α := fun _ _ h => h
theorem Le.trans {α β γ : List Addr} (a : Le α β) (b : Le β γ) : Le α γ := fun n x h => b n x (a n x h)
theorem Le.snoc (α : List Addr) (p : Addr) : Le α (α ++ [p]) := fun n a h => by
  have hl := (List.getElem?_eq_some_iff.mp h).1
  rw [List.getElem?_append_left hl]; exact h

section
variable {K : PySem.W.Frag} {α α' : List Addr} {H H' : Hp}
mutual
theorem Rep.mono (g : Grow H H') (l : Le α α') : ∀ (x : PV) (v : V), Rep K α H x v → Rep K α' H' x v
  | .non, _, h => by cases h; exact .non
  | .bl b, _, h => by cases h; exact .bl b
  | .int i, _, h => by cases h; exact .int i
  | .str x, _, h => by cases h; exact .str x
  | .tup xs, _, h => by
    cases h with
    | tup hs hr => exact .tup (g.sT hs) (Reps.mono g l xs _ hr)
  | .cell n, _, h => by
    cases h with
    | cell e => exact .cell (l _ _ e)
  | .con u, _, h => by cases h; exact .con u
theorem Reps.mono (g : Grow H H') (l : Le α α') : ∀ (xs : List PV) (vs : List V), Reps K α H xs vs → Reps K α' H' xs vs
  | [], _, h => by cases h; exact .nil
  | x :: xs, _, h => by
    cases h with
    | cons h1 h2 => exact .cons (Rep.mono g l x _ h1) (Reps.mono g l xs _ h2)
end
theorem Reps.length : ∀ {xs : List PV} {vs : List V}, Reps K α H xs vs → xs.length = vs.length
  | _, _, .nil => rfl
  | _, _, .cons _ h => by rw [List.length_cons, List.length_cons, h.length]
theorem Reps.get : ∀ {xs : List PV} {vs : List V}, Reps K α H xs vs → ∀ {i : Nat} {x : PV}, xs[i]? = some x → ∃ v, vs[i]? = some v ∧ Rep K α H x v
  | _, _, .nil, i, x, e => by simp at e
  | _, _, .cons h t, 0, x, e => by simp at e; subst e; exact ⟨_, rfl, h⟩
  | _, _, .cons h t, i + 1, x, e => by simpa using t.get (i := i) (x := x) (by simpa using e)
theorem Reps.get' : ∀ {xs : List PV} {vs : List V}, Reps K α H xs vs → ∀ {i : Nat} {v : V}, vs[i]? = some v → ∃ x, xs[i]? = some x ∧ Rep K α H x v
  | _, _, .nil, i, x, e => by simp at e
  | _, _, .cons h t, 0, x, e => by simp at e; subst e; exact ⟨_, rfl, h⟩
  | _, _, .cons h t, i + 1, x, e => by simpa using t.get' (i := i) (v := x) (by simpa using e)
theorem Reps.append : ∀ {xs ys : List PV} {vs ws : List V}, Reps K α H xs vs → Reps K α H ys ws → Reps K α H (xs ++ ys) (vs ++ ws)
  | _, _, _, _, .nil, h => h
  | _, _, _, _, .cons a t, h => .cons a (t.append h)
theorem Reps.take : ∀ {xs : List PV} {vs : List V} (n : Nat), Reps K α H xs vs → Reps K α H (xs.take n) (vs.take n)
  | _, _, 0, _ => .nil
  | _, _, _ + 1, .nil => .nil
  | _, _, n + 1, .cons a t => .cons a (t.take n)
theorem Reps.drop : ∀ {xs : List PV} {vs : List V} (n : Nat), Reps K α H xs vs → Reps K α H (xs.drop n) (vs.drop n)
  | _, _, 0, h => h
  | _, _, _ + 1, .nil => .nil
  | _, _, n + 1, .cons a t => t.drop n
theorem Reps.set {x : PV} {v : V} (r : Rep K α H x v) : ∀ {xs : List PV} {vs : List V} (n : Nat), Reps K α H xs vs → Reps K α H (xs.set n x) (vs.set n v)
  | _, _, _, .nil => .nil
  | _, _, 0, .cons _ t => .cons r t
  | _, _, n + 1, .cons a t => .cons a (t.set r n)
theorem Reps.ints : ∀ (ns : List Int), Reps K α H (ns.map PV.int) (ns.map V.int)
  | [] => .nil
  | n :: ns => .cons (.int n) (Reps.ints ns)
theorem Reps.dropLast : ∀ {xs : List PV} {vs : List V}, Reps K α H xs vs → Reps K α H xs.dropLast vs.dropLast := fun {xs vs} h => by
  rw [List.dropLast_eq_take, List.dropLast_eq_take, h.length]; exact h.take _
theorem Reps.reverse : ∀ {xs : List PV} {vs : List V}, Reps K α H xs vs → Reps K α H xs.reverse vs.reverse
  | _, _, .nil => .nil
  | _, _, .cons a t => by rw [List.reverse_cons, List.reverse_cons]; exact t.reverse.append (.cons a .nil)
end

/-! ### fields -/
def RepF (K : PySem.W.Frag) (α : List Addr) (H : Hp) : List (Str × PV) → List (Str × V) → Prop
  | [], fs => fs = []
  | (n, d) :: r, fs => ∃ v t, fs = (n, v) :: t ∧ Rep K α H d v ∧ RepF K α H r t
theorem RepF.mono {K : PySem.W.Frag} {α α' : List Addr} {H H' : Hp} (g : Grow H H') (l : Le α α') : ∀ {fs : List (Str × PV)} {gs : List (Str × V)}, RepF K α H fs gs → RepF K α' H' fs gs
  | [], _, h => h
  | (n, d) :: r, _, ⟨v, t, e, h, h2⟩ => ⟨v, t, e, h.mono g l, RepF.mono g l h2⟩
theorem RepF.look {K : PySem.W.Frag} {α : List Addr} {H : Hp} {f : Str} {d : PV} : ∀ {fs : List (Str × PV)} {gs : List (Str × V)}, RepF K α H fs gs → fs.lookup f = some d → ∃ v, gs.lookup f = some v ∧ Rep K α H d v
  | [], _, _, e => by simp at e
  | (n, x) :: r, _, ⟨v, t, e, h, h2⟩, q => by
    subst e
    rw [List.lookup_cons] at q ⊢
    cases z : f == n with
    | true => rw [z] at q; cases q; exact ⟨v, rfl, h⟩
    | false => rw [z] at q; exact h2.look q
theorem RepF.nolook {K : PySem.W.Frag} {α : List Addr} {H : Hp} {f : Str} : ∀ {fs : List (Str × PV)} {gs : List (Str × V)}, RepF K α H fs gs → fs.lookup f = none → gs.lookup f = none
  | [], _, h, _ => by cases h; rfl
  | (n, x) :: r, _, ⟨v, t, e, h, h2⟩, q => by
    subst e
    rw [List.lookup_cons] at q ⊢
    cases z : f == n with
    | true => rw [z] at q; cases q
    | false => rw [z] at q; exact h2.nolook q
theorem RepF.length {K : PySem.W.Frag} {α : List Addr} {H : Hp} : ∀ {fs : List (Str × PV)} {gs : List (Str × V)}, RepF K α H fs gs → fs.length = gs.length
  | [], _, h => by cases h; rfl
  | (n, x) :: r, _, ⟨v, t, e, h, h2⟩ => by subst e; rw [List.length_cons, List.length_cons, h2.length]

/-! ### tables -/
def RepD {κ : Type} (K : PySem.W.Frag) (α : List Addr) (H : Hp) : List (κ × PV) → List (κ × V) → Prop
  | [], ds => ds = []
  | (k, d) :: r, ds => ∃ v t, ds = (k, v) :: t ∧ Rep K α H d v ∧ RepD K α H r t
theorem RepD.mono {κ : Type} {K : PySem.W.Frag} {α α' : List Addr} {H H' : Hp} (g : Grow H H') (l : Le α α') : ∀ {fs : List (κ × PV)} {gs : List (κ × V)}, RepD K α H fs gs → RepD K α' H' fs gs
  | [], _, h => h
  | (n, d) :: r, _, ⟨v, t, e, h, h2⟩ => ⟨v, t, e, h.mono g l, RepD.mono g l h2⟩
theorem RepD.length {κ : Type} {K : PySem.W.Frag} {α : List Addr} {H : Hp} : ∀ {fs : List (κ × PV)} {gs : List (κ × V)}, RepD K α H fs gs → fs.length = gs.length
  | [], _, h => by cases h; rfl
  | (n, x) :: r, _, ⟨v, t, e, h, h2⟩ => by subst e; rw [List.length_cons, List.length_cons, h2.length]
/-! ### the store in the heap -/
def Cell.mut : Cell → Bool
  | .rls _ => false
  | .obj => false
  | .xdc _ => false
  | _ => true
def CellOk (K : PySem.W.Frag) (α : List Addr) (H : Hp) (a : Addr) : Cell → Prop
  | .lst xs => ∃ vs, H a = some (.lst vs) ∧ Reps K α H xs vs
  | .rls xs => ∃ vs, ((∃ o, H a = some (.frz o (.lst vs))) ∨ ∃ (o : Obj) (its : Array Value) (n : Nat), K.lookup a = some o ∧ o.cls = .type "list" ∧ o.dict = none ∧ o.data = .seq its n ∧ its.size ≤ sizeLine ∧ Vals vs its.toList) ∧ Reps K α H xs vs
  | .ins C fs => ∃ A dx gs, clsOf K C = some A ∧ H a = some (.ins A dx gs) ∧ RepF K α H fs gs
  | .obj => True
  | .xdc fs => ∃ gs, H a = some (.xd gs) ∧ RepF K α H fs gs
  | .fns ns => H a = some (.lst (fnsV K ns))
  | .dK kvs => ∃ ds, H a = some (.dK ds) ∧ RepD K α H kvs ds
  | .dT kvs => ∃ ds, H a = some (.dT ds) ∧ RepD K α H kvs ds
structure StoreOk (K : PySem.W.Frag) (α : List Addr) (S : Store) (H : Hp) : Prop where
  len : α.length = S.length
  inj : ∀ (i j : Nat) (a : Addr) (c d : Cell), α[i]? = some a → α[j]? = some a → S[i]? = some c → S[j]? = some d → c.mut = true → d.mut = true → i = j
  ok : ∀ (i : Nat) (a : Addr) (c : Cell), α[i]? = some a → S[i]? = some c → CellOk K α H a c
theorem CellOk.there {K : PySem.W.Frag} {α : List Addr} {H : Hp} {a : Addr} {c : Cell} (h : CellOk K α H a c) (m : c.mut = true) : H a ≠ none := by
  cases c with
  | lst xs => obtain ⟨vs, e, _⟩ := h; rw [e]; simp
  | rls xs => cases m
  | ins C fs => obtain ⟨_, dx, gs, _, e, _⟩ := h; rw [e]; simp
  | obj => cases m
  | xdc fs => cases m
  | fns ns => rw [show H a = _ from h]; simp
  | dK kvs => obtain ⟨ds, e, _⟩ := h; rw [e]; simp
  | dT kvs => obtain ⟨ds, e, _⟩ := h; rw [e]; simp
/-- a cell whose object stands as it stood -/
theorem CellOk.stay {K : PySem.W.Frag} {α α' : List Addr} {H H' : Hp} {a : Addr} {c : Cell} (g : Grow H H') (l : Le α α') (h : CellOk K α H a c) (e : c.mut = true → H' a = H a) : CellOk K α' H' a c := by
  cases c with
  | lst xs => obtain ⟨vs, e1, r⟩ := h; exact ⟨vs, (e rfl).trans e1, r.mono g l⟩
  | rls xs =>
    obtain ⟨vs, e1, r⟩ := h
    refine ⟨vs, ?_, r.mono g l⟩
    rcases e1 with ⟨o, e1⟩ | e1
    · exact .inl ⟨o, g.frz _ _ _ e1⟩
    · exact .inr e1
  | ins C fs => obtain ⟨A, dx, gs, ec, e1, r⟩ := h; exact ⟨A, dx, gs, ec, (e rfl).trans e1, r.mono g l⟩
  | obj => trivial
  | xdc fs => obtain ⟨gs, e1, r⟩ := h; exact ⟨gs, g.xd _ _ e1, r.mono g l⟩
  | fns ns => exact (e rfl).trans h
  | dK kvs => obtain ⟨ds, e1, r⟩ := h; exact ⟨ds, (e rfl).trans e1, r.mono g l⟩
  | dT kvs => obtain ⟨ds, e1, r⟩ := h; exact ⟨ds, (e rfl).trans e1, r.mono g l⟩
structure Mv (K : PySem.W.Frag) (α : List Addr) (H : Hp) (α' : List Addr) (S' : Store) (H' : Hp) : Prop where
  grow : Grow H H'
  le : Le α α'
  ok : StoreOk K α' S' H'
section
variable {K : PySem.W.Frag} {α : List Addr} {H : Hp} {S : Store}
theorem Mv.refl (o : StoreOk K α S H) : Mv K α H α S H := ⟨.refl H, .refl α, o⟩
theorem Mv.trans {α1 α2 : List Addr} {H1 H2 : Hp} {S1 S2 : Store} (a : Mv K α H α1 S1 H1) (b : Mv K α1 H1 α2 S2 H2) : Mv K α H α2 S2 H2 := ⟨a.grow.trans b.grow, a.le.trans b.le, b.ok⟩
theorem StoreOk.at (o : StoreOk K α S H) {i : Nat} {c : Cell} (e : S[i]? = some c) : ∃ a, α[i]? = some a ∧ CellOk K α H a c := by
  have h := (List.getElem?_eq_some_iff.mp e).1
  have h2 : i < α.length := by rw [o.len]; exact h
  exact ⟨α[i], List.getElem?_eq_getElem h2, o.ok _ _ _ (List.getElem?_eq_getElem h2) e⟩
/-- an object is laid that is no cell -/
theorem StoreOk.new (o : StoreOk K α S H) {p : Addr} {u : HO} (h : H p = none) : StoreOk K α S (upd H p u) :=
  ⟨o.len, o.inj, fun i a c e1 e2 => (o.ok i a c e1 e2).stay (.new h) (.refl α) fun m => upd_ne fun z => (o.ok i a c e1 e2).there m (z ▸ h)⟩
theorem Mv.new (o : StoreOk K α S H) {p : Addr} {u : HO} (h : H p = none) : Mv K α H α S (upd H p u) := ⟨.new h, .refl α, o.new h⟩
/-- a new cell -/
theorem Mv.cell (o : StoreOk K α S H) {p : Addr} {u : HO} {c : Cell} (h : H p = none) (k : CellOk K (α ++ [p]) (upd H p u) p c) : Mv K α H (α ++ [p]) (S ++ [c]) (upd H p u) := by
  have key : ∀ {i : Nat} {a : Addr} {d : Cell}, (α ++ [p])[i]? = some a → (S ++ [c])[i]? = some d → (i < S.length ∧ α[i]? = some a ∧ S[i]? = some d) ∨ (i = S.length ∧ a = p ∧ d = c) := by
    intro i a d e1 e2
    by_cases hi : i < S.length
    · rw [List.getElem?_append_left hi] at e2
      rw [List.getElem?_append_left (by rw [o.len]; exact hi)] at e1
      exact .inl ⟨hi, e1, e2⟩
    · have hi2 := (List.getElem?_eq_some_iff.mp e2).1
      rw [List.length_append, List.length_singleton] at hi2
      have e : i = S.length := by omega
      subst e
      rw [List.getElem?_append_right (Nat.le_refl _)] at e2
      rw [List.getElem?_append_right (by rw [o.len]; exact Nat.le_refl _), o.len] at e1
      simp at e1 e2
      exact .inr ⟨rfl, e1.symm, e2.symm⟩
  refine ⟨.new h, .snoc α p, ⟨by rw [List.length_append, List.length_append, o.len]; rfl, fun i j a c1 c2 e1 e2 e3 e4 m1 m2 => ?_, fun i a d e1 e2 => ?_⟩⟩
  · rcases key e1 e3 with ⟨h1, f1, f2⟩ | ⟨h1, f1, f2⟩
    · rcases key e2 e4 with ⟨h2, g1, g2⟩ | ⟨h2, g1, g2⟩
      · exact o.inj _ _ _ _ _ f1 g1 f2 g2 m1 m2
      · exact absurd h (g1 ▸ (o.ok _ _ _ f1 f2).there m1)
    · rcases key e2 e4 with ⟨h2, g1, g2⟩ | ⟨h2, g1, g2⟩
      · exact absurd h (f1 ▸ (o.ok _ _ _ g1 g2).there m2)
      · exact h1.trans h2.symm
  · rcases key e1 e2 with ⟨h1, f1, f2⟩ | ⟨h1, f1, f2⟩
    · exact (o.ok _ _ _ f1 f2).stay (.new h) (.snoc α p) fun m => upd_ne fun z => (o.ok _ _ _ f1 f2).there m (z ▸ h)
    · subst f1; subst f2; exact k
/-- a cell is written -/
theorem Mv.put (o : StoreOk K α S H) {i : Nat} {a : Addr} {c c' : Cell} {u : HO} (e1 : α[i]? = some a) (e2 : S[i]? = some c) (m : c.mut = true) (g : Grow H (upd H a u)) (m' : c'.mut = true) (k : CellOk K α (upd H a u) a c') : Mv K α H α (S.set i c') (upd H a u) := by
  have hi := (List.getElem?_eq_some_iff.mp e2).1
  have key : ∀ {j : Nat} {d : Cell}, (S.set i c')[j]? = some d → (j = i ∧ d = c') ∨ (j ≠ i ∧ S[j]? = some d) := by
    intro j d q
    by_cases hj : j = i
    · subst hj
      rw [List.getElem?_set_self hi] at q
      exact .inl ⟨rfl, (Option.some.inj q).symm⟩
    · rw [List.getElem?_set_ne (Ne.symm hj)] at q
      exact .inr ⟨hj, q⟩
  refine ⟨g, .refl α, ⟨by rw [List.length_set]; exact o.len, fun x y b c1 c2 f1 f2 f3 f4 m1 m2 => ?_, fun j b d f1 f2 => ?_⟩⟩
  · rcases key f3 with ⟨h1, q1⟩ | ⟨h1, q1⟩
    · rcases key f4 with ⟨h2, q2⟩ | ⟨h2, q2⟩
      · rw [h1, h2]
      · subst h1
        exact o.inj _ _ _ _ _ f1 f2 e2 q2 m m2
    · rcases key f4 with ⟨h2, q2⟩ | ⟨h2, q2⟩
      · subst h2
        exact o.inj _ _ _ _ _ f1 f2 q1 e2 m1 m
      · exact o.inj _ _ _ _ _ f1 f2 q1 q2 m1 m2
  · rcases key f2 with ⟨h1, q1⟩ | ⟨h1, q1⟩
    · subst h1; subst q1
      rw [e1] at f1
      have z := Option.some.inj f1
      subst z
      exact k
    · refine (o.ok _ _ _ f1 q1).stay g (.refl α) fun md => upd_ne fun z => h1 ?_
      subst z
      exact o.inj _ _ _ _ _ f1 e1 q1 e2 md m
theorem Grow.putLst {a : Addr} {vs ws : List V} (h : H a = some (.lst vs)) : Grow H (upd H a (.lst ws)) :=
  ⟨fun b xs e => by rw [upd_ne (fun z => by rw [z, h] at e; cases e)]; exact e, fun b o u e => by rw [upd_ne (fun z => by rw [z, h] at e; cases e)]; exact e, fun b fs e => by rw [upd_ne (fun z => by rw [z, h] at e; cases e)]; exact e⟩
theorem Mv.putL (o : StoreOk K α S H) {i : Nat} {a : Addr} {xs ys : List PV} {vs ws : List V} (e1 : α[i]? = some a) (e2 : S[i]? = some (.lst xs)) (h : H a = some (.lst vs)) (r : Reps K α H ys ws) : Mv K α H α (S.set i (.lst ys)) (upd H a (.lst ws)) :=
  Mv.put o e1 e2 rfl (.putLst h) rfl ⟨ws, upd_same, r.mono (.putLst h) (.refl α)⟩
end

/-! ### what a computation comes to -/
def OD (K : PySem.W.Frag) (α : List Addr) (H : Hp) {β : Type} (o : Out β) (R : β → List Addr → Store → Hp → Prop) (E : Exn → List Addr → Store → Hp → Prop) : Prop := match o with
  | .ok b S' => ∀ α' H', Mv K α H α' S' H' → R b α' S' H'
  | .ex c S' => ∀ α' H', Mv K α H α' S' H' → E c α' S' H'
  | .bad => False
section
variable {K : PySem.W.Frag} {α : List Addr} {H : Hp} {β γ : Type} {R : β → List Addr → Store → Hp → Prop} {E : Exn → List Addr → Store → Hp → Prop}
theorem OD.trans {α1 : List Addr} {H1 : Hp} {S1 : Store} {o : Out β} (h : OD K α H o R E) (m : Mv K α H α1 S1 H1) : OD K α1 H1 o R E := by
  cases o with
  | ok b S' => exact fun α' H' m' => h α' H' (m.trans m')
  | ex c S' => exact fun α' H' m' => h α' H' (m.trans m')
  | bad => exact h
theorem OD.bind {o : Out γ} {k : γ → M β} (h : OD K α H (o.bind k) R E) : OD K α H o (fun c α1 S1 H1 => OD K α1 H1 (k c S1) R E) E := by
  cases o with
  | ok b S' => exact fun α' H' m => OD.trans (show OD K α H (k b S') R E from h) m
  | ex c S' => exact h
  | bad => exact h
theorem OD.imp {R' : β → List Addr → Store → Hp → Prop} {E' : Exn → List Addr → Store → Hp → Prop} {o : Out β} (h : OD K α H o R E) (f : ∀ b α' S' H', Mv K α H α' S' H' → R b α' S' H' → R' b α' S' H') (g : ∀ c α' S' H', Mv K α H α' S' H' → E c α' S' H' → E' c α' S' H') : OD K α H o R' E' := by
  cases o with
  | ok b S' => exact fun α' H' m => f b α' S' H' m (h α' H' m)
  | ex c S' => exact fun α' H' m => g c α' S' H' m (h α' H' m)
  | bad => exact h
end

/-- the cell at n -/
def getC {β : Type} (n : Nat) (k : Cell → M β) : M β := fun S => match S[n]? with
  | some c => k c S
  | none => .bad
theorem getC_od {K : PySem.W.Frag} {α : List Addr} {H : Hp} {β : Type} {S : Store} {n : Nat} {k : Cell → M β} {R : β → List Addr → Store → Hp → Prop} {E : Exn → List Addr → Store → Hp → Prop} (h : OD K α H (getC n k S) R E) : ∃ c, S[n]? = some c ∧ OD K α H (k c S) R E := by
  unfold getC at h
  cases q : S[n]? with
  | none => rw [q] at h; exact h.elim
  | some c => rw [q] at h; exact ⟨c, rfl, h⟩
/-! ### slots -/
/-- what is known of the cells' places, kept as they grow in number -/
structure JX where
  p : List Addr → Prop
  st : ∀ α α', Le α α' → p α → p α'
def J0 : JX := ⟨fun _ => True, fun _ _ _ _ => trivial⟩
structure Slots (K : PySem.W.Frag) (J : JX) (α : List Addr) (H : Hp) (ρ : PEnv) (σ : L2.St) : Prop where
  len : ρ.length = σ.length
  j : J.p α
  get : ∀ (i : Nat) (d : PV), ρ[i]? = some (some d) → ∃ v, σ[i]? = some (some v) ∧ Rep K α H d v
section
variable {K : PySem.W.Frag} {J : JX} {α α' : List Addr} {H H' : Hp} {S' : Store} {ρ : PEnv} {σ : L2.St}
theorem Slots.mv (s : Slots K J α H ρ σ) (m : Mv K α H α' S' H') : Slots K J α' H' ρ σ := ⟨s.len, J.st _ _ m.le s.j, fun i d e => let ⟨v, h1, h2⟩ := s.get i d e; ⟨v, h1, h2.mono m.grow m.le⟩⟩
theorem Slots.set (s : Slots K J α H ρ σ) (i : Nat) {d : PV} {v : V} (r : Rep K α H d v) : Slots K J α H (ρ.set i (some d)) (σ.set i (some v)) := by
  refine ⟨by rw [List.length_set, List.length_set]; exact s.len, s.j, fun j e h => ?_⟩
  by_cases hj : j = i
  · subst hj
    have hl : j < ρ.length := by
      have q := (List.getElem?_eq_some_iff.mp h).1
      rwa [List.length_set] at q
    rw [List.getElem?_set_self hl] at h
    cases h
    exact ⟨v, List.getElem?_set_self (by rw [← s.len]; exact hl), r⟩
  · rw [List.getElem?_set_ne (Ne.symm hj)] at h
    rw [List.getElem?_set_ne (Ne.symm hj)]
    exact s.get j e h
theorem Slots.unset (s : Slots K J α H ρ σ) (i : Nat) : Slots K J α H (ρ.set i none) (σ.set i none) := by
  refine ⟨by rw [List.length_set, List.length_set]; exact s.len, s.j, fun j e h => ?_⟩
  by_cases hj : j = i
  · subst hj
    have hl : j < ρ.length := by
      have q := (List.getElem?_eq_some_iff.mp h).1
      rwa [List.length_set] at q
    rw [List.getElem?_set_self hl] at h
    cases h
  · rw [List.getElem?_set_ne (Ne.symm hj)] at h
    rw [List.getElem?_set_ne (Ne.symm hj)]
    exact s.get j e h
end
end DL

/-! DLb: the judgements and the rules of expressions. -/
namespace DL
open PySem PySem.Spec PyProof.Rows L2

/-- an exception as it stands -/
def XRep (K : PySem.W.Frag) (α : List Addr) (H : Hp) (c : Exn) (cls : Value) (d : Option Addr) : Prop :=
  (∃ C, clsOf K c.cls = some C ∧ cls = .ref C) ∧ ∃ dd gs, d = some dd ∧ H dd = some (.xd gs) ∧ RepF K α H c.fs gs
/-- what leaves, and what is known of the cells -/
structure WJ where
  w : WX
  j : JX
def EX (K : PySem.W.Frag) (W : WJ) (σ : L2.St) : Exn → List Addr → Store → Hp → Prop := fun c α' _ H' => ∀ cls d, XRep K α' H' c cls d → W.w cls d σ H'
def tD (K : PySem.W.Frag) (W : WJ) (f : PEnv → M PV) : TE := fun σ H Q => ∃ α S ρ, StoreOk K α S H ∧ Slots K W.j α H ρ σ ∧ OD K α H (f ρ S) (fun d α' _ H' => ∀ v, Rep K α' H' d v → Q v H') (EX K W σ)
def tDT (K : PySem.W.Frag) (W : WJ) (f : PEnv → M Bool) : TT := fun σ H Q => ∃ α S ρ, StoreOk K α S H ∧ Slots K W.j α H ρ σ ∧ OD K α H (f ρ S) (fun b _ _ H' => Q b H') (EX K W σ)
def tDA (K : PySem.W.Frag) (W : WJ) (f : PEnv → M (List PV)) : TA := fun σ H Q => ∃ α S ρ, StoreOk K α S H ∧ Slots K W.j α H ρ σ ∧ OD K α H (f ρ S) (fun ds α' _ H' => ∀ vs, Reps K α' H' ds vs → Q vs H') (EX K W σ)
def tDO (K : PySem.W.Frag) (W : WJ) (f : PEnv → M (Option Int)) : TO := fun σ H Q => ∃ α S ρ, StoreOk K α S H ∧ Slots K W.j α H ρ σ ∧ OD K α H (f ρ S) (fun b _ _ H' => Q b H') (EX K W σ)
abbrev DE (X : Cx) (W : WJ) (e : Expr) (f : PEnv → M PV) : Prop := PE X e (tD X.K W f)
abbrev DT (X : Cx) (W : WJ) (e : Expr) (f : PEnv → M Bool) : Prop := PT X e (tDT X.K W f)
abbrev DW (X : Cx) (W : WJ) (e : Expr) (f : PEnv → M Bool) : Prop := PW X e (tDT X.K W f)
abbrev DA (X : Cx) (W : WJ) (es : List Expr) (f : PEnv → M (List PV)) : Prop := PA X es (tDA X.K W f)
abbrev DO (X : Cx) (W : WJ) (e : Option Expr) (f : PEnv → M (Option Int)) : Prop := PO X e (tDO X.K W f)
theorem PE_imp {X : Cx} {e : Expr} {t t' : TE} (h : PE X e t) (i : ∀ σ H Q, t' σ H Q → t σ H Q) : PE X e t' := ⟨fun pins s σ H Q I q => h.run pins s σ H Q I (i σ H Q q)⟩
theorem PT_imp {X : Cx} {e : Expr} {t t' : TT} (h : PT X e t) (i : ∀ σ H Q, t' σ H Q → t σ H Q) : PT X e t' := ⟨fun pins s σ H Q I q => h.run pins s σ H Q I (i σ H Q q)⟩
theorem PW_imp {X : Cx} {e : Expr} {t t' : TT} (h : PW X e t) (i : ∀ σ H Q, t' σ H Q → t σ H Q) : PW X e t' := ⟨fun wh pins s σ H Q I q => h.run wh pins s σ H Q I (i σ H Q q)⟩
theorem PA_imp {X : Cx} {e : List Expr} {t t' : TA} (h : PA X e t) (i : ∀ σ H Q, t' σ H Q → t σ H Q) : PA X e t' := ⟨fun pos pins s σ H Q I q => h.run pos pins s σ H Q I (i σ H Q q)⟩
theorem PO_imp {X : Cx} {e : Option Expr} {t t' : TO} (h : PO X e t) (i : ∀ σ H Q, t' σ H Q → t σ H Q) : PO X e t' := ⟨fun pins s σ H Q I q => h.run pins s σ H Q I (i σ H Q q)⟩
theorem PS_imp {X : Cx} {e : Stmt} {t t' : TS} (h : PS X e t) (i : ∀ D σ H, t' D σ H → t D σ H) : PS X e t' := ⟨fun pins s σ H D I q => h.run pins s σ H D I (i D σ H q)⟩
theorem PSs_imp {X : Cx} {e : List Stmt} {t t' : TS} (h : PSs X e t) (i : ∀ D σ H, t' D σ H → t D σ H) : PSs X e t' := ⟨fun pins s σ H D I q => h.run pins s σ H D I (i D σ H q)⟩

/-! ### the parts -/
def eVar (i : Nat) : PEnv → M PV := fun ρ => match ρ[i]? with
  | some (some d) => M.ret d
  | _ => M.bad
def eLit (d : PV) : PEnv → M PV := fun _ => M.ret d
def eBin (g : PV → PV → M PV) (f1 f2 : PEnv → M PV) : PEnv → M PV := fun ρ => (f1 ρ).bind fun x => (f2 ρ).bind fun y => g x y
def eUn (g : PV → M PV) (f1 : PEnv → M PV) : PEnv → M PV := fun ρ => (f1 ρ).bind g
def eNil : PEnv → M (List PV) := fun _ => M.ret []
def eCons (f : PEnv → M PV) (g : PEnv → M (List PV)) : PEnv → M (List PV) := fun ρ => (f ρ).bind fun x => (g ρ).bind fun xs => M.ret (x :: xs)
def eArgs (g : List PV → M PV) (f : PEnv → M (List PV)) : PEnv → M PV := fun ρ => (f ρ).bind g
/-- a bool of a value that is one -/
def asB : PV → M Bool
  | .bl b => M.ret b
  | _ => M.bad
def eTest (f : PEnv → M PV) : PEnv → M Bool := fun ρ => (f ρ).bind asB
def eAnd (f g : PEnv → M Bool) : PEnv → M Bool := fun ρ => (f ρ).bind fun b => if b = true then g ρ else M.ret false
def eOr (f g : PEnv → M Bool) : PEnv → M Bool := fun ρ => (f ρ).bind fun b => if b = true then M.ret true else g ρ
def eNot (f : PEnv → M Bool) : PEnv → M Bool := fun ρ => (f ρ).bind fun b => M.ret (!b)
def eAndV (f g : PEnv → M PV) : PEnv → M PV := fun ρ => (f ρ).bind fun x => (asB x).bind fun b => if b = true then g ρ else M.ret (.bl false)
def eOrV (f g : PEnv → M PV) : PEnv → M PV := fun ρ => (f ρ).bind fun x => (asB x).bind fun b => if b = true then M.ret (.bl true) else g ρ
def eNotV (f : PEnv → M PV) : PEnv → M PV := fun ρ => (f ρ).bind fun x => (asB x).bind fun b => M.ret (.bl (!b))
def eIf (c : PEnv → M Bool) (f g : PEnv → M PV) : PEnv → M PV := fun ρ => (c ρ).bind fun b => if b = true then f ρ else g ρ
/-- x op y op' z -/
def eChain (g g' : PV → PV → M PV) (f1 f2 f3 : PEnv → M PV) : PEnv → M PV := fun ρ => (f1 ρ).bind fun x => (f2 ρ).bind fun y => (g x y).bind fun c => (asB c).bind fun b => if b = true then (f3 ρ).bind fun z => g' y z else M.ret (.bl false)

section
variable {X : Cx} {W : WJ} {e a b c : Expr} {es : List Expr} {pos : Pos}
theorem de_var (i : Nat) {x : Str} (hN : X.N[i]? = some x := by rfl) (hv : Vis X.env.scope x := by first | exact Or.inl rfl | exact Or.inr (Or.inl rfl) | exact Or.inr (Or.inr rfl)) (hd : (x == ("__debug__" : Str)) = false := by decide)
    (hcd : (x == ("__classdict__" : Str)) = false := by decide) : DE X W (.Name x pos) (eVar i) := by
  refine PE_imp (pe_var hN hv hd hcd) fun σ H Q ⟨α, S, ρ, o, sl, h⟩ => ?_
  cases q : ρ[i]? with
  | none =>
    have h : OD X.K α H (eVar i ρ S) _ _ := h
    unfold eVar at h; rw [q] at h; exact h.elim
  | some od =>
    have h : OD X.K α H (eVar i ρ S) _ _ := h
    unfold eVar at h; rw [q] at h
    cases od with
    | none => exact h.elim
    | some d =>
      obtain ⟨v, e1, r⟩ := sl.get i d q
      exact ⟨v, e1, h α H (.refl o) v r⟩
theorem de_lit {v : V} {d : PV} (h : PE X e (tC v)) (r : ∀ α H, Rep X.K α H d v) : DE X W e (eLit d) := PE_imp h fun σ H Q ⟨α, S, ρ, o, sl, h⟩ => h α H (.refl o) v (r α H)
theorem de_int {i : Int} {j} : DE X W (.Constant (.int i) j pos) (eLit (.int i)) := de_lit pe_int fun _ _ => .int i
theorem de_bl {i : Bool} {j} : DE X W (.Constant (.bool i) j pos) (eLit (.bl i)) := de_lit pe_bl fun _ _ => .bl i
theorem de_non {j} : DE X W (.Constant .none j pos) (eLit .non) := de_lit pe_non fun _ _ => .non
theorem de_str {i : Str} {j} : DE X W (.Constant (.str i) j pos) (eLit (.str i)) := de_lit pe_str fun _ _ => .str i

/-! ### operators -/
def Den1 (K : PySem.W.Frag) (r : V → Hp → VK → Prop) (g : PV → M PV) : Prop := ∀ α S H x vx Q E, StoreOk K α S H → Rep K α H x vx → OD K α H (g x S) (fun d α' _ H' => ∀ v, Rep K α' H' d v → Q v H') E → r vx H Q
def Den2 (K : PySem.W.Frag) (r : R2) (g : PV → PV → M PV) : Prop := ∀ α S H x y vx vy Q E, StoreOk K α S H → Rep K α H x vx → Rep K α H y vy → OD K α H (g x y S) (fun d α' _ H' => ∀ v, Rep K α' H' d v → Q v H') E → r vx vy H Q
def DenN (K : PySem.W.Frag) (r : List V → Hp → VK → Prop) (g : List PV → M PV) : Prop := ∀ α S H xs vs Q E, StoreOk K α S H → Reps K α H xs vs → OD K α H (g xs S) (fun d α' _ H' => ∀ v, Rep K α' H' d v → Q v H') E → r vs H Q
theorem bin_imp {K : PySem.W.Frag} {f1 f2 : PEnv → M PV} {g : PV → PV → M PV} {r : R2} (hr : Den2 K r g) {σ : L2.St} {H : Hp} {Q : VK} (h : tD K W (eBin g f1 f2) σ H Q) : tOp r (tD K W f1) (tD K W f2) σ H Q := by
  obtain ⟨α, S, ρ, o, sl, h⟩ := h
  refine ⟨α, S, ρ, o, sl, (OD.bind (o := f1 ρ S) h).imp (fun x α1 S1 H1 m1 h1 v rv => ?_) fun _ _ _ _ _ q => q⟩
  refine ⟨α1, S1, ρ, m1.ok, sl.mv m1, (OD.bind (o := f2 ρ S1) h1).imp (fun y α2 S2 H2 m2 h2 w rw' => ?_) fun _ _ _ _ _ q => q⟩
  exact hr α2 S2 H2 x y v w Q _ m2.ok (rv.mono m2.grow m2.le) rw' h2
theorem de_op {op : Operator} {r : R2} {f1 f2 : PEnv → M PV} {g : PV → PV → M PV} (ho : OpR X (binaryOp op) r) (hr : Den2 X.K r g) (ha : DE X W a f1) (hb : DE X W b f2) : DE X W (.BinOp a op b pos) (eBin g f1 f2) :=
  PE_imp (pe_op ho ha hb) fun σ H Q h => bin_imp hr h
theorem de_un {op : UnaryOp} {r : V → Hp → VK → Prop} {f1 : PEnv → M PV} {g : PV → M PV} (ho : UnR X (unaryOp op) r) (hr : Den1 X.K r g) (ha : DE X W a f1) : DE X W (.UnaryOp op a pos) (eUn g f1) := by
  refine PE_imp (pe_un ho ha) fun σ H Q ⟨α, S, ρ, o, sl, h⟩ => ?_
  refine ⟨α, S, ρ, o, sl, (OD.bind (o := f1 ρ S) h).imp (fun x α1 S1 H1 m1 h1 v rv => ?_) fun _ _ _ _ _ q => q⟩
  exact hr α1 S1 H1 x v Q _ m1.ok rv h1
theorem de_cmp {op : CmpOp} {r : R2} {f1 f2 : PEnv → M PV} {g : PV → PV → M PV} (ho : OpR X (compareOp op) r) (hr : Den2 X.K r g) (ha : DE X W a f1) (hb : DE X W b f2) (hm : behindInMarks op b = false := by first | exact nomark _ | rfl) : DE X W (.Compare a [op] [b] pos) (eBin g f1 f2) :=
  PE_imp (pe_cmpR ho ha hb hm) fun σ H Q h => bin_imp hr h
theorem test_imp {K : PySem.W.Frag} {f : PEnv → M PV} {t : TE} (i : ∀ σ H Q, tD K W f σ H Q → t σ H Q) {σ : L2.St} {H : Hp} {Q : Bool → Hp → Prop} (h : tDT K W (eTest f) σ H Q) : tTest t σ H Q := by
  refine i _ _ _ ?_
  obtain ⟨α, S, ρ, o, sl, h⟩ := h
  refine ⟨α, S, ρ, o, sl, (OD.bind (o := f ρ S) h).imp (fun x α1 S1 H1 m1 h1 v rv => ?_) fun _ _ _ _ _ q => q⟩
  cases x with
  | bl b => cases rv; exact ⟨b, rfl, h1 α1 H1 (.refl m1.ok)⟩
  | _ => exact h1.elim
theorem dt_cmp {op : CmpOp} {r : R2} {f1 f2 : PEnv → M PV} {g : PV → PV → M PV} (ho : OpR X (compareOp op) r) (hr : Den2 X.K r g) (ha : DE X W a f1) (hb : DE X W b f2) (hm : behindInMarks op b = false := by first | exact nomark _ | rfl) : DT X W (.Compare a [op] [b] pos) (eTest (eBin g f1 f2)) :=
  PT_imp (pt_cmpR ho ha hb hm) fun σ H Q h => test_imp (fun _ _ _ q => bin_imp hr q) h
/-- any expression whose value is a bool, as a test -/
theorem dt_val {f : PEnv → M PV} (ha : DE X W a f) (he : ∀ whole, isTrue a X.env whole = (do let v ← whole; standAt a.pos; holding [v] (truthy v)) := by intro _; rfl) : DT X W a (eTest f) := by
  refine PT_imp (pt_val ha he) fun σ H Q h => ?_
  exact test_imp (fun _ _ _ q => q) h
theorem chain_imp {K : PySem.W.Frag} {f1 f2 f3 : PEnv → M PV} {g g' : PV → PV → M PV} {r r' : R2} (hr : Den2 K r g) (hr' : Den2 K r' g') {σ : L2.St} {H : Hp} {Q : VK} (h : tD K W (eChain g g' f1 f2 f3) σ H Q) : tChain r r' (tD K W f1) (tD K W f2) (tD K W f3) σ H Q := by
  obtain ⟨α, S, ρ, o, sl, h⟩ := h
  refine ⟨α, S, ρ, o, sl, (OD.bind (o := f1 ρ S) h).imp (fun x α1 S1 H1 m1 h1 v rv => ?_) fun _ _ _ _ _ q => q⟩
  refine ⟨α1, S1, ρ, m1.ok, sl.mv m1, (OD.bind (o := f2 ρ S1) h1).imp (fun y α2 S2 H2 m2 h2 w rw' => ?_) fun _ _ _ _ _ q => q⟩
  refine hr α2 S2 H2 x y v w _ _ m2.ok (rv.mono m2.grow m2.le) rw' ((OD.bind (o := g x y S2) h2).imp (fun z α3 S3 H3 m3 h3 u ru => ?_) fun _ _ _ _ _ q => q)
  cases z with
  | bl b =>
    cases ru
    refine ⟨b, rfl, ?_⟩
    cases b with
    | true =>
      have h3' : OD K α3 H3 ((f3 ρ S3).bind fun z => g' y z) (fun d α' _ H' => ∀ v, Rep K α' H' d v → Q v H') (EX K W σ) := h3
      refine ⟨α3, S3, ρ, m3.ok, (sl.mv m1).mv (m2.trans m3), (OD.bind h3').imp (fun z α4 S4 H4 m4 h4 u ru => ?_) fun _ _ _ _ _ q => q⟩
      exact hr' α4 S4 H4 y z w u Q _ m4.ok (rw'.mono (m3.trans m4).grow (m3.trans m4).le) ru h4
    | false => exact h3 α3 H3 (.refl m3.ok) _ (.bl false)
  | _ => exact h3.elim
theorem de_chain {op op' : CmpOp} {r r' : R2} {f1 f2 f3 : PEnv → M PV} {g g' : PV → PV → M PV} (ho : OpR X (compareOp op) r) (hr : Den2 X.K r g) (ho' : OpR X (compareOp op') r') (hr' : Den2 X.K r' g') (ha : DE X W a f1) (hb : DE X W b f2) (hc : DE X W c f3)
    (hm : lastMarks [op, op'] [b, c] = false := by with_unfolding_all rfl) : DE X W (.Compare a [op, op'] [b, c] pos) (eChain g g' f1 f2 f3) :=
  PE_imp (pe_chain ho ho' ha hb hc hm) fun σ H Q h => chain_imp hr hr' h
theorem dt_chain {op op' : CmpOp} {r r' : R2} {f1 f2 f3 : PEnv → M PV} {g g' : PV → PV → M PV} (ho : OpR X (compareOp op) r) (hr : Den2 X.K r g) (ho' : OpR X (compareOp op') r') (hr' : Den2 X.K r' g') (ha : DE X W a f1) (hb : DE X W b f2) (hc : DE X W c f3)
    (hm : lastMarks [op, op'] [b, c] = false := by with_unfolding_all rfl) : DT X W (.Compare a [op, op'] [b, c] pos) (eTest (eChain g g' f1 f2 f3)) :=
  PT_imp (pt_chain ho ho' ha hb hc hm) fun σ H Q h => test_imp (fun _ _ _ q => chain_imp hr hr' q) h

/-! ### and, or, not -/
theorem and_imp {K : PySem.W.Frag} {f g : PEnv → M Bool} {σ : L2.St} {H : Hp} {Q : Bool → Hp → Prop} (h : tDT K W (eAnd f g) σ H Q) : tAnd (tDT K W f) (tDT K W g) σ H Q := by
  obtain ⟨α, S, ρ, o, sl, h⟩ := h
  refine ⟨α, S, ρ, o, sl, (OD.bind (o := f ρ S) h).imp (fun b α1 S1 H1 m1 h1 => ?_) fun _ _ _ _ _ q => q⟩
  cases b with
  | true => exact ⟨α1, S1, ρ, m1.ok, sl.mv m1, h1⟩
  | false => exact h1 α1 H1 (.refl m1.ok)
theorem or_imp {K : PySem.W.Frag} {f g : PEnv → M Bool} {σ : L2.St} {H : Hp} {Q : Bool → Hp → Prop} (h : tDT K W (eOr f g) σ H Q) : tOr (tDT K W f) (tDT K W g) σ H Q := by
  obtain ⟨α, S, ρ, o, sl, h⟩ := h
  refine ⟨α, S, ρ, o, sl, (OD.bind (o := f ρ S) h).imp (fun b α1 S1 H1 m1 h1 => ?_) fun _ _ _ _ _ q => q⟩
  cases b with
  | true => exact h1 α1 H1 (.refl m1.ok)
  | false => exact ⟨α1, S1, ρ, m1.ok, sl.mv m1, h1⟩
theorem dw_and1 {f : PEnv → M Bool} (ha : DT X W a f) : DW X W (.BoolOp .And [a] pos) f := pw_and1 ha
theorem dw_or1 {f : PEnv → M Bool} (ha : DT X W a f) : DW X W (.BoolOp .Or [a] pos) f := pw_or1 ha
theorem dw_and {f g : PEnv → M Bool} (ha : DT X W a f) (hb : DW X W (.BoolOp .And (b :: es) pos) g) : DW X W (.BoolOp .And (a :: b :: es) pos) (eAnd f g) := PW_imp (pw_and ha hb) fun _ _ _ h => and_imp h
theorem dw_or {f g : PEnv → M Bool} (ha : DT X W a f) (hb : DW X W (.BoolOp .Or (b :: es) pos) g) : DW X W (.BoolOp .Or (a :: b :: es) pos) (eOr f g) := PW_imp (pw_or ha hb) fun _ _ _ h => or_imp h
theorem dt_w {f : PEnv → M Bool} (h : DW X W a f) : DT X W a f := h.pt
theorem dt_not {f : PEnv → M Bool} (ha : DT X W a f) : DT X W (.UnaryOp .Not a pos) (eNot f) := by
  refine PT_imp (pt_not ha) fun σ H Q ⟨α, S, ρ, o, sl, h⟩ => ?_
  exact ⟨α, S, ρ, o, sl, (OD.bind (o := f ρ S) h).imp (fun b α1 S1 H1 m1 h1 => h1 α1 H1 (.refl m1.ok)) fun _ _ _ _ _ q => q⟩
theorem asB_od {K : PySem.W.Frag} {α : List Addr} {H : Hp} {S : Store} {β : Type} {x : PV} {v : V} {k : Bool → M β} {R : β → List Addr → Store → Hp → Prop} {E : Exn → List Addr → Store → Hp → Prop} (o : StoreOk K α S H) (r : Rep K α H x v)
    (h : OD K α H (((asB x).bind k) S) R E) : ∃ b, v = .bl b ∧ OD K α H (k b S) R E := by
  cases x with
  | bl b => cases r; exact ⟨b, rfl, h⟩
  | _ => exact h.elim
theorem de_and1 {op} {f : PEnv → M PV} (ha : DE X W a f) : DE X W (.BoolOp op [a] pos) f := pe_one ha
theorem de_and {f g : PEnv → M PV} (ha : DE X W a f) (hb : DE X W (.BoolOp .And (b :: es) pos) g) : DE X W (.BoolOp .And (a :: b :: es) pos) (eAndV f g) := by
  refine PE_imp (pe_and ha hb) fun σ H Q ⟨α, S, ρ, o, sl, h⟩ => ?_
  refine ⟨α, S, ρ, o, sl, (OD.bind (o := f ρ S) h).imp (fun x α1 S1 H1 m1 h1 v rv => ?_) fun _ _ _ _ _ q => q⟩
  obtain ⟨b, e, h2⟩ := asB_od m1.ok rv h1
  refine ⟨b, e, ?_⟩
  cases b with
  | true => exact ⟨α1, S1, ρ, m1.ok, sl.mv m1, h2⟩
  | false => exact h2 α1 H1 (.refl m1.ok) _ (.bl false)
theorem de_or {f g : PEnv → M PV} (ha : DE X W a f) (hb : DE X W (.BoolOp .Or (b :: es) pos) g) : DE X W (.BoolOp .Or (a :: b :: es) pos) (eOrV f g) := by
  refine PE_imp (pe_or ha hb) fun σ H Q ⟨α, S, ρ, o, sl, h⟩ => ?_
  refine ⟨α, S, ρ, o, sl, (OD.bind (o := f ρ S) h).imp (fun x α1 S1 H1 m1 h1 v rv => ?_) fun _ _ _ _ _ q => q⟩
  obtain ⟨b, e, h2⟩ := asB_od m1.ok rv h1
  refine ⟨b, e, ?_⟩
  cases b with
  | true => exact h2 α1 H1 (.refl m1.ok) _ (.bl true)
  | false => exact ⟨α1, S1, ρ, m1.ok, sl.mv m1, h2⟩
theorem de_not {f : PEnv → M PV} (ha : DE X W a f) : DE X W (.UnaryOp .Not a pos) (eNotV f) := by
  refine PE_imp (pe_not ha) fun σ H Q ⟨α, S, ρ, o, sl, h⟩ => ?_
  refine ⟨α, S, ρ, o, sl, (OD.bind (o := f ρ S) h).imp (fun x α1 S1 H1 m1 h1 v rv => ?_) fun _ _ _ _ _ q => q⟩
  obtain ⟨b, e, h2⟩ := asB_od m1.ok rv h1
  exact ⟨b, e, h2 α1 H1 (.refl m1.ok) _ (.bl _)⟩
theorem de_if {fc : PEnv → M Bool} {f g : PEnv → M PV} (hc : DT X W c fc) (ha : DE X W a f) (hb : DE X W b g) : DE X W (.IfExp c a b pos) (eIf fc f g) := by
  refine PE_imp (pe_ifExp hc ha hb) fun σ H Q ⟨α, S, ρ, o, sl, h⟩ => ?_
  refine ⟨α, S, ρ, o, sl, (OD.bind (o := fc ρ S) h).imp (fun b α1 S1 H1 m1 h1 => ?_) fun _ _ _ _ _ q => q⟩
  cases b with
  | true => exact ⟨α1, S1, ρ, m1.ok, sl.mv m1, h1⟩
  | false => exact ⟨α1, S1, ρ, m1.ok, sl.mv m1, h1⟩

/-! ### argument lists, displays -/
theorem da_nil : DA X W [] eNil := PA_imp pa_nil fun σ H Q ⟨α, S, ρ, o, sl, h⟩ => h α H (.refl o) [] .nil
theorem da_cons {f : PEnv → M PV} {g : PEnv → M (List PV)} (ha : DE X W a f) (hr : DA X W es g) (hs : starEach (a :: es) X.env = (false, eval a X.env) :: starEach es X.env := by rfl) : DA X W (a :: es) (eCons f g) := by
  refine PA_imp (pa_cons ha hr hs) fun σ H Q ⟨α, S, ρ, o, sl, h⟩ => ?_
  refine ⟨α, S, ρ, o, sl, (OD.bind (o := f ρ S) h).imp (fun x α1 S1 H1 m1 h1 v rv => ?_) fun _ _ _ _ _ q => q⟩
  refine ⟨α1, S1, ρ, m1.ok, sl.mv m1, (OD.bind (o := g ρ S1) h1).imp (fun xs α2 S2 H2 m2 h2 vs rvs => ?_) fun _ _ _ _ _ q => q⟩
  exact h2 α2 H2 (.refl m2.ok) _ (.cons (rv.mono m2.grow m2.le) rvs)
/-- a new tuple; a new list -/
def mkTup (xs : List PV) : M PV := if xs.length ≤ sizeLine then M.ret (.tup xs) else M.bad
def mkLst (xs : List PV) : M PV := fun S => if xs.length ≤ sizeLine then .ok (.cell S.length) (S ++ [.lst xs]) else .bad
theorem mkTup_od {K : PySem.W.Frag} {α : List Addr} {H : Hp} {S : Store} {xs : List PV} {vs : List V} {R : PV → List Addr → Store → Hp → Prop} {E : Exn → List Addr → Store → Hp → Prop} (o : StoreOk K α S H) (r : Reps K α H xs vs)
    (h : OD K α H (mkTup xs S) R E) : vs.length ≤ sizeLine ∧ ∀ p, H p = none → R (.tup xs) α S (upd H p (.tup vs)) ∧ Rep K α (upd H p (.tup vs)) (.tup xs) (.ref p) := by
  unfold mkTup at h
  by_cases hl : xs.length ≤ sizeLine
  · rw [if_pos hl] at h
    refine ⟨r.length ▸ hl, fun p hp => ⟨h α _ (.new o hp), .tup (.inl upd_same) (r.mono (.new hp) (.refl α))⟩⟩
  · rw [if_neg hl] at h; exact h.elim
theorem mkLst_od {K : PySem.W.Frag} {α : List Addr} {H : Hp} {S : Store} {xs : List PV} {vs : List V} {R : PV → List Addr → Store → Hp → Prop} {E : Exn → List Addr → Store → Hp → Prop} (o : StoreOk K α S H) (r : Reps K α H xs vs)
    (h : OD K α H (mkLst xs S) R E) : vs.length ≤ sizeLine ∧ ∀ p, H p = none → R (.cell S.length) (α ++ [p]) (S ++ [.lst xs]) (upd H p (.lst vs)) ∧ Rep K (α ++ [p]) (upd H p (.lst vs)) (.cell S.length) (.ref p) := by
  unfold mkLst at h
  by_cases hl : xs.length ≤ sizeLine
  · rw [if_pos hl] at h
    refine ⟨r.length ▸ hl, fun p hp => ⟨h _ _ (.cell o hp ⟨vs, upd_same, r.mono (.new hp) (.snoc α p)⟩), .cell ?_⟩⟩
    rw [← o.len, List.getElem?_append_right (Nat.le_refl _), Nat.sub_self]; rfl
  · rw [if_neg hl] at h; exact h.elim
theorem de_tup {f : PEnv → M (List PV)} {x1} (h : DA X W es f) : DE X W (.Tuple es x1 pos) (eArgs mkTup f) := by
  refine PE_imp (pe_tup h) fun σ H Q ⟨α, S, ρ, o, sl, h⟩ => ?_
  refine ⟨α, S, ρ, o, sl, (OD.bind (o := f ρ S) h).imp (fun xs α1 S1 H1 m1 h1 vs rv => ?_) fun _ _ _ _ _ q => q⟩
  obtain ⟨z, q⟩ := mkTup_od m1.ok rv h1
  exact ⟨z, fun p hp => (q p hp).1 _ (q p hp).2⟩
theorem de_lst {f : PEnv → M (List PV)} {x1} (h : DA X W es f) : DE X W (.List es x1) (eArgs mkLst f) := by
  refine PE_imp (pe_lst h) fun σ H Q ⟨α, S, ρ, o, sl, h⟩ => ?_
  refine ⟨α, S, ρ, o, sl, (OD.bind (o := f ρ S) h).imp (fun xs α1 S1 H1 m1 h1 vs rv => ?_) fun _ _ _ _ _ q => q⟩
  obtain ⟨z, q⟩ := mkLst_od m1.ok rv h1
  exact ⟨z, fun p hp => (q p hp).1 _ (q p hp).2⟩

/-! ### calls of built-ins -/
theorem de_callB {f : PEnv → M (List PV)} {g : List PV → M PV} {r : List V → Hp → VK → Prop} {x : Str} {p : Pos} {id : String} (hc : CallR X (.builtin id) r) (hr : DenN X.K r g) (hm : X.mg x = none) (hv : bootBuiltins x = some (.builtin id)) (ha : DA X W (a :: es) f) (hg : Gl X x := by rfl) (hn : x ≠ "__name__" := by decide) (hdb : (x == ("__debug__" : Str)) = false := by decide)
    (he : starEach (a :: es) X.env = (false, eval a X.env) :: starEach es X.env := by rfl) (hpl : (backTo pos (starEach es X.env)).any (·.1) = false := by rfl) : DE X W (.Call (.Name x p) (a :: es) [] pos) (eArgs g f) := by
  refine PE_imp (pe_callB hc hg hm hv ha hn hdb he hpl) fun σ H Q ⟨α, S, ρ, o, sl, h⟩ => ?_
  refine ⟨α, S, ρ, o, sl, (OD.bind (o := f ρ S) h).imp (fun xs α1 S1 H1 m1 h1 vs rv => ?_) fun _ _ _ _ _ q => q⟩
  exact hr α1 S1 H1 xs vs Q _ m1.ok rv h1
theorem de_callTy {f : PEnv → M (List PV)} {g : List PV → M PV} {r : List V → Hp → VK → Prop} {x : Str} {p : Pos} {T : String} (hc : CallR X (.type T) r) (hr : DenN X.K r g) (hm : X.mg x = none) (hv : bootBuiltins x = some (.type T)) (ha : DA X W (a :: es) f) (hg : Gl X x := by rfl) (hn : x ≠ "__name__" := by decide) (hdb : (x == ("__debug__" : Str)) = false := by decide)
    (he : starEach (a :: es) X.env = (false, eval a X.env) :: starEach es X.env := by rfl) (hpl : (backTo pos (starEach es X.env)).any (·.1) = false := by rfl) : DE X W (.Call (.Name x p) (a :: es) [] pos) (eArgs g f) := by
  refine PE_imp (pe_callTy hc hg hm hv ha hn hdb he hpl) fun σ H Q ⟨α, S, ρ, o, sl, h⟩ => ?_
  refine ⟨α, S, ρ, o, sl, (OD.bind (o := f ρ S) h).imp (fun xs α1 S1 H1 m1 h1 vs rv => ?_) fun _ _ _ _ _ q => q⟩
  exact hr α1 S1 H1 xs vs Q _ m1.ok rv h1
/-- a built-in (or a type) as a value -/
theorem de_ty {x : Str} {T : String} (hm : X.mg x = none) (hv : bootBuiltins x = some (.type T)) (hg : Gl X x := by rfl) (hn : x ≠ "__name__" := by decide) (hdb : (x == ("__debug__" : Str)) = false := by decide) : DE X W (.Name x pos) (eLit (.con (.ty T))) :=
  de_lit (v := .ty T) (pe_bltn hg hm hv rfl hn hdb) fun _ _ => .con _
theorem de_glob {x : Str} {v : V} {u : Value} {d : PV} (hm : X.mg x = some u) (r : RelV v u) (rp : ∀ α H, Rep X.K α H d v) (hg : Gl X x := by rfl) (hdb : (x == ("__debug__" : Str)) = false := by decide) : DE X W (.Name x pos) (eLit d) :=
  de_lit (v := v) (pe_glob hg hm r hdb) rp

/-! ### subscripts -/
theorem de_ix {r : R2} {f1 f2 : PEnv → M PV} {g : PV → PV → M PV} (hx : IxR X r) (hr : Den2 X.K r g) (ha : DE X W a f1) (hb : DE X W b f2) (hs : PlainIx b := by intro _ _; rfl) : DE X W (.Subscript a b pos) (eBin g f1 f2) :=
  PE_imp (pe_ix hx ha hb hs) fun σ H Q h => bin_imp hr h
def asI : PV → M Int
  | .int i => M.ret i
  | _ => M.bad
def eNoPart : PEnv → M (Option Int) := fun _ => M.ret none
def ePart (f : PEnv → M PV) : PEnv → M (Option Int) := fun ρ => (f ρ).bind fun x => (asI x).bind fun i => M.ret (some i)
theorem do_none : DO X W none eNoPart := PO_imp po_none fun σ H Q ⟨α, S, ρ, o, sl, h⟩ => h α H (.refl o)
theorem do_some {f : PEnv → M PV} (h : DE X W a f) : DO X W (some a) (ePart f) := by
  refine PO_imp (po_some h) fun σ H Q ⟨α, S, ρ, o, sl, h⟩ => ?_
  refine ⟨α, S, ρ, o, sl, (OD.bind (o := f ρ S) h).imp (fun x α1 S1 H1 m1 h1 v rv => ?_) fun _ _ _ _ _ q => q⟩
  cases x with
  | int i => cases rv; exact ⟨i, rfl, h1 α1 H1 (.refl m1.ok)⟩
  | _ => exact h1.elim
def eSlice (g : PV → Option Int → Option Int → M PV) (f : PEnv → M PV) (l u : PEnv → M (Option Int)) : PEnv → M PV := fun ρ => (f ρ).bind fun x => (l ρ).bind fun i => (u ρ).bind fun j => g x i j
def DenS (K : PySem.W.Frag) (r : V → Option Int → Option Int → Hp → VK → Prop) (g : PV → Option Int → Option Int → M PV) : Prop := ∀ α S H x vx i j Q E, StoreOk K α S H → Rep K α H x vx → OD K α H (g x i j S) (fun d α' _ H' => ∀ v, Rep K α' H' d v → Q v H') E → r vx i j H Q
theorem de_slice {r : V → Option Int → Option Int → Hp → VK → Prop} {g : PV → Option Int → Option Int → M PV} {f : PEnv → M PV} {lo hi : Option Expr} {l u : PEnv → M (Option Int)} {p2 : Pos} (hx : SlR X r) (hr : DenS X.K r g) (he : DE X W a f) (hl : DO X W lo l) (hu : DO X W hi u) : DE X W (.Subscript a (.Slice lo hi none p2) pos) (eSlice g f l u) := by
  refine PE_imp (pe_slice hx he hl hu) fun σ H Q ⟨α, S, ρ, o, sl, h⟩ => ?_
  refine ⟨α, S, ρ, o, sl, (OD.bind (o := f ρ S) h).imp (fun x α1 S1 H1 m1 h1 v rv => ?_) fun _ _ _ _ _ q => q⟩
  refine ⟨α1, S1, ρ, m1.ok, sl.mv m1, (OD.bind (o := l ρ S1) h1).imp (fun i α2 S2 H2 m2 h2 => ?_) fun _ _ _ _ _ q => q⟩
  refine ⟨α2, S2, ρ, m2.ok, (sl.mv m1).mv m2, (OD.bind (o := u ρ S2) h2).imp (fun j α3 S3 H3 m3 h3 => ?_) fun _ _ _ _ _ q => q⟩
  exact hr α3 S3 H3 x v i j Q _ m3.ok (rv.mono (m2.trans m3).grow (m2.trans m3).le) h3
end
end DL

/-! DLc: statements, loops, comprehensions. -/
namespace DL
open PySem PySem.Spec PyProof.Rows L2
open Classical

/-- how a statement ends -/
inductive Fl where
  | nx | bk | ct | rt (d : PV) | ex (c : Exn)
/-- a statement: it never ends as Out.ex -/
abbrev SD := PEnv → M (Fl × PEnv)
def Fin (K : PySem.W.Frag) (W : WJ) (D : Ends) : Fl × PEnv → List Addr → Store → Hp → Prop := fun r α' _ H' => ∀ σ', Slots K W.j α' H' r.2 σ' → match r.1 with
  | .nx => D.nx σ' H'
  | .bk => D.bk σ' H'
  | .ct => D.ct σ' H'
  | .rt d => ∀ v, Rep K α' H' d v → D.rt v H'
  | .ex c => ∀ cls d, XRep K α' H' c cls d → W.w cls d σ' H'
def tS (K : PySem.W.Frag) (W : WJ) (f : SD) : TS := fun D σ H => ∃ α S ρ, StoreOk K α S H ∧ Slots K W.j α H ρ σ ∧ OD K α H (f ρ S) (Fin K W D) fun _ _ _ _ => False
abbrev DS (X : Cx) (W : WJ) (st : Stmt) (f : SD) : Prop := PS X st (tS X.K W f)
abbrev DSs (X : Cx) (W : WJ) (st : List Stmt) (f : SD) : Prop := PSs X st (tS X.K W f)
/-- an expression in a statement -/
def lift {β : Type} (o : Out β) (ρ : PEnv) (k : β → M (Fl × PEnv)) : Out (Fl × PEnv) := match o with
  | .ok b S => k b S
  | .ex c S => .ok (.ex c, ρ) S
  | .bad => .bad
def sNil : SD := fun ρ => M.ret (.nx, ρ)
def sRetN : SD := fun ρ => M.ret (.rt .non, ρ)
def sBk : SD := fun ρ => M.ret (.bk, ρ)
def sCt : SD := fun ρ => M.ret (.ct, ρ)
def seqK (g : SD) : Fl × PEnv → M (Fl × PEnv) := fun r => match r.1 with
  | .nx => g r.2
  | _ => M.ret r
def sSeq (f g : SD) : SD := fun ρ => (f ρ).bind (seqK g)
def sExpr (f : PEnv → M PV) : SD := fun ρ S => lift (f ρ S) ρ fun _ => M.ret (.nx, ρ)
def sRet (f : PEnv → M PV) : SD := fun ρ S => lift (f ρ S) ρ fun d => M.ret (.rt d, ρ)
def sSet (i : Nat) (f : PEnv → M PV) : SD := fun ρ S => lift (f ρ S) ρ fun d => M.ret (.nx, ρ.set i (some d))
def sIf (c : PEnv → M Bool) (f g : SD) : SD := fun ρ S => lift (c ρ S) ρ fun b => if b = true then f ρ else g ρ

section
variable {K : PySem.W.Frag} {W : WJ} {α : List Addr} {H : Hp} {S : Store} {σ : L2.St} {ρ : PEnv} {β : Type}
theorem lift_od {o : Out β} {k : β → M (Fl × PEnv)} {D : Ends} (sl : Slots K W.j α H ρ σ) (h : OD K α H (lift o ρ k) (Fin K W D) fun _ _ _ _ => False) :
    OD K α H o (fun b α1 S1 H1 => OD K α1 H1 (k b S1) (Fin K W D) fun _ _ _ _ => False) (EX K W σ) := by
  cases o with
  | ok b S' => exact fun α' H' m => OD.trans (show OD K α H (k b S') _ _ from h) m
  | ex c S' => exact fun α' H' m cls d x => (show OD K α H (.ok (Fl.ex c, ρ) S') _ _ from h) α' H' m σ (sl.mv m) cls d x
  | bad => exact h
end
section
variable {X : Cx} {W : WJ} {e a b c : Expr} {es : List Expr} {pos : Pos} {st : Stmt} {sts : List Stmt}
theorem dss_nil : DSs X W [] sNil := PSs_imp pss_nil fun D σ H ⟨α, S, ρ, o, sl, h⟩ => h α H (.refl o) σ sl
theorem dss_one {f : SD} (h : DS X W st f) : DSs X W [st] f := pss_one h
theorem dss_cons {f g : SD} (h1 : DS X W st f) (h2 : DSs X W sts g) : DSs X W (st :: sts) (sSeq f g) := by
  refine PSs_imp (pss_cons h1 h2) fun D σ H ⟨α, S, ρ, o, sl, h⟩ => ?_
  refine ⟨α, S, ρ, o, sl, (OD.bind (o := f ρ S) h).imp (fun r α1 S1 H1 m1 h1 => ?_) fun _ _ _ _ _ q => q⟩
  obtain ⟨fl, ρ1⟩ := r
  cases fl with
  | nx => exact fun σ1 sl1 => ⟨α1, S1, ρ1, m1.ok, sl1, h1⟩
  | bk => exact fun σ1 sl1 => h1 α1 H1 (.refl m1.ok) σ1 sl1
  | ct => exact fun σ1 sl1 => h1 α1 H1 (.refl m1.ok) σ1 sl1
  | rt d => exact fun σ1 sl1 => h1 α1 H1 (.refl m1.ok) σ1 sl1
  | ex c => exact fun σ1 sl1 => h1 α1 H1 (.refl m1.ok) σ1 sl1
theorem ds_pass : DS X W (.Pass pos) sNil := PS_imp ps_pass fun D σ H ⟨α, S, ρ, o, sl, h⟩ => h α H (.refl o) σ sl
theorem ds_break : DS X W (.Break pos) sBk := PS_imp ps_break fun D σ H ⟨α, S, ρ, o, sl, h⟩ => h α H (.refl o) σ sl
theorem ds_continue : DS X W (.Continue pos) sCt := PS_imp ps_continue fun D σ H ⟨α, S, ρ, o, sl, h⟩ => h α H (.refl o) σ sl
theorem ds_retN : DS X W (.Return none pos) sRetN := PS_imp ps_retN fun D σ H ⟨α, S, ρ, o, sl, h⟩ => h α H (.refl o) σ sl _ .non
theorem ds_ret {f : PEnv → M PV} (h : DE X W a f) : DS X W (.Return (some a) pos) (sRet f) := by
  refine PS_imp (ps_ret h) fun D σ H ⟨α, S, ρ, o, sl, h⟩ => ?_
  exact ⟨α, S, ρ, o, sl, (lift_od sl h).imp (fun d α1 S1 H1 m1 h1 v rv => h1 α1 H1 (.refl m1.ok) σ (sl.mv m1) v rv) fun _ _ _ _ _ q => q⟩
theorem ds_expr {f : PEnv → M PV} (h : DE X W a f) (hs : swapsWith a none pos.line X.env = pure false := by rfl) : DS X W (.Expr a pos) (sExpr f) := by
  refine PS_imp (ps_expr h hs) fun D σ H ⟨α, S, ρ, o, sl, h⟩ => ?_
  exact ⟨α, S, ρ, o, sl, (lift_od sl h).imp (fun d α1 S1 H1 m1 h1 v rv => h1 α1 H1 (.refl m1.ok) σ (sl.mv m1)) fun _ _ _ _ _ q => q⟩
theorem ds_if {fc : PEnv → M Bool} {f g : SD} {s1 s2 : List Stmt} (hc : DT X W c fc) (ha : DSs X W s1 f) (hb : DSs X W s2 g) : DS X W (.If c s1 s2 pos) (sIf fc f g) := by
  refine PS_imp (ps_if hc ha hb) fun D σ H ⟨α, S, ρ, o, sl, h⟩ => ?_
  refine ⟨α, S, ρ, o, sl, (lift_od sl h).imp (fun b α1 S1 H1 m1 h1 => ?_) fun _ _ _ _ _ q => q⟩
  cases b with
  | true => exact ⟨α1, S1, ρ, m1.ok, sl.mv m1, h1⟩
  | false => exact ⟨α1, S1, ρ, m1.ok, sl.mv m1, h1⟩
theorem ds_set (i : Nat) {x : Str} {p' : Pos} {f : PEnv → M PV} (h : DE X W a f) (hN : X.N.Nodup) (hi : X.N[i]? = some x := by rfl) (hx : Loc X.env.scope x := by first | exact Or.inl rfl | exact Or.inr rfl) (hs : swapsWith a (some (.Name x p')) pos.line X.env = pure false := by rfl)
    (hf : X.fn x = true ∨ X.env.scope.names.lookup x = some .local := by first | exact .inl rfl | exact .inr rfl) : DS X W (.Assign [.Name x p'] a pos) (sSet i f) := by
  refine PS_imp (ps_set hN hi hx h hs hf) fun D σ H ⟨α, S, ρ, o, sl, h⟩ => ?_
  exact ⟨α, S, ρ, o, sl, (lift_od sl h).imp (fun d α1 S1 H1 m1 h1 v rv => h1 α1 H1 (.refl m1.ok) _ ((sl.mv m1).set i rv)) fun _ _ _ _ _ q => q⟩
end

/-! ### targets -/
inductive Tgt where
  | nm (i : Nat) | tp (ts : List Tgt)
mutual
def bindT : Tgt → PV → PEnv → Option PEnv
  | .nm i, d, ρ => some (ρ.set i (some d))
  | .tp ts, d, ρ => match d with
    | .tup ds => if ds.length = ts.length then bindTs ts ds ρ else none
    | _ => none
def bindTs : List Tgt → List PV → PEnv → Option PEnv
  | [], _, ρ => some ρ
  | t :: ts, ds, ρ => match ds with
    | d :: dr => (bindT t d ρ).bind fun ρ1 => bindTs ts dr ρ1
    | [] => none
end
mutual
def gT (K : PySem.W.Frag) : Tgt → TG
  | .nm i => gName i
  | .tp ts => gTup K ts.length (gTs K ts)
def gTs (K : PySem.W.Frag) : List Tgt → TGs
  | [] => gNil
  | t :: ts => gCons (gT K t) (gTs K ts)
end
mutual
/-- the slots that a target stores -/
def Tgt.slots : Tgt → List Nat
  | .nm i => [i]
  | .tp ts => Tgt.slotsL ts
def Tgt.slotsL : List Tgt → List Nat
  | [] => []
  | t :: ts => t.slots ++ Tgt.slotsL ts
end
theorem wipe_get {σ : L2.St} {j : Nat} : ∀ {vs : List Nat}, (wipe σ vs)[j]? = if j ∈ vs ∧ j < σ.length then some none else σ[j]?
  | [] => by simp [wipe]
  | v :: vs => by
    unfold wipe
    by_cases hj : j = v
    · subst hj
      by_cases hl : j < σ.length
      · rw [List.getElem?_set_self (by rw [wipe_length]; exact hl), if_pos ⟨List.mem_cons_self, hl⟩]
      · rw [if_neg fun z => hl z.2, List.getElem?_eq_none (by rw [List.length_set, wipe_length]; omega), List.getElem?_eq_none (by omega)]
    · rw [List.getElem?_set_ne (Ne.symm hj), wipe_get]
      simp [hj]
theorem wipe_set {σ : L2.St} {vs : List Nat} {i : Nat} {o : Option V} (h : i ∈ vs) : wipe (σ.set i o) vs = wipe σ vs := by
  apply List.ext_getElem?
  intro j
  rw [wipe_get, wipe_get, List.length_set]
  by_cases hj : j ∈ vs ∧ j < σ.length
  · rw [if_pos hj, if_pos hj]
  · rw [if_neg hj, if_neg hj]
    by_cases e : j = i
    · subst e
      have hl : ¬ j < σ.length := fun z => hj ⟨h, z⟩
      rw [List.getElem?_eq_none (by rw [List.length_set]; omega), List.getElem?_eq_none (by omega)]
    · rw [List.getElem?_set_ne (Ne.symm e)]
theorem wipe_wipe {σ : L2.St} {vs : List Nat} : wipe (wipe σ vs) vs = wipe σ vs := by
  apply List.ext_getElem?
  intro j
  rw [wipe_get, wipe_get, wipe_length]
  by_cases hj : j ∈ vs ∧ j < σ.length
  · rw [if_pos hj, if_pos hj]
  · rw [if_neg hj]
def wipeP (ρ : PEnv) : List Nat → PEnv
  | [] => ρ
  | v :: vs => (wipeP ρ vs).set v none
theorem Slots.wipe {K : PySem.W.Frag} {J : JX} {α : List Addr} {H : Hp} {ρ : PEnv} {σ : L2.St} (s : Slots K J α H ρ σ) : ∀ vs : List Nat, Slots K J α H (wipeP ρ vs) (L2.wipe σ vs)
  | [] => s
  | v :: vs => (s.wipe vs).unset v
section
variable {K : PySem.W.Frag} {J : JX} {α : List Addr} {H : Hp}
mutual
theorem bindT_ok {Q : L2.St → Hp → Prop} : ∀ (t : Tgt) (d : PV) (v : V) (ρ ρ' : PEnv) (σ : L2.St), Slots K J α H ρ σ → Rep K α H d v → bindT t d ρ = some ρ' → (∀ σ', Slots K J α H ρ' σ' → (∀ vs, (∀ i ∈ t.slots, i ∈ vs) → wipe σ' vs = wipe σ vs) → Q σ' H) → gT K t v σ H Q
  | .nm i, d, v, ρ, ρ', σ, sl, r, e, h => by
    unfold bindT at e
    cases e
    unfold gT
    exact h _ (sl.set i r) fun vs hv => wipe_set (hv i (by simp [Tgt.slots]))
  | .tp ts, d, v, ρ, ρ', σ, sl, r, e, h => by
    unfold bindT at e
    unfold gT
    cases d with
    | tup ds =>
      cases r with
      | tup hs hr =>
        rename_i a vs
        simp only at e
        by_cases hl : ds.length = ts.length
        · rw [if_pos hl] at e
          exact ⟨a, vs, rfl, hs.sq, by rw [← hr.length, hl], bindTs_ok ts ds vs ρ ρ' σ sl hr hl e fun σ' s' hw => h σ' s' fun vs hv => hw vs (by simpa [Tgt.slots] using hv)⟩
        · rw [if_neg hl] at e; cases e
    | _ => cases e
theorem bindTs_ok {Q : L2.St → Hp → Prop} : ∀ (ts : List Tgt) (ds : List PV) (vs : List V) (ρ ρ' : PEnv) (σ : L2.St), Slots K J α H ρ σ → Reps K α H ds vs → ds.length = ts.length → bindTs ts ds ρ = some ρ' → (∀ σ', Slots K J α H ρ' σ' → (∀ vs, (∀ i ∈ Tgt.slotsL ts, i ∈ vs) → wipe σ' vs = wipe σ vs) → Q σ' H) → gTs K ts vs σ H Q
  | [], ds, vs, ρ, ρ', σ, sl, r, hl, e, h => by
    unfold bindTs at e
    cases e
    unfold gTs
    cases r with
    | nil => exact ⟨rfl, h σ sl fun _ _ => rfl⟩
    | cons _ _ => simp at hl
  | t :: ts, ds, vs, ρ, ρ', σ, sl, r, hl, e, h => by
    unfold gTs
    cases r with
    | nil => simp at hl
    | cons r1 r2 =>
      rename_i d v dr vr
      unfold bindTs at e
      simp only at e
      cases q : bindT t d ρ with
      | none => rw [q] at e; cases e
      | some ρ1 =>
        rw [q] at e
        refine ⟨v, vr, rfl, bindT_ok t d v ρ ρ1 σ sl r1 q fun σ1 sl1 hw => ?_⟩
        refine bindTs_ok ts dr vr ρ1 ρ' σ1 sl1 r2 (by simpa using hl) e fun σ' s' hw2 => h σ' s' fun vs hv => ?_
        rw [hw2 vs fun i hi => hv i (by simp [Tgt.slotsL, hi]), hw vs fun i hi => hv i (by simp [Tgt.slotsL, hi])]
end
end
abbrev DG (X : Cx) (tg : Expr) (t : Tgt) : Prop := PG X tg (gT X.K t)
abbrev DGs (X : Cx) (tg : List Expr) (t : List Tgt) : Prop := PGs X tg (gTs X.K t)
section
variable {X : Cx} {W : WJ} {a : Expr} {es : List Expr} {pos : Pos}
theorem dg_name (i : Nat) {x : Str} (hN : X.N.Nodup) (hi : X.N[i]? = some x := by rfl) (hx : Loc X.env.scope x := by first | exact Or.inl rfl | exact Or.inr rfl) (hf : X.fn x = true ∨ X.env.scope.names.lookup x = some .local := by first | exact .inl rfl | exact .inr rfl) : DG X (.Name x pos) (.nm i) := by
  unfold DG gT; exact pg_name hN hi hx hf
theorem dgs_nil : DGs X [] [] := by unfold DGs gTs; exact pgs_nil
theorem dgs_cons {t : Tgt} {ts : List Tgt} (h1 : DG X a t) (h2 : DGs X es ts) (hs : (assignEach (a :: es) X.env).map (·.2) = assign a X.env :: (assignEach es X.env).map (·.2) := by rfl) : DGs X (a :: es) (t :: ts) := by
  unfold DGs gTs; exact pgs_cons h1 h2 hs
theorem dg_tup {k : Nat} {ts : List Tgt} (hc : X.calm = true) (h : DGs X es ts) (hn : (assignEach es X.env).length = ts.length := by rfl) (hst : (assignEach es X.env).findIdx? (·.1) = none := by rfl) : DG X (.Tuple es k pos) (.tp ts) := by
  unfold DG gT; exact pg_tup hc h hn hst
def sAsg (t : Tgt) (f : PEnv → M PV) : SD := fun ρ S => lift (f ρ S) ρ fun d => match bindT t d ρ with
  | some ρ1 => M.ret (.nx, ρ1)
  | none => M.bad
theorem ds_asg {tg : Expr} {t : Tgt} {f : PEnv → M PV} (he : DE X W a f) (hg : DG X tg t) (hs : swapsWithSole [tg] a pos.line X.env = pure false := by rfl) (hw : swappedStores [tg] a X.env = pure none := by rfl)
    (h1 : (assignEach [tg] X.env).map (·.2) = [assign tg X.env] := by rfl) : DS X W (.Assign [tg] a pos) (sAsg t f) := by
  refine PS_imp (ps_asg he hg hs hw h1) fun D σ H ⟨α, S, ρ, o, sl, h⟩ => ?_
  refine ⟨α, S, ρ, o, sl, (lift_od sl h).imp (fun d α1 S1 H1 m1 h1 v rv => ?_) fun _ _ _ _ _ q => q⟩
  cases q : bindT t d ρ with
  | none => rw [q] at h1; exact h1.elim
  | some ρ1 =>
    rw [q] at h1
    exact bindT_ok t d v ρ ρ1 σ (sl.mv m1) rv q fun σ' s' _ => h1 α1 H1 (.refl m1.ok) σ' s'
/-- o[i] = e -/
def sSub (g : PV → PV → PV → M Unit) (fo fi f : PEnv → M PV) : SD := fun ρ S => lift (f ρ S) ρ fun d S1 => lift (fo ρ S1) ρ fun o S2 => lift (fi ρ S2) ρ fun i S3 => lift (g o i d S3) ρ fun _ => M.ret (.nx, ρ)
def DenSet (K : PySem.W.Frag) (r : TSet) (g : PV → PV → PV → M Unit) : Prop := ∀ α S H x y z vx vy vz (Q : Hp → Prop) E, StoreOk K α S H → Rep K α H x vx → Rep K α H y vy → Rep K α H z vz → OD K α H (g x y z S) (fun _ _ _ H' => Q H') E → r vx vy vz H Q
theorem ds_sub {o i : Expr} {fo fi f : PEnv → M PV} {r : TSet} {g : PV → PV → PV → M Unit} {p' : Pos} (hset : PSet X r) (hr : DenSet X.K r g) (he : DE X W a f) (ho : DE X W o fo) (hi : DE X W i fi)
    (hs : swapsWithSole [.Subscript o i p'] a pos.line X.env = pure false := by rfl) (hw : swappedStores [.Subscript o i p'] a X.env = pure none := by rfl) (h1 : (assignEach [.Subscript o i p'] X.env).map (·.2) = [assign (.Subscript o i p') X.env] := by rfl)
    (ha : ∀ v, assign (.Subscript o i p') X.env v = (do
      let ov ← holding [v] (eval o X.env)
      let iv ← holding [v, ov] (eval i X.env)
      standAt p'
      holding [v, ov, iv] (setItem ov iv v)
      release [v, ov, iv] []) := by intro _; rfl) : DS X W (.Assign [.Subscript o i p'] a pos) (sSub g fo fi f) := by
  refine PS_imp (ps_asg he (pg_sub ho hi hset ha) hs hw h1) fun D σ H ⟨α, S, ρ, o, sl, h⟩ => ?_
  refine ⟨α, S, ρ, o, sl, (lift_od sl h).imp (fun d α1 S1 H1 m1 h1 v rv => ?_) fun _ _ _ _ _ q => q⟩
  refine ⟨α1, S1, ρ, m1.ok, sl.mv m1, (lift_od (sl.mv m1) h1).imp (fun x α2 S2 H2 m2 h2 vx rx => ?_) fun _ _ _ _ _ q => q⟩
  refine ⟨α2, S2, ρ, m2.ok, (sl.mv m1).mv m2, (lift_od ((sl.mv m1).mv m2) h2).imp (fun y α3 S3 H3 m3 h3 vy ry => ?_) fun _ _ _ _ _ q => q⟩
  have m23 := m2.trans m3
  refine hr α3 S3 H3 x y d vx vy v _ _ m3.ok (rx.mono m3.grow m3.le) ry (rv.mono m23.grow m23.le) ((lift_od ((sl.mv m1).mv m23) h3).imp (fun _ α4 S4 H4 m4 h4 => ?_) fun _ _ _ _ _ q => q)
  exact h4 α4 H4 (.refl m4.ok) σ (((sl.mv m1).mv m23).mv m4)
/-- x op= e -/
def sAug (g : PV → PV → M PV) (i : Nat) (f : PEnv → M PV) : SD := fun ρ S => lift (eVar i ρ S) ρ fun x S0 => lift (f ρ S0) ρ fun y S1 => lift (g x y S1) ρ fun z => M.ret (.nx, ρ.set i (some z))
theorem ds_aug (i : Nat) {x : Str} {op : Operator} {f : PEnv → M PV} {g : PV → PV → M PV} {r : R2} {p' : Pos} (ho : OpR X (inplaceOp op) r) (hr : Den2 X.K r g) (he : DE X W a f) (hN : X.N.Nodup) (hi : X.N[i]? = some x := by rfl) (hx : Loc X.env.scope x := by first | exact Or.inl rfl | exact Or.inr rfl)
    (hf : X.fn x = true ∨ X.env.scope.names.lookup x = some .local := by first | exact .inl rfl | exact .inr rfl) : DS X W (.AugAssign (.Name x p') op a pos) (sAug g i f) := by
  refine PS_imp (ps_aug (ti := r) hN hi hx he (fun pins s σ H x y v u Q I r1 r2 h => ho pins s σ H x y v u Q I r1 r2 h) hf) fun D σ H ⟨α, S, ρ, o, sl, h⟩ => ?_
  cases q : ρ[i]? with
  | none => unfold sAug eVar at h; rw [q] at h; exact h.elim
  | some od =>
    cases od with
    | none => unfold sAug eVar at h; rw [q] at h; exact h.elim
    | some d =>
      unfold sAug eVar at h; rw [q] at h
      obtain ⟨v, e1, rv⟩ := sl.get i d q
      have h' : OD X.K α H (lift (f ρ S) ρ fun y S1 => lift (g d y S1) ρ fun z => M.ret (.nx, ρ.set i (some z))) (Fin X.K W D) fun _ _ _ _ => False := h
      refine ⟨v, e1, α, S, ρ, o, sl, (lift_od sl h').imp (fun y α1 S1 H1 m1 h1 w rw' => ?_) fun _ _ _ _ _ q => q⟩
      refine hr α1 S1 H1 d y v w _ _ m1.ok (rv.mono m1.grow m1.le) rw' ((lift_od (sl.mv m1) h1).imp (fun z α2 S2 H2 m2 h2 u ru => ?_) fun _ _ _ _ _ q => q)
      exact h2 α2 H2 (.refl m2.ok) _ (((sl.mv m1).mv m2).set i ru)
end
end DL

/-! DLd: loops and comprehensions. -/
namespace DL
open PySem PySem.Spec PyProof.Rows L2
open Classical

/-- what is walked: its items, and what must stay so -/
structure Src where
  items : List PV
  chk : Store → Prop
def SrcOk (K : PySem.W.Frag) (J : It) (α : List Addr) (H : Hp) (src : Src) : Prop := ∀ (i : Nat) α' S' H', Mv K α H α' S' H' → src.chk S' →
  (∀ x, src.items[i]? = some x → J.go i H' ∧ ∀ v H'', J.yld i H' v H'' → Mv K α' H' α' S' H'' ∧ Rep K α' H'' x v) ∧ (src.items.length ≤ i → J.stop i H')
def tDI (K : PySem.W.Frag) (W : WJ) (f : PEnv → M Src) : TI := fun σ H R => ∃ α S ρ, StoreOk K α S H ∧ Slots K W.j α H ρ σ ∧ OD K α H (f ρ S) (fun src α' _ H' => ∀ J, SrcOk K J α' H' src → R J H') (EX K W σ)
abbrev DI (X : Cx) (W : WJ) (tg iter : Expr) (f : PEnv → M Src) : Prop := PI X tg iter (tDI X.K W f)
theorem PI_imp {X : Cx} {tg e : Expr} {t t' : TI} (h : PI X tg e t) (i : ∀ σ H Q, t' σ H Q → t σ H Q) : PI X tg e t' := ⟨fun pins s σ H Q I q => h.run pins s σ H Q I (i σ H Q q)⟩

/-- behind a loop's turn -/
def kLoop (g : SD) : Fl × PEnv → M (Fl × PEnv) := fun r => match r.1 with
  | .nx => g r.2
  | .ct => g r.2
  | .bk => M.ret (.nx, r.2)
  | _ => M.ret r
noncomputable def forGo (chk : Store → Prop) (t : Tgt) (body : SD) : List PV → SD
  | [] => fun ρ S => if chk S then .ok (.nx, ρ) S else .bad
  | x :: xs => fun ρ S => if chk S then (match bindT t x ρ with
    | some ρ1 => (body ρ1 S).bind (kLoop (forGo chk t body xs))
    | none => .bad) else .bad
noncomputable def sFor (f : PEnv → M Src) (t : Tgt) (body : SD) : SD := fun ρ S => lift (f ρ S) ρ fun src => forGo src.chk t body src.items ρ
theorem if_out {β : Type} {c : Prop} {dc : Decidable c} {o : Out β} {K : PySem.W.Frag} {α : List Addr} {H : Hp} {R : β → List Addr → Store → Hp → Prop} {E : Exn → List Addr → Store → Hp → Prop} (h : OD K α H (if c then o else .bad) R E) : c ∧ OD K α H o R E := by
  by_cases hc : c
  · rw [if_pos hc] at h; exact ⟨hc, h⟩
  · rw [if_neg hc] at h; exact h.elim
section
variable {X : Cx} {W : WJ} {a : Expr} {pos : Pos}
theorem ds_for {tg iter : Expr} {body : List Stmt} {f : PEnv → M Src} {t : Tgt} {g : SD} (hp : PassesOwn (model X.prog X.w) X.A X.env X.xe) (hc : X.calm = true) (hi : DI X W tg iter f) (hg : DG X tg t) (hb : DSs X W body g)
    (hs : ∀ x, foldedSetIterable iter X.env x = pure x := by intro _; rfl) : DS X W (.For tg iter body [] pos) (sFor f t g) := by
  refine PS_imp (ps_for hp hc hi hg hb hs) fun D σ H ⟨α, S, ρ, o, sl, h⟩ => ?_
  refine ⟨α, S, ρ, o, sl, (lift_od sl h).imp (fun src α1 S1 H1 m1 h1 J jo => ?_) fun _ _ _ _ _ q => q⟩
  refine ⟨fun i m σ' H' => ∃ α' S' ρ', Mv X.K α1 H1 α' S' H' ∧ Slots X.K W.j α' H' ρ' σ' ∧ m = src.items.length - i ∧ OD X.K α' H' (forGo src.chk t g (src.items.drop i) ρ' S') (Fin X.K W D) fun _ _ _ _ => False,
    ⟨_, α1, S1, ρ, .refl m1.ok, sl.mv m1, rfl, h1⟩, ?_⟩
  rintro i m σ' H' ⟨α', S', ρ', mv, sl', rfl, hh⟩
  cases e : src.items.drop i with
  | nil =>
    rw [e] at hh
    unfold forGo at hh
    obtain ⟨hk, hh⟩ := if_out hh
    refine .inl ⟨(jo i α' S' H' mv hk).2 ?_, hh α' H' (.refl mv.ok) σ' sl'⟩
    exact List.drop_eq_nil_iff.mp e
  | cons x xs =>
    have hi : i < src.items.length := by
      rcases Nat.lt_or_ge i src.items.length with z | z
      · exact z
      · rw [List.drop_eq_nil_of_le z] at e; cases e
    have ex : src.items[i]? = some x := by
      rw [← List.head?_drop, e]; rfl
    have exs : src.items.drop (i + 1) = xs := by
      rw [← List.tail_drop, e]; rfl
    rw [e] at hh
    unfold forGo at hh
    obtain ⟨hk, hh⟩ := if_out hh
    obtain ⟨jg, jy⟩ := (jo i α' S' H' mv hk).1 x ex
    refine .inr ⟨jg, fun σ'' H'' => ∃ α'' S'' ρ'', Mv X.K α1 H1 α'' S'' H'' ∧ Slots X.K W.j α'' H'' ρ'' σ'' ∧ OD X.K α'' H'' (forGo src.chk t g xs ρ'' S'') (Fin X.K W D) fun _ _ _ _ => False, ?_, fun v H'' y => ?_⟩
    · rintro σ'' H'' ⟨α'', S'', ρ'', mv2, sl2, h2⟩
      exact ⟨src.items.length - (i + 1), by omega, α'', S'', ρ'', mv2, sl2, rfl, by rw [exs]; exact h2⟩
    · obtain ⟨m2, rv⟩ := jy v H'' y
      cases q : bindT t x ρ' with
      | none => rw [q] at hh; exact hh.elim
      | some ρ1 =>
        rw [q] at hh
        refine bindT_ok t x v ρ' ρ1 σ' (sl'.mv m2) rv q fun σ2 sl2 _ => ?_
        refine ⟨α', S', ρ1, m2.ok, sl2, (OD.bind (o := g ρ1 S') (hh.trans m2)).imp (fun r α3 S3 H3 m3 h3 => ?_) fun _ _ _ _ _ q => q⟩
        obtain ⟨fl, ρ3⟩ := r
        cases fl with
        | nx => exact fun σ3 sl3 => ⟨α3, S3, ρ3, mv.trans (m2.trans m3), sl3, h3⟩
        | ct => exact fun σ3 sl3 => ⟨α3, S3, ρ3, mv.trans (m2.trans m3), sl3, h3⟩
        | bk => exact fun σ3 sl3 => h3 α3 H3 (.refl m3.ok) σ3 sl3
        | rt d => exact fun σ3 sl3 => h3 α3 H3 (.refl m3.ok) σ3 sl3
        | ex c => exact fun σ3 sl3 => h3 α3 H3 (.refl m3.ok) σ3 sl3
end

/-! ### while -/
def Out.good {β : Type} : Out β → Prop
  | .bad => False
  | _ => True
def whileN (c : PEnv → M Bool) (body : SD) : Nat → SD
  | 0 => fun _ => M.bad
  | n + 1 => fun ρ S => lift (c ρ S) ρ fun b => if b = true then fun S1 => (body ρ S1).bind (kLoop (whileN c body n)) else M.ret (.nx, ρ)
noncomputable def sWhile (c : PEnv → M Bool) (body : SD) : SD := fun ρ S => if h : ∃ n, (whileN c body n ρ S).good then whileN c body h.choose ρ S else .bad
theorem bind_good {β γ : Type} {o : Out β} {k k' : β → M γ} (h : (o.bind k).good) (i : ∀ b S, (k b S).good → k' b S = k b S) : o.bind k' = o.bind k := by
  cases o with
  | ok b S => exact i b S h
  | ex c S => rfl
  | bad => rfl
theorem lift_good {β : Type} {o : Out β} {ρ : PEnv} {k k' : β → M (Fl × PEnv)} (h : (lift o ρ k).good) (i : ∀ b S, (k b S).good → k' b S = k b S) : lift o ρ k' = lift o ρ k := by
  cases o with
  | ok b S => exact i b S h
  | ex c S => rfl
  | bad => rfl
theorem kLoop_good {g g' : SD} {r : Fl × PEnv} {S : Store} (h : (kLoop g r S).good) (i : ∀ ρ S, (g ρ S).good → g' ρ S = g ρ S) : kLoop g' r S = kLoop g r S := by
  obtain ⟨fl, ρ⟩ := r
  cases fl with
  | nx => exact i ρ S h
  | ct => exact i ρ S h
  | bk => rfl
  | rt d => rfl
  | ex c => rfl
theorem whileN_more (c : PEnv → M Bool) (body : SD) : ∀ (n : Nat) (ρ : PEnv) (S : Store), (whileN c body n ρ S).good → whileN c body (n + 1) ρ S = whileN c body n ρ S
  | 0, _, _, h => h.elim
  | n + 1, ρ, S, h => by
    refine lift_good (k := fun b => if b = true then fun S1 => (body ρ S1).bind (kLoop (whileN c body n)) else M.ret (.nx, ρ)) h fun b S1 h1 => ?_
    cases b with
    | false => rfl
    | true => exact bind_good h1 fun r S2 h2 => kLoop_good h2 fun ρ' S' h3 => whileN_more c body n ρ' S' h3
theorem whileN_le (c : PEnv → M Bool) (body : SD) {n : Nat} {ρ : PEnv} {S : Store} (h : (whileN c body n ρ S).good) : ∀ m, whileN c body (n + m) ρ S = whileN c body n ρ S
  | 0 => rfl
  | m + 1 => by
    have ih := whileN_le c body h m
    rw [← Nat.add_assoc, whileN_more c body (n + m) ρ S (by rw [ih]; exact h), ih]
theorem while_is {c : PEnv → M Bool} {body : SD} {n : Nat} {ρ : PEnv} {S : Store} (h : (whileN c body n ρ S).good) : sWhile c body ρ S = whileN c body n ρ S := by
  have q : ∃ n, (whileN c body n ρ S).good := ⟨n, h⟩
  unfold sWhile
  rw [dif_pos q]
  rcases Nat.le_total n q.choose with z | z
  · obtain ⟨d, e⟩ := Nat.exists_eq_add_of_le z
    rw [e, whileN_le c body h]
  · obtain ⟨d, e⟩ := Nat.exists_eq_add_of_le z
    have := whileN_le c body q.choose_spec d
    rw [← e] at this
    exact this.symm
section
variable {X : Cx} {W : WJ} {a : Expr} {pos : Pos}
theorem ds_while {c : Expr} {body : List Stmt} {fc : PEnv → M Bool} {g : SD} (hp : PassesOwn (model X.prog X.w) X.A X.env X.xe) (hc : DT X W c fc) (hb : DSs X W body g) : DS X W (.While c body [] pos) (sWhile fc g) := by
  refine PS_imp (ps_while hp hc hb) fun D σ H ⟨α, S, ρ, o, sl, h⟩ => ?_
  have ⟨n, hn⟩ : ∃ n, OD X.K α H (whileN fc g n ρ S) (Fin X.K W D) fun _ _ _ _ => False := by
    unfold sWhile at h
    by_cases q : ∃ n, (whileN fc g n ρ S).good
    · rw [dif_pos q] at h; exact ⟨_, h⟩
    · rw [dif_neg q] at h; exact h.elim
  refine ⟨fun m σ' H' => ∃ α' S' ρ', StoreOk X.K α' S' H' ∧ Slots X.K W.j α' H' ρ' σ' ∧ OD X.K α' H' (whileN fc g m ρ' S') (Fin X.K W D) fun _ _ _ _ => False, ⟨n, α, S, ρ, o, sl, hn⟩, ?_⟩
  rintro m σ' H' ⟨α', S', ρ', o', sl', hh⟩
  cases m with
  | zero => exact hh.elim
  | succ m =>
    unfold whileN at hh
    refine ⟨α', S', ρ', o', sl', (lift_od sl' hh).imp (fun b α1 S1 H1 m1 h1 => ?_) fun _ _ _ _ _ q => q⟩
    cases b with
    | false => exact h1 α1 H1 (.refl m1.ok) σ' (sl'.mv m1)
    | true =>
      rw [if_pos rfl]
      refine ⟨fun σ'' H'' => ∃ α'' S'' ρ'', StoreOk X.K α'' S'' H'' ∧ Slots X.K W.j α'' H'' ρ'' σ'' ∧ OD X.K α'' H'' (whileN fc g m ρ'' S'') (Fin X.K W D) fun _ _ _ _ => False, fun σ'' H'' q => ⟨m, Nat.lt_succ_self m, q⟩, ?_⟩
      have h1' : OD X.K α1 H1 ((g ρ' S1).bind (kLoop (whileN fc g m))) (Fin X.K W D) fun _ _ _ _ => False := h1
      refine ⟨α1, S1, ρ', m1.ok, sl'.mv m1, (OD.bind h1').imp (fun r α3 S3 H3 m3 h3 => ?_) fun _ _ _ _ _ q => q⟩
      obtain ⟨fl, ρ3⟩ := r
      cases fl with
      | nx => exact fun σ3 sl3 => ⟨α3, S3, ρ3, m3.ok, sl3, h3⟩
      | ct => exact fun σ3 sl3 => ⟨α3, S3, ρ3, m3.ok, sl3, h3⟩
      | bk => exact fun σ3 sl3 => h3 α3 H3 (.refl m3.ok) σ3 sl3
      | rt d => exact fun σ3 sl3 => h3 α3 H3 (.refl m3.ok) σ3 sl3
      | ex c => exact fun σ3 sl3 => h3 α3 H3 (.refl m3.ok) σ3 sl3
end

/-! ### comprehensions -/
def W0 : WJ := ⟨fun _ _ _ _ => False, J0⟩
theorem Slots.weak {K : PySem.W.Frag} {J : JX} {α : List Addr} {H : Hp} {ρ : PEnv} {σ : L2.St} (s : Slots K J α H ρ σ) : Slots K J0 α H ρ σ := ⟨s.len, trivial, s.get⟩
def noEx {β : Type} : Out β → Out β
  | .ex _ _ => .bad
  | o => o
theorem noEx_od {β : Type} {o : Out β} {K : PySem.W.Frag} {α : List Addr} {H : Hp} {R : β → List Addr → Store → Hp → Prop} {E E' : Exn → List Addr → Store → Hp → Prop} (h : OD K α H (noEx o) R E) : OD K α H o R E' := by
  cases o with
  | ok b S => exact h
  | ex c S => exact h.elim
  | bad => exact h.elim
def appC (n : Nat) (y : PV) : M Unit := fun S => match S[n]? with
  | some (.lst acc) => if acc.length < sizeLine then .ok () (S.set n (.lst (acc ++ [y]))) else .bad
  | _ => .bad
theorem appC_od {K : PySem.W.Frag} {α : List Addr} {H : Hp} {S : Store} {n : Nat} {p : Addr} {y : PV} {v : V} {R : Unit → List Addr → Store → Hp → Prop} {E : Exn → List Addr → Store → Hp → Prop} (o : StoreOk K α S H) (e : α[n]? = some p) (r : Rep K α H y v)
    (h : OD K α H (appC n y S) R E) : ∃ acc xs, S[n]? = some (.lst xs) ∧ H p = some (.lst acc) ∧ acc.length < sizeLine ∧ R () α (S.set n (.lst (xs ++ [y]))) (upd H p (.lst (acc ++ [v]))) ∧ Mv K α H α (S.set n (.lst (xs ++ [y]))) (upd H p (.lst (acc ++ [v]))) := by
  unfold appC at h
  split at h
  · rename_i xs e2
    obtain ⟨hl, h⟩ := if_out h
    obtain ⟨vs, hp, rs⟩ := o.ok _ _ _ e e2
    have mv := Mv.putL o e e2 hp (rs.append (.cons r .nil))
    exact ⟨vs, xs, e2, hp, by rw [← rs.length]; exact hl, h _ _ mv, mv⟩
  · exact h.elim
noncomputable def lcGo (chk : Store → Prop) (t : Tgt) (test : PEnv → M Bool) (elt : PEnv → M PV) (ρ : PEnv) (n : Nat) : List PV → M PV
  | [] => fun S => if chk S then .ok (.cell n) S else .bad
  | x :: xs => fun S => if chk S then (match bindT t x ρ with
    | some ρ1 => (noEx (test ρ1 S)).bind fun b => if b = true then fun S1 => (noEx (elt ρ1 S1)).bind fun y => (appC n y).bind fun _ => lcGo chk t test elt ρ n xs else lcGo chk t test elt ρ n xs
    | none => .bad) else .bad
noncomputable def eLc (f : PEnv → M Src) (t : Tgt) (test : PEnv → M Bool) (elt : PEnv → M PV) (vs : List Nat) : PEnv → M PV := fun ρ => (f ρ).bind fun src S => lcGo src.chk t test elt (wipeP ρ vs) S.length src.items (S ++ [.lst []])
def tTrue : PEnv → M Bool := fun _ => M.ret true
theorem lc_imp {K : PySem.W.Frag} {W : WJ} {f : PEnv → M Src} {t : Tgt} {test : PEnv → M Bool} {elt : PEnv → M PV} {vs : List Nat} (hv : ∀ i ∈ t.slots, i ∈ vs) {σ : L2.St} {H : Hp} {Q : VK} (h : tD K W (eLc f t test elt vs) σ H Q) :
    tLc (tDI K W f) (gT K t) (tDT K W0 test) (tD K W0 elt) vs σ H Q := by
  obtain ⟨α, S, ρ, o, sl, h⟩ := h
  refine ⟨α, S, ρ, o, sl, (OD.bind (o := f ρ S) h).imp (fun src α1 S1 H1 m1 h1 J jo D hD => ?_) fun _ _ _ _ _ q => q⟩
  have mD : Mv K α1 H1 (α1 ++ [D]) (S1 ++ [.lst []]) (upd H1 D (.lst [])) := .cell m1.ok hD ⟨[], upd_same, .nil⟩
  refine ⟨fun i m H' => ∃ α' S', Mv K α1 H1 α' S' H' ∧ α'[S1.length]? = some D ∧ m = src.items.length - i ∧ OD K α' H' (lcGo src.chk t test elt (wipeP ρ vs) S1.length (src.items.drop i) S') (fun d α'' _ H'' => ∀ v, Rep K α'' H'' d v → Q v H'') fun _ _ _ _ => True,
    ⟨_, α1 ++ [D], _, mD, ?_, rfl, ?_⟩, ?_⟩
  · rw [← m1.ok.len, List.getElem?_append_right (Nat.le_refl _), Nat.sub_self]; rfl
  · have h1' : OD K α1 H1 (lcGo src.chk t test elt (wipeP ρ vs) S1.length src.items (S1 ++ [.lst []])) (fun d α' _ H' => ∀ v, Rep K α' H' d v → Q v H') (EX K W σ) := h1
    exact (h1'.imp (fun _ _ _ _ _ q => q) fun _ _ _ _ _ _ => True.intro).trans mD
  · rintro i m H' ⟨α', S', mv, eD, rfl, hh⟩
    cases e : src.items.drop i with
    | nil =>
      rw [e] at hh
      unfold lcGo at hh
      obtain ⟨hk, hh⟩ := if_out hh
      refine .inl ⟨(jo i α' S' H' mv hk).2 (List.drop_eq_nil_iff.mp e), ?_⟩
      exact hh α' H' (.refl mv.ok) _ (.cell eD)
    | cons x xs =>
      have hi : i < src.items.length := by
        rcases Nat.lt_or_ge i src.items.length with z | z
        · exact z
        · rw [List.drop_eq_nil_of_le z] at e; cases e
      have ex : src.items[i]? = some x := by
        rw [← List.head?_drop, e]; rfl
      have exs : src.items.drop (i + 1) = xs := by
        rw [← List.tail_drop, e]; rfl
      rw [e] at hh
      unfold lcGo at hh
      obtain ⟨hk, hh⟩ := if_out hh
      obtain ⟨jg, jy⟩ := (jo i α' S' H' mv hk).1 x ex
      refine .inr ⟨jg, fun H'' => ∃ α'' S'', Mv K α1 H1 α'' S'' H'' ∧ α''[S1.length]? = some D ∧ OD K α'' H'' (lcGo src.chk t test elt (wipeP ρ vs) S1.length xs S'') (fun d α'' _ H'' => ∀ v, Rep K α'' H'' d v → Q v H'') fun _ _ _ _ => True, ?_, fun v H'' y => ?_⟩
      · rintro H'' ⟨α'', S'', mv2, e2, h2⟩
        exact ⟨src.items.length - (i + 1), by omega, α'', S'', mv2, e2, rfl, by rw [exs]; exact h2⟩
      · obtain ⟨m2, rv⟩ := jy v H'' y
        have slw := (((sl.mv m1).mv mv).mv m2).weak.wipe vs
        cases q : bindT t x (wipeP ρ vs) with
        | none => rw [q] at hh; exact hh.elim
        | some ρ1 =>
          rw [q] at hh
          refine bindT_ok t x v _ ρ1 _ slw rv q fun σ2 sl2 hw => ⟨by rw [hw vs hv, wipe_wipe], ?_⟩
          refine ⟨α', S', ρ1, m2.ok, sl2, noEx_od (E := fun _ _ _ _ => True) ((OD.bind (o := noEx (test ρ1 S')) (hh.trans m2)).imp (fun b α3 S3 H3 m3 h3 => ?_) fun _ _ _ _ _ _ => True.intro)⟩
          cases b with
          | false => exact ⟨α3, S3, mv.trans (m2.trans m3), m3.le _ _ eD, h3⟩
          | true =>
            rw [if_pos rfl]
            have h3' : OD K α3 H3 ((noEx (elt ρ1 S3)).bind fun y => (appC S1.length y).bind fun _ => lcGo src.chk t test elt (wipeP ρ vs) S1.length xs) _ _ := h3
            refine ⟨α3, S3, ρ1, m3.ok, sl2.mv m3, noEx_od (E := fun _ _ _ _ => True) ((OD.bind h3').imp (fun y α4 S4 H4 m4 h4 w rw' => ?_) fun _ _ _ _ _ _ => True.intro)⟩
            have m34 := m3.trans m4
            obtain ⟨acc, ys, e1, e2, e3, h5, m5⟩ := appC_od m4.ok (m34.le _ _ eD) rw' (OD.bind (o := appC S1.length y S4) h4)
            exact ⟨acc, e2, e3, α4, _, mv.trans (m2.trans (m34.trans m5)), m34.le _ _ eD, h5⟩
section
variable {X : Cx} {W : WJ} {pos : Pos}
theorem de_lc {elt tg iter : Expr} {ifs : List Expr} {scope : Scope} (own : List (Str × Nat)) {f : PEnv → M Src} {t : Tgt} {test : PEnv → M Bool} {fe : PEnv → M PV} (hc : X.calm = true) (hN : X.N.Nodup) (hi : DI X W tg iter f) (ok : BlkOk X.N X.env.scope scope own) (hv : ∀ i ∈ t.slots, i ∈ own.map (·.2))
    (hg : ∀ (s : Shared) (H : Hp) (C : Addr) (cl : List (Str × Addr)) (fp : List Addr), DG (X.blk s H scope (compEnvC scope cl C X.env) fp) tg t) (ht : ∀ (s : Shared) (H : Hp) (C : Addr) (cl : List (Str × Addr)) (fp : List Addr), PTs (X.blk s H scope (compEnvC scope cl C X.env) fp) ifs (tDT X.K W0 test))
    (he : ∀ (s : Shared) (H : Hp) (C : Addr) (cl : List (Str × Addr)) (fp : List Addr), DE (X.blk s H scope (compEnvC scope cl C X.env) fp) W0 elt fe) (hs : ∀ x, foldedSetIterable iter X.env x = pure x := by intro _; rfl) : DE X W (.ListComp elt [⟨tg, iter, ifs, 0⟩] scope pos) (eLc f t test fe (own.map (·.2))) :=
  PE_imp (pe_lc hc hN hi ok hg ht he hs) fun σ H Q h => lc_imp hv h
theorem ds_setLc (i : Nat) {y : Str} {py spos : Pos} {elt tg iter : Expr} {ifs : List Expr} {scope : Scope} (own : List (Str × Nat)) {f : PEnv → M Src} {t : Tgt} {test : PEnv → M Bool} {fe : PEnv → M PV} (hc : X.calm = true) (hN : X.N.Nodup) (hi : DI X W tg iter f) (ok : BlkOk X.N X.env.scope scope own) (hv : ∀ i ∈ t.slots, i ∈ own.map (·.2))
    (hg : ∀ (s : Shared) (H : Hp) (C : Addr) (cl : List (Str × Addr)) (fp : List Addr), DG (X.blk s H scope (compEnvC scope cl C X.env) fp) tg t) (ht : ∀ (s : Shared) (H : Hp) (C : Addr) (cl : List (Str × Addr)) (fp : List Addr), PTs (X.blk s H scope (compEnvC scope cl C X.env) fp) ifs (tDT X.K W0 test))
    (he : ∀ (s : Shared) (H : Hp) (C : Addr) (cl : List (Str × Addr)) (fp : List Addr), DE (X.blk s H scope (compEnvC scope cl C X.env) fp) W0 elt fe)
    (hsw : swapsWith (.ListComp elt [⟨tg, iter, ifs, 0⟩] scope pos) (some (.Name y py)) spos.line X.env = pure true) (hy : X.N[i]? = some y := by rfl) (hyl : X.env.scope.names.lookup y = some .local := by rfl) (hs : ∀ x, foldedSetIterable iter X.env x = pure x := by intro _; rfl) :
    DS X W (.Assign [.Name y py] (.ListComp elt [⟨tg, iter, ifs, 0⟩] scope pos) spos) (sSet i (eLc f t test fe (own.map (·.2)))) := by
  refine PS_imp (ps_setLc (te := tD X.K W0 fe) (g := gT X.K t) hc hN hy hyl hsw hi ok hg ht he hs) fun D σ H ⟨α, S, ρ, o, sl, h⟩ => ?_
  refine lc_imp hv ⟨α, S, ρ, o, sl, (lift_od sl h).imp (fun d α1 S1 H1 m1 h1 v rv => ?_) fun _ _ _ _ _ q => q⟩
  exact h1 α1 H1 (.refl m1.ok) _ ((sl.mv m1).set i rv)
theorem pts_nilD {W : WJ} : PTs X [] (tDT X.K W tTrue) := ⟨fun pins s σ H Q I ⟨α, S, ρ, o, sl, h⟩ => pts_nil.run pins s σ H Q I (h α H (.refl o))⟩
theorem pts_oneD {W : WJ} {c : Expr} {f : PEnv → M Bool} (h : DT X W c f) : PTs X [c] (tDT X.K W f) := pts_one h
end

/-! ### what is walked -/
def srcRange (lo : Int) (n : Nat) : Src := ⟨(List.range n).map fun i => PV.int (lo + (i : Nat)), fun _ => True⟩
def range1M : List PV → M Src
  | [.int j] => if -(2 ^ 62) ≤ j ∧ j < 2 ^ 62 then M.ret (srcRange 0 j.toNat) else M.bad
  | _ => M.bad
def range2M : List PV → M Src
  | [.int i, .int j] => if -(2 ^ 62) ≤ i ∧ i < 2 ^ 62 ∧ -(2 ^ 62) ≤ j ∧ j < 2 ^ 62 then M.ret (srcRange i (j - i).toNat) else M.bad
  | _ => M.bad
theorem srcRange_ok {K : PySem.W.Frag} {α : List Addr} {H : Hp} (lo : Int) (n : Nat) : SrcOk K (Itr lo n) α H (srcRange lo n) := by
  intro i α' S' H' m _
  refine ⟨fun x e => ?_, fun hl => ?_⟩
  · have hi : i < n := by
      have := (List.getElem?_eq_some_iff.mp e).1
      simpa [srcRange] using this
    have ex : x = .int (lo + (i : Nat)) := by
      simp [srcRange, hi] at e
      exact e.symm
    subst ex
    refine ⟨hi, fun v H'' y => ?_⟩
    obtain ⟨y1, y2⟩ := y
    subst y1; subst y2
    exact ⟨.refl m.ok, .int _⟩
  · show n ≤ i
    simpa [srcRange] using hl
theorem seqL {K : PySem.W.Frag} {α : List Addr} {H : Hp} {S : Store} {n : Nat} {a : Addr} {c : Cell} (o : StoreOk K α S H) (e : α[n]? = some a) (e2 : S[n]? = some c) : (∀ xs, c = .lst xs ∨ c = .rls xs → ∃ vs, SqL K H a vs ∧ Reps K α H xs vs) := by
  intro xs hc
  have k := o.ok _ _ _ e e2
  rcases hc with rfl | rfl
  · obtain ⟨vs, h, r⟩ := k; exact ⟨vs, SqL.of h, r⟩
  · obtain ⟨vs, h, r⟩ := k
    refine ⟨vs, ?_, r⟩
    rcases h with ⟨o, h⟩ | h
    · exact .inl (.inr ⟨o, h⟩)
    · exact .inr h
/-- the items of a list cell -/
def Cell.items? : Cell → Option (List PV)
  | .lst xs => some xs
  | .rls xs => some xs
  | _ => none
theorem Cell.items_or {c : Cell} {xs : List PV} (h : c.items? = some xs) : c = .lst xs ∨ c = .rls xs := by
  cases c with
  | lst ys => cases h; exact .inl rfl
  | rls ys => cases h; exact .inr rfl
  | ins C fs => cases h
  | obj => cases h
  | xdc fs => cases h
  | fns ns => cases h
  | dK kvs => cases h
  | dT kvs => cases h
def seqM : PV → M Src
  | .tup xs => M.ret ⟨xs, fun _ => True⟩
  | .cell n => getC n fun c => match c.items? with
    | some xs => M.ret ⟨xs, fun S' => S'[n]? = some c⟩
    | none => M.bad
  | _ => M.bad
theorem srcList_ok {K : PySem.W.Frag} {α : List Addr} {H : Hp} {n : Nat} {a : Addr} {c : Cell} {xs : List PV} (e : α[n]? = some a) (hc : c.items? = some xs) : SrcOk K (Itl K a) α H ⟨xs, fun S' => S'[n]? = some c⟩ := by
  intro i α' S' H' m hk
  obtain ⟨vs, hq, r⟩ := seqL m.ok (m.le _ _ e) hk xs (Cell.items_or hc)
  refine ⟨fun x ex => ?_, fun hl => ⟨vs, hq, ?_⟩⟩
  · obtain ⟨v, ev, rv⟩ := r.get ex
    refine ⟨⟨vs, v, hq, ev⟩, fun w H'' y => ?_⟩
    obtain ⟨y1, y2⟩ := y
    subst y1
    have z := y2 vs hq
    rw [ev] at z
    cases z
    exact ⟨.refl m.ok, rv⟩
  · have hl' : xs.length ≤ i := hl
    rw [← r.length]; exact hl'
theorem srcTup_ok {K : PySem.W.Frag} {α : List Addr} {H : Hp} {a : Addr} {vs : List V} {xs : List PV} (h : ST K H a vs) (r : Reps K α H xs vs) : SrcOk K (Itt K a) α H ⟨xs, fun _ => True⟩ := by
  intro i α' S' H' m hk
  have hq := (m.grow.sT h).sq
  have r' := r.mono m.grow m.le
  refine ⟨fun x ex => ?_, fun hl => ⟨vs, hq, ?_⟩⟩
  · obtain ⟨v, ev, rv⟩ := r'.get ex
    refine ⟨⟨vs, v, hq, ev⟩, fun w H'' y => ?_⟩
    obtain ⟨y1, y2⟩ := y
    subst y1
    have z := y2 vs hq
    rw [ev] at z
    cases z
    exact ⟨.refl m.ok, rv⟩
  · have hl' : xs.length ≤ i := hl
    rw [← r.length]; exact hl'
section
variable {X : Cx} {W : WJ} {tg a b : Expr} {pos : Pos}
def sArgs (g : List PV → M Src) (f : PEnv → M (List PV)) : PEnv → M Src := fun ρ => (f ρ).bind g
theorem di_range1 {p : Pos} {f : PEnv → M (List PV)} (hm : X.mg "range" = none) (ha : DA X W [a] f) (hg : Gl X "range" := by rfl) (hs : starEach [a] X.env = [(false, eval a X.env)] := by rfl) : DI X W tg (.Call (.Name "range" p) [a] [] pos) (sArgs range1M f) := by
  refine PI_imp (pi_range1 hg hm ha hs) fun σ H R ⟨α, S, ρ, o, sl, h⟩ => ?_
  refine ⟨α, S, ρ, o, sl, (OD.bind (o := f ρ S) h).imp (fun xs α1 S1 H1 m1 h1 vs rv => ?_) fun _ _ _ _ _ q => q⟩
  unfold range1M at h1
  split at h1
  · rename_i j
    by_cases q : -(2 ^ 62) ≤ j ∧ j < 2 ^ 62
    · rw [if_pos q] at h1
      cases rv with
      | cons r rr =>
        cases r
        cases rr
        exact ⟨j, rfl, q.1, q.2, h1 α1 H1 (.refl m1.ok) _ (srcRange_ok 0 _)⟩
    · rw [if_neg q] at h1; exact h1.elim
  · exact h1.elim
theorem di_range2 {p : Pos} {f : PEnv → M (List PV)} (hm : X.mg "range" = none) (ha : DA X W [a, b] f) (hg : Gl X "range" := by rfl) (hs : starEach [a, b] X.env = [(false, eval a X.env), (false, eval b X.env)] := by rfl) (hs2 : starEach [b] X.env = [(false, eval b X.env)] := by rfl) : DI X W tg (.Call (.Name "range" p) [a, b] [] pos) (sArgs range2M f) := by
  refine PI_imp (pi_range2 hg hm ha hs hs2) fun σ H R ⟨α, S, ρ, o, sl, h⟩ => ?_
  refine ⟨α, S, ρ, o, sl, (OD.bind (o := f ρ S) h).imp (fun xs α1 S1 H1 m1 h1 vs rv => ?_) fun _ _ _ _ _ q => q⟩
  unfold range2M at h1
  split at h1
  · rename_i i j
    by_cases q : -(2 ^ 62) ≤ i ∧ i < 2 ^ 62 ∧ -(2 ^ 62) ≤ j ∧ j < 2 ^ 62
    · rw [if_pos q] at h1
      cases rv with
      | cons r rr =>
        cases r
        cases rr with
        | cons r2 r3 =>
          cases r2
          cases r3
          exact ⟨i, j, rfl, q, h1 α1 H1 (.refl m1.ok) _ (srcRange_ok i _)⟩
    · rw [if_neg q] at h1; exact h1.elim
  · exact h1.elim
/-- a list or a tuple, walked -/
def iSeq (K : PySem.W.Frag) (tl : TE) : TI := fun σ H R => tl σ H fun x H1 => ∃ a, x = .ref a ∧ (((∃ xs, SqL K H1 a xs) ∧ R (Itl K a) H1) ∨ ((∃ xs, SqT K H1 a xs) ∧ R (Itt K a) H1))
theorem pi_seq {l : Expr} {tl : TE} (hl : PE X l tl) : PI X tg l (iSeq X.K tl) := by
  refine ⟨fun pins s σ H R I h => thn (hl.run pins s σ H _ I h) fun v s1 ⟨x, H1, I1, r1, a, ex, q⟩ => ?_⟩
  subst ex
  have hv : v = Value.ref a := r1
  subst hv
  have hsz : ∀ b ∈ [s1.heap.objs.size], FpOk X pins H1 b := fun b hb => by
    have e : b = s1.heap.objs.size := by simpa using hb
    rw [e]
    exact I1.fpOk (Nat.le_refl _) (I1.hok.fresh (Nat.le_refl _))
  rcases q with ⟨⟨xs, hq⟩, q⟩ | ⟨⟨xs, hq⟩, q⟩
  · obtain ⟨its, rv, p, hz⟩ := I1.list hq
    exact wpAny_pyIter_list p.isList ⟨_, _, _, _, _, rfl, I1.kept (t' := s1.toks) (fun b o e => Heap.get?_push_of_some _ e), turn_list a s1.heap.objs.size, ⟨_, Heap.get?_push_size _ rfl, rfl, rfl⟩, hsz, q⟩
  · obtain ⟨its, rv, p, hz⟩ := I1.tuple hq
    exact wpAny_pyIter_tuple (show s1.heap.IsTuple a its.toArray from p) ⟨_, _, _, _, _, rfl, I1.kept (t' := s1.toks) (fun b o e => Heap.get?_push_of_some _ e), turn_tuple a s1.heap.objs.size, ⟨_, Heap.get?_push_size _ rfl, rfl, rfl⟩, hsz, q⟩
def eSrc (f : PEnv → M PV) : PEnv → M Src := fun ρ => (f ρ).bind seqM
theorem di_seq {f : PEnv → M PV} (h : DE X W a f) : DI X W tg a (eSrc f) := by
  refine PI_imp (pi_seq h) fun σ H R ⟨α, S, ρ, o, sl, h⟩ => ?_
  refine ⟨α, S, ρ, o, sl, (OD.bind (o := f ρ S) h).imp (fun x α1 S1 H1 m1 h1 v rv => ?_) fun _ _ _ _ _ q => q⟩
  cases x with
  | tup xs =>
    cases rv with
    | tup hs hr => exact ⟨_, rfl, .inr ⟨⟨_, hs.sq⟩, h1 α1 H1 (.refl m1.ok) _ (srcTup_ok hs hr)⟩⟩
  | cell n =>
    cases rv with
    | cell e =>
      obtain ⟨c, q, h2⟩ := getC_od (show OD X.K α1 H1 (getC n _ S1) _ _ from h1)
      cases z : c.items? with
      | none => rw [z] at h2; exact h2.elim
      | some xs =>
        rw [z] at h2
        obtain ⟨vs, hq, _⟩ := seqL m1.ok e q xs (Cell.items_or z)
        exact ⟨_, rfl, .inl ⟨⟨vs, hq⟩, h2 α1 H1 (.refl m1.ok) _ (srcList_ok e z)⟩⟩
  | _ => exact h1.elim
end
end DL

/-! DLe: defs and their calls. -/
namespace DL
open PySem PySem.Spec PyProof.Rows L2
open Classical

/-- a def's promise where no repr is under way -/
structure FnG (P : Program) (w : World) (K : PySem.W.Frag) (mg : Str → Option Value) (base : Heap) (k : Nat) (f : Addr) (fd : FuncData) (ps : List Str) (sp : Sp) : Prop where
  len : ∀ vs H Q E, sp vs H Q E → vs.length = ps.length
  run : ∀ (A : Around) (outer : List Env) (s : Shared) (H : Hp) (args : Args) (us : List Value) (vs : List V) (Q : VK) (E : XK), Room k A → A.guards = some [] →
    Env0 P w K mg base A outer s H → BindsTo s fd args (ps.zip us) → Vals vs us → sp vs H Q E → codeAny (model P w) A (.call (.ref f) args) (CR (L2.CX P w) outer P w H s Q E) s
theorem FnG.mono {P : Program} {w : World} {K : PySem.W.Frag} {mg : Str → Option Value} {base : Heap} {j k : Nat} {f : Addr} {fd : FuncData} {ps : List Str} {sp : Sp} (F : FnG P w K mg base j f fd ps sp) (h : j ≤ k) : FnG P w K mg base k f fd ps sp :=
  ⟨F.len, fun A outer s H args us vs Q E hr gd => F.run A outer s H args us vs Q E (hr.mono h) gd⟩
abbrev FD := List PV → M PV
def spD (K : PySem.W.Frag) (np : Nat) (F : FD) : Sp := fun vs H Q E => ∃ α S ds, ds.length = np ∧ StoreOk K α S H ∧ Reps K α H ds vs ∧
  OD K α H (F ds S) (fun d α' _ H' => ∀ v, Rep K α' H' d v → Q v H') (fun c α' _ H' => ∀ cls d, XRep K α' H' c cls d → E cls d H')
/-- a body as a function of the arguments; nn slots in all -/
def endF : Fl × PEnv → M PV := fun r => match r.1 with
  | .nx => M.ret .non
  | .rt d => M.ret d
  | .ex c => fun S => .ex c S
  | _ => M.bad
def runF (nn : Nat) (g : SD) : FD := fun ds S => (noEx (g (ds.map some ++ List.replicate (nn - ds.length) none) S)).bind endF

theorem Slots.start {K : PySem.W.Frag} {α : List Addr} {H : Hp} {ds : List PV} {vs : List V} (r : Reps K α H ds vs) (N : List Str) : Slots K J0 α H (ds.map some ++ List.replicate (N.length - ds.length) none) (L2.start N vs) := by
  have hl := r.length
  refine ⟨by unfold L2.start; simp [hl], trivial, fun i d e => ?_⟩
  by_cases hi : i < ds.length
  · rw [List.getElem?_append_left (by simpa using hi), List.getElem?_map] at e
    cases q : ds[i]? with
    | none => rw [q] at e; cases e
    | some x =>
      rw [q] at e
      cases e
      obtain ⟨v, h1, h2⟩ := r.get q
      refine ⟨v, ?_, h2⟩
      unfold L2.start
      rw [List.getElem?_append_left (by rw [List.length_map, ← hl]; exact hi), List.getElem?_map, h1]; rfl
  · rw [List.getElem?_append_right (by simpa using hi), List.getElem?_replicate] at e
    split at e <;> cases e

section
variable {P : Program} {w : World} {K : PySem.W.Frag} {mg : Str → Option Value} {base : Heap}
theorem fnG_mk {x qual : Str} {st : Stmt} {f : Addr} {fd : FuncData} {N ps : List Str} {k : Nat} {g : SD} (F : L2.Fun K x qual st f fd) (S : FnScope N ps (defScope st))
    (hbody : ∀ (cdv : Value) (A : Around) (outer : List Env) (s : Shared) (H : Hp) (E : XK), Room k (A.deeper (envOfC qual (defScope st) s.heap.objs.size f cdv)) → A.guards = some [] →
      DSs (cxOf (L2.CX P w) P w K mg base N qual (defScope st) f cdv A outer s H E) ⟨fun cls d _ H => E cls d H, J0⟩ (defBody st) g) :
    FnG P w K mg base (k + 1) f fd ps (spD K ps.length (runF N.length g)) := by
  obtain ⟨oc, od, kV, doc, pm, an, cdv, ct, osl, rfl, lk, hcd⟩ := F.ex
  have len : ∀ vs H Q E, spD K ps.length (runF N.length g) vs H Q E → vs.length = ps.length := by
    rintro vs H Q E ⟨α, S, ds, hl, _, r, _⟩
    rw [← r.length, hl]
  refine ⟨len, fun A outer s H args us vs Q E hr gd e0 hb r hsp => ?_⟩
  have hl := len _ _ _ _ hsp
  have old : ∀ b o, base.get? b = some o → s.heap.get? b = some o := fun b o e => (e0.bs b o e).1
  have KX : K.In s.heap := e0.mod.kin.keeps old
  have code := PySem.W.codeRec_of KX hcd
  refine codeAny_call_function hr.depth (KX _ _ lk) rfl S.co S.gen rfl code (hb _ _ _ _ ?_)
  refine wpAny_newFunctionEnv_cells S.kind (fun y hy => ?_) fun env he s1 x => ?_
  · rcases S.par y.1 (List.of_mem_zip hy).1 with q | q
    · exact .inl q
    · exact .inr ⟨q, PySem.W.cellsFrom_some _ _ _ (.inl q)⟩
  · subst he
    refine ⟨(e0.mod.nolimit.keeps old).keeps x.toInCall.keep, codeAny_func ?_⟩
    have I : Inv (cxOf (L2.CX P w) P w K mg base N qual (defScope st) f cdv A outer s H E) [] (L2.start N vs) H s1 := inv_start S hr.hd e0 hl r x
    obtain ⟨α, S0, ds, hd, so, rp, q⟩ := hsp
    have hq : tS K ⟨fun cls d _ H => E cls d H, J0⟩ g { nx := fun _ H' => Q .non H', rt := Q } (L2.start N vs) H := by
      refine ⟨α, S0, _, so, Slots.start rp N, (noEx_od (OD.bind q)).imp (fun r α1 S1 H1 m1 h1 => ?_) fun _ _ _ _ _ z => z⟩
      obtain ⟨fl, ρ1⟩ := r
      cases fl with
      | nx => exact fun _ _ => h1 α1 H1 (.refl m1.ok) _ .non
      | rt d => exact fun _ _ v rv => h1 α1 H1 (.refl m1.ok) v rv
      | bk => exact h1.elim
      | ct => exact h1.elim
      | ex c => exact fun _ _ cls d xr => h1 α1 H1 (.refl m1.ok) cls d xr
    refine wpAny_mono ((hbody cdv A outer s H E (hr.deeper _) gd).run [] s1 (L2.start N vs) H _ I hq) (fun fl s' hs => ?_) fun e s' hs => hs
    cases fl with
    | ret u =>
      obtain ⟨v, σ', H', J, rv, q'⟩ := hs
      exact ⟨v, H', J.os, J.bare, J.base, J.hok, rv, q'⟩
    | next =>
      obtain ⟨σ', H', J, q'⟩ := hs
      exact ⟨.non, H', J.os, J.bare, J.base, J.hok, rfl, q'⟩
    | brk => obtain ⟨_, _, _, q'⟩ := hs; exact q'.elim
    | cont => obtain ⟨_, _, _, q'⟩ := hs; exact q'.elim
end

theorem fnG_mk' {x qual : Str} {st : Stmt} {f : Addr} {fd : FuncData} (N ps : List Str) (k np nn : Nat) (g : SD) (hnp : ps.length = np) (hnn : N.length = nn) (P : Program) (w : World) {K : PySem.W.Frag} (mg : Str → Option Value) (base : Heap) (F : L2.Fun K x qual st f fd) (S : FnScope N ps (defScope st))
    (hbody : ∀ (cdv : Value) (A : Around) (outer : List Env) (s : Shared) (H : Hp) (E : XK), Room k (A.deeper (envOfC qual (defScope st) s.heap.objs.size f cdv)) → A.guards = some [] →
      DSs (cxOf (L2.CX P w) P w K mg base N qual (defScope st) f cdv A outer s H E) ⟨fun cls d _ H => E cls d H, J0⟩ (defBody st) g) : FnG P w K mg base (k + 1) f fd ps (spD K np (runF nn g)) := by
  subst hnp; subst hnn
  exact fnG_mk F S hbody

/-! ### calls -/
def chkL (np : Nat) (F : FD) : FD := fun ds => if ds.length = np then F ds else M.bad
section
variable {X : Cx} {W : WJ} {k np : Nat} {f : Addr} {fd : FuncData} {ps : List Str} {F : FD} {pins : List (Addr × Obj)} {σ : L2.St} {H : Hp} {s : Shared} {Q : VK}
/-- the callee runs -/
theorem run_G {us : List Value} {vs : List V} {sp : Sp} {kw : List (Str × Value)} {us' : List Value} (G : FnG X.prog X.w X.K X.mg X.base k f fd ps sp) (hr : Room k X.A) (gd : X.A.guards = some []) (tk : Takes X W.w)
    (hb : BindsTo s fd ⟨us', kw⟩ (ps.zip us)) (I : Inv X pins σ H s) (r : Vals vs us) (h : sp vs H Q (WE W.w σ)) : wpAny (model X.prog X.w) X.A (call (.ref f) us' kw) (EP X pins σ Q) X.xe s := by
  refine wpAny_call (codeAny_mono (G.run X.A X.stack s H _ us vs Q (WE W.w σ) hr gd I.env0 hb r h) fun r s' hq => ?_)
  cases r with
  | error e => exact passAt tk σ pins H s e s' I hq
  | ok fl =>
    cases fl with
    | ret u => exact I.after hq
    | next => exact False.elim hq
    | brk => exact False.elim hq
    | cont => exact False.elim hq
theorem sp_of {α : List Addr} {S : Store} {ds : List PV} {vs : List V} (o : StoreOk X.K α S H) (r : Reps X.K α H ds vs) (h : OD X.K α H (chkL np F ds S) (fun d α' _ H' => ∀ v, Rep X.K α' H' d v → Q v H') (EX X.K W σ)) : spD X.K np F vs H Q (WE W.w σ) := by
  unfold chkL at h
  by_cases q : ds.length = np
  · rw [if_pos q] at h
    exact ⟨α, S, ds, q, o, r, h⟩
  · rw [if_neg q] at h; exact h.elim
variable {x : Str} {p pos : Pos} {e : Expr} {es : List Expr}
/-- f(e, ..) of a def of the module -/
theorem de_call {fa : PEnv → M (List PV)} (G : FnG X.prog X.w X.K X.mg X.base k f fd ps (spD X.K np F)) (hr : Room k X.A) (gd : X.A.guards = some []) (tk : Takes X W.w) (hm : X.mg x = some (.ref f)) (hk : PySem.W.keepIn X.K (.ref f) = true) (hb : Binds X.K fd ps [])
    (ha : DA X W (e :: es) fa) (hg : Gl X x := by rfl) (hdb : (x == ("__debug__" : Str)) = false := by decide) (he : starEach (e :: es) X.env = (false, eval e X.env) :: starEach es X.env := by rfl) (hpl : (backTo pos (starEach es X.env)).any (·.1) = false := by rfl) :
    DE X W (.Call (.Name x p) (e :: es) [] pos) (eArgs (chkL np F) fa) := by
  refine ⟨fun pins s σ H Q I ⟨α, S, ρ, o, sl, h⟩ => ?_⟩
  refine wpAny_Call_Name_kw (ld_glob I hg hm ?_ hdb)
  refine PySem.W.callWith_K (h₀ := X.base) I.ok.mod.kin hk (thn (ha.run pos pins s σ H (fun vs H1 => spD X.K np F vs H1 Q (WE W.w σ)) I ⟨α, S, ρ, o, sl, ?_⟩) fun us s1 ⟨vs, H1, I1, r, q⟩ => ⟨I1.kIn, ?_⟩) he hpl
  · exact (OD.bind (o := fa ρ S) h).imp (fun ds α1 S1 H1 m1 h1 vs rv => sp_of m1.ok rv h1) fun _ _ _ _ _ q => q
  · have hl : (us ++ []).length = ps.length := by rw [List.append_nil, ← r.length]; exact G.len _ _ _ _ q
    have b := hb s1 us I1.kIn hl
    rw [List.append_nil] at b
    exact run_G G hr gd tk b I1 r q
theorem de_call0 (G : FnG X.prog X.w X.K X.mg X.base k f fd ps (spD X.K np F)) (hr : Room k X.A) (gd : X.A.guards = some []) (tk : Takes X W.w) (hm : X.mg x = some (.ref f)) (hk : PySem.W.keepIn X.K (.ref f) = true) (hb : Binds X.K fd ps [])
    (hg : Gl X x := by rfl) (hdb : (x == ("__debug__" : Str)) = false := by decide) : DE X W (.Call (.Name x p) [] [] pos) (eArgs (chkL np F) eNil) := by
  refine ⟨fun pins s σ H Q I ⟨α, S, ρ, o, sl, h⟩ => ?_⟩
  refine wpAny_Call_Name_kw (ld_glob I hg hm ?_ hdb)
  have q : spD X.K np F [] H Q (WE W.w σ) := sp_of o .nil h
  have hl : ([] ++ [] : List Value).length = ps.length := by
    have := G.len _ _ _ _ q
    simpa using this
  exact PySem.W.callWith_K0 I.kIn hk (run_G G hr gd tk (hb s [] I.kIn hl) I .nil q)
/-! keywords alone: f(k = v, ..) -/
def pick {β : Type} (ix : List Nat) (zs : List β) : List β := ix.filterMap fun i => zs[i]?
theorem Vals.pick {vs : List V} {us : List Value} (r : Vals vs us) : ∀ ix : List Nat, Vals (DL.pick ix vs) (DL.pick ix us)
  | [] => .nil
  | i :: ix => by
    unfold DL.pick
    rw [List.filterMap_cons, List.filterMap_cons]
    cases q : vs[i]? with
    | none => rw [r.none_of q]; exact Vals.pick r ix
    | some v =>
      obtain ⟨u, h1, h2⟩ := r.get q
      rw [h1]
      exact .cons h2 (Vals.pick r ix)
theorem Reps.pick {K : PySem.W.Frag} {α : List Addr} {ds : List PV} {vs : List V} (r : Reps K α H ds vs) : ∀ ix : List Nat, Reps K α H (DL.pick ix ds) (DL.pick ix vs)
  | [] => .nil
  | i :: ix => by
    unfold DL.pick
    rw [List.filterMap_cons, List.filterMap_cons]
    cases q : ds[i]? with
    | none =>
      have z : vs[i]? = none := by
        rw [List.getElem?_eq_none_iff] at q ⊢
        rw [← r.length]; exact q
      rw [z]; exact Reps.pick r ix
    | some d =>
      obtain ⟨v, h1, h2⟩ := r.get q
      rw [h1]
      exact .cons h2 (Reps.pick r ix)
abbrev DK (X : Cx) (W : WJ) (kws : List Keyword) (f : PEnv → M (List PV)) : Prop := PK X kws (tDA X.K W f)
theorem dk_nil : DK X W [] eNil := ⟨fun pos pins s σ H Q I ⟨α, S, ρ, o, sl, h⟩ => pk_nil.run pos pins s σ H Q I (h α H (.refl o) [] .nil)⟩
theorem dk_cons {nm : Option Str} {kpos : Pos} {kws : List Keyword} {f1 : PEnv → M PV} {g1 : PEnv → M (List PV)} (ha : DE X W e f1) (hr : DK X W kws g1) : DK X W (⟨nm, e, kpos⟩ :: kws) (eCons f1 g1) := by
  refine ⟨fun pos pins s σ H Q I ⟨α, S, ρ, o, sl, h⟩ => (pk_cons ha hr).run pos pins s σ H Q I ?_⟩
  refine ⟨α, S, ρ, o, sl, (OD.bind (o := f1 ρ S) h).imp (fun x α1 S1 H1 m1 h1 v rv => ?_) fun _ _ _ _ _ q => q⟩
  refine ⟨α1, S1, ρ, m1.ok, sl.mv m1, (OD.bind (o := g1 ρ S1) h1).imp (fun xs α2 S2 H2 m2 h2 vs rvs => ?_) fun _ _ _ _ _ q => q⟩
  exact h2 α2 H2 (.refl m2.ok) _ (.cons (rv.mono m2.grow m2.le) rvs)
theorem de_callK {kws : List Keyword} (ks : List Str) (ix : List Nat) {fk : PEnv → M (List PV)} (G : FnG X.prog X.w X.K X.mg X.base k f fd ps (spD X.K np F)) (hr : Room k X.A) (gd : X.A.guards = some []) (tk : Takes X W.w) (hm : X.mg x = some (.ref f)) (hk : PySem.W.keepIn X.K (.ref f) = true)
    (hb : ∀ (s : Shared) (ws : List Value), ws.length = ks.length → BindsTo s fd ⟨[], ks.zip ws⟩ (ps.zip (pick ix ws))) (ha : DK X W kws fk) (hg : Gl X x := by rfl) (hall : (backToKw pos (keywordEach kws X.env)).all (·.1.isSome) = true := by rfl)
    (hks : (backToKw pos (keywordEach kws X.env)).filterMap (·.1) = ks := by rfl) (hdb : (x == ("__debug__" : Str)) = false := by decide) (hpl : ((backTo pos (starEach [] X.env)).any (·.1) || (backToKw pos (keywordEach kws X.env)).any (·.1.isNone)) = false := by rfl) :
    DE X W (.Call (.Name x p) [] kws pos) (eArgs (fun zs => if zs.length = ks.length then chkL np F (pick ix zs) else M.bad) fk) := by
  refine ⟨fun pins s σ H Q I ⟨α, S, ρ, o, sl, h⟩ => ?_⟩
  refine wpAny_Call_Name_kw (ld_glob I hg hm ?_ hdb)
  refine PySem.W.callWith_KW0 (h₀ := X.base) I.ok.mod.kin hk hall (thn (ha.run pos pins s σ H (fun vs H1 => vs.length = ks.length ∧ spD X.K np F (pick ix vs) H1 Q (WE W.w σ)) I ⟨α, S, ρ, o, sl, ?_⟩) fun us s1 ⟨vs, H1, I1, r, hl, q⟩ => ⟨I1.kIn, ?_⟩) hpl
  · refine (OD.bind (o := fk ρ S) h).imp (fun ds α1 S1 H1 m1 h1 vs rv => ?_) fun _ _ _ _ _ q => q
    by_cases z : ds.length = ks.length
    · rw [if_pos z] at h1
      exact ⟨by rw [← rv.length, z], sp_of m1.ok (rv.pick ix) h1⟩
    · rw [if_neg z] at h1; exact h1.elim
  · rw [hks]
    exact run_G (us' := []) G hr gd tk (hb s1 us (by rw [← r.length, hl])) I1 (Vals.pick r ix) q
end
end DL

/-! DLo: operators, built-ins by values. -/
namespace DL
open PySem PySem.Spec PyProof.Rows L2
open Classical

theorem if_outM {β : Type} {c : Prop} {dc : Decidable c} {m : M β} {K : PySem.W.Frag} {α : List Addr} {H : Hp} {S : Store} {R : β → List Addr → Store → Hp → Prop} {E : Exn → List Addr → Store → Hp → Prop} (h : OD K α H ((if c then m else M.bad : M β) S) R E) : c ∧ OD K α H (m S) R E := by
  by_cases hc : c
  · rw [if_pos hc] at h; exact ⟨hc, h⟩
  · rw [if_neg hc] at h; exact h.elim
/-! ### data: what stands below a value, lists read too -/
def mapO {β γ : Type} (f : β → Option γ) : List β → Option (List γ)
  | [] => some []
  | x :: xs => match f x with
    | some y => (mapO f xs).map (y :: ·)
    | none => none
def toD (S : Store) : Nat → PV → Option PyData
  | 0, _ => none
  | n + 1, x => match x with
    | .non => some .none
    | .bl b => some (.bool b)
    | .int i => some (.int i)
    | .str y => some (.str y)
    | .tup xs => (mapO (toD S n) xs).map .tuple
    | .cell c => (S[c]?.bind Cell.items?).bind fun xs => (mapO (toD S n) xs).map .list
    | .con _ => none
theorem mapO_dp {K : PySem.W.Frag} {α : List Addr} {H : Hp} {f : PV → Option PyData} (hf : ∀ x d v, f x = some d → Rep K α H x v → Dp K H v d) : ∀ {xs : List PV} {vs : List V} {ds : List PyData}, mapO f xs = some ds → Reps K α H xs vs → DpAll K H vs ds
  | [], _, _, e, r => by cases e; cases r; exact .nil
  | x :: xs, _, _, e, r => by
    cases r with
    | cons r1 r2 =>
      unfold mapO at e
      cases q : f x with
      | none => rw [q] at e; cases e
      | some d =>
        rw [q] at e
        cases q2 : mapO f xs with
        | none => rw [q2] at e; cases e
        | some ds => rw [q2] at e; cases e; exact .cons (hf _ _ _ q r1) (mapO_dp hf q2 r2)
theorem toD_dp {K : PySem.W.Frag} {α : List Addr} {H : Hp} {S : Store} (o : StoreOk K α S H) : ∀ (n : Nat) (x : PV) (d : PyData) (v : V), toD S n x = some d → Rep K α H x v → Dp K H v d
  | 0, _, _, _, e, _ => by cases e
  | n + 1, x, d, v, e, r => by
    unfold toD at e
    cases x with
    | non => cases e; cases r; exact .non
    | bl b => cases e; cases r; exact .bl b
    | int i => cases e; cases r; exact .int i
    | str y => cases e; cases r; exact .str y
    | tup xs =>
      simp only at e
      cases q : mapO (toD S n) xs with
      | none => rw [q] at e; cases e
      | some ds =>
        rw [q] at e
        cases e
        cases r with
        | tup hs hr => exact .tup hs.sq (mapO_dp (toD_dp o n) q hr)
    | cell c =>
      simp only at e
      cases q : S[c]? with
      | none => rw [q] at e; cases e
      | some cl =>
        rw [q] at e
        simp only [Option.bind_some] at e
        cases q2 : cl.items? with
        | none => rw [q2] at e; cases e
        | some xs =>
          rw [q2] at e
          simp only [Option.bind_some] at e
          cases q3 : mapO (toD S n) xs with
          | none => rw [q3] at e; cases e
          | some ds =>
            rw [q3] at e
            cases e
            cases r with
            | cell ea =>
              obtain ⟨vs, hq, hr⟩ := seqL o ea q xs (Cell.items_or q2)
              exact .lst hq (mapO_dp (toD_dp o n) q3 hr)
    | con u => cases e
def eqM (x y : PV) : M Bool := fun S => match toD S 64 x, toD S 64 y with
  | some d, some e => if SeqAt.shaped d = true ∧ SeqAt.shaped e = true then .ok (PyData.eqv d e) S else .bad
  | _, _ => .bad
theorem eqM_od {K : PySem.W.Frag} {α : List Addr} {H : Hp} {S : Store} {x y : PV} {vx vy : V} {R : Bool → List Addr → Store → Hp → Prop} {E : Exn → List Addr → Store → Hp → Prop} (o : StoreOk K α S H) (rx : Rep K α H x vx) (ry : Rep K α H y vy) (h : OD K α H (eqM x y S) R E) :
    ∃ d e, Dp K H vx d ∧ Dp K H vy e ∧ SeqAt.shaped d = true ∧ SeqAt.shaped e = true ∧ R (PyData.eqv d e) α S H := by
  unfold eqM at h
  cases q1 : toD S 64 x with
  | none => rw [q1] at h; exact h.elim
  | some d =>
    cases q2 : toD S 64 y with
    | none => rw [q1, q2] at h; exact h.elim
    | some e =>
      rw [q1, q2] at h
      obtain ⟨⟨h1, h2⟩, h⟩ := if_out h
      exact ⟨d, e, toD_dp o _ _ _ _ q1 rx, toD_dp o _ _ _ _ q2 ry, h1, h2, h α H (.refl o)⟩
def eqV (x y : PV) : M PV := (eqM x y).bind fun b => M.ret (.bl b)
def neV (x y : PV) : M PV := (eqM x y).bind fun b => M.ret (.bl (!b))
section
variable {K : PySem.W.Frag} {X : Cx}
theorem ret_od {α : List Addr} {H : Hp} {S : Store} {β : Type} {b : β} {R : β → List Addr → Store → Hp → Prop} {E : Exn → List Addr → Store → Hp → Prop} (o : StoreOk K α S H) (h : OD K α H (M.ret b S) R E) : R b α S H := h α H (.refl o)
theorem den_eq : Den2 K (rEqD K) eqV := fun α S H x y vx vy Q E o rx ry h => by
  obtain ⟨d, e, h1, h2, h3, h4, h5⟩ := eqM_od o rx ry (OD.bind (o := eqM x y S) h)
  exact ⟨d, e, h1, h2, h3, h4, ret_od o h5 _ (.bl _)⟩
theorem den_ne : Den2 K (rNeD K) neV := fun α S H x y vx vy Q E o rx ry h => by
  obtain ⟨d, e, h1, h2, h3, h4, h5⟩ := eqM_od o rx ry (OD.bind (o := eqM x y S) h)
  exact ⟨d, e, h1, h2, h3, h4, ret_od o h5 _ (.bl _)⟩

/-! ### ints -/
def iiM {β : Type} (k : Int → Int → M β) : PV → PV → M β
  | .int i, .int j => k i j
  | _, _ => M.bad
theorem iiM_od {α : List Addr} {H : Hp} {S : Store} {β : Type} {k : Int → Int → M β} {x y : PV} {vx vy : V} {R : β → List Addr → Store → Hp → Prop} {E : Exn → List Addr → Store → Hp → Prop} (rx : Rep K α H x vx) (ry : Rep K α H y vy) (h : OD K α H (iiM k x y S) R E) :
    ∃ i j, vx = .int i ∧ vy = .int j ∧ x = .int i ∧ y = .int j ∧ OD K α H (k i j S) R E := by
  unfold iiM at h
  split at h
  · rename_i i j; cases rx; cases ry; exact ⟨i, j, rfl, rfl, rfl, rfl, h⟩
  · exact h.elim
def subV : PV → PV → M PV := iiM fun i j => M.ret (.int (i - j))
noncomputable def mulI : PV → PV → M PV := iiM fun i j => if CMul i j then M.ret (.int (i * j)) else M.bad
noncomputable def divV : PV → PV → M PV := iiM fun i j => if CDiv i j then M.ret (.int (i / j)) else M.bad
def modV : PV → PV → M PV := iiM fun i j => if 0 < j then M.ret (.int (i % j)) else M.bad
noncomputable def powV : PV → PV → M PV := iiM fun i j => if CPow i j then M.ret (.int (i ^ j.toNat)) else M.bad
theorem den_sub : Den2 K (rI0 fun i j => .int (i - j)) subV := fun α S H x y vx vy Q E o rx ry h => by
  obtain ⟨i, j, h1, h2, _, _, h3⟩ := iiM_od rx ry h
  exact ⟨i, j, h1, h2, ret_od o h3 _ (.int _)⟩
theorem den_rI {C : Int → Int → Prop} {g : Int → Int → Int} {dc : ∀ i j, Decidable (C i j)} : Den2 K (rI C fun i j => .int (g i j)) (iiM fun i j => if C i j then M.ret (.int (g i j)) else M.bad) := fun α S H x y vx vy Q E o rx ry h => by
  obtain ⟨i, j, h1, h2, _, _, h3⟩ := iiM_od rx ry h
  by_cases q : C i j
  · rw [if_pos q] at h3
    exact ⟨i, j, h1, h2, q, ret_od o h3 _ (.int _)⟩
  · rw [if_neg q] at h3; exact h3.elim
theorem den_mulI : Den2 K (rI CMul fun i j => .int (i * j)) mulI := den_rI
theorem den_div : Den2 K (rI CDiv fun i j => .int (i / j)) divV := den_rI
theorem den_mod : Den2 K (rI (fun _ j => 0 < j) fun i j => .int (i % j)) modV := den_rI
theorem den_pow : Den2 K (rI CPow fun i j => .int (i ^ j.toNat)) powV := den_rI
def negV : PV → M PV
  | .int i => M.ret (.int (-i))
  | _ => M.bad
theorem den_neg : Den1 K (rU fun i => .int (-i)) negV := fun α S H x vx Q E o rx h => by
  cases x with
  | int i => cases rx; exact ⟨i, rfl, ret_od o h _ (.int _)⟩
  | _ => exact h.elim
def gtI : PV → PV → M PV := iiM fun i j => M.ret (.bl (decide (j < i)))
def geI : PV → PV → M PV := iiM fun i j => M.ret (.bl (decide (j ≤ i)))
def leI : PV → PV → M PV := iiM fun i j => M.ret (.bl (decide (i ≤ j)))
def ltI : PV → PV → M PV := iiM fun i j => M.ret (.bl (decide (i < j)))
theorem den_bI {g : Int → Int → Bool} : Den2 K (rI0 fun i j => .bl (g i j)) (iiM fun i j => M.ret (.bl (g i j))) := fun α S H x y vx vy Q E o rx ry h => by
  obtain ⟨i, j, h1, h2, _, _, h3⟩ := iiM_od rx ry h
  exact ⟨i, j, h1, h2, ret_od o h3 _ (.bl _)⟩
theorem den_gtI : Den2 K (rI0 fun i j => .bl (decide (j < i))) gtI := den_bI
theorem den_geI : Den2 K (rI0 fun i j => .bl (decide (j ≤ i))) geI := den_bI
theorem den_leI : Den2 K (rI0 fun i j => .bl (decide (i ≤ j))) leI := den_bI
/-! < of data -/
def rLtD (K : PySem.W.Frag) : R2 := fun x y H Q => ∃ d e, Dp K H x d ∧ Dp K H y e ∧ PySem.W.alike d e = true ∧ d ≠ .none ∧ d.depth ≤ 64 ∧ Q (.bl (PySem.W.dataLt d e)) H
theorem op_ltD (hu : X.A.units + 64 < cLine) : OpR X (compareOp .Lt) (rLtD X.K) := by
  intro pins s σ H x y v u Q I rx ry h
  obtain ⟨d, e, hd, he, ha, hn, hz, q⟩ := h
  obtain ⟨as, r1⟩ := Dp.reads I d x v hd rx
  obtain ⟨bs, r2⟩ := Dp.reads I e y u he ry
  exact PySem.W.rcLt_alike d e X.A s v u as bs r1 r2 ha hn (Nat.lt_of_le_of_lt (Nat.add_le_add_left (Nat.le_trans (Nat.min_le_left _ _) hz) _) hu) X.prog X.w X.xe _ ⟨.bl _, H, I, rfl, q⟩
noncomputable def ltM (x y : PV) : M Bool := fun S => match toD S 64 x, toD S 64 y with
  | some d, some e => if PySem.W.alike d e = true ∧ d ≠ .none ∧ d.depth ≤ 64 then .ok (PySem.W.dataLt d e) S else .bad
  | _, _ => .bad
noncomputable def ltV (x y : PV) : M PV := (ltM x y).bind fun b => M.ret (.bl b)
theorem den_ltD : Den2 K (rLtD K) ltV := fun α S H x y vx vy Q E o rx ry h => by
  have h' : OD K α H ((ltM x y S).bind fun b => M.ret (.bl b)) (fun d α' _ H' => ∀ v, Rep K α' H' d v → Q v H') E := h
  unfold ltM at h'
  cases q1 : toD S 64 x with
  | none => rw [q1] at h'; exact h'.elim
  | some d =>
    cases q2 : toD S 64 y with
    | none => rw [q1, q2] at h'; exact h'.elim
    | some e =>
      rw [q1, q2] at h'
      by_cases z : PySem.W.alike d e = true ∧ d ≠ .none ∧ d.depth ≤ 64
      · simp only [if_pos z] at h'
        exact ⟨d, e, toD_dp o _ _ _ _ q1 rx, toD_dp o _ _ _ _ q2 ry, z.1, z.2.1, z.2.2, h' α H (.refl o) _ (.bl _)⟩
      · simp only [if_neg z] at h'
        exact h'.elim

/-! ### + -/
def addV : PV → PV → M PV
  | .int i, .int j => M.ret (.int (i + j))
  | .tup xs, .tup ys => if xs.length + ys.length ≤ sizeLine then M.ret (.tup (xs ++ ys)) else M.bad
  | .str a, .str b => if a.length + b.length ≤ sizeLine then M.ret (.str (a ++ b)) else M.bad
  | .cell m, .cell n => getC m fun c => getC n fun d => match c, d with
    | .lst xs, .lst ys => mkLst (xs ++ ys)
    | _, _ => M.bad
  | _, _ => M.bad
def rAddA (K : PySem.W.Frag) : R2 := fun x y H Q => (rI0 fun i j => .int (i + j)) x y H Q ∨ rCatA K x y H Q ∨ (∃ i j, x = .str i ∧ y = .str j ∧ i.length + j.length ≤ sizeLine ∧ Q (.str (i ++ j)) H) ∨ rCat x y H Q
theorem op_addA : OpR X (binaryOp .Add) (rAddA X.K) := OpR.or op_add (OpR.or op_catA (OpR.or op_add_str op_cat))
theorem den_add : Den2 K (rAddA K) addV := fun α S H x y vx vy Q E o rx ry h => by
  unfold addV at h
  split at h
  · cases rx; cases ry
    exact .inl ⟨_, _, rfl, rfl, ret_od o h _ (.int _)⟩
  · rename_i xs ys
    cases rx with
    | tup hx rxs =>
      cases ry with
      | tup hy rys =>
        rename_i a vs b ws
        obtain ⟨q, h⟩ := if_outM h
        refine .inr (.inl ⟨a, b, vs, ws, rfl, rfl, hx.sq, hy.sq, by rw [← rxs.length, ← rys.length]; exact q, fun e => ?_, fun e1 e2 => ?_, fun e1 e2 p hp => ?_⟩)
        · have e' : xs = [] := List.eq_nil_of_length_eq_zero (by rw [rxs.length, e]; rfl)
          subst e'
          exact h α H (.refl o) _ (.tup hy rys)
        · have e' : ys = [] := List.eq_nil_of_length_eq_zero (by rw [rys.length, e2]; rfl)
          subst e'
          exact h α H (.refl o) _ (by rw [List.append_nil]; exact .tup hx rxs)
        · exact h α _ (.new o hp) _ (.tup (.inl upd_same) ((rxs.append rys).mono (.new hp) (.refl α)))
  · rename_i a b
    cases rx; cases ry
    obtain ⟨q, h⟩ := if_outM h
    exact .inr (.inr (.inl ⟨a, b, rfl, rfl, q, ret_od o h _ (.str _)⟩))
  · rename_i m n
    obtain ⟨c, e1, h⟩ := getC_od h
    obtain ⟨d, e2, h⟩ := getC_od h
    split at h
    · rename_i xs ys
      cases rx with
      | cell ea =>
        cases ry with
        | cell eb =>
          obtain ⟨vs, h1, r1⟩ := o.ok _ _ _ ea e1
          obtain ⟨ws, h2, r2⟩ := o.ok _ _ _ eb e2
          obtain ⟨z, k⟩ := mkLst_od o (r1.append r2) h
          refine .inr (.inr (.inr ⟨_, _, vs, ws, rfl, rfl, h1, h2, by rw [List.length_append] at z; exact z, fun p hp => (k p hp).1 _ (k p hp).2⟩))
    · exact h.elim
  · exact h.elim
end
end DL

/-! DLp: subscripts, slices, built-in calls and methods by values. -/
namespace DL
open PySem PySem.Spec PyProof.Rows L2
open Classical

section
variable {K : PySem.W.Frag} {X : Cx} {α : List Addr} {H : Hp} {S : Store} {β : Type} {R : β → List Addr → Store → Hp → Prop} {E : Exn → List Addr → Store → Hp → Prop}
def optM (o : Option β) : M β := match o with
  | some b => M.ret b
  | none => M.bad
theorem optM_od {o : Option β} (so : StoreOk K α S H) (h : OD K α H (optM o S) R E) : ∃ b, o = some b ∧ R b α S H := by
  cases o with
  | none => exact h.elim
  | some b => exact ⟨b, rfl, ret_od so h⟩
theorem Reps.atI {xs : List PV} {vs : List V} (r : Reps K α H xs vs) {i : Int} {d : PV} (e : L2.atI xs i = some d) : ∃ v, L2.atI vs i = some v ∧ Rep K α H d v := by
  unfold L2.atI at e ⊢
  rw [← r.length]
  cases q : ixN xs.length i with
  | none => rw [q] at e; cases e
  | some j =>
    rw [q] at e
    exact r.get e
/-- the items of a list or a tuple -/
def itemsM (x : PV) (k : List PV → M β) : M β := match x with
  | .tup xs => k xs
  | .cell n => getC n fun c => (optM c.items?).bind k
  | _ => M.bad
theorem itemsM_od {x : PV} {v : V} {k : List PV → M β} (o : StoreOk K α S H) (r : Rep K α H x v) (h : OD K α H (itemsM x k S) R E) : ∃ a xs vs, v = .ref a ∧ (SqL K H a vs ∨ SqT K H a vs) ∧ Reps K α H xs vs ∧ OD K α H (k xs S) R E ∧
    (x = .tup xs ∧ ST K H a vs ∨ ∃ n c, x = .cell n ∧ S[n]? = some c ∧ c.items? = some xs ∧ α[n]? = some a ∧ SqL K H a vs) := by
  cases x with
  | tup xs =>
    cases r with
    | tup hs hr => exact ⟨_, xs, _, rfl, .inr hs.sq, hr, h, .inl ⟨rfl, hs⟩⟩
  | cell n =>
    cases r with
    | cell ea =>
      obtain ⟨c, e, h⟩ := getC_od (show OD K α H (getC n _ S) R E from h)
      obtain ⟨xs, e2, h⟩ := optM_od o (OD.bind (o := optM c.items? S) h)
      obtain ⟨vs, hq, hr⟩ := seqL o ea e xs (Cell.items_or e2)
      exact ⟨_, xs, vs, rfl, .inl hq, hr, h, .inr ⟨n, c, rfl, e, e2, ea, hq⟩⟩
  | _ => exact h.elim
end
section
variable {K : PySem.W.Frag} {X : Cx}
def ixV : PV → PV → M PV := fun x y => match y with
  | .int i => (match x with
    | .str z => if z.length ≤ sizeLine then (optM (L2.atI z.cps.toList i)).bind fun c => M.ret (.str ⟨#[c]⟩) else M.bad
    | x => itemsM x fun xs => optM (L2.atI xs i))
  | _ => M.bad
theorem ixV_seq {x : PV} {i : Int} (h : ∀ z, x ≠ .str z) : ixV x (.int i) = itemsM x fun xs => optM (L2.atI xs i) := by
  cases x with
  | str z => exact absurd rfl (h z)
  | _ => rfl
theorem den_ix : Den2 K (rIx K) ixV := fun α S H x y vx vy Q E o rx ry h => by
  cases y with
  | int i =>
    cases ry
    by_cases q : ∃ z, x = .str z
    · obtain ⟨z, rfl⟩ := q
      cases rx
      have h' : OD K α H ((if z.length ≤ sizeLine then (optM (L2.atI z.cps.toList i)).bind fun c => M.ret (.str ⟨#[c]⟩) else M.bad : M PV) S) _ _ := h
      obtain ⟨hz, h'⟩ := if_outM h'
      obtain ⟨c, e, h'⟩ := optM_od o (OD.bind (o := optM (L2.atI z.cps.toList i) S) h')
      exact .inr (.inr ⟨z, i, c, rfl, rfl, hz, e, ret_od o h' _ (.str _)⟩)
    · rw [ixV_seq fun z e => q ⟨z, e⟩] at h
      obtain ⟨a, xs, vs, rfl, hq, hr, h, _⟩ := itemsM_od o rx h
      obtain ⟨d, e, h⟩ := optM_od o h
      obtain ⟨v, e2, rv⟩ := hr.atI e
      rcases hq with hq | hq
      · exact .inl ⟨a, vs, i, v, rfl, rfl, hq, e2, h v rv⟩
      · exact .inr (.inl ⟨a, vs, i, v, rfl, rfl, hq, e2, h v rv⟩)
  | _ => exact h.elim
def setV : PV → PV → PV → M Unit := fun x y d => match x, y with
  | .cell n, .int i => getC n fun c => match c with
    | .lst xs => (optM (ixN xs.length i)).bind fun j S => .ok () (S.set n (.lst (xs.set j d)))
    | _ => M.bad
  | _, _ => M.bad
theorem den_set : DenSet K rSetL setV := fun α S H x y z vx vy vz Q E o rx ry rz h => by
  unfold setV at h
  split at h
  · rename_i n i
    cases rx with
    | cell ea =>
      cases ry
      obtain ⟨c, e, h⟩ := getC_od h
      cases c with
      | lst xs =>
        obtain ⟨vs, h1, r1⟩ := o.ok _ _ _ ea e
        obtain ⟨j, e2, h⟩ := optM_od o (OD.bind (o := optM (ixN xs.length i) S) h)
        refine ⟨_, vs, i, j, rfl, rfl, h1, by rw [← r1.length]; exact e2, ?_⟩
        exact h α _ (Mv.putL o ea e h1 (r1.set rz j))
      | _ => exact h.elim
  · exact h.elim
/-! slices -/
def cutP {β : Type} (xs : List β) (lo hi : Option Int) : List β := (xs.drop (HT.sIx xs.length 0 lo)).take (HT.sIx xs.length xs.length hi - HT.sIx xs.length 0 lo)
theorem cutP_whole {β : Type} {xs : List β} {lo hi : Option Int} (h : HT.sIx xs.length 0 lo = 0 ∧ HT.sIx xs.length xs.length hi = xs.length) : cutP xs lo hi = xs := by
  unfold cutP; rw [h.1, h.2]; simp
theorem Reps.cut {α : List Addr} {H : Hp} {xs : List PV} {vs : List V} (r : Reps K α H xs vs) (lo hi : Option Int) : Reps K α H (cutP xs lo hi) (cutV vs lo hi) := by
  unfold cutP cutV; rw [r.length]; exact (r.drop _).take _
def sliceV : PV → Option Int → Option Int → M PV := fun x lo hi => match x with
  | .tup xs => M.ret (.tup (cutP xs lo hi))
  | .cell n => getC n fun c => (optM c.items?).bind fun xs S => .ok (.cell S.length) (S ++ [.lst (cutP xs lo hi)])
  | .str z => if z.length ≤ sizeLine then M.ret (.str (Txt.slice z lo hi)) else M.bad
  | _ => M.bad
def rSlAll (K : PySem.W.Frag) : V → Option Int → Option Int → Hp → VK → Prop := fun x lo hi H Q => rSlA K x lo hi H Q ∨ rSlL K x lo hi H Q ∨ C8.rSlX x lo hi H Q
theorem sl_all : SlR X (rSlAll X.K) := SlR.or sl_tupA (SlR.or sl_list C8.sl_txt)
theorem den_slice : DenS K (rSlAll K) sliceV := fun α S H x vx lo hi Q E o rx h => by
  cases x with
  | tup xs =>
    cases rx with
    | tup hs hr =>
      rename_i a vs
      refine .inl ⟨a, vs, rfl, hs.sq, fun hw => ?_, fun hw p hp => ?_⟩
      · refine h α H (.refl o) _ ?_
        rw [cutP_whole (by rw [hr.length]; exact hw)]
        exact .tup hs hr
      · exact h α _ (.new o hp) _ (.tup (.inl upd_same) ((hr.cut lo hi).mono (.new hp) (.refl α)))
  | cell n =>
    cases rx with
    | cell ea =>
      obtain ⟨c, e, h⟩ := getC_od (show OD K α H (getC n _ S) _ _ from h)
      obtain ⟨xs, e2, h⟩ := optM_od o (OD.bind (o := optM c.items? S) h)
      obtain ⟨vs, hq, hr⟩ := seqL o ea e xs (Cell.items_or e2)
      refine .inr (.inl ⟨_, vs, rfl, hq, fun p hp => ?_⟩)
      refine h _ _ (.cell o hp ⟨_, upd_same, (hr.cut lo hi).mono (.new hp) (.snoc α p)⟩) _ (.cell ?_)
      rw [← o.len, List.getElem?_append_right (Nat.le_refl _), Nat.sub_self]; rfl
  | str z =>
    cases rx
    obtain ⟨hz, h⟩ := if_outM (show OD K α H ((if z.length ≤ sizeLine then M.ret (.str (Txt.slice z lo hi)) else M.bad : M PV) S) _ _ from h)
    exact .inr (.inr ⟨z, rfl, hz, ret_od o h _ (.str _)⟩)
  | _ => exact h.elim

/-! ### is, is not -/
def isNV : PV → PV → M PV := fun x y => match y with
  | .non => (match x with
    | .con _ => M.bad
    | .non => M.ret (.bl true)
    | _ => M.ret (.bl false))
  | .bl b => (match x with
    | .bl a => M.ret (.bl (decide (a = b)))
    | _ => M.bad)
  | _ => M.bad
def notNV : PV → PV → M PV := fun x y => match y with
  | .non => (match x with
    | .con _ => M.bad
    | .non => M.ret (.bl false)
    | _ => M.ret (.bl true))
  | .bl b => (match x with
    | .bl a => M.ret (.bl (!decide (a = b)))
    | _ => M.bad)
  | _ => M.bad
def rIsA : R2 := fun x y H Q => (y = .non ∧ Q (.bl (decide (x = .non))) H) ∨ ∃ a b, x = .bl a ∧ y = .bl b ∧ Q (.bl (decide (a = b))) H
def rNotA : R2 := fun x y H Q => (y = .non ∧ Q (.bl (!decide (x = .non))) H) ∨ ∃ a b, x = .bl a ∧ y = .bl b ∧ Q (.bl (!decide (a = b))) H
theorem op_isA : OpR X (compareOp .Is) rIsA := OpR.or op_isN op_is_bl
theorem op_notA : OpR X (compareOp .IsNot) rNotA := OpR.or op_notN op_isnot_bl
theorem den_is : Den2 K rIsA isNV := fun α S H x y vx vy Q E o rx ry h => by
  cases y with
  | non =>
    cases ry
    cases x with
    | con u => exact h.elim
    | _ => cases rx <;> exact .inl ⟨rfl, ret_od o h _ (.bl _)⟩
  | bl b =>
    cases ry
    cases x with
    | bl a => cases rx; exact .inr ⟨a, b, rfl, rfl, by have q := ret_od o h _ (.bl _); exact q⟩
    | _ => exact h.elim
  | _ => exact h.elim
theorem den_not : Den2 K rNotA notNV := fun α S H x y vx vy Q E o rx ry h => by
  cases y with
  | non =>
    cases ry
    cases x with
    | con u => exact h.elim
    | _ => cases rx <;> exact .inl ⟨rfl, ret_od o h _ (.bl _)⟩
  | bl b =>
    cases ry
    cases x with
    | bl a => cases rx; exact .inr ⟨a, b, rfl, rfl, by have q := ret_od o h _ (.bl _); exact q⟩
    | _ => exact h.elim
  | _ => exact h.elim

/-! ### in -/
def anyEq (S : Store) (x : PyData) : List PV → Option Bool
  | [] => some false
  | y :: ys => match toD S 63 y with
    | some e => (anyEq S x ys).map fun b => PyData.eqv e x || b
    | none => none
def inM (x y : PV) : M Bool := fun S => match y with
  | .cell _ => (match toD S 64 x, toD S 64 y with
    | some d, some (.list es) => if SeqAt.shaped d = true ∧ SeqAt.shaped (.list es) = true then .ok (es.any fun z => PyData.eqv z d) S else .bad
    | _, _ => .bad)
  | _ => .bad
def inV (x y : PV) : M PV := (inM x y).bind fun b => M.ret (.bl b)
def notInV (x y : PV) : M PV := (inM x y).bind fun b => M.ret (.bl (!b))
theorem inM_od {α : List Addr} {H : Hp} {S : Store} {x y : PV} {vx vy : V} {R : Bool → List Addr → Store → Hp → Prop} {E : Exn → List Addr → Store → Hp → Prop} (o : StoreOk K α S H) (rx : Rep K α H x vx) (ry : Rep K α H y vy) (h : OD K α H (inM x y S) R E) :
    ∃ d es, Dp K H vx d ∧ Dp K H vy (.list es) ∧ SeqAt.shaped d = true ∧ SeqAt.shaped (.list es) = true ∧ R (es.any fun z => PyData.eqv z d) α S H := by
  cases y with
  | cell n =>
    unfold inM at h
    simp only at h
    cases q1 : toD S 64 x with
    | none => rw [q1] at h; exact h.elim
    | some d =>
      cases q2 : toD S 64 (.cell n) with
      | none => rw [q1, q2] at h; exact h.elim
      | some e =>
        rw [q1, q2] at h
        cases e with
        | list es =>
          obtain ⟨⟨h1, h2⟩, h⟩ := if_out h
          exact ⟨d, es, toD_dp o _ _ _ _ q1 rx, toD_dp o _ _ _ _ q2 ry, h1, h2, h α H (.refl o)⟩
        | _ => exact h.elim
  | _ => exact h.elim
theorem den_in : Den2 K (rInD K) inV := fun α S H x y vx vy Q E o rx ry h => by
  obtain ⟨d, e, h1, h2, h3, h4, h5⟩ := inM_od o rx ry (OD.bind (o := inM x y S) h)
  exact ⟨d, e, h1, h2, h3, h4, ret_od o h5 _ (.bl _)⟩
theorem den_notin : Den2 K (rNotInD K) notInV := fun α S H x y vx vy Q E o rx ry h => by
  obtain ⟨d, e, h1, h2, h3, h4, h5⟩ := inM_od o rx ry (OD.bind (o := inM x y S) h)
  exact ⟨d, e, h1, h2, h3, h4, ret_od o h5 _ (.bl _)⟩

/-! ### built-in functions -/
def lenV : List PV → M PV
  | [.str z] => if z.length ≤ sizeLine then M.ret (.int z.length) else M.bad
  | [x] => itemsM x fun xs => M.ret (.int xs.length)
  | _ => M.bad
theorem lenV_seq {x : PV} (h : ∀ z, x ≠ .str z) : lenV [x] = itemsM x fun xs => M.ret (.int xs.length) := by
  cases x with
  | str z => exact absurd rfl (h z)
  | _ => rfl
def rLenA (K : PySem.W.Frag) : List V → Hp → VK → Prop := fun xs H Q => (∃ p ys, xs = [.ref p] ∧ (SqL K H p ys ∨ SqT K H p ys) ∧ Q (.int ys.length) H) ∨ ∃ z, xs = [.str z] ∧ z.length ≤ sizeLine ∧ Q (.int z.length) H
theorem call_lenA : CallR X (.builtin "len") (rLenA X.K) := CallR.or call_len_seq call_len_str
theorem den_len : DenN K (rLenA K) lenV := fun α S H xs vs Q E o r h => by
  cases r with
  | nil => exact h.elim
  | cons r1 r2 =>
    rename_i x v xr vr
    cases r2 with
    | cons _ _ => cases x <;> exact h.elim
    | nil =>
      by_cases q : ∃ z, x = .str z
      · obtain ⟨z, rfl⟩ := q
        cases r1
        obtain ⟨hz, h⟩ := if_outM (show OD K α H ((if z.length ≤ sizeLine then M.ret (.int z.length) else M.bad : M PV) S) _ _ from h)
        exact .inr ⟨z, rfl, hz, ret_od o h _ (.int _)⟩
      · rw [lenV_seq fun z e => q ⟨z, e⟩] at h
        obtain ⟨a, xs, ws, rfl, hq, hr, h, _⟩ := itemsM_od o r1 h
        exact .inl ⟨a, ws, rfl, hq, by rw [← hr.length]; exact ret_od o h _ (.int _)⟩
def absF : List PV → M PV
  | [.int i] => M.ret (.int (if i < 0 then -i else i))
  | _ => M.bad
theorem den_abs : DenN K (fun xs H Q => ∃ i, xs = [.int i] ∧ Q (.int (if i < 0 then -i else i)) H) absF := fun α S H xs vs Q E o r h => by
  unfold absF at h
  split at h
  · cases r with
    | cons r1 r2 => cases r1; cases r2; exact ⟨_, rfl, ret_od o h _ (.int _)⟩
  · exact h.elim
def intF : List PV → M PV
  | [.int i] => M.ret (.int i)
  | [.bl b] => M.ret (.int (if b then 1 else 0))
  | _ => M.bad
theorem den_int : DenN K (fun xs H Q => (∃ i, xs = [.int i] ∧ Q (.int i) H) ∨ ∃ k, xs = [.bl k] ∧ Q (.int (if k then 1 else 0)) H) intF := fun α S H xs vs Q E o r h => by
  unfold intF at h
  split at h
  · cases r with
    | cons r1 r2 => cases r1; cases r2; exact .inl ⟨_, rfl, ret_od o h _ (.int _)⟩
  · cases r with
    | cons r1 r2 => cases r1; cases r2; exact .inr ⟨_, rfl, ret_od o h _ (.int _)⟩
  · exact h.elim
def tupF : List PV → M PV
  | [x] => itemsM x fun xs => M.ret (.tup xs)
  | _ => M.bad
theorem den_tup : DenN K (fun xs H Q => ∃ p ys, xs = [.ref p] ∧ ((SqL K H p ys ∧ ∀ l, H l = none → Q (.ref l) (upd H l (.tup ys))) ∨ (SqT K H p ys ∧ Q (.ref p) H))) tupF := fun α S H xs vs Q E o r h => by
  unfold tupF at h
  split at h
  · cases r with
    | cons r1 r2 =>
      cases r2
      obtain ⟨a, xs, ws, rfl, hq, hr, h, hh⟩ := itemsM_od o r1 h
      refine ⟨a, ws, rfl, ?_⟩
      rcases hh with ⟨_, hs⟩ | ⟨n, c, _, _, _, _, hl⟩
      · exact .inr ⟨hs.sq, h α H (.refl o) _ (.tup hs hr)⟩
      · exact .inl ⟨hl, fun p hp => h α _ (.new o hp) _ (.tup (.inl upd_same) (hr.mono (.new hp) (.refl α)))⟩
  · exact h.elim
def lstF : List PV → M PV
  | [x] => itemsM x fun xs S => .ok (.cell S.length) (S ++ [.lst xs])
  | _ => M.bad
theorem den_lst : DenN K (fun xs H Q => ∃ p ys, xs = [.ref p] ∧ (SqL K H p ys ∨ SqT K H p ys) ∧ ∀ l, H l = none → Q (.ref l) (upd H l (.lst ys))) lstF := fun α S H xs vs Q E o r h => by
  unfold lstF at h
  split at h
  · cases r with
    | cons r1 r2 =>
      cases r2
      obtain ⟨a, xs, ws, rfl, hq, hr, h, hh⟩ := itemsM_od o r1 h
      refine ⟨a, ws, rfl, hq, fun p hp => ?_⟩
      refine h _ _ (.cell o hp ⟨_, upd_same, hr.mono (.new hp) (.snoc α p)⟩) _ (.cell ?_)
      rw [← o.len, List.getElem?_append_right (Nat.le_refl _), Nat.sub_self]; rfl
  · exact h.elim
/-! isinstance with built-in types -/
def tyM {β : Type} (x : PV) (k : String → M β) : M β := match x with
  | .non => k "NoneType"
  | .bl _ => k "bool"
  | .int _ => k "int"
  | .str _ => k "str"
  | .tup _ => k "tuple"
  | .cell n => getC n fun c => match c.items? with
    | some _ => k "list"
    | none => M.bad
  | .con _ => M.bad
theorem tyM_od {β : Type} {α : List Addr} {H : Hp} {S : Store} {x : PV} {v : V} {k : String → M β} {R : β → List Addr → Store → Hp → Prop} {E : Exn → List Addr → Store → Hp → Prop} (o : StoreOk K α S H) (r : Rep K α H x v) (h : OD K α H (tyM x k S) R E) : ∃ t, TyX K H v (.type t) ∧ OD K α H (k t S) R E := by
  cases x with
  | non => cases r; exact ⟨_, .base .non, h⟩
  | bl b => cases r; exact ⟨_, .base (.bl b), h⟩
  | int b => cases r; exact ⟨_, .base (.int b), h⟩
  | str b => cases r; exact ⟨_, .base (.str b), h⟩
  | tup xs =>
    cases r with
    | tup hs hr =>
      rcases hs with hs | ⟨ob, its, n, hk, hc, _⟩
      · exact ⟨_, .base (.tup hs), h⟩
      · exact ⟨_, .kTuple hk hc, h⟩
  | cell n =>
    cases r with
    | cell ea =>
      obtain ⟨c, e, h⟩ := getC_od (show OD K α H (getC n _ S) _ _ from h)
      have hk := o.ok _ _ _ ea e
      cases c with
      | lst xs => obtain ⟨vs, h1, _⟩ := hk; exact ⟨_, .base (.lst h1), h⟩
      | rls xs =>
        obtain ⟨vs, h1, _⟩ := hk
        rcases h1 with ⟨ob, h1⟩ | ⟨ob, its, n, hk, hc, _⟩
        · exact ⟨_, .base (.frz h1), h⟩
        · exact ⟨_, .kList hk hc, h⟩
      | ins C fs => exact h.elim
      | obj => exact h.elim
      | xdc fs => exact h.elim
      | fns ns => exact h.elim
      | dK kvs => exact h.elim
      | dT kvs => exact h.elim
  | con u => exact h.elim
def isiF : List PV → M PV
  | [x, .con (.ty T)] => tyM x fun t => (optM (kitB t T)).bind fun b => M.ret (.bl b)
  | _ => M.bad
theorem den_isi : DenN K (rIsi K) isiF := fun α S H xs vs Q E o r h => by
  unfold isiF at h
  split at h
  · rename_i x T
    cases r with
    | cons r1 r2 =>
      cases r2 with
      | cons r2 r3 =>
        cases r3; cases r2
        obtain ⟨t, ty, h⟩ := tyM_od o r1 h
        obtain ⟨b, e, h⟩ := optM_od o (OD.bind (o := optM (kitB t T) S) h)
        exact ⟨_, .ty T, .type t, .type T, b, rfl, .ty T, ty, kit_ty e, ret_od o h _ (.bl b)⟩
  · exact h.elim
def boolsOf : List PV → Option (List Bool)
  | [] => some []
  | .bl b :: xs => (boolsOf xs).map (b :: ·)
  | _ :: _ => none
theorem boolsOf_map {α : List Addr} {H : Hp} : ∀ {xs : List PV} {vs : List V} {bs : List Bool}, boolsOf xs = some bs → Reps K α H xs vs → vs = bs.map V.bl
  | [], _, _, e, r => by cases e; cases r; rfl
  | x :: xs, _, _, e, r => by
    cases r with
    | cons r1 r2 =>
      cases x with
      | bl b =>
        cases r1
        unfold boolsOf at e
        cases q : boolsOf xs with
        | none => rw [q] at e; cases e
        | some bs => rw [q] at e; cases e; rw [boolsOf_map q r2]; rfl
      | _ => cases e
def allF : List PV → M PV
  | [.cell n] => getC n fun c => (optM (c.items?.bind boolsOf)).bind fun bs => M.ret (.bl (bs.all id))
  | _ => M.bad
def anyF : List PV → M PV
  | [.cell n] => getC n fun c => (optM (c.items?.bind boolsOf)).bind fun bs => M.ret (.bl (bs.any id))
  | _ => M.bad
theorem bools_od {α : List Addr} {H : Hp} {S : Store} {n : Nat} {v : V} {g : List Bool → Bool} {R : PV → List Addr → Store → Hp → Prop} {E : Exn → List Addr → Store → Hp → Prop} (o : StoreOk K α S H) (r : Rep K α H (.cell n) v) (h : OD K α H (getC n (fun c => (optM (c.items?.bind boolsOf)).bind fun bs => M.ret (.bl (g bs))) S) R E) :
    ∃ a bs, v = .ref a ∧ SqL K H a (bs.map V.bl) ∧ R (.bl (g bs)) α S H := by
  cases r with
  | cell ea =>
    obtain ⟨c, e, h⟩ := getC_od h
    obtain ⟨bs, e2, h⟩ := optM_od o (OD.bind (o := optM (c.items?.bind boolsOf) S) h)
    cases q : c.items? with
    | none => rw [q] at e2; cases e2
    | some xs =>
      rw [q] at e2
      obtain ⟨vs, hq, hr⟩ := seqL o ea e xs (Cell.items_or q)
      rw [boolsOf_map e2 hr] at hq
      exact ⟨_, bs, rfl, hq, ret_od o h⟩
theorem den_all : DenN K (rAll K) allF := fun α S H xs vs Q E o r h => by
  unfold allF at h
  split at h
  · cases r with
    | cons r1 r2 =>
      cases r2
      obtain ⟨a, bs, rfl, hq, h⟩ := bools_od o r1 h
      exact ⟨a, bs, rfl, hq, h _ (.bl _)⟩
  · exact h.elim
theorem den_any : DenN K (rAny K) anyF := fun α S H xs vs Q E o r h => by
  unfold anyF at h
  split at h
  · cases r with
    | cons r1 r2 =>
      cases r2
      obtain ⟨a, bs, rfl, hq, h⟩ := bools_od o r1 h
      exact ⟨a, bs, rfl, hq, h _ (.bl _)⟩
  · exact h.elim
end

/-! ### methods of lists -/
def DenM (K : PySem.W.Frag) (r : V → List V → Hp → VK → Prop) (g : PV → List PV → M PV) : Prop := ∀ α S H x vx xs vs Q E, StoreOk K α S H → Rep K α H x vx → Reps K α H xs vs → OD K α H (g x xs S) (fun d α' _ H' => ∀ v, Rep K α' H' d v → Q v H') E → r vx vs H Q
/-- a list is asked for a method -/
def isL (x : PV) : M PV := match x with
  | .cell n => getC n fun c => match c.items? with
    | some _ => M.ret (.cell n)
    | none => M.bad
  | _ => M.bad
def eMethL (g : PV → List PV → M PV) (fo : PEnv → M PV) (fa : PEnv → M (List PV)) : PEnv → M PV := fun ρ => (fo ρ).bind fun x => (isL x).bind fun _ => (fa ρ).bind fun xs => g x xs
section
variable {X : Cx} {W : WJ} {o a : Expr} {es : List Expr} {name : Str} {apos cpos : Pos} {id : String}
theorem isL_od {K : PySem.W.Frag} {α : List Addr} {H : Hp} {S : Store} {x : PV} {v : V} {R : PV → List Addr → Store → Hp → Prop} {E : Exn → List Addr → Store → Hp → Prop} (o : StoreOk K α S H) (r : Rep K α H x v) (h : OD K α H (isL x S) R E) : tyV K "list" v H ∧ R x α S H := by
  cases x with
  | cell n =>
    cases r with
    | cell ea =>
      obtain ⟨c, e, h⟩ := getC_od (show OD K α H (getC n _ S) _ _ from h)
      cases q : c.items? with
      | none => rw [q] at h; exact h.elim
      | some xs =>
        rw [q] at h
        obtain ⟨vs, hq, hr⟩ := seqL o ea e xs (Cell.items_or q)
        exact ⟨.inl ⟨rfl, vs, hq⟩, ret_od o h⟩
  | _ => exact h.elim
theorem de_methL0 {r : V → List V → Hp → VK → Prop} {g : PV → List PV → M PV} {fo : PEnv → M PV} (slot : Slot "list" name id) (hty : typeOf (.builtin id) = pure (.type "method_descriptor")) (hm : MtR X id r) (hr : DenM X.K r g) (ho : DE X W o fo)
    (hbase : attributeBase o name X.env (eval o X.env) = eval o X.env := by rfl) (hline : (apos.endLine == cpos.line) = true := by rfl) : DE X W (.Call (.Attribute o name apos) [] [] cpos) (eMethL g fo eNil) := by
  refine PE_imp (pe_bm0 PySem.F.plainAttrs_list slot hty hm ho hbase hline) fun σ H Q ⟨α, S, ρ, so, sl, h⟩ => ?_
  refine ⟨α, S, ρ, so, sl, (OD.bind (o := fo ρ S) h).imp (fun x α1 S1 H1 m1 h1 v rv => ?_) fun _ _ _ _ _ q => q⟩
  obtain ⟨ty, h2⟩ := isL_od m1.ok rv (OD.bind (o := isL x S1) h1)
  exact ⟨ty, hr α1 S1 H1 x v [] [] Q _ m1.ok rv .nil h2⟩
theorem de_methL {r : V → List V → Hp → VK → Prop} {g : PV → List PV → M PV} {fo : PEnv → M PV} {fa : PEnv → M (List PV)} (slot : Slot "list" name id) (hty : typeOf (.builtin id) = pure (.type "method_descriptor")) (hm : MtR X id r) (hr : DenM X.K r g) (ho : DE X W o fo) (ha : DA X W (a :: es) fa)
    (hbase : attributeBase o name X.env (eval o X.env) = eval o X.env := by rfl)
    (hfew : ((backTo cpos (starEach (a :: es) X.env)).all (fun x => !x.1) && (backToKw cpos (keywordEach [] X.env)).all (fun x => x.1.isSome) && decide ((a :: es).length + ([] : List Keyword).length + (if ([] : List Keyword).isEmpty then 0 else 1) < 30)) = true := by rfl)
    (hline : (apos.endLine == cpos.line) = true := by rfl) (hs : starEach (a :: es) X.env = (false, eval a X.env) :: starEach es X.env := by rfl) (hplain : (backTo cpos (starEach es X.env)).any (·.1) = false := by rfl) : DE X W (.Call (.Attribute o name apos) (a :: es) [] cpos) (eMethL g fo fa) := by
  refine PE_imp (pe_bm PySem.F.plainAttrs_list slot hty hm ho ha hbase hfew hline hs hplain) fun σ H Q ⟨α, S, ρ, so, sl, h⟩ => ?_
  refine ⟨α, S, ρ, so, sl, (OD.bind (o := fo ρ S) h).imp (fun x α1 S1 H1 m1 h1 v rv => ?_) fun _ _ _ _ _ q => q⟩
  obtain ⟨ty, h2⟩ := isL_od m1.ok rv (OD.bind (o := isL x S1) h1)
  refine ⟨ty, α1, S1, ρ, m1.ok, sl.mv m1, (OD.bind (o := fa ρ S1) h2).imp (fun xs α2 S2 H2 m2 h3 vs rvs => ?_) fun _ _ _ _ _ q => q⟩
  exact hr α2 S2 H2 x v xs vs Q _ m2.ok (rv.mono m2.grow m2.le) rvs h3
end
section
variable {K : PySem.W.Frag}
/-- a list that may be written -/
def wlM {β : Type} (x : PV) (k : Nat → List PV → M β) : M β := match x with
  | .cell n => getC n fun c => match c with
    | .lst xs => k n xs
    | _ => M.bad
  | _ => M.bad
theorem wlM_od {β : Type} {α : List Addr} {H : Hp} {S : Store} {x : PV} {v : V} {k : Nat → List PV → M β} {R : β → List Addr → Store → Hp → Prop} {E : Exn → List Addr → Store → Hp → Prop} (o : StoreOk K α S H) (r : Rep K α H x v) (h : OD K α H (wlM x k S) R E) :
    ∃ n a xs vs, x = .cell n ∧ v = .ref a ∧ α[n]? = some a ∧ S[n]? = some (.lst xs) ∧ H a = some (.lst vs) ∧ Reps K α H xs vs ∧ OD K α H (k n xs S) R E := by
  cases x with
  | cell n =>
    cases r with
    | cell ea =>
      obtain ⟨c, e, h⟩ := getC_od (show OD K α H (getC n _ S) _ _ from h)
      cases c with
      | lst xs =>
        obtain ⟨vs, h1, r1⟩ := o.ok _ _ _ ea e
        exact ⟨n, _, xs, vs, rfl, rfl, ea, e, h1, r1, h⟩
      | _ => exact h.elim
  | _ => exact h.elim
def putL (n : Nat) (xs : List PV) (d : PV) : M PV := fun S => .ok d (S.set n (.lst xs))
def appendV : PV → List PV → M PV := fun x ys => match ys with
  | [y] => wlM x fun n xs => if xs.length < sizeLine then putL n (xs ++ [y]) .non else M.bad
  | _ => M.bad
theorem den_append : DenM K rAppend appendV := fun α S H x vx xs vs Q E o rx r h => by
  unfold appendV at h
  split at h
  · cases r with
    | cons r1 r2 =>
      cases r2
      obtain ⟨n, a, xs, ws, rfl, rfl, ea, e, h1, rr, h⟩ := wlM_od o rx h
      obtain ⟨hl, h⟩ := if_outM h
      exact ⟨a, ws, _, rfl, rfl, h1, by rw [← rr.length]; exact hl, h α _ (Mv.putL o ea e h1 (rr.append (.cons r1 .nil))) _ .non⟩
  · exact h.elim
def popV : PV → List PV → M PV := fun x ys => match ys with
  | [] => wlM x fun n xs => (optM xs.getLast?).bind fun y => putL n xs.dropLast y
  | _ => M.bad
theorem den_pop : DenM K rPop popV := fun α S H x vx xs vs Q E o rx r h => by
  unfold popV at h
  split at h
  · cases r
    obtain ⟨n, a, xs, ws, rfl, rfl, ea, e, h1, rr, h⟩ := wlM_od o rx h
    obtain ⟨y, e2, h⟩ := optM_od o (OD.bind (o := optM xs.getLast? S) h)
    have e3 : xs[xs.length - 1]? = some y := by rw [← List.getLast?_eq_getElem?]; exact e2
    obtain ⟨v, e4, rv⟩ := rr.get e3
    refine ⟨a, ws, v, rfl, rfl, h1, by rw [← rr.length]; exact e4, ?_⟩
    have mv := Mv.putL o ea e h1 rr.dropLast
    exact h α _ mv v (rv.mono mv.grow mv.le)
  · exact h.elim
def extendV : PV → List PV → M PV := fun x ys => match ys with
  | [y] => wlM x fun n xs => wlM y fun m zs => if xs.length + zs.length ≤ sizeLine then putL n (xs ++ zs) .non else M.bad
  | _ => M.bad
theorem den_extend : DenM K rExtend extendV := fun α S H x vx xs vs Q E o rx r h => by
  unfold extendV at h
  split at h
  · cases r with
    | cons r1 r2 =>
      cases r2
      obtain ⟨n, a, xs, ws, rfl, rfl, ea, e, h1, rr, h⟩ := wlM_od o rx h
      obtain ⟨m, b, ys, us, rfl, rfl, eb, e', h2, rr2, h⟩ := wlM_od o r1 h
      obtain ⟨hl, h⟩ := if_outM h
      exact ⟨a, b, ws, us, rfl, rfl, h1, h2, by rw [← rr.length, ← rr2.length]; exact hl, h α _ (Mv.putL o ea e h1 (rr.append rr2)) _ .non⟩
  · exact h.elim
end
end DL

/-! DLz: try that runs through, the law's end. -/
namespace DL
open PySem PySem.Spec PyProof.Rows L2
open Classical

section
variable {X : Cx} {W : WJ} {body : List Stmt} {h₀ : ExceptHandler} {hs : List ExceptHandler} {pos : Pos}
/-- a try whose body lets nothing out -/
def sThru (g : SD) : SD := fun ρ => (g ρ).bind fun r => match r.1 with
  | .ex _ => M.bad
  | _ => M.ret r
theorem ds_tryThru {g : SD} (hb : DSs X.nox ⟨fun _ _ _ _ => False, W.j⟩ body g) : DS X W (.Try body (h₀ :: hs) [] [] pos) (sThru g) := by
  refine PS_imp (ps_try_thru0 hb) fun D σ H ⟨α, S, ρ, o, sl, h⟩ => ?_
  refine ⟨α, S, ρ, o, sl, (OD.bind (o := g ρ S) h).imp (fun r α1 S1 H1 m1 h1 => ?_) fun _ _ _ _ _ q => q⟩
  obtain ⟨fl, ρ1⟩ := r
  cases fl with
  | nx => exact fun σ1 sl1 => h1 α1 H1 (.refl m1.ok) σ1 sl1
  | bk => exact fun σ1 sl1 => h1 α1 H1 (.refl m1.ok) σ1 sl1
  | ct => exact fun σ1 sl1 => h1 α1 H1 (.refl m1.ok) σ1 sl1
  | rt d => exact fun σ1 sl1 => h1 α1 H1 (.refl m1.ok) σ1 sl1
  | ex c => exact h1.elim
end

/-- the script's list in the store -/
theorem script_store {K : PySem.W.Frag} {H : Hp} {a : Addr} {ns : List Int} (hO : Only H) (h : SqL K H a (ns.map V.int)) : ∃ α S ds, ds = [PV.cell 0] ∧ S = [Cell.rls (ns.map PV.int)] ∧ StoreOk K α S H ∧ Reps K α H ds [.ref a] := by
  refine ⟨[a], _, _, rfl, rfl, ⟨rfl, fun i j b c d h1 h2 h3 h4 m1 m2 => ?_, fun i b c h1 h2 => ?_⟩, .cons (.cell rfl) .nil⟩
  · have : c = .rls (ns.map PV.int) := by
      cases i with
      | zero => simpa using h3.symm
      | succ i => simp at h3
    subst this
    cases m1
  · cases i with
    | zero =>
      simp at h1 h2
      subst h1; subst h2
      refine ⟨ns.map V.int, ?_, Reps.ints ns⟩
      rcases h with (h | ⟨o, h⟩) | h
      · rcases hO a with z | ⟨o, xs, z⟩
        · rw [z] at h; cases h
        · rw [z] at h; cases h
      · exact .inl ⟨o, h⟩
      · exact .inr h
    | succ i => simp at h1

section
variable {P : Program} {w : World} {K : PySem.W.Frag} {mg mb : Str → Option Value} {k : Nat} {fa a : Addr} {fd : FuncData} {x : Str} {s₁ : Shared} {vs : List Value} {ns : List Int} {F : FD}
/-- the law's call, from its promise -/
theorem law_G (KX : K.In s₁.heap) (hns : s₁.heap.Ns mainGlobals mg) (hb : s₁.heap.Ns builtinsNs mb) (hbb : ∀ x : Str, x ≠ "__name__" → mb x = bootBuiltins x) (hlim : s₁.heap.NoLimit) (hg : s₁.gens = #[])
    (ha : s₁.heap.get? a = some { cls := .type "list", data := .seq vs.toArray }) (hi : IntsAre vs ns) (hl : ns.length ≤ sizeLine) (hr : Room k callerA)
    (G : ∀ base : Heap, K.In base → base.Ns mainGlobals mg → FnG P w K mg base k fa fd [x] (spD K 1 F)) (hbind : ∀ (s : Shared) (u : Value), BindsTo s fd ⟨[u], []⟩ [(x, u)])
    (hF : ∃ S', F [.cell 0] [.rls (ns.map PV.int)] = .ok (.bl true) S') :
    codeAny (model P w) callerA (.call (.ref fa) ⟨[.ref a], []⟩) (fun r s' => r = .ok (.ret (.bool true)) ∧ OldK s₁.heap s'.heap ∧ s'.os = s₁.os ∧ AllBare s'.gens) s₁ := by
  have rv := vals_ints hi
  have lenV := hi.length
  have core : ∀ H : Hp, Only H → SqL K H a (ns.map V.int) → HOk P w H s₁.heap → (∀ b, H b ≠ none → b = a) → (H a ≠ none → K.lookup a = none) →
      codeAny (model P w) callerA (.call (.ref fa) ⟨[.ref a], []⟩) (fun r s' => r = .ok (.ret (.bool true)) ∧ OldK s₁.heap s'.heap ∧ s'.os = s₁.os ∧ AllBare s'.gens) s₁ := by
    intro H hO hS hok hA hK
    have noA : ∀ {b : Addr} {o : Obj}, s₁.heap.get? b = some o → (∀ vs n, o.data ≠ .seq vs n) → H b = none := fun {b o} e d => by
      cases q : H b with
      | none => rfl
      | some u =>
        obtain rfl : b = a := hA b (by simp [q])
        rw [ha] at e
        cases e
        exact absurd rfl (d _ _)
    have nsK : ∀ {b : Addr} {m : Str → Option Value}, s₁.heap.Ns b m → (hidT s₁.heap H).Ns b m := fun {b m} ⟨o, es, ep, e, d, r⟩ =>
      ⟨o, es, ep, hidT_get e (noA e fun _ _ z => by rw [d] at z; cases z), d, r⟩
    have hKb : K.In (hidT s₁.heap H) := fun b o e => by
      refine hidT_get (KX b o e) ?_
      cases q : H b with
      | none => rfl
      | some u =>
        obtain rfl : b = a := hA b (by simp [q])
        have z := hK (by simp [q])
        rw [z] at e; cases e
    have hM : Mod K mg (hidT s₁.heap H) := by
      obtain ⟨mc, l1, l2⟩ := hlim
      exact ⟨hKb, nsK hns, ⟨mb, nsK hb, hbb⟩, ⟨mc, nsK l1, l2⟩⟩
    have e0 : Env0 P w K mg (hidT s₁.heap H) callerA [] s₁ H := { frames := rfl, mod := hM, bs := fun b o e => of_hidT e, bsz := Nat.le_of_eq (hidT_size _ _), funs := trivial, frf := fun b hb => (List.not_mem_nil hb).elim, hok := hok, bare := .of_eq hg }
    obtain ⟨α, S, ds, rfl, rfl, so, rp⟩ := script_store hO hS
    obtain ⟨S', hF⟩ := hF
    have hsp : spD K 1 F [.ref a] H (fun v _ => v = .bl true) fun _ _ _ => False := by
      refine ⟨α, _, _, rfl, so, rp, ?_⟩
      rw [hF]
      intro α' H' m v r
      cases r
      rfl
    refine codeAny_mono ((G _ hKb (nsK hns)).run callerA [] s₁ H _ [.ref a] [.ref a] _ _ hr rfl e0 (hbind s₁ (.ref a)) (.cons rfl .nil) hsp) fun r s' h => ?_
    cases r with
    | error e =>
      obtain ⟨_, _, _, _, _, _, _, _, _, _, _, _, z⟩ := h
      exact z.elim
    | ok fl =>
      cases fl with
      | next => exact h.elim
      | brk => exact h.elim
      | cont => exact h.elim
      | ret u =>
        obtain ⟨v, H', os, bare, un, hok', r', q⟩ := h
        obtain rfl : v = .bl true := q
        obtain rfl : u = Value.bool true := r'
        refine ⟨rfl, OldK.of_keep fun b o e => ?_, os, bare⟩
        cases q : H b with
        | none => exact un.keep b o e q (fun z => List.not_mem_nil z) (fun z => List.not_mem_nil z)
        | some u =>
          rcases hO b with z | ⟨ob, xs, z⟩
          · rw [q] at z; cases z
          · have e1 := (hok b _ z).1
            have e2 := (hok' b _ (un.frzs b ob _ z)).1
            rw [e] at e1; cases e1
            exact e2
  cases hk : K.lookup a with
  | some o =>
    have e := KX a o hk
    rw [ha] at e
    cases e
    refine core (fun _ => none) (fun _ => .inl rfl) (.inr ⟨_, vs.toArray, _, hk, rfl, rfl, rfl, ?_, by simpa using rv⟩) (fun b u z => nomatch z) (fun b z => absurd rfl z) fun z => absurd rfl z
    rw [List.size_toArray, lenV]; exact hl
  | none =>
    let H : Hp := fun b => if b = a then some (.frz { cls := .type "list", data := .seq vs.toArray } (.lst (ns.map V.int))) else none
    have Ha : H a = some (.frz { cls := .type "list", data := .seq vs.toArray } (.lst (ns.map V.int))) := if_pos rfl
    have Hb : ∀ b, b ≠ a → H b = none := fun b z => if_neg z
    refine core H (fun b => ?_) (.inl (.inr ⟨_, Ha⟩)) (fun b u z => ?_) (fun b z => ?_) fun _ => hk
    · by_cases q : b = a
      · rw [q]; exact .inr ⟨_, _, Ha⟩
      · exact .inl (Hb b q)
    · by_cases q : b = a
      · rw [q] at z ⊢
        rw [Ha] at z
        cases z
        exact ⟨ha, by rw [List.length_map]; exact hl, vs, _, rv, ha⟩
      · rw [Hb b q] at z; cases z
    · by_cases q : b = a
      · exact q
      · exact absurd (Hb b q) z
end
theorem walk_G {l : PySem.W.OpenLaw} {n k : Nat} {q : Program} {loose : List Str} {XP : (Str → Option Value) → Heap → Prop} {YP : World → Heap → Prop} {d : DefRec} {K : Params → PySem.W.Frag} {x : Str}
    (hn : l.most = some n) (hn2 : n ≤ sizeLine) (hdf : d.params.defaults = []) (hr : Room k callerA) (hY : ∀ (w : World) (h : Heap), YP w h → (K w.params).In h)
    (G : ∀ (w : World) (mg : Str → Option Value) (fa : Addr) (h : Heap), (K w.params).In h → h.Ns mainGlobals mg → mg d.name = some (.ref fa) →
      ∃ (fd : FuncData) (F : FD), (∀ (s : Shared) (u : Value), BindsTo s fd ⟨[u], []⟩ [(x, u)]) ∧ (∀ base : Heap, (K w.params).In base → base.Ns mainGlobals mg → FnG l.prog w (K w.params) mg base k fa fd [x] (spD (K w.params) 1 F)) ∧
        ∀ ns : List Int, ns.length ≤ n → ∃ S', F [.cell 0] [.rls (ns.map PV.int)] = .ok (.bl true) S') :
    PySem.W.WalkO q loose XP YP l.row.toRowW d [] (fun f vs => PySem.call f vs) := by
  refine Att.attach_call hn hdf fun w s₀ s₁ mg mb fa o pm cd doc a vs ns T Y ho hd hcd hmg hobj hints hlen hg => ?_
  have KX := hY w _ Y
  obtain ⟨fd, F, hb, hG, hF⟩ := G w mg fa _ KX T.T.g hmg
  exact law_G KX T.T.g T.T.b T.T.builtins T.T.nolimit hg hobj hints (Nat.le_trans hlen hn2) hr hG hb (hF ns hlen)
end DL
namespace DL
open PySem PySem.Spec PyProof.Rows L2
/-- a def of the module where it stands -/
structure DefAt (K : PySem.W.Frag) (mg : Str → Option Value) (x : Str) (st : Stmt) (f : Addr) (fd : FuncData) (ps : List Str) : Prop where
  g : mg x = some (.ref f)
  F : L2.Fun K x x st f fd
  b : Binds K fd ps []
theorem bt_abs : bootBuiltins "abs" = some (.builtin "abs") := by decide +kernel
theorem bt_isinstance : bootBuiltins "isinstance" = some (.builtin "isinstance") := by decide +kernel
theorem bt_all : bootBuiltins "all" = some (.builtin "all") := by decide +kernel
theorem bt_any : bootBuiltins "any" = some (.builtin "any") := by decide +kernel
theorem bt_repr : bootBuiltins "repr" = some (.builtin "repr") := by decide +kernel
theorem bt_int : bootBuiltins "int" = some (.type "int") := by decide +kernel
theorem bt_bool : bootBuiltins "bool" = some (.type "bool") := by decide +kernel
theorem bt_str : bootBuiltins "str" = some (.type "str") := by decide +kernel
theorem bt_tuple : bootBuiltins "tuple" = some (.type "tuple") := by decide +kernel
theorem bt_list : bootBuiltins "list" = some (.type "list") := by decide +kernel
end DL
namespace L2.Room
theorem u64 {k : Nat} {A : PySem.Around} (r : L2.Room k A) : A.units + 64 < PySem.cLine := r.units
theorem u65 {k : Nat} {A : PySem.Around} (r : L2.Room k A) : A.units + 65 < PySem.cLine := by have := r.un; omega
end L2.Room
namespace DL
open PySem PySem.Spec PyProof.Rows L2
open Classical
noncomputable def ltA : PV → PV → M PV := fun x y => match x, y with
  | .int i, .int j => M.ret (.bl (decide (i < j)))
  | x, y => ltV x y
def rLtA (K : PySem.W.Frag) : R2 := fun x y H Q => (rI0 fun i j => .bl (decide (i < j))) x y H Q ∨ rLtD K x y H Q
theorem op_ltA {X : Cx} (hu : X.A.units + 64 < cLine) : OpR X (compareOp .Lt) (rLtA X.K) := OpR.or op_lt (op_ltD hu)
theorem den_ltA {K : PySem.W.Frag} : Den2 K (rLtA K) ltA := fun α S H x y vx vy Q E o rx ry h => by
  unfold ltA at h
  split at h
  · cases rx; cases ry
    exact .inl ⟨_, _, rfl, rfl, ret_od o h _ (.bl _)⟩
  · exact .inr (den_ltD α S H x y vx vy Q E o rx ry h)
end DL

/-! DLw: what a reading comes to, by its parts. -/
namespace DL
open PySem PySem.Spec PyProof.Rows L2
open Classical

def wpx {β : Type} (m : M β) (S : Store) (Q : β → Store → Prop) (E : Exn → Store → Prop) : Prop := match m S with
  | .ok b S' => Q b S'
  | .ex c S' => E c S'
  | .bad => False
section
variable {β γ : Type} {m : M β} {S : Store} {Q : β → Store → Prop} {E : Exn → Store → Prop}
theorem wpx_mono {Q' : β → Store → Prop} {E' : Exn → Store → Prop} (h : wpx m S Q E) (hq : ∀ b S', Q b S' → Q' b S') (he : ∀ c S', E c S' → E' c S') : wpx m S Q' E' := by
  unfold wpx at h ⊢
  cases q : m S with
  | ok b S' => rw [q] at h; exact hq _ _ h
  | ex c S' => rw [q] at h; exact he _ _ h
  | bad => rw [q] at h; exact h
theorem wpx_imp {Q' : β → Store → Prop} (h : wpx m S Q E) (hq : ∀ b S', Q b S' → Q' b S') : wpx m S Q' E := wpx_mono h hq fun _ _ e => e
theorem wpx_ret {b : β} : wpx (M.ret b) S Q E ↔ Q b S := Iff.rfl
theorem wpx_bad : wpx (M.bad : M β) S Q E ↔ False := Iff.rfl
theorem wpx_ok {b : β} {S' : Store} : wpx (fun _ => Out.ok b S') S Q E ↔ Q b S' := Iff.rfl
theorem wpx_bind {m : M γ} {k : γ → M β} : wpx (M.bind m k) S Q E ↔ wpx m S (fun c S' => wpx (k c) S' Q E) E := by
  unfold wpx M.bind Out.bind
  cases q : m S <;> simp
theorem wpx_obind {m : M γ} {k : γ → M β} : wpx (fun S => (m S).bind k) S Q E ↔ wpx m S (fun c S' => wpx (k c) S' Q E) E := wpx_bind
theorem wpx_ite {c : Prop} {dc : Decidable c} {n : M β} : wpx (if c then m else n) S Q E ↔ if c then wpx m S Q E else wpx n S Q E := by
  by_cases h : c
  · rw [if_pos h, if_pos h]
  · rw [if_neg h, if_neg h]
theorem wpx_optM {o : Option β} : wpx (optM o) S Q E ↔ ∃ b, o = some b ∧ Q b S := by
  cases o with
  | none => exact ⟨fun h => h.elim, fun ⟨_, h, _⟩ => nomatch h⟩
  | some b => exact ⟨fun h => ⟨b, rfl, h⟩, fun ⟨_, h, q⟩ => by cases h; exact q⟩
theorem wpx_getC {n : Nat} {k : Cell → M β} : wpx (getC n k) S Q E ↔ ∃ c, S[n]? = some c ∧ wpx (k c) S Q E := by
  unfold wpx getC
  cases q : S[n]? with
  | none => simp
  | some c => simp
theorem wpx_eq {b : β} {S' : Store} (h : m S = .ok b S') : wpx m S Q E ↔ Q b S' := by unfold wpx; rw [h]
theorem eq_of_wpx {b : β} (h : wpx m S (fun c S' => c = b) fun _ _ => False) : ∃ S', m S = .ok b S' := by
  unfold wpx at h
  cases q : m S with
  | ok c S' => rw [q] at h; exact ⟨S', by rw [h]⟩
  | ex c S' => rw [q] at h; exact h.elim
  | bad => rw [q] at h; exact h.elim
end
section
variable {ρ : PEnv} {S : Store} {Q : PV → Store → Prop} {QB : Bool → Store → Prop} {QL : List PV → Store → Prop} {E : Exn → Store → Prop} {f f1 f2 f3 : PEnv → M PV} {fa : PEnv → M (List PV)} {ft gt : PEnv → M Bool} {g g' : PV → PV → M PV}
theorem wv_var {i : Nat} : wpx (eVar i ρ) S Q E ↔ ∃ d, ρ[i]? = some (some d) ∧ Q d S := by
  unfold eVar
  cases q : ρ[i]? with
  | none => simp [wpx_bad]
  | some o => cases o <;> simp [wpx_bad, wpx_ret]
theorem wv_lit {d : PV} : wpx (eLit d ρ) S Q E ↔ Q d S := Iff.rfl
theorem wv_bin : wpx (eBin g f1 f2 ρ) S Q E ↔ wpx (f1 ρ) S (fun x S1 => wpx (f2 ρ) S1 (fun y S2 => wpx (g x y) S2 Q E) E) E := by unfold eBin; rw [wpx_bind]; simp only [wpx_bind]
theorem wv_un {g : PV → M PV} : wpx (eUn g f1 ρ) S Q E ↔ wpx (f1 ρ) S (fun x S1 => wpx (g x) S1 Q E) E := wpx_bind
theorem wv_nil : wpx (eNil ρ) S QL E ↔ QL [] S := Iff.rfl
theorem wv_cons : wpx (eCons f fa ρ) S QL E ↔ wpx (f ρ) S (fun x S1 => wpx (fa ρ) S1 (fun xs S2 => QL (x :: xs) S2) E) E := by unfold eCons; rw [wpx_bind]; simp only [wpx_bind, wpx_ret]
theorem wv_args {F : List PV → M PV} : wpx (eArgs F fa ρ) S Q E ↔ wpx (fa ρ) S (fun xs S1 => wpx (F xs) S1 Q E) E := wpx_bind
theorem wv_test : wpx (eTest f ρ) S QB E ↔ wpx (f ρ) S (fun x S1 => wpx (asB x) S1 QB E) E := wpx_bind
theorem wv_asB {b : Bool} : wpx (asB (.bl b)) S QB E ↔ QB b S := Iff.rfl
theorem wv_and : wpx (eAnd ft gt ρ) S QB E ↔ wpx (ft ρ) S (fun b S1 => if b = true then wpx (gt ρ) S1 QB E else QB false S1) E := by unfold eAnd; rw [wpx_bind]; simp only [wpx_ite, wpx_ret]
theorem wv_or : wpx (eOr ft gt ρ) S QB E ↔ wpx (ft ρ) S (fun b S1 => if b = true then QB true S1 else wpx (gt ρ) S1 QB E) E := by unfold eOr; rw [wpx_bind]; simp only [wpx_ite, wpx_ret]
theorem wv_not : wpx (eNot ft ρ) S QB E ↔ wpx (ft ρ) S (fun b S1 => QB (!b) S1) E := by unfold eNot; rw [wpx_bind]; simp only [wpx_ret]
theorem wv_andV : wpx (eAndV f1 f2 ρ) S Q E ↔ wpx (f1 ρ) S (fun x S1 => wpx (asB x) S1 (fun b S2 => if b = true then wpx (f2 ρ) S2 Q E else Q (.bl false) S2) E) E := by unfold eAndV; rw [wpx_bind]; simp only [wpx_bind, wpx_ite, wpx_ret]
theorem wv_orV : wpx (eOrV f1 f2 ρ) S Q E ↔ wpx (f1 ρ) S (fun x S1 => wpx (asB x) S1 (fun b S2 => if b = true then Q (.bl true) S2 else wpx (f2 ρ) S2 Q E) E) E := by unfold eOrV; rw [wpx_bind]; simp only [wpx_bind, wpx_ite, wpx_ret]
theorem wv_notV : wpx (eNotV f1 ρ) S Q E ↔ wpx (f1 ρ) S (fun x S1 => wpx (asB x) S1 (fun b S2 => Q (.bl (!b)) S2) E) E := by unfold eNotV; rw [wpx_bind]; simp only [wpx_bind, wpx_ret]
theorem wv_if : wpx (eIf ft f1 f2 ρ) S Q E ↔ wpx (ft ρ) S (fun b S1 => if b = true then wpx (f1 ρ) S1 Q E else wpx (f2 ρ) S1 Q E) E := by unfold eIf; rw [wpx_bind]; simp only [wpx_ite]
theorem wv_chain : wpx (eChain g g' f1 f2 f3 ρ) S Q E ↔ wpx (f1 ρ) S (fun x S1 => wpx (f2 ρ) S1 (fun y S2 => wpx (g x y) S2 (fun c S3 => wpx (asB c) S3 (fun b S4 => if b = true then wpx (f3 ρ) S4 (fun z S5 => wpx (g' y z) S5 Q E) E else Q (.bl false) S4) E) E) E) E := by
  unfold eChain; rw [wpx_bind]; simp only [wpx_bind, wpx_ite, wpx_ret]
theorem wv_noPart {Q : Option Int → Store → Prop} : wpx (eNoPart ρ) S Q E ↔ Q none S := Iff.rfl
theorem wv_part {Q : Option Int → Store → Prop} : wpx (ePart f ρ) S Q E ↔ wpx (f ρ) S (fun x S1 => wpx (asI x) S1 (fun i S2 => Q (some i) S2) E) E := by unfold ePart; rw [wpx_bind]; simp only [wpx_bind, wpx_ret]
theorem wv_asI {Q : Int → Store → Prop} {i : Int} : wpx (asI (.int i)) S Q E ↔ Q i S := Iff.rfl
theorem wv_slice {g : PV → Option Int → Option Int → M PV} {l u : PEnv → M (Option Int)} : wpx (eSlice g f l u ρ) S Q E ↔ wpx (f ρ) S (fun x S1 => wpx (l ρ) S1 (fun i S2 => wpx (u ρ) S2 (fun j S3 => wpx (g x i j) S3 Q E) E) E) E := by unfold eSlice; rw [wpx_bind]; simp only [wpx_bind]
theorem wv_mkTup {xs : List PV} : wpx (mkTup xs) S Q E ↔ xs.length ≤ sizeLine ∧ Q (.tup xs) S := by unfold mkTup; rw [wpx_ite]; simp [wpx_ret, wpx_bad]
theorem wv_mkLst {xs : List PV} : wpx (mkLst xs) S Q E ↔ xs.length ≤ sizeLine ∧ Q (.cell S.length) (S ++ [.lst xs]) := by
  unfold mkLst wpx
  by_cases h : xs.length ≤ sizeLine <;> simp [h]
theorem wv_chkL {np : Nat} {F : FD} {ds : List PV} (h : ds.length = np) : wpx (chkL np F ds) S Q E ↔ wpx (F ds) S Q E := by unfold chkL; rw [if_pos h]
theorem wv_methL {g : PV → List PV → M PV} : wpx (eMethL g f fa ρ) S Q E ↔ wpx (f ρ) S (fun x S1 => wpx (isL x) S1 (fun _ S2 => wpx (fa ρ) S2 (fun xs S3 => wpx (g x xs) S3 Q E) E) E) E := by unfold eMethL; rw [wpx_bind]; simp only [wpx_bind]
end

/-! ### statements: they end by Q alone -/
def wps (m : M (Fl × PEnv)) (S : Store) (Q : Fl × PEnv → Store → Prop) : Prop := wpx m S Q fun _ _ => False
section
variable {ρ : PEnv} {S : Store} {Q : Fl × PEnv → Store → Prop} {f fo fi : PEnv → M PV} {ft : PEnv → M Bool} {g h : SD}
theorem wps_mono {m : M (Fl × PEnv)} {Q' : Fl × PEnv → Store → Prop} (h : wps m S Q) (hq : ∀ r S', Q r S' → Q' r S') : wps m S Q' := wpx_imp h hq
theorem wps_ret {r : Fl × PEnv} : wps (M.ret r) S Q ↔ Q r S := Iff.rfl
theorem wps_lift {β : Type} {m : M β} {k : β → M (Fl × PEnv)} : wps (fun S => lift (m S) ρ k) S Q ↔ wpx m S (fun b S' => wps (k b) S' Q) (fun c S' => Q (.ex c, ρ) S') := by
  unfold wps wpx
  dsimp only
  unfold lift
  cases m S <;> exact Iff.rfl
theorem ws_nil : wps (sNil ρ) S Q ↔ Q (.nx, ρ) S := Iff.rfl
theorem ws_retN : wps (sRetN ρ) S Q ↔ Q (.rt .non, ρ) S := Iff.rfl
theorem ws_bk : wps (sBk ρ) S Q ↔ Q (.bk, ρ) S := Iff.rfl
theorem ws_ct : wps (sCt ρ) S Q ↔ Q (.ct, ρ) S := Iff.rfl
theorem ws_seq : wps (sSeq g h ρ) S Q ↔ wps (g ρ) S fun r S' => match r.1 with
  | .nx => wps (h r.2) S' Q
  | _ => Q r S' := by
  unfold sSeq wps
  rw [wpx_bind]
  constructor
  · intro z
    refine wpx_imp z fun r S' q => ?_
    obtain ⟨fl, ρ'⟩ := r
    cases fl <;> exact q
  · intro z
    refine wpx_imp z fun r S' q => ?_
    obtain ⟨fl, ρ'⟩ := r
    cases fl <;> exact q
theorem ws_expr : wps (sExpr f ρ) S Q ↔ wpx (f ρ) S (fun _ S' => Q (.nx, ρ) S') (fun c S' => Q (.ex c, ρ) S') := wps_lift
theorem ws_ret : wps (sRet f ρ) S Q ↔ wpx (f ρ) S (fun d S' => Q (.rt d, ρ) S') (fun c S' => Q (.ex c, ρ) S') := wps_lift
theorem ws_set {i : Nat} : wps (sSet i f ρ) S Q ↔ wpx (f ρ) S (fun d S' => Q (.nx, ρ.set i (some d)) S') (fun c S' => Q (.ex c, ρ) S') := wps_lift
theorem ws_if : wps (sIf ft g h ρ) S Q ↔ wpx (ft ρ) S (fun b S' => if b = true then wps (g ρ) S' Q else wps (h ρ) S' Q) (fun c S' => Q (.ex c, ρ) S') := by
  unfold sIf
  rw [wps_lift]
  constructor
  · intro z; refine wpx_imp z fun b S' q => ?_; cases b <;> exact q
  · intro z; refine wpx_imp z fun b S' q => ?_; cases b <;> exact q
theorem ws_asg {t : Tgt} : wps (sAsg t f ρ) S Q ↔ wpx (f ρ) S (fun d S' => ∃ ρ1, bindT t d ρ = some ρ1 ∧ Q (.nx, ρ1) S') (fun c S' => Q (.ex c, ρ) S') := by
  unfold sAsg
  rw [wps_lift]
  constructor
  · intro z
    refine wpx_imp z fun d S' q => ?_
    cases e : bindT t d ρ with
    | none => rw [e] at q; exact q.elim
    | some ρ1 => rw [e] at q; exact ⟨ρ1, rfl, q⟩
  · intro z
    refine wpx_imp z fun d S' q => ?_
    obtain ⟨ρ1, e, q⟩ := q
    rw [e]; exact q
theorem ws_sub {gs : PV → PV → PV → M Unit} : wps (sSub gs fo fi f ρ) S Q ↔ wpx (f ρ) S (fun d S1 => wpx (fo ρ) S1 (fun o S2 => wpx (fi ρ) S2 (fun i S3 => wpx (gs o i d) S3 (fun _ S4 => Q (.nx, ρ) S4) (fun c S' => Q (.ex c, ρ) S')) (fun c S' => Q (.ex c, ρ) S')) (fun c S' => Q (.ex c, ρ) S')) (fun c S' => Q (.ex c, ρ) S') := by
  unfold sSub
  rw [wps_lift]
  simp only [wps_lift, wps_ret]
theorem ws_aug {gp : PV → PV → M PV} {i : Nat} : wps (sAug gp i f ρ) S Q ↔ wpx (eVar i ρ) S (fun x S1 => wpx (f ρ) S1 (fun y S2 => wpx (gp x y) S2 (fun z S3 => Q (.nx, ρ.set i (some z)) S3) (fun c S' => Q (.ex c, ρ) S')) (fun c S' => Q (.ex c, ρ) S')) (fun c S' => Q (.ex c, ρ) S') := by
  unfold sAug
  rw [wps_lift]
  simp only [wps_lift, wps_ret]
theorem ws_thru : wps (sThru g ρ) S Q ↔ wps (g ρ) S fun r S' => (∀ c, r.1 ≠ .ex c) ∧ Q r S' := by
  unfold sThru wps
  rw [wpx_bind]
  constructor
  · intro z
    refine wpx_imp z fun r S' q => ?_
    obtain ⟨fl, ρ'⟩ := r
    cases fl with
    | ex c => exact q.elim
    | nx => exact ⟨fun c e => (nomatch e), q⟩
    | bk => exact ⟨fun c e => (nomatch e), q⟩
    | ct => exact ⟨fun c e => (nomatch e), q⟩
    | rt d => exact ⟨fun c e => (nomatch e), q⟩
  · intro z
    refine wpx_imp z fun r S' q => ?_
    obtain ⟨fl, ρ'⟩ := r
    cases fl with
    | ex c => exact absurd rfl (q.1 c)
    | _ => exact q.2
/-- a def's value -/
theorem wp_run {nn : Nat} {ds : List PV} {QV : PV → Store → Prop} {E : Exn → Store → Prop} (z : wps (g (ds.map some ++ List.replicate (nn - ds.length) none)) S fun r S' => match r.1 with
  | .nx => QV .non S'
  | .rt d => QV d S'
  | .ex c => E c S'
  | _ => False) : wpx (runF nn g ds) S QV E := by
  unfold wps wpx at z
  unfold wpx runF
  cases q : g (ds.map some ++ List.replicate (nn - ds.length) none) S with
  | ok r S' =>
    rw [q] at z
    obtain ⟨fl, ρ'⟩ := r
    cases fl <;> exact z
  | ex c S' => rw [q] at z; exact z.elim
  | bad => rw [q] at z; exact z.elim

/-! loops, by an invariant over what is left -/
theorem ws_for {fs : PEnv → M Src} {t : Tgt} : wps (sFor fs t g ρ) S Q ↔ wpx (fs ρ) S (fun src S' => wps (forGo src.chk t g src.items ρ) S' Q) (fun c S' => Q (.ex c, ρ) S') := by
  unfold sFor; exact wps_lift
theorem for_nil {chk : Store → Prop} {t : Tgt} (h : chk S) (q : Q (.nx, ρ) S) : wps (forGo chk t g [] ρ) S Q := by
  unfold wps wpx forGo
  rw [if_pos h]; exact q
theorem for_cons {chk : Store → Prop} {t : Tgt} {x : PV} {xs : List PV} {ρ1 : PEnv} (h : chk S) (e : bindT t x ρ = some ρ1) (q : wps (g ρ1) S fun r S' => match r.1 with
  | .nx => wps (forGo chk t g xs r.2) S' Q
  | .ct => wps (forGo chk t g xs r.2) S' Q
  | .bk => Q (.nx, r.2) S'
  | _ => Q r S') : wps (forGo chk t g (x :: xs) ρ) S Q := by
  have z : wps (fun S => (g ρ1 S).bind (kLoop (forGo chk t g xs))) S Q := by
    show wpx (M.bind (g ρ1) (kLoop (forGo chk t g xs))) S Q _
    rw [wpx_bind]
    refine wpx_imp q fun r S' q => ?_
    obtain ⟨fl, ρ'⟩ := r
    cases fl <;> exact q
  unfold wps wpx at z ⊢
  unfold forGo
  rw [if_pos h, e]
  exact z
/-- a loop: I by the items that are left, the slots and the store -/
theorem for_inv {chk : Store → Prop} {t : Tgt} (I : List PV → PEnv → Store → Prop) : ∀ (xs : List PV) (ρ : PEnv) (S : Store), I xs ρ S →
    (∀ xs ρ S, I xs ρ S → chk S) → (∀ ρ S, I [] ρ S → Q (.nx, ρ) S) →
    (∀ x xs ρ S, I (x :: xs) ρ S → ∃ ρ1, bindT t x ρ = some ρ1 ∧ wps (g ρ1) S fun r S' => match r.1 with
      | .nx => I xs r.2 S'
      | .ct => I xs r.2 S'
      | .bk => Q (.nx, r.2) S'
      | _ => Q r S') → wps (forGo chk t g xs ρ) S Q
  | [], ρ, S, h, hc, hn, hs => for_nil (hc _ _ _ h) (hn _ _ h)
  | x :: xs, ρ, S, h, hc, hn, hs => by
    obtain ⟨ρ1, e, q⟩ := hs x xs ρ S h
    refine for_cons (hc _ _ _ h) e (wps_mono q fun r S' q => ?_)
    obtain ⟨fl, ρ'⟩ := r
    cases fl with
    | nx => exact for_inv I xs _ _ q hc hn hs
    | ct => exact for_inv I xs _ _ q hc hn hs
    | bk => exact q
    | rt d => exact q
    | ex c => exact q
theorem whileN_succ {c : PEnv → M Bool} {k : Nat} : whileN c g (k + 1) ρ S = lift (c ρ S) ρ fun b => if b = true then fun S1 => (g ρ S1).bind (kLoop (whileN c g k)) else M.ret (.nx, ρ) := rfl
theorem while_inv {c : PEnv → M Bool} (I : Nat → PEnv → Store → Prop) : ∀ (n : Nat) (ρ : PEnv) (S : Store), I n ρ S →
    (∀ n ρ S, I n ρ S → wpx (c ρ) S (fun b S' => if b = true then wps (g ρ) S' (fun r S'' => match r.1 with
      | .nx => ∃ m, m < n ∧ I m r.2 S''
      | .ct => ∃ m, m < n ∧ I m r.2 S''
      | .bk => Q (.nx, r.2) S''
      | _ => Q r S'') else Q (.nx, ρ) S') (fun c S' => Q (.ex c, ρ) S')) → wps (sWhile c g ρ) S Q := by
  have key : ∀ (n : Nat) (ρ : PEnv) (S : Store), I n ρ S → (∀ n ρ S, I n ρ S → wpx (c ρ) S (fun b S' => if b = true then wps (g ρ) S' (fun r S'' => match r.1 with
      | .nx => ∃ m, m < n ∧ I m r.2 S''
      | .ct => ∃ m, m < n ∧ I m r.2 S''
      | .bk => Q (.nx, r.2) S''
      | _ => Q r S'') else Q (.nx, ρ) S') (fun c S' => Q (.ex c, ρ) S')) → ∃ k, wps (whileN c g k ρ) S Q := by
    intro n
    induction n using Nat.strongRecOn with
    | ind n ih =>
      intro ρ S hI hs
      have h1 := hs n ρ S hI
      unfold wpx at h1
      cases e : c ρ S with
      | bad => rw [e] at h1; exact h1.elim
      | ex x S' =>
        rw [e] at h1
        refine ⟨1, ?_⟩
        unfold wps wpx whileN
        rw [e]; exact h1
      | ok b S' =>
        rw [e] at h1
        cases b with
        | false =>
          refine ⟨1, ?_⟩
          unfold wps wpx whileN
          rw [e]; exact h1
        | true =>
          simp only [if_true] at h1
          unfold wps wpx at h1
          cases e2 : g ρ S' with
          | bad => rw [e2] at h1; exact h1.elim
          | ex x S'' => rw [e2] at h1; exact h1.elim
          | ok r S'' =>
            rw [e2] at h1
            obtain ⟨fl, ρ'⟩ := r
            have fin : ∀ k, (∀ (q : wps (kLoop (whileN c g k) (fl, ρ')) S'' Q), wps (whileN c g (k + 1) ρ) S Q) := fun k q => by
              have e3 : whileN c g (k + 1) ρ S = kLoop (whileN c g k) (fl, ρ') S'' := by
                rw [whileN_succ, e]
                show (g ρ S').bind (kLoop (whileN c g k)) = _
                rw [e2]; rfl
              unfold wps wpx at q ⊢
              rw [e3]; exact q
            cases fl with
            | nx =>
              obtain ⟨m, hm, hI'⟩ := h1
              obtain ⟨k, hk⟩ := ih m hm ρ' S'' hI' hs
              exact ⟨k + 1, fin k hk⟩
            | ct =>
              obtain ⟨m, hm, hI'⟩ := h1
              obtain ⟨k, hk⟩ := ih m hm ρ' S'' hI' hs
              exact ⟨k + 1, fin k hk⟩
            | bk => exact ⟨1, fin 0 h1⟩
            | rt d => exact ⟨1, fin 0 h1⟩
            | ex x => exact ⟨1, fin 0 h1⟩
  intro n ρ S hI hs
  obtain ⟨k, hk⟩ := key n ρ S hI hs
  have hg : (whileN c g k ρ S).good := by
    unfold wps wpx at hk
    cases e : whileN c g k ρ S with
    | bad => rw [e] at hk; exact hk.elim
    | _ => exact True.intro
  unfold wps wpx at hk ⊢
  rw [while_is hg]; exact hk
end
section
variable {ρ : PEnv} {S : Store} {E : Exn → Store → Prop}
theorem wsr_args {F : List PV → M Src} {fa : PEnv → M (List PV)} {Q : Src → Store → Prop} : wpx (sArgs F fa ρ) S Q E ↔ wpx (fa ρ) S (fun xs S1 => wpx (F xs) S1 Q E) E := wpx_bind
theorem wsr_range1 {j : Int} {Q : Src → Store → Prop} : wpx (range1M [.int j]) S Q E ↔ (-(2 ^ 62) ≤ j ∧ j < 2 ^ 62) ∧ Q (srcRange 0 j.toNat) S := by
  unfold range1M; rw [wpx_ite]; simp [wpx_ret, wpx_bad]
theorem wsr_range2 {i j : Int} {Q : Src → Store → Prop} : wpx (range2M [.int i, .int j]) S Q E ↔ (-(2 ^ 62) ≤ i ∧ i < 2 ^ 62 ∧ -(2 ^ 62) ≤ j ∧ j < 2 ^ 62) ∧ Q (srcRange i (j - i).toNat) S := by
  unfold range2M; rw [wpx_ite]; simp [wpx_ret, wpx_bad]
theorem wsr_seq {f : PEnv → M PV} {Q : Src → Store → Prop} : wpx (eSrc f ρ) S Q E ↔ wpx (f ρ) S (fun x S1 => wpx (seqM x) S1 Q E) E := wpx_bind
theorem wsr_tup {xs : List PV} {Q : Src → Store → Prop} : wpx (seqM (.tup xs)) S Q E ↔ Q ⟨xs, fun _ => True⟩ S := Iff.rfl
theorem wsr_cell {n : Nat} {c : Cell} {xs : List PV} {Q : Src → Store → Prop} (e : S[n]? = some c) (e2 : c.items? = some xs) : wpx (seqM (.cell n)) S Q E ↔ Q ⟨xs, fun S' => S'[n]? = some c⟩ S := by
  have : wpx (seqM (.cell n)) S Q E ↔ ∃ c, S[n]? = some c ∧ wpx (match c.items? with | some xs => M.ret ⟨xs, fun S' => S'[n]? = some c⟩ | none => M.bad) S Q E := wpx_getC
  rw [this]
  constructor
  · rintro ⟨d, h1, h2⟩
    rw [e] at h1; cases h1
    rw [e2] at h2; exact h2
  · intro h
    exact ⟨c, e, by rw [e2]; exact h⟩
/-! comprehensions -/
theorem wv_lc {fs : PEnv → M Src} {t : Tgt} {test : PEnv → M Bool} {elt : PEnv → M PV} {vs : List Nat} {Q : PV → Store → Prop} : wpx (eLc fs t test elt vs ρ) S Q E ↔ wpx (fs ρ) S (fun src S' => wpx (lcGo src.chk t test elt (wipeP ρ vs) S'.length src.items) (S' ++ [.lst []]) Q E) E := by
  unfold eLc; rw [wpx_bind]; rfl
theorem wpx_noEx {β : Type} {m : M β} {Q : β → Store → Prop} : wpx (fun S => noEx (m S)) S Q E ↔ wpx m S Q fun _ _ => False := by
  unfold wpx
  dsimp only
  unfold noEx
  cases m S <;> exact Iff.rfl
/-- I by the items that are left, what is made so far, and the store (the new list at n within it) -/
theorem lc_inv {chk : Store → Prop} {t : Tgt} {test : PEnv → M Bool} {elt : PEnv → M PV} {n : Nat} {Q : PV → Store → Prop} (I : List PV → List PV → Store → Prop) : ∀ (xs acc : List PV) (S : Store), I xs acc S →
    (∀ xs acc S, I xs acc S → chk S ∧ S[n]? = some (.lst acc)) → (∀ acc S, I [] acc S → Q (.cell n) S) →
    (∀ x xs acc S, I (x :: xs) acc S → ∃ ρ1, bindT t x ρ = some ρ1 ∧ wpx (test ρ1) S (fun b S1 => if b = true then wpx (elt ρ1) S1 (fun y S2 => S2[n]? = some (.lst acc) ∧ acc.length < sizeLine ∧ I xs (acc ++ [y]) (S2.set n (.lst (acc ++ [y])))) (fun _ _ => False) else I xs acc S1) (fun _ _ => False)) →
    wpx (lcGo chk t test elt ρ n xs) S Q E
  | [], acc, S, h, hc, hn, hs => by
    unfold wpx lcGo
    rw [if_pos (hc _ _ _ h).1]; exact hn _ _ h
  | x :: xs, acc, S, h, hc, hn, hs => by
    obtain ⟨ρ1, e, q⟩ := hs x xs acc S h
    have e0 : lcGo chk t test elt ρ n (x :: xs) S = M.bind (fun S => noEx (test ρ1 S)) (fun b => if b = true then M.bind (fun S1 => noEx (elt ρ1 S1)) (fun y => M.bind (appC n y) fun _ => lcGo chk t test elt ρ n xs) else lcGo chk t test elt ρ n xs) S := by
      rw [lcGo]
      simp only [if_pos (hc _ _ _ h).1, e]
      rfl
    have e4 : wpx (M.bind (fun S => noEx (test ρ1 S)) (fun b => if b = true then M.bind (fun S1 => noEx (elt ρ1 S1)) (fun y => M.bind (appC n y) fun _ => lcGo chk t test elt ρ n xs) else lcGo chk t test elt ρ n xs)) S Q E := by
      rw [wpx_bind]
      refine wpx_mono (wpx_noEx.mpr q) (fun b S1 q => ?_) fun _ _ z => z
      cases b with
      | false => exact lc_inv I xs acc S1 q hc hn hs
      | true =>
        rw [if_pos rfl] at q ⊢
        rw [wpx_bind]
        refine wpx_mono (wpx_noEx.mpr q) (fun y S2 q => ?_) fun _ _ z => z
        obtain ⟨q1, q2, q3⟩ := q
        rw [wpx_bind]
        have e3 : appC n y S2 = .ok () (S2.set n (.lst (acc ++ [y]))) := by
          unfold appC; rw [q1]; simp only [if_pos q2]
        exact (wpx_eq e3).mpr (lc_inv I xs (acc ++ [y]) _ q3 hc hn hs)
    unfold wpx at e4 ⊢
    rw [e0]; exact e4
end
end DL

/-! DLv: values, by their kinds. -/
namespace DL
open PySem PySem.Spec PyProof.Rows L2
open Classical
section
variable {S : Store} {Q : PV → Store → Prop} {QU : Unit → Store → Prop} {QB : Bool → Store → Prop} {E : Exn → Store → Prop} {i j : Int} {n : Nat} {xs ys : List PV} {d : PV}
theorem vv_add_int : wpx (addV (.int i) (.int j)) S Q E ↔ Q (.int (i + j)) S := Iff.rfl
theorem vv_add_tup : wpx (addV (.tup xs) (.tup ys)) S Q E ↔ xs.length + ys.length ≤ sizeLine ∧ Q (.tup (xs ++ ys)) S := by
  show wpx (if _ then _ else _) S Q E ↔ _
  rw [wpx_ite]; simp [wpx_ret, wpx_bad]
theorem vv_sub : wpx (subV (.int i) (.int j)) S Q E ↔ Q (.int (i - j)) S := Iff.rfl
theorem vv_mul : wpx (mulI (.int i) (.int j)) S Q E ↔ CMul i j ∧ Q (.int (i * j)) S := by
  show wpx (if _ then _ else _) S Q E ↔ _
  rw [wpx_ite]; simp [wpx_ret, wpx_bad]
theorem vv_div : wpx (divV (.int i) (.int j)) S Q E ↔ CDiv i j ∧ Q (.int (i / j)) S := by
  show wpx (if _ then _ else _) S Q E ↔ _
  rw [wpx_ite]; simp [wpx_ret, wpx_bad]
theorem vv_mod : wpx (modV (.int i) (.int j)) S Q E ↔ 0 < j ∧ Q (.int (i % j)) S := by
  show wpx (if _ then _ else _) S Q E ↔ _
  rw [wpx_ite]; simp [wpx_ret, wpx_bad]
theorem vv_pow : wpx (powV (.int i) (.int j)) S Q E ↔ CPow i j ∧ Q (.int (i ^ j.toNat)) S := by
  show wpx (if _ then _ else _) S Q E ↔ _
  rw [wpx_ite]; simp [wpx_ret, wpx_bad]
theorem vv_neg : wpx (negV (.int i)) S Q E ↔ Q (.int (-i)) S := Iff.rfl
theorem vv_gt : wpx (gtI (.int i) (.int j)) S Q E ↔ Q (.bl (decide (j < i))) S := Iff.rfl
theorem vv_ge : wpx (geI (.int i) (.int j)) S Q E ↔ Q (.bl (decide (j ≤ i))) S := Iff.rfl
theorem vv_le : wpx (leI (.int i) (.int j)) S Q E ↔ Q (.bl (decide (i ≤ j))) S := Iff.rfl
theorem vv_lt : wpx (ltA (.int i) (.int j)) S Q E ↔ Q (.bl (decide (i < j))) S := Iff.rfl
theorem toD_int {m : Nat} : toD S (m + 1) (.int i) = some (.int i) := rfl
theorem eqM_int : eqM (.int i) (.int j) S = .ok (i == j) S := by
  unfold eqM
  rw [show toD S 64 (.int i) = some (.int i) from rfl, show toD S 64 (.int j) = some (.int j) from rfl]
  have h : ∀ k : Int, SeqAt.shaped (.int k) = true := fun k => rfl
  simp only [h, and_self, if_true, PyData.eqv]
theorem vv_eq_int : wpx (eqV (.int i) (.int j)) S Q E ↔ Q (.bl (decide (i = j))) S := by
  unfold eqV; rw [wpx_bind, wpx_eq eqM_int, wpx_ret, Bool.beq_eq_decide_eq]
theorem vv_ne_int : wpx (neV (.int i) (.int j)) S Q E ↔ Q (.bl (!decide (i = j))) S := by
  unfold neV; rw [wpx_bind, wpx_eq eqM_int, wpx_ret, Bool.beq_eq_decide_eq]
theorem eqM_bl {a b : Bool} : eqM (.bl a) (.bl b) S = .ok (a == b) S := by
  unfold eqM
  rw [show toD S 64 (.bl a) = some (.bool a) from rfl, show toD S 64 (.bl b) = some (.bool b) from rfl]
  have h : ∀ k : Bool, SeqAt.shaped (.bool k) = true := fun k => rfl
  simp only [h, and_self, if_true, PyData.eqv]
theorem vv_eq_bl {a b : Bool} : wpx (eqV (.bl a) (.bl b)) S Q E ↔ Q (.bl (decide (a = b))) S := by
  unfold eqV; rw [wpx_bind, wpx_eq eqM_bl, wpx_ret, Bool.beq_eq_decide_eq]
theorem vv_ne_bl {a b : Bool} : wpx (neV (.bl a) (.bl b)) S Q E ↔ Q (.bl (!decide (a = b))) S := by
  unfold neV; rw [wpx_bind, wpx_eq eqM_bl, wpx_ret, Bool.beq_eq_decide_eq]
theorem vv_items_tup {β : Type} {k : List PV → M β} {Q : β → Store → Prop} : wpx (itemsM (.tup xs) k) S Q E ↔ wpx (k xs) S Q E := Iff.rfl
theorem vv_items_cell {β : Type} {k : List PV → M β} {Q : β → Store → Prop} : wpx (itemsM (.cell n) k) S Q E ↔ ∃ c, S[n]? = some c ∧ ∃ ys, c.items? = some ys ∧ wpx (k ys) S Q E := by
  show wpx (getC n _) S Q E ↔ _
  rw [wpx_getC]
  simp only [wpx_bind, wpx_optM]
theorem vv_ix_tup : wpx (ixV (.tup xs) (.int i)) S Q E ↔ ∃ d, L2.atI xs i = some d ∧ Q d S := wpx_optM
theorem vv_ix_cell : wpx (ixV (.cell n) (.int i)) S Q E ↔ ∃ c, S[n]? = some c ∧ ∃ ys, c.items? = some ys ∧ ∃ d, L2.atI ys i = some d ∧ Q d S := by
  show wpx (itemsM (.cell n) _) S Q E ↔ _
  rw [vv_items_cell]; simp only [wpx_optM]
theorem atI_pos {β : Type} {l : List β} (h : 0 ≤ i) : L2.atI l i = l[i.toNat]? := by
  unfold L2.atI L2.ixN
  rw [if_pos h]
  by_cases q : i < (l.length : Int)
  · rw [if_pos q]; rfl
  · rw [if_neg q, List.getElem?_eq_none (by omega)]; rfl
theorem ixN_pos {m : Nat} (h : 0 ≤ i) (h2 : i < m) : L2.ixN m i = some i.toNat := by
  unfold L2.ixN; rw [if_pos h, if_pos h2]
theorem vv_set : wpx (setV (.cell n) (.int i) d) S QU E ↔ ∃ ys, S[n]? = some (.lst ys) ∧ ∃ k, L2.ixN ys.length i = some k ∧ QU () (S.set n (.lst (ys.set k d))) := by
  show wpx (getC n _) S QU E ↔ _
  rw [wpx_getC]
  constructor
  · rintro ⟨c, h1, h2⟩
    cases c with
    | lst ys =>
      rw [wpx_bind, wpx_optM] at h2
      obtain ⟨k, h3, h4⟩ := h2
      exact ⟨ys, h1, k, h3, h4⟩
    | rls ys => exact h2.elim
    | ins C fs => exact h2.elim
    | obj => exact h2.elim
    | xdc fs => exact h2.elim
    | fns ns => exact h2.elim
    | dK kvs => exact h2.elim
    | dT kvs => exact h2.elim
  · rintro ⟨ys, h1, k, h2, h3⟩
    refine ⟨_, h1, ?_⟩
    rw [wpx_bind, wpx_optM]
    exact ⟨k, h2, h3⟩
theorem vv_len_tup : wpx (lenV [.tup xs]) S Q E ↔ Q (.int xs.length) S := Iff.rfl
theorem vv_len_cell : wpx (lenV [.cell n]) S Q E ↔ ∃ c, S[n]? = some c ∧ ∃ ys, c.items? = some ys ∧ Q (.int ys.length) S := by
  show wpx (itemsM (.cell n) _) S Q E ↔ _
  rw [vv_items_cell]; simp only [wpx_ret]
theorem vv_abs : wpx (absF [.int i]) S Q E ↔ Q (.int (if i < 0 then -i else i)) S := Iff.rfl
theorem vv_int_int : wpx (intF [.int i]) S Q E ↔ Q (.int i) S := Iff.rfl
theorem vv_int_bl {b : Bool} : wpx (intF [.bl b]) S Q E ↔ Q (.int (if b then 1 else 0)) S := Iff.rfl
theorem vv_tup_tup : wpx (tupF [.tup xs]) S Q E ↔ Q (.tup xs) S := Iff.rfl
theorem vv_tup_cell : wpx (tupF [.cell n]) S Q E ↔ ∃ c, S[n]? = some c ∧ ∃ ys, c.items? = some ys ∧ Q (.tup ys) S := by
  show wpx (itemsM (.cell n) _) S Q E ↔ _
  rw [vv_items_cell]; simp only [wpx_ret]
theorem vv_lst_tup : wpx (lstF [.tup xs]) S Q E ↔ Q (.cell S.length) (S ++ [.lst xs]) := Iff.rfl
theorem vv_lst_cell : wpx (lstF [.cell n]) S Q E ↔ ∃ c, S[n]? = some c ∧ ∃ ys, c.items? = some ys ∧ Q (.cell S.length) (S ++ [.lst ys]) := by
  show wpx (itemsM (.cell n) _) S Q E ↔ _
  rw [vv_items_cell]; rfl
theorem vv_slice_tup {lo hi : Option Int} : wpx (sliceV (.tup xs) lo hi) S Q E ↔ Q (.tup (cutP xs lo hi)) S := Iff.rfl
theorem vv_isN_non : wpx (isNV .non .non) S Q E ↔ Q (.bl true) S := Iff.rfl
theorem vv_isN_int : wpx (isNV (.int i) .non) S Q E ↔ Q (.bl false) S := Iff.rfl
theorem vv_isN_tup : wpx (isNV (.tup xs) .non) S Q E ↔ Q (.bl false) S := Iff.rfl
theorem vv_notN_non : wpx (notNV .non .non) S Q E ↔ Q (.bl false) S := Iff.rfl
theorem vv_notN_int : wpx (notNV (.int i) .non) S Q E ↔ Q (.bl true) S := Iff.rfl
theorem vv_notN_tup : wpx (notNV (.tup xs) .non) S Q E ↔ Q (.bl true) S := Iff.rfl
theorem items_lst : (Cell.lst xs).items? = some xs := rfl
theorem items_rls : (Cell.rls xs).items? = some xs := rfl
theorem vv_append : wpx (appendV (.cell n) [d]) S Q E ↔ ∃ ys, S[n]? = some (.lst ys) ∧ ys.length < sizeLine ∧ Q .non (S.set n (.lst (ys ++ [d]))) := by
  show wpx (getC n _) S Q E ↔ _
  rw [wpx_getC]
  constructor
  · rintro ⟨c, h1, h2⟩
    cases c with
    | lst ys =>
      have h3 := wpx_ite.mp h2
      by_cases q : ys.length < sizeLine
      · rw [if_pos q] at h3; exact ⟨ys, h1, q, h3⟩
      · rw [if_neg q] at h3; exact h3.elim
    | rls ys => exact h2.elim
    | ins C fs => exact h2.elim
    | obj => exact h2.elim
    | xdc fs => exact h2.elim
    | fns ns => exact h2.elim
    | dK kvs => exact h2.elim
    | dT kvs => exact h2.elim
  · rintro ⟨ys, h1, q, h3⟩
    refine ⟨_, h1, wpx_ite.mpr ?_⟩
    rw [if_pos q]; exact h3
theorem vv_isL : wpx (isL (.cell n)) S Q E ↔ ∃ c, S[n]? = some c ∧ ∃ ys, c.items? = some ys ∧ Q (.cell n) S := by
  show wpx (getC n _) S Q E ↔ _
  rw [wpx_getC]
  constructor
  · rintro ⟨c, h1, h2⟩
    cases z : c.items? with
    | none => rw [z] at h2; exact h2.elim
    | some ys => rw [z] at h2; exact ⟨c, h1, ys, z, h2⟩
  · rintro ⟨c, h1, ys, h2, h3⟩
    exact ⟨c, h1, by rw [h2]; exact h3⟩
section
variable {F : FD} {a b c e f g : PV}
theorem chkL0 : chkL 0 F [] = F [] := rfl
theorem chkL1 : chkL 1 F [a] = F [a] := rfl
theorem chkL2 : chkL 2 F [a, b] = F [a, b] := rfl
theorem chkL3 : chkL 3 F [a, b, c] = F [a, b, c] := rfl
theorem chkL4 : chkL 4 F [a, b, c, e] = F [a, b, c, e] := rfl
theorem chkL5 : chkL 5 F [a, b, c, e, f] = F [a, b, c, e, f] := rfl
theorem chkL6 : chkL 6 F [a, b, c, e, f, g] = F [a, b, c, e, f, g] := rfl
end
/-! kinds -/
def kindOf : PV → Option String
  | .non => some "NoneType"
  | .bl _ => some "bool"
  | .int _ => some "int"
  | .str _ => some "str"
  | .tup _ => some "tuple"
  | _ => none
theorem vv_isi {x : PV} {t T : String} (h : kindOf x = some t) {b : Bool} (hb : kitB t T = some b) : wpx (isiF [x, .con (.ty T)]) S Q E ↔ Q (.bl b) S := by
  have e0 : isiF [x, .con (.ty T)] = tyM x fun t => (optM (kitB t T)).bind fun b => M.ret (.bl b) := by
    unfold isiF; rfl
  rw [e0]
  have e : wpx (tyM x fun t => (optM (kitB t T)).bind fun b => M.ret (.bl b)) S Q E ↔ wpx ((optM (kitB t T)).bind fun b => M.ret (PV.bl b)) S Q E := by
    cases x <;> cases h <;> exact Iff.rfl
  rw [e, wpx_bind, wpx_optM, hb]
  constructor
  · rintro ⟨c, h1, h2⟩; cases h1; exact h2
  · intro h; exact ⟨b, rfl, h⟩
theorem vv_isi_cell {T : String} {b : Bool} {c : Cell} {ys : List PV} (h : S[n]? = some c) (hy : c.items? = some ys) (hb : kitB "list" T = some b) : wpx (isiF [.cell n, .con (.ty T)]) S Q E ↔ Q (.bl b) S := by
  show wpx (getC n _) S Q E ↔ _
  rw [wpx_getC]
  constructor
  · rintro ⟨c', h1, h2⟩
    rw [h] at h1; cases h1
    rw [hy] at h2
    have h3 := wpx_bind.mp h2
    rw [wpx_optM, hb] at h3
    obtain ⟨_, h4, h5⟩ := h3
    cases h4; exact h5
  · intro q
    refine ⟨c, h, ?_⟩
    rw [hy]
    refine wpx_bind.mpr ?_
    rw [wpx_optM, hb]
    exact ⟨b, rfl, q⟩
theorem kb_int_int : kitB "int" "int" = some true := by decide +kernel
theorem kb_int_bool : kitB "int" "bool" = some false := by decide +kernel
theorem kb_bool_bool : kitB "bool" "bool" = some true := by decide +kernel
theorem kb_bool_int : kitB "bool" "int" = some true := by decide +kernel
theorem kb_int_tuple : kitB "int" "tuple" = some false := by decide +kernel
theorem kb_bool_tuple : kitB "bool" "tuple" = some false := by decide +kernel
theorem kb_str_tuple : kitB "str" "tuple" = some false := by decide +kernel
theorem kb_none_tuple : kitB "NoneType" "tuple" = some false := by decide +kernel
theorem kb_list_tuple : kitB "list" "tuple" = some false := by decide +kernel
theorem kb_tuple_tuple : kitB "tuple" "tuple" = some true := by decide +kernel
theorem kb_str_int : kitB "str" "int" = some false := by decide +kernel
theorem kb_none_int : kitB "NoneType" "int" = some false := by decide +kernel
theorem kb_list_int : kitB "list" "int" = some false := by decide +kernel
theorem kb_tuple_int : kitB "tuple" "int" = some false := by decide +kernel
theorem kb_str_bool : kitB "str" "bool" = some false := by decide +kernel
theorem kb_none_bool : kitB "NoneType" "bool" = some false := by decide +kernel
theorem kb_list_bool : kitB "list" "bool" = some false := by decide +kernel
theorem kb_tuple_bool : kitB "tuple" "bool" = some false := by decide +kernel
theorem kb_int_list : kitB "int" "list" = some false := by decide +kernel
theorem kb_bool_list : kitB "bool" "list" = some false := by decide +kernel
theorem kb_str_list : kitB "str" "list" = some false := by decide +kernel
theorem kb_none_list : kitB "NoneType" "list" = some false := by decide +kernel
theorem kb_list_list : kitB "list" "list" = some true := by decide +kernel
theorem kb_tuple_list : kitB "tuple" "list" = some false := by decide +kernel
end
end DL

/-! DLt: typed values. -/
namespace DL
open PySem PySem.Spec PyProof.Rows L2 PySem.W
open Classical
class PVal (α : Type) [DecidableEq α] extends Datum α where
  pv : α → PV
  lay : ∀ a, (toD a).canLay0 = true
  rd : ∀ (S : Store) (n : Nat) (a : α), depth < n → DL.toD S n (pv a) = some (toD a)
open PVal (pv)
instance : PVal Int where
  pv := .int
  lay _ := rfl
  rd S n a h := by
    obtain ⟨m, rfl⟩ : ∃ m, n = m + 1 := ⟨n - 1, by omega⟩
    rfl
instance : PVal Bool where
  pv := .bl
  lay _ := rfl
  rd S n a h := by
    obtain ⟨m, rfl⟩ : ∃ m, n = m + 1 := ⟨n - 1, by omega⟩
    rfl
instance : PVal Unit where
  pv _ := .non
  lay _ := rfl
  rd S n a h := by
    obtain ⟨m, rfl⟩ : ∃ m, n = m + 1 := ⟨n - 1, by omega⟩
    rfl
section
variable {α β : Type} [DecidableEq α] [PVal α] [DecidableEq β] [PVal β]
theorem mapO_map {f : PV → Option PyData} {g : α → PV} {k : α → PyData} (h : ∀ a, f (g a) = some (k a)) : ∀ xs : List α, mapO f (xs.map g) = some (xs.map k)
  | [] => rfl
  | x :: xs => by rw [List.map_cons, mapO, h x, mapO_map h xs]; rfl
theorem layAll_map : ∀ xs : List α, PyData.canLayAll0 (xs.map Datum.toD) = true
  | [] => rfl
  | x :: xs => by rw [List.map_cons, PyData.canLayAll0, PVal.lay, layAll_map xs]; rfl
instance : PVal (Tup α) where
  pv t := .tup (t.items.map pv)
  lay t := by show PyData.canLay0 (.tuple _) = true; rw [PyData.canLay0]; exact layAll_map t.items
  rd S n a h := by
    obtain ⟨m, rfl⟩ : ∃ m, n = m + 1 := ⟨n - 1, by omega⟩
    have h' : Datum.depth α < m := by
      have : Datum.depth (Tup α) = Datum.depth α + 1 := rfl
      omega
    show (mapO (toD S m) (a.items.map pv)).map PyData.tuple = some (.tuple (a.items.map Datum.toD))
    rw [mapO_map (k := Datum.toD) fun x => PVal.rd S m x h']; rfl
instance : PVal (α × β) where
  pv p := .tup [pv p.1, pv p.2]
  lay p := by show PyData.canLay0 (.tuple _) = true; rw [PyData.canLay0, PyData.canLayAll0, PyData.canLayAll0, PVal.lay, PVal.lay]; rfl
  rd S n a h := by
    obtain ⟨m, rfl⟩ : ∃ m, n = m + 1 := ⟨n - 1, by omega⟩
    have hd : Datum.depth (α × β) = max (Datum.depth α) (Datum.depth β) + 1 := rfl
    have h1 : Datum.depth α < m := by omega
    have h2 : Datum.depth β < m := by omega
    show (mapO (toD S m) [pv a.1, pv a.2]).map PyData.tuple = some (.tuple [Datum.toD a.1, Datum.toD a.2])
    rw [mapO, PVal.rd S m a.1 h1, mapO, PVal.rd S m a.2 h2, mapO]; rfl
variable {S : Store} {Q : PV → Store → Prop} {QB : Bool → Store → Prop} {E : Exn → Store → Prop}
theorem shaped_of (a : α) (h : Datum.depth α ≤ 64) : SeqAt.shaped (Datum.toD a) = true := by
  unfold SeqAt.shaped
  rw [PVal.lay, Bool.true_and, decide_eq_true_eq]
  exact Nat.le_trans (Datum.depth_le a) h
theorem eqM_t (a b : α) (h : Datum.depth α < 64) : eqM (pv a) (pv b) S = .ok (decide (a = b)) S := by
  unfold eqM
  rw [PVal.rd S 64 a h, PVal.rd S 64 b h]
  simp only [shaped_of a (Nat.le_of_lt h), shaped_of b (Nat.le_of_lt h), and_self, if_true, Datum.eqv]
theorem vt_eq (a b : α) (h : Datum.depth α < 64) : wpx (eqV (pv a) (pv b)) S Q E ↔ Q (.bl (decide (a = b))) S := by
  unfold eqV; rw [wpx_bind, wpx_eq (eqM_t a b h), wpx_ret]
theorem vt_ne (a b : α) (h : Datum.depth α < 64) : wpx (neV (pv a) (pv b)) S Q E ↔ Q (.bl (!decide (a = b))) S := by
  unfold neV; rw [wpx_bind, wpx_eq (eqM_t a b h), wpx_ret]
end
section
variable {α : Type} [DecidableEq α] [PVal α] [o : DatumOrd α] {S : Store} {Q : PV → Store → Prop} {E : Exn → Store → Prop}
/-- < of two values whose data are ordered -/
theorem vt_lt (a b : α) {x y : PV} (hx : toD S 64 x = some (o.toD a)) (hy : toD S 64 y = some (o.toD b)) (hd : o.depth ≤ 64) : wpx (ltV x y) S Q E ↔ Q (.bl (DatumOrd.lt a b)) S := by
  have e : ltM x y S = .ok (DatumOrd.lt a b) S := by
    unfold ltM
    rw [hx, hy]
    have c : alike (o.toD a) (o.toD b) = true ∧ o.toD a ≠ .none ∧ (o.toD a).depth ≤ 64 := ⟨DatumOrd.alike a b, DatumOrd.notNone a, Nat.le_trans (o.depth_le a) hd⟩
    simp only [if_pos c, DatumOrd.lt_eq]
  unfold ltV
  rw [wpx_bind, wpx_eq e, wpx_ret]
end
/-- tuples of ints -/
abbrev tupI (ns : List Int) : PV := .tup (ns.map PV.int)
theorem tupI_pv (ns : List Int) : tupI ns = PVal.pv (Tup.mk ns) := rfl
end DL

/-! DLr: repr, a module's constants, reversed, divmod, min and max of two, what is never reached. -/
namespace DL
open PySem PySem.Spec PyProof.Rows L2 PySem.W
open Classical
section
variable {X : Cx} {W : WJ} {tg a : Expr} {pos : Pos} {K : PySem.W.Frag}
/-! ### repr -/
structure ShowOk (d : PyData) : Prop where
  lay : d.canLay0 = true
  can : d.showable = true
  deep : d.depth ≤ 64
  size : d.shown.length ≤ sizeLine
def rReprD (K : PySem.W.Frag) : List V → Hp → VK → Prop := fun xs H Q => ∃ x d, xs = [x] ∧ Dp K H x d ∧ ShowOk d ∧ Q (.str d.shown) H
theorem call_repr (gd : X.A.guards = some []) (hu : X.A.units + 65 < cLine) : CallR X (.builtin "repr") (rReprD X.K) := by
  intro pins s σ H xs us Q I r h
  obtain ⟨x, d, rfl, hd, ok, q⟩ := h
  cases r with
  | cons rx rt =>
    cases rt
    rename_i u
    obtain ⟨as, r1⟩ := Dp.reads I d x u hd rx
    have hlt := ok.deep
    have hsz := ok.size
    have hcan := ok.can
    cases r1 with
    | none => exact P.repr_of_none ⟨.str _, H, I.tok _, ⟨_, rfl⟩, q⟩
    | bool b => exact P.repr_of_bool ⟨.str _, H, I.tok _, ⟨_, rfl⟩, q⟩
    | int i t => exact P.repr_of_int (by simpa only [PyData.showable, decide_eq_true_eq] using hcan) ⟨.str _, H, I.tok _, ⟨_, rfl⟩, q⟩
    | str y t => exact P.repr_of_str (hsz := hsz) ⟨.str _, H, I.tok _, ⟨_, rfl⟩, q⟩
    | list h1 h2 h3 h4 =>
      exact repr_of_reads' (.list h1 h2 h3 h4) ok.can (PyData.noDict_hsm (PyData.hasDict_of_canLay _ ok.lay)) gd (by omega) (fun _ _ e => e) (fun h' u tk hk => ⟨.str _, H, I.kept hk, ⟨_, rfl⟩, q⟩) hsz
    | tuple h1 h2 h3 h4 =>
      exact repr_of_reads' (.tuple h1 h2 h3 h4) ok.can (PyData.noDict_hsm (PyData.hasDict_of_canLay _ ok.lay)) gd (by omega) (fun _ _ e => e) (fun h' u tk hk => ⟨.str _, H, I.kept hk, ⟨_, rfl⟩, q⟩) hsz
    | dict h1 h2 h3 h4 h5 => exact absurd ok.lay (by simp [PyData.canLay0])
noncomputable def reprF : List PV → M PV
  | [x] => fun S => match toD S 64 x with
    | some d => if ShowOk d then .ok (.str d.shown) S else .bad
    | none => .bad
  | _ => M.bad
theorem den_repr : DenN K (rReprD K) reprF := fun α S H xs vs Q E o r h => by
  cases r with
  | nil => exact h.elim
  | cons r1 r2 =>
    rename_i x v xr vr
    cases r2 with
    | cons _ _ => exact h.elim
    | nil =>
      have h' : OD K α H (match toD S 64 x with | some d => if ShowOk d then Out.ok (PV.str d.shown) S else .bad | none => .bad) (fun d α' _ H' => ∀ v, Rep K α' H' d v → Q v H') E := h
      cases q1 : toD S 64 x with
      | none => rw [q1] at h'; exact h'.elim
      | some d =>
        rw [q1] at h'
        obtain ⟨z, h'⟩ := if_out h'
        exact ⟨v, d, rfl, toD_dp o _ _ _ _ q1 r1, z, h' α H (.refl o) _ (.str _)⟩
/-! ### a module's constant -/
theorem de_globI {x : Str} {i : Int} (hm : ∃ t, X.mg x = some (.int i t)) (hg : Gl X x := by rfl) (hd : (x == ("__debug__" : Str)) = false := by decide) : DE X W (.Name x pos) (eLit (.int i)) := by
  obtain ⟨t, hm⟩ := hm
  exact de_lit (v := .int i) (pe_glob hg hm ⟨_, rfl⟩ hd) fun _ _ => .int _
/-! ### reversed(a tuple) -/
theorem srcRev_ok {α : List Addr} {H : Hp} {a : Addr} {vs : List V} {xs : List PV} (h : ST K H a vs) (r : Reps K α H xs vs) : SrcOk K (RT.ItvT K a vs.length) α H ⟨xs.reverse, fun _ => True⟩ := by
  intro i α' S' H' m hk
  have hq := (m.grow.sT h).sq
  have r' := r.mono m.grow m.le
  have hl := r.length
  refine ⟨fun x ex => ?_, fun hl2 => ?_⟩
  · have hi : i < xs.length := by
      have := (List.getElem?_eq_some_iff.mp ex).1
      rwa [List.length_reverse] at this
    have ex' : xs[xs.length - 1 - i]? = some x := by rw [← List.getElem?_reverse hi]; exact ex
    obtain ⟨v, ev, rv⟩ := r'.get ex'
    rw [hl] at ev
    refine ⟨⟨by omega, vs, v, hq, ev⟩, fun w H'' y => ?_⟩
    obtain ⟨y1, y2⟩ := y
    subst y1
    have z := y2 vs hq
    rw [ev] at z
    cases z
    exact ⟨.refl m.ok, rv⟩
  · have hl' : xs.reverse.length ≤ i := hl2
    rw [List.length_reverse] at hl'
    show vs.length ≤ i
    omega
def revM : PV → M Src
  | .tup xs => M.ret ⟨xs.reverse, fun _ => True⟩
  | _ => M.bad
def eRev (f : PEnv → M PV) : PEnv → M Src := fun ρ => (f ρ).bind revM
theorem di_rev {p : Pos} {f : PEnv → M PV} (hm : X.mg "reversed" = none) (h : DE X W a f) (hg : Gl X "reversed" := by rfl) (hs : starEach [a] X.env = (false, eval a X.env) :: starEach [] X.env := by rfl) : DI X W tg (.Call (.Name "reversed" p) [a] [] pos) (eRev f) := by
  refine PI_imp (RT.pi_revA hg hm h hs) fun σ H R ⟨α, S, ρ, o, sl, h⟩ => ?_
  refine ⟨α, S, ρ, o, sl, (OD.bind (o := f ρ S) h).imp (fun x α1 S1 H1 m1 h1 v rv => ?_) fun _ _ _ _ _ q => q⟩
  cases x with
  | tup xs =>
    cases rv with
    | tup hs hr => exact ⟨_, _, rfl, .inr ⟨hs.sq, h1 α1 H1 (.refl m1.ok) _ (srcRev_ok hs hr)⟩⟩
  | _ => exact h1.elim
/-! ### divmod, max, min -/
noncomputable def dmF : List PV → M PV
  | [.int i, .int j] => if CDiv i j then M.ret (.tup [.int (i / j), .int (i % j)]) else M.bad
  | _ => M.bad
theorem den_dm : DenN K (fun xs H Q => ∃ i j, xs = [.int i, .int j] ∧ CDiv i j ∧ ∀ p, H p = none → Q (.ref p) (upd H p (.tup [.int (i / j), .int (i % j)]))) dmF := fun α S H xs vs Q E o r h => by
  unfold dmF at h
  split at h
  · rename_i i j
    cases r with
    | cons r1 r2 =>
      cases r2 with
      | cons r3 r4 =>
        cases r1; cases r3; cases r4
        obtain ⟨q, h⟩ := if_outM h
        exact ⟨i, j, rfl, q, fun p hp => h α _ (.new o hp) _ (.tup (.inl upd_same) (.cons (.int _) (.cons (.int _) .nil)))⟩
  · exact h.elim
def mxF : List PV → M PV
  | [.int i, .int j] => M.ret (.int (if j > i then j else i))
  | _ => M.bad
def mnF : List PV → M PV
  | [.int i, .int j] => M.ret (.int (if j < i then j else i))
  | _ => M.bad
theorem den_mx : DenN K (fun xs H Q => ∃ i j, xs = [.int i, .int j] ∧ Q (.int (if j > i then j else i)) H) mxF := fun α S H xs vs Q E o r h => by
  unfold mxF at h
  split at h
  · cases r with
    | cons r1 r2 => cases r2 with
      | cons r3 r4 => cases r1; cases r3; cases r4; exact ⟨_, _, rfl, ret_od o h _ (.int _)⟩
  · exact h.elim
theorem den_mn : DenN K (fun xs H Q => ∃ i j, xs = [.int i, .int j] ∧ Q (.int (if j < i then j else i)) H) mnF := fun α S H xs vs Q E o r h => by
  unfold mnF at h
  split at h
  · cases r with
    | cons r1 r2 => cases r2 with
      | cons r3 r4 => cases r1; cases r3; cases r4; exact ⟨_, _, rfl, ret_od o h _ (.int _)⟩
  · exact h.elim
/-! ### what is never reached -/
def sNo : SD := fun _ => M.bad
theorem ds_no {st : Stmt} : DS X W st sNo := ⟨fun pins s σ H Q I h => by
  obtain ⟨α, S, ρ, o, sl, h⟩ := h
  exact h.elim⟩
/-! ### str(), join -/
noncomputable def strF : List PV → M PV
  | [.int i] => if i.natAbs.log2 < 1920 then M.ret (.str (toString i)) else M.bad
  | [.str y] => M.ret (.str y)
  | _ => M.bad
def rStrA : List V → Hp → VK → Prop := fun xs H Q => (∃ i, xs = [.int i] ∧ i.natAbs.log2 < 1920 ∧ Q (.str (toString i)) H) ∨ ∃ y, xs = [.str y] ∧ Q (.str y) H
theorem call_strA : CallR X (.type "str") rStrA := CallR.or call_str_int SkE.call_str_str
theorem den_str : DenN K rStrA strF := fun α S H xs vs Q E o r h => by
  unfold strF at h
  split at h
  · cases r with
    | cons r1 r2 =>
      cases r1; cases r2
      obtain ⟨q, h⟩ := if_outM h
      exact .inl ⟨_, rfl, q, ret_od o h _ (.str _)⟩
  · cases r with
    | cons r1 r2 => cases r1; cases r2; exact .inr ⟨_, rfl, ret_od o h _ (.str _)⟩
  · exact h.elim
def strs? : List PV → Option (List Str)
  | [] => some []
  | .str y :: r => (strs? r).map (y :: ·)
  | _ => none
theorem strs_eq : ∀ {xs : List PV} {ys : List Str}, strs? xs = some ys → xs = ys.map PV.str
  | [], ys, h => by cases h; rfl
  | x :: r, ys, h => by
    cases x with
    | str y =>
      unfold strs? at h
      cases q : strs? r with
      | none => rw [q] at h; cases h
      | some zs => rw [q] at h; cases h; rw [strs_eq q]; rfl
    | _ => cases h
theorem Reps.strs {α : List Addr} {H : Hp} : ∀ {ys : List Str} {vs : List V}, Reps K α H (ys.map PV.str) vs → vs = ys.map V.str
  | [], _, r => by cases r; rfl
  | y :: ys, _, r => by
    cases r with
    | cons r1 r2 => cases r1; rw [Reps.strs r2]; rfl
noncomputable def joinM (y x : PV) : M PV := match y with
  | .str y => itemsM x fun xs => match strs? xs with
    | some ys => if (ys.map (·.length)).sum + ys.length * y.length ≤ 16777216 then M.ret (.str (Txt.join y ys)) else M.bad
    | none => M.bad
  | _ => M.bad
noncomputable def eJoin (fo fe : PEnv → M PV) : PEnv → M PV := fun ρ => (fo ρ).bind fun y => match y with
  | .str z => (fe ρ).bind fun x => joinM (.str z) x
  | _ => M.bad
theorem de_join {o e : Expr} {fo fe : PEnv → M PV} {apos pos : Pos} (ho : DE X W o fo) (he : DE X W e fe) (hs : starEach [e] X.env = [(false, eval e X.env)] := by rfl) (hbase : attributeBase o "join" X.env (eval o X.env) = eval o X.env := by rfl) (hline : (apos.endLine == pos.line) = true := by rfl) :
    DE X W (.Call (.Attribute o "join" apos) [e] [] pos) (eJoin fo fe) := by
  refine PE_imp (pe_join ho he hs hbase hline) fun σ H Q ⟨α, S, ρ, so, sl, h⟩ => ?_
  refine ⟨α, S, ρ, so, sl, (OD.bind (o := fo ρ S) h).imp (fun x α1 S1 H1 m1 h1 v rv => ?_) fun _ _ _ _ _ q => q⟩
  cases x with
  | str z =>
    cases rv
    refine ⟨⟨z, rfl⟩, α1, S1, ρ, m1.ok, sl.mv m1, (OD.bind (o := fe ρ S1) h1).imp (fun y α2 S2 H2 m2 h3 u ru => ?_) fun _ _ _ _ _ q => q⟩
    obtain ⟨a, xs, vs, rfl, hq, hr, h4, _⟩ := itemsM_od m2.ok ru (show OD X.K α2 H2 (itemsM y _ S2) _ _ from h3)
    cases q : strs? xs with
    | none => rw [q] at h4; exact h4.elim
    | some ys =>
      rw [q] at h4
      obtain ⟨z1, h5⟩ := if_outM h4
      have e1 := strs_eq q
      subst e1
      have e2 := Reps.strs hr
      subst e2
      exact ⟨z, a, ys, rfl, rfl, hq, z1, ret_od m2.ok h5 _ (.str _)⟩
  | _ => exact h1.elim
/-! ### == of texts too -/
def eqA : PV → PV → M PV := fun x y => match x, y with
  | .str a, .str b => M.ret (.bl (decide (a = b)))
  | x, y => eqV x y
def neA : PV → PV → M PV := fun x y => match x, y with
  | .str a, .str b => M.ret (.bl (!decide (a = b)))
  | x, y => neV x y
def rEqA (K : PySem.W.Frag) : R2 := fun x y H Q => rEq x y H Q ∨ rEqD K x y H Q
def rNeA (K : PySem.W.Frag) : R2 := fun x y H Q => rNe x y H Q ∨ rNeD K x y H Q
theorem op_eqA (hu : X.A.units + 64 < cLine) : OpR X (compareOp .Eq) (rEqA X.K) := OpR.or op_eq (op_eqD hu)
theorem op_neA (hu : X.A.units + 64 < cLine) : OpR X (compareOp .NotEq) (rNeA X.K) := OpR.or op_ne (op_neD hu)
theorem dec_strV {a b : Str} : decide (V.str a = V.str b) = decide (a = b) := decide_eq_decide.mpr (by rw [V.str.injEq])
theorem den_eqA : Den2 K (rEqA K) eqA := fun α S H x y vx vy Q E o rx ry h => by
  unfold eqA at h
  split at h
  · cases rx; cases ry
    refine .inl ⟨rfl, ?_⟩
    rw [dec_strV]
    exact ret_od o h _ (.bl _)
  · exact .inr (den_eq α S H x y vx vy Q E o rx ry h)
theorem den_neA : Den2 K (rNeA K) neA := fun α S H x y vx vy Q E o rx ry h => by
  unfold neA at h
  split at h
  · cases rx; cases ry
    refine .inl ⟨rfl, ?_⟩
    rw [dec_strV]
    exact ret_od o h _ (.bl _)
  · exact .inr (den_ne α S H x y vx vy Q E o rx ry h)
theorem bt_divmod : bootBuiltins "divmod" = some (.builtin "divmod") := by decide +kernel
theorem bt_max : bootBuiltins "max" = some (.builtin "max") := by decide +kernel
theorem bt_min : bootBuiltins "min" = some (.builtin "min") := by decide +kernel
end
end DL

/-! DLs: what DLr's readings come to. -/
namespace DL
open PySem PySem.Spec PyProof.Rows L2 PySem.W
open Classical
section
variable {S : Store} {Q : PV → Store → Prop} {QS : Src → Store → Prop} {E : Exn → Store → Prop} {i j : Int} {x : PV} {d : PyData} {ρ : PEnv}
theorem vv_repr (h : toD S 64 x = some d) (ok : ShowOk d) : wpx (reprF [x]) S Q E ↔ Q (.str d.shown) S := by
  refine wpx_eq ?_
  show (match toD S 64 x with | some d => if ShowOk d then Out.ok (PV.str d.shown) S else .bad | none => .bad) = _
  rw [h]
  simp only [if_pos ok]
theorem vv_dm : wpx (dmF [.int i, .int j]) S Q E ↔ CDiv i j ∧ Q (.tup [.int (i / j), .int (i % j)]) S := by
  show wpx (if _ then _ else _) S Q E ↔ _
  rw [wpx_ite]; simp [wpx_ret, wpx_bad]
theorem vv_mx : wpx (mxF [.int i, .int j]) S Q E ↔ Q (.int (if j > i then j else i)) S := Iff.rfl
theorem vv_mn : wpx (mnF [.int i, .int j]) S Q E ↔ Q (.int (if j < i then j else i)) S := Iff.rfl
theorem vv_str_int : wpx (strF [.int i]) S Q E ↔ i.natAbs.log2 < 1920 ∧ Q (.str (toString i)) S := by
  show wpx (if _ then _ else _) S Q E ↔ _
  rw [wpx_ite]; simp [wpx_ret, wpx_bad]
theorem ws_no {Q : Fl × PEnv → Store → Prop} : wps (sNo ρ) S Q ↔ False := Iff.rfl
theorem wsr_rev {f : PEnv → M PV} : wpx (eRev f ρ) S QS E ↔ wpx (f ρ) S (fun x S1 => wpx (revM x) S1 QS E) E := wpx_bind
theorem vv_rev_tup {xs : List PV} : wpx (revM (.tup xs)) S QS E ↔ QS ⟨xs.reverse, fun _ => True⟩ S := Iff.rfl
theorem vv_eqA_str {a b : Str} : wpx (eqA (.str a) (.str b)) S Q E ↔ Q (.bl (decide (a = b))) S := Iff.rfl
theorem vv_neA_str {a b : Str} : wpx (neA (.str a) (.str b)) S Q E ↔ Q (.bl (!decide (a = b))) S := Iff.rfl
theorem eqA_int : eqA (.int i) x = eqV (.int i) x := rfl
theorem neA_int : neA (.int i) x = neV (.int i) x := rfl
theorem eqA_bl {b : Bool} : eqA (.bl b) x = eqV (.bl b) x := rfl
theorem neA_bl {b : Bool} : neA (.bl b) x = neV (.bl b) x := rfl
theorem eqA_tup {xs : List PV} : eqA (.tup xs) x = eqV (.tup xs) x := rfl
theorem neA_tup {xs : List PV} : neA (.tup xs) x = neV (.tup xs) x := rfl
theorem eqA_cell {n : Nat} : eqA (.cell n) x = eqV (.cell n) x := rfl
theorem neA_cell {n : Nat} : neA (.cell n) x = neV (.cell n) x := rfl
theorem eqA_non : eqA .non x = eqV .non x := rfl
theorem neA_non : neA .non x = neV .non x := rfl
end
/-! ### data that are short enough to be shown -/
structure Sm (d : PyData) (w : Nat) : Prop where
  lay : d.canLay0 = true
  shrt : d.intsShort 13 = true
  can : d.showable = true
  wt : d.weight ≤ w
theorem Sm.ok {d : PyData} {w : Nat} (h : Sm d w) (hw : w ≤ 1048576) (hd : d.depth ≤ 64) : ShowOk d := ⟨h.lay, h.can, hd, PyData.shown_fits (by decide) (Nat.le_refl 13) (PyData.leavesShort_of_canLay0 13 d h.lay h.shrt) (Nat.le_trans h.wt hw)⟩
theorem sm_none : Sm .none 0 := ⟨rfl, rfl, rfl, Nat.le_refl _⟩
theorem sm_bool {b : Bool} : Sm (.bool b) 0 := ⟨rfl, rfl, rfl, Nat.le_refl _⟩
theorem sm_int {i : Int} (h : i.natAbs < 10 ^ 12) : Sm (.int i) 40 := by
  have hl : i.natAbs.log2 < 40 := by
    by_cases z : i.natAbs = 0
    · rw [z]; decide
    · rw [Nat.log2_lt z]; exact Nat.lt_trans h (by decide)
  refine ⟨rfl, ?_, ?_, ?_⟩
  · have e := int_text_length_le10 (k := 12) (by decide) h
    simp only [PyData.intsShort, decide_eq_true_eq]
    exact PyData.shown_int_le h
  · simp only [PyData.showable, decide_eq_true_eq]; omega
  · simp only [PyData.weight]
    split <;> omega
theorem sm_all {w : Nat} : ∀ {xs : List PyData}, (∀ x ∈ xs, Sm x w) → PyData.canLayAll0 xs = true ∧ PyData.intsShortAll 13 xs = true ∧ PyData.showableAll xs = true ∧ PyData.weightAll xs ≤ xs.length * (w + 1)
  | [], _ => ⟨rfl, rfl, rfl, Nat.zero_le _⟩
  | x :: xs, h => by
    obtain ⟨h1, h2, h3, h4⟩ := sm_all fun y hy => h y (List.mem_cons_of_mem _ hy)
    have k := h x List.mem_cons_self
    refine ⟨?_, ?_, ?_, ?_⟩
    · rw [PyData.canLayAll0, k.lay, h1]; rfl
    · rw [PyData.intsShortAll, k.shrt, h2]; rfl
    · rw [PyData.showableAll, k.can, h3]; rfl
    · rw [PyData.weightAll, List.length_cons, Nat.add_mul]
      have := k.wt
      omega
theorem Sm.mono {d : PyData} {w w' : Nat} (h : Sm d w) (hw : w ≤ w') : Sm d w' := ⟨h.lay, h.shrt, h.can, Nat.le_trans h.wt hw⟩
theorem sm_tup {w n : Nat} {xs : List PyData} (h : ∀ x ∈ xs, Sm x w) (hn : xs.length ≤ n) : Sm (.tuple xs) (n * (w + 1)) := by
  obtain ⟨h1, h2, h3, h4⟩ := sm_all h
  refine ⟨by rw [PyData.canLay0]; exact h1, by rw [PyData.intsShort]; exact h2, by rw [PyData.showable]; exact h3, ?_⟩
  rw [PyData.weight]
  exact Nat.le_trans h4 (Nat.mul_le_mul_right _ hn)
theorem sm_lst {w n : Nat} {xs : List PyData} (h : ∀ x ∈ xs, Sm x w) (hn : xs.length ≤ n) : Sm (.list xs) (n * (w + 1)) := by
  obtain ⟨h1, h2, h3, h4⟩ := sm_all h
  refine ⟨by rw [PyData.canLay0]; exact h1, by rw [PyData.intsShort]; exact h2, by rw [PyData.showable]; exact h3, ?_⟩
  rw [PyData.weight]
  exact Nat.le_trans h4 (Nat.mul_le_mul_right _ hn)
theorem tupI_toD {S : Store} (ns : List Int) : toD S 64 (tupI ns) = some (.tuple (ns.map PyData.int)) := PVal.rd S 64 (Tup.mk ns) (by decide)
theorem sm_tupI {ns : List Int} (h : ∀ x ∈ ns, x.natAbs < 10 ^ 12) (hn : ns.length ≤ 20000) : ShowOk (.tuple (ns.map PyData.int)) := by
  refine (sm_tup (w := 40) (n := 20000) (fun x hx => ?_) (by rw [List.length_map]; exact hn)).ok (by decide) ?_
  · obtain ⟨n, hn, rfl⟩ := List.mem_map.mp hx
    exact sm_int (h n hn)
  · exact Nat.le_trans (Datum.depth_le (Tup.mk ns)) (by decide)
end DL

/-! DLx: what only adds to the store; comprehensions that do so. -/
namespace DL
open PySem PySem.Spec PyProof.Rows L2 PySem.W
open Classical
/-- the store grows at its end alone -/
def Ext (S S' : Store) : Prop := ∃ T, S' = S ++ T
theorem Ext.refl (S : Store) : Ext S S := ⟨[], (List.append_nil S).symm⟩
theorem Ext.snoc (S : Store) (c : Cell) : Ext S (S ++ [c]) := ⟨[c], rfl⟩
theorem Ext.trans {S S1 S2 : Store} (a : Ext S S1) (b : Ext S1 S2) : Ext S S2 := by
  obtain ⟨T, rfl⟩ := a
  obtain ⟨U, rfl⟩ := b
  exact ⟨T ++ U, List.append_assoc _ _ _⟩
theorem Ext.len {S S' : Store} (a : Ext S S') : S.length ≤ S'.length := by obtain ⟨T, rfl⟩ := a; simp
theorem Ext.get {S S' : Store} (a : Ext S S') {n : Nat} {c : Cell} (h : S[n]? = some c) : S'[n]? = some c := by
  obtain ⟨T, rfl⟩ := a
  rw [List.getElem?_append_left (List.getElem?_eq_some_iff.mp h).1]; exact h
theorem Ext.put {S S' : Store} (a : Ext S S') {n : Nat} (h : S.length ≤ n) (c : Cell) : Ext S (S'.set n c) := by
  obtain ⟨T, rfl⟩ := a
  rw [List.set_append_right _ _ h]
  exact ⟨_, rfl⟩
section
variable {S : Store} {Q : PV → Store → Prop} {E : Exn → Store → Prop} {ρ : PEnv} {n : Nat}
/-- a comprehension whose items' values are f of them -/
theorem lc_pure {chk : Store → Prop} {t : Tgt} {elt : PEnv → M PV} {xs : List PV} (f : PV → PV) (hl : xs.length ≤ sizeLine) (hk : ∀ S', Ext S S' → chk S')
    (h : ∀ x ∈ xs, ∀ S', Ext S S' → ∃ ρ1, bindT t x ρ = some ρ1 ∧ wpx (elt ρ1) S' (fun y S2 => y = f x ∧ Ext S' S2) (fun _ _ => False))
    (q : ∀ S', Ext S S' → S'[S.length]? = some (.lst (xs.map f)) → Q (.cell S.length) S') : wpx (lcGo chk t tTrue elt ρ S.length xs) (S ++ [.lst []]) Q E := by
  refine lc_inv (fun ys acc S' => ∃ zs, zs ++ ys = xs ∧ acc = zs.map f ∧ Ext S S' ∧ S'[S.length]? = some (.lst acc)) xs [] _ ⟨[], rfl, rfl, .snoc _ _, by simp⟩ ?_ ?_ ?_
  · rintro ys acc S' ⟨zs, _, _, e, h1⟩
    exact ⟨hk _ e, h1⟩
  · rintro acc S' ⟨zs, h1, rfl, e, h2⟩
    rw [List.append_nil] at h1
    subst h1
    exact q S' e h2
  · rintro x ys acc S' ⟨zs, h1, rfl, e, h2⟩
    obtain ⟨ρ1, hb, hx⟩ := h x (by rw [← h1]; simp) S' e
    refine ⟨ρ1, hb, ?_⟩
    show wpx (M.ret true) S' _ _
    rw [wpx_ret, if_pos rfl]
    refine wpx_imp hx fun y S2 ⟨hy, e2⟩ => ?_
    subst hy
    refine ⟨e2.get h2, ?_, zs ++ [x], by rw [← h1]; simp, by simp, (e.trans e2).put (Nat.le_refl _) _, ?_⟩
    · rw [List.length_map]
      have : zs.length + (ys.length + 1) ≤ sizeLine := by rw [← h1] at hl; simpa using hl
      omega
    · have h3 := (List.getElem?_eq_some_iff.mp (e2.get h2)).1
      rw [List.getElem?_set_self h3]
theorem boolsOf_bl : ∀ bs : List Bool, boolsOf (bs.map PV.bl) = some bs
  | [] => rfl
  | b :: bs => by rw [List.map_cons, boolsOf, boolsOf_bl bs]; rfl
theorem vv_all {bs : List Bool} (h : S[n]? = some (.lst (bs.map PV.bl))) : wpx (allF [.cell n]) S Q E ↔ Q (.bl (bs.all id)) S := by
  show wpx (getC n _) S Q E ↔ _
  rw [wpx_getC]
  constructor
  · rintro ⟨c, h1, h2⟩
    rw [h] at h1; cases h1
    rw [wpx_bind, wpx_optM] at h2
    obtain ⟨b, h3, h4⟩ := h2
    have h5 : boolsOf (bs.map PV.bl) = some b := h3
    rw [boolsOf_bl] at h5; cases h5
    exact h4
  · intro q
    refine ⟨_, h, ?_⟩
    rw [wpx_bind, wpx_optM]
    exact ⟨bs, boolsOf_bl bs, q⟩
theorem any_false : ∀ bs : List Bool, ((bs.map PyData.bool).any fun z => PyData.eqv z (.bool false)) = !(bs.all id)
  | [] => rfl
  | b :: bs => by
    rw [List.map_cons, List.any_cons, List.all_cons, any_false bs]
    cases b <;> simp [PyData.eqv]
theorem mapO_bl {S : Store} {m : Nat} : ∀ bs : List Bool, mapO (toD S (m + 1)) (bs.map PV.bl) = some (bs.map PyData.bool)
  | [] => rfl
  | b :: bs => by
    rw [List.map_cons, mapO, mapO_bl bs]
    rfl
theorem shaped_bools (bs : List Bool) : SeqAt.shaped (.list (bs.map PyData.bool)) = true := by
  have h1 : PyData.canLay0 (.list (bs.map PyData.bool)) = true := by rw [PyData.canLay0]; exact layAll_map bs
  have h2 : PyData.depth (.list (bs.map PyData.bool)) ≤ 1 := Datum.depth_le (α := List Bool) bs
  unfold SeqAt.shaped
  rw [h1, Bool.true_and, decide_eq_true_eq]
  omega
theorem vv_notin {bs : List Bool} (h : S[n]? = some (.lst (bs.map PV.bl))) : wpx (notInV (.bl false) (.cell n)) S Q E ↔ Q (.bl (bs.all id)) S := by
  have e1 : toD S 64 (.cell n) = some (.list (bs.map PyData.bool)) := by
    show (S[n]?.bind Cell.items?).bind _ = _
    rw [h]
    show (mapO (toD S 63) (bs.map PV.bl)).map PyData.list = _
    rw [mapO_bl]; rfl
  have e2 : inM (.bl false) (.cell n) S = .ok (!(bs.all id)) S := by
    unfold inM
    simp only [e1, show toD S 64 (.bl false) = some (.bool false) from rfl]
    have h1 : SeqAt.shaped (.bool false) = true := rfl
    simp only [h1, shaped_bools, and_self, if_true, any_false]
  unfold notInV
  rw [wpx_bind, wpx_eq e2, wpx_ret, Bool.not_not]
theorem vv_pop {xs : List PV} {d : PV} (h : S[n]? = some (.lst (xs ++ [d]))) : wpx (popV (.cell n) []) S Q E ↔ Q d (S.set n (.lst xs)) := by
  show wpx (getC n _) S Q E ↔ _
  rw [wpx_getC]
  constructor
  · rintro ⟨c, h1, h2⟩
    rw [h] at h1; cases h1
    have h3 := wpx_bind.mp h2
    rw [wpx_optM] at h3
    obtain ⟨y, h4, h5⟩ := h3
    rw [List.getLast?_concat] at h4; cases h4
    have h6 : Q d (S.set n (.lst (xs ++ [d]).dropLast)) := h5
    rw [List.dropLast_concat] at h6
    exact h6
  · intro q
    refine ⟨_, h, wpx_bind.mpr ?_⟩
    rw [wpx_optM]
    refine ⟨d, List.getLast?_concat, ?_⟩
    show Q d (S.set n (.lst (xs ++ [d]).dropLast))
    rw [List.dropLast_concat]; exact q
theorem vv_append_eq {xs : List PV} {d : PV} (h : S[n]? = some (.lst xs)) (hl : xs.length < sizeLine) : wpx (appendV (.cell n) [d]) S Q E ↔ Q .non (S.set n (.lst (xs ++ [d]))) := by
  rw [vv_append]
  constructor
  · rintro ⟨ys, h1, _, h2⟩
    rw [h] at h1; cases h1; exact h2
  · intro q; exact ⟨xs, h, hl, q⟩
/-- x[-1] -/
theorem atI_end {β : Type} {xs : List β} {d : β} : L2.atI (xs ++ [d]) (-1) = some d := by
  exact L2.atI_last _ _
theorem isi_int_int {i : Int} : wpx (isiF [(.int i), .con (.ty "int")]) S Q E ↔ Q (.bl true) S := vv_isi (t := "int") rfl (by decide +kernel)
theorem isi_int_bool {i : Int} : wpx (isiF [(.int i), .con (.ty "bool")]) S Q E ↔ Q (.bl false) S := vv_isi (t := "int") rfl (by decide +kernel)
theorem isi_int_tuple {i : Int} : wpx (isiF [(.int i), .con (.ty "tuple")]) S Q E ↔ Q (.bl false) S := vv_isi (t := "int") rfl (by decide +kernel)
theorem isi_int_str {i : Int} : wpx (isiF [(.int i), .con (.ty "str")]) S Q E ↔ Q (.bl false) S := vv_isi (t := "int") rfl (by decide +kernel)
theorem isi_int_list {i : Int} : wpx (isiF [(.int i), .con (.ty "list")]) S Q E ↔ Q (.bl false) S := vv_isi (t := "int") rfl (by decide +kernel)
theorem isi_bool_int {b : Bool} : wpx (isiF [(.bl b), .con (.ty "int")]) S Q E ↔ Q (.bl true) S := vv_isi (t := "bool") rfl (by decide +kernel)
theorem isi_bool_bool {b : Bool} : wpx (isiF [(.bl b), .con (.ty "bool")]) S Q E ↔ Q (.bl true) S := vv_isi (t := "bool") rfl (by decide +kernel)
theorem isi_bool_tuple {b : Bool} : wpx (isiF [(.bl b), .con (.ty "tuple")]) S Q E ↔ Q (.bl false) S := vv_isi (t := "bool") rfl (by decide +kernel)
theorem isi_bool_str {b : Bool} : wpx (isiF [(.bl b), .con (.ty "str")]) S Q E ↔ Q (.bl false) S := vv_isi (t := "bool") rfl (by decide +kernel)
theorem isi_bool_list {b : Bool} : wpx (isiF [(.bl b), .con (.ty "list")]) S Q E ↔ Q (.bl false) S := vv_isi (t := "bool") rfl (by decide +kernel)
theorem isi_str_int {y : Str} : wpx (isiF [(.str y), .con (.ty "int")]) S Q E ↔ Q (.bl false) S := vv_isi (t := "str") rfl (by decide +kernel)
theorem isi_str_bool {y : Str} : wpx (isiF [(.str y), .con (.ty "bool")]) S Q E ↔ Q (.bl false) S := vv_isi (t := "str") rfl (by decide +kernel)
theorem isi_str_tuple {y : Str} : wpx (isiF [(.str y), .con (.ty "tuple")]) S Q E ↔ Q (.bl false) S := vv_isi (t := "str") rfl (by decide +kernel)
theorem isi_str_str {y : Str} : wpx (isiF [(.str y), .con (.ty "str")]) S Q E ↔ Q (.bl true) S := vv_isi (t := "str") rfl (by decide +kernel)
theorem isi_str_list {y : Str} : wpx (isiF [(.str y), .con (.ty "list")]) S Q E ↔ Q (.bl false) S := vv_isi (t := "str") rfl (by decide +kernel)
theorem isi_none_int  : wpx (isiF [.non, .con (.ty "int")]) S Q E ↔ Q (.bl false) S := vv_isi (t := "NoneType") rfl (by decide +kernel)
theorem isi_none_bool  : wpx (isiF [.non, .con (.ty "bool")]) S Q E ↔ Q (.bl false) S := vv_isi (t := "NoneType") rfl (by decide +kernel)
theorem isi_none_tuple  : wpx (isiF [.non, .con (.ty "tuple")]) S Q E ↔ Q (.bl false) S := vv_isi (t := "NoneType") rfl (by decide +kernel)
theorem isi_none_str  : wpx (isiF [.non, .con (.ty "str")]) S Q E ↔ Q (.bl false) S := vv_isi (t := "NoneType") rfl (by decide +kernel)
theorem isi_none_list  : wpx (isiF [.non, .con (.ty "list")]) S Q E ↔ Q (.bl false) S := vv_isi (t := "NoneType") rfl (by decide +kernel)
theorem isi_tuple_int {xs : List PV} : wpx (isiF [(.tup xs), .con (.ty "int")]) S Q E ↔ Q (.bl false) S := vv_isi (t := "tuple") rfl (by decide +kernel)
theorem isi_tuple_bool {xs : List PV} : wpx (isiF [(.tup xs), .con (.ty "bool")]) S Q E ↔ Q (.bl false) S := vv_isi (t := "tuple") rfl (by decide +kernel)
theorem isi_tuple_tuple {xs : List PV} : wpx (isiF [(.tup xs), .con (.ty "tuple")]) S Q E ↔ Q (.bl true) S := vv_isi (t := "tuple") rfl (by decide +kernel)
theorem isi_tuple_str {xs : List PV} : wpx (isiF [(.tup xs), .con (.ty "str")]) S Q E ↔ Q (.bl false) S := vv_isi (t := "tuple") rfl (by decide +kernel)
theorem isi_tuple_list {xs : List PV} : wpx (isiF [(.tup xs), .con (.ty "list")]) S Q E ↔ Q (.bl false) S := vv_isi (t := "tuple") rfl (by decide +kernel)
/-- a value that may be asked what it is -/
def Okv (S : Store) : PV → Prop
  | .con _ => False
  | .cell n => ∃ xs, S[n]? = some (.lst xs)
  | _ => True
theorem Okv.ext {S S' : Store} {x : PV} (h : Okv S x) (e : Ext S S') : Okv S' x := by
  cases x with
  | cell n => obtain ⟨xs, h⟩ := h; exact ⟨xs, e.get h⟩
  | con v => exact h.elim
  | _ => trivial
theorem isi_cell {T : String} {b : Bool} (h : Okv S (.cell n)) (hb : kitB "list" T = some b) : wpx (isiF [.cell n, .con (.ty T)]) S Q E ↔ Q (.bl b) S := by
  obtain ⟨xs, h⟩ := h
  exact vv_isi_cell h rfl hb
end
end DL

/-! DLy: zip of two tuples. -/
namespace DL
open PySem PySem.Spec PyProof.Rows L2 PySem.W
open Classical
section
variable {X : Cx} {W : WJ} {a b : Expr} {pos tpos : Pos} {K : PySem.W.Frag}
def pairP (x y : PV) : PV := .tup [x, y]
theorem srcZip_ok {α : List Addr} {H : Hp} {a b : Addr} {vs ws : List V} {xs ys : List PV} (ha : ST K H a vs) (hb : ST K H b ws) (ra : Reps K α H xs vs) (rb : Reps K α H ys ws) : SrcOk K (RZ.ItzT K a b) α H ⟨List.zipWith pairP xs ys, fun _ => True⟩ := by
  intro i α' S' H' m hk
  have qa := (m.grow.sT ha).sq
  have qb := (m.grow.sT hb).sq
  have ra' := ra.mono m.grow m.le
  have rb' := rb.mono m.grow m.le
  refine ⟨fun x ex => ?_, fun hl => ⟨vs, ws, qa, qb, ?_⟩⟩
  · rw [List.getElem?_zipWith] at ex
    cases e1 : xs[i]? with
    | none => rw [e1] at ex; cases ex
    | some x1 =>
      cases e2 : ys[i]? with
      | none => rw [e1, e2] at ex; cases ex
      | some y1 =>
        rw [e1, e2] at ex
        cases ex
        obtain ⟨v1, f1, r1⟩ := ra'.get e1
        obtain ⟨v2, f2, r2⟩ := rb'.get e2
        refine ⟨⟨vs, ws, v1, v2, qa, qb, f1, f2⟩, fun w H'' y => ?_⟩
        obtain ⟨T, u1, u2, rfl, hT, rfl, g1, g2⟩ := y
        have z1 := g1 vs qa
        have z2 := g2 ws qb
        rw [f1] at z1; cases z1
        rw [f2] at z2; cases z2
        have mv := Mv.new m.ok hT (u := .tup [v1, v2])
        exact ⟨mv, .tup (.inl upd_same) (.cons (r1.mono mv.grow mv.le) (.cons (r2.mono mv.grow mv.le) .nil))⟩
  · have hl' : (List.zipWith pairP xs ys).length ≤ i := hl
    rw [List.length_zipWith] at hl'
    have h1 := ra.length
    have h2 := rb.length
    omega
def zipM : List PV → M Src
  | [.tup xs, .tup ys] => M.ret ⟨List.zipWith pairP xs ys, fun _ => True⟩
  | _ => M.bad
theorem di_zip {elts : List Expr} {kk : Nat} {p : Pos} {f : PEnv → M (List PV)} (hm : X.mg "zip" = none) (ha : DA X W [a, b] f) (hg : Gl X "zip" := by rfl) (hs : starEach [a, b] X.env = (false, eval a X.env) :: starEach [b] X.env := by rfl) (hpl : (backTo pos (starEach [b] X.env)).any (·.1) = false := by rfl) :
    DI X W (.Tuple elts kk tpos) (.Call (.Name "zip" p) [a, b] [] pos) (sArgs zipM f) := by
  refine PI_imp (RZ.pi_zipA hg hm ha hs hpl) fun σ H R ⟨α, S, ρ, o, sl, h⟩ => ?_
  refine ⟨α, S, ρ, o, sl, (OD.bind (o := f ρ S) h).imp (fun xs α1 S1 H1 m1 h1 vs rv => ?_) fun _ _ _ _ _ q => q⟩
  unfold zipM at h1
  split at h1
  · cases rv with
    | cons r1 r2 =>
      cases r2 with
      | cons r3 r4 =>
        cases r4
        cases r1 with
        | tup hs1 hr1 =>
          cases r3 with
          | tup hs2 hr2 => exact ⟨_, _, _, _, rfl, .inr ⟨hs1.sq, hs2.sq, h1 α1 H1 (.refl m1.ok) _ (srcZip_ok hs1 hs2 hr1 hr2)⟩⟩
  · exact h1.elim
theorem wsr_zip {S : Store} {E : Exn → Store → Prop} {xs ys : List PV} {Q : Src → Store → Prop} : wpx (zipM [.tup xs, .tup ys]) S Q E ↔ Q ⟨List.zipWith pairP xs ys, fun _ => True⟩ S := Iff.rfl
end
end DL

/-! DLm: a tuple taken some times, none and one too. -/
namespace DL
open PySem PySem.Spec PyProof.Rows L2 PySem.W
section
variable {b : Addr} {vv : Array Value} {nn : Nat} {dc : Option Addr} {ss : Array (Option Value)} {k : Int} {t : Tok}
theorem mul_none (k0 : (decide (k < -(2 ^ 63)) || decide (k ≥ 2 ^ 63)) = false) (k1 : (vv.isEmpty || k == 1) = false) (k2 : (decide (k ≤ 0) || vv.isEmpty) = true) :
    Meets (Builtin.«tuple.__mul__» ⟨[.ref b, .int k t], []⟩) (fun _ R s => s.heap.get? b = some { cls := .type "tuple", dict := dc, data := .seq vv nn, slots := ss } ∧ R (.ok (.ret (Value.ref s.heap.objs.size))) { s with heap := s.heap.push { cls := Value.type "tuple", data := Data.seq #[] }, toks := s.toks }) :=
  .of_wp fun P w A R s h => by
    obtain ⟨z1, z2, z3, z4, z5⟩ := s
    obtain ⟨hb, h⟩ := h
    have fx := AutoSeq1.idx_int
    wp_walk using wpAny_loadPart' hb
    repeat (first | (refine wpAny_ite_false (decide_eq_false (by rw [k0]; exact Bool.false_ne_true)) ?_; wp_walk using wpAny_loadPart' hb) | (refine wpAny_ite_false (decide_eq_false (by rw [k1]; exact Bool.false_ne_true)) ?_; wp_walk using wpAny_loadPart' hb) | (refine wpAny_ite_true (decide_eq_true k2) ?_; wp_walk using wpAny_loadPart' hb))
    exact ⟨_, rfl, h⟩
theorem mul_once (k0 : (decide (k < -(2 ^ 63)) || decide (k ≥ 2 ^ 63)) = false) (k1 : (vv.isEmpty || k == 1) = true) :
    Meets (Builtin.«tuple.__mul__» ⟨[.ref b, .int k t], []⟩) (fun _ R s => s.heap.get? b = some { cls := .type "tuple", dict := dc, data := .seq vv nn, slots := ss } ∧ R (.ok (.ret (Value.ref b))) s) :=
  .of_wp fun P w A R s h => by
    obtain ⟨z1, z2, z3, z4, z5⟩ := s
    obtain ⟨hb, h⟩ := h
    have fx := AutoSeq1.idx_int
    wp_walk using wpAny_loadPart' hb
    repeat (first | (refine wpAny_ite_false (decide_eq_false (by rw [k0]; exact Bool.false_ne_true)) ?_; wp_walk using wpAny_loadPart' hb) | (refine wpAny_ite_true (decide_eq_true k1) ?_; wp_walk using wpAny_loadPart' hb))
    exact ⟨_, rfl, h⟩
end
variable {X : Cx} {K : PySem.W.Frag}
def rRep01 (K : PySem.W.Frag) : R2 := fun x y H Q => ∃ l k xs, x = .ref l ∧ y = .int k ∧ SqT K H l xs ∧ xs ≠ [] ∧ -1000 ≤ k ∧ k ≤ 1 ∧ xs.length ≤ 1000 ∧ (k = 1 → Q (.ref l) H) ∧ (k ≠ 1 → ∀ p, H p = none → Q (.ref p) (upd H p (.tup [])))
theorem op_rep01 : OpR X (binaryOp .Mult) (rRep01 X.K) := by
  intro pins s σ H x y v u Q I rx ry h
  obtain ⟨l, k, xs, rfl, rfl, hT, hne, h0, h1, hz, q1, q2⟩ := h
  cases rx
  obtain ⟨t, rfl⟩ := ry
  obtain ⟨its, r, ⟨⟨cls, dd, data, sl⟩, ho, hc, n, hd⟩, hs⟩ := I.tuple hT
  simp only at hc hd
  subst hc hd
  have hle : its.length = xs.length := r.length.symm
  have hi : its.toArray.isEmpty = false := by
    cases its with
    | nil => exact absurd (List.eq_nil_of_length_eq_zero hle.symm) hne
    | cons a b => rfl
  have k0 : (decide (k < -(2 ^ 63)) || decide (k ≥ 2 ^ 63)) = false := by rw [decide_eq_false (by omega), decide_eq_false (by omega)] <;> rfl
  by_cases e : k = 1
  · have k1 : (its.toArray.isEmpty || k == 1) = true := by rw [e]; simp
    refine wpAny_binaryOp_repeat_ref (T := "tuple") (U := "int") (by decide) ⟨_, ho, rfl⟩ (fun s' => typeIs_int s' k t) noFill_tuple_mul F.fills_int_mul F.slot_int_rmul repeat_tuple F.slot_int_index.lookup
      (call_meets F.slot_int_rmul (typeIs_int s k t) F.entry_int_rmul (F.args_int_rmul_2 _ _) (int_rmul_tuple k t l its.toArray n dd sl) ⟨ho, rfl, ⟨_, ho, rfl⟩, call_meets F.slot_tuple_mul ⟨_, ho, rfl⟩ F.entry_tuple_mul (F.args_tuple_mul_2 _ _) (mul_once k0 k1) ⟨ho, ?_⟩⟩)
    exact ⟨.ref l, H, I, rfl, q1 e⟩
  · have k1 : (its.toArray.isEmpty || k == 1) = false := by rw [hi, Bool.false_or]; exact beq_eq_false_iff_ne.mpr e
    have k2 : (decide (k ≤ 0) || its.toArray.isEmpty) = true := by rw [decide_eq_true (by omega)]; rfl
    refine wpAny_binaryOp_repeat_ref (T := "tuple") (U := "int") (by decide) ⟨_, ho, rfl⟩ (fun s' => typeIs_int s' k t) noFill_tuple_mul F.fills_int_mul F.slot_int_rmul repeat_tuple F.slot_int_index.lookup
      (call_meets F.slot_int_rmul (typeIs_int s k t) F.entry_int_rmul (F.args_int_rmul_2 _ _) (int_rmul_tuple k t l its.toArray n dd sl) ⟨ho, rfl, ⟨_, ho, rfl⟩, call_meets F.slot_tuple_mul ⟨_, ho, rfl⟩ F.entry_tuple_mul (F.args_tuple_mul_2 _ _) (mul_none k0 k1 k2) ⟨ho, ?_⟩⟩)
    refine ⟨.ref s.heap.objs.size, _, I.laid (t' := s.toks) (o := .tup []) (fun b ob q => Heap.get?_push_of_some _ q) (Nat.le_refl _) ?_, rfl, q2 e _ (I.hok.fresh (Nat.le_refl _))⟩
    exact ⟨Nat.zero_le _, _, .nil, IsTup.new _ _⟩
/-- a tuple taken i times -/
noncomputable def mulA : PV → PV → M PV := fun x y => match x, y with
  | .tup xs, .int k => if xs ≠ [] ∧ -1000 ≤ k ∧ k ≤ 1000 ∧ xs.length ≤ 1000 then M.ret (.tup (List.replicate k.toNat xs).flatten) else M.bad
  | x, y => mulI x y
def rMulA (K : PySem.W.Frag) : R2 := fun x y H Q => (rI CMul fun i j => .int (i * j)) x y H Q ∨ rRepT K x y H Q ∨ rRep01 K x y H Q
theorem op_mulA : OpR X (binaryOp .Mult) (rMulA X.K) := OpR.or op_mul (OpR.or op_repT op_rep01)
theorem Reps.rep {α : List Addr} {H : Hp} {xs : List PV} {vs : List V} (r : Reps K α H xs vs) : ∀ n : Nat, Reps K α H (List.replicate n xs).flatten (List.replicate n vs).flatten
  | 0 => .nil
  | n + 1 => by
    rw [List.replicate_succ, List.replicate_succ, List.flatten_cons, List.flatten_cons]
    exact r.append (Reps.rep r n)
theorem den_mulA : Den2 K (rMulA K) mulA := fun α S H x y vx vy Q E o rx ry h => by
  unfold mulA at h
  split at h
  · rename_i xs k
    cases rx with
    | tup hs hr =>
      cases ry
      rename_i a vs
      obtain ⟨⟨z1, z2, z3, z4⟩, h⟩ := if_outM h
      have hl := hr.length
      have hne : vs ≠ [] := fun e => z1 (List.eq_nil_of_length_eq_zero (by rw [hl, e]; rfl))
      refine .inr ?_
      by_cases hk : 2 ≤ k
      · exact .inl ⟨a, k, vs, rfl, rfl, hs.sq, hne, hk, z3, by omega, fun p hp => h α _ (.new o hp) _ (.tup (.inl upd_same) ((Reps.rep hr k.toNat).mono (.new hp) (.refl α)))⟩
      · refine .inr ⟨a, k, vs, rfl, rfl, hs.sq, hne, z2, by omega, by omega, fun e => ?_, fun e p hp => ?_⟩
        · have e1 : (List.replicate k.toNat xs).flatten = xs := by rw [e]; simp
          rw [e1] at h
          exact h α H (.refl o) _ (.tup hs hr)
        · have e1 : (List.replicate k.toNat xs).flatten = [] := by rw [show k.toNat = 0 by omega]; rfl
          rw [e1] at h
          exact h α _ (.new o hp) _ (.tup (.inl upd_same) .nil)
  · exact .inl (den_mulI α S H x y vx vy Q E o rx ry h)
theorem vv_mulA_int {S : Store} {Q : PV → Store → Prop} {E : Exn → Store → Prop} {i j : Int} : wpx (mulA (.int i) (.int j)) S Q E ↔ CMul i j ∧ Q (.int (i * j)) S := vv_mul
theorem vv_mulA_tup {S : Store} {Q : PV → Store → Prop} {E : Exn → Store → Prop} {xs : List PV} {k : Int} : wpx (mulA (.tup xs) (.int k)) S Q E ↔ (xs ≠ [] ∧ -1000 ≤ k ∧ k ≤ 1000 ∧ xs.length ≤ 1000) ∧ Q (.tup (List.replicate k.toNat xs).flatten) S := by
  show wpx (if _ then _ else _) S Q E ↔ _
  rw [wpx_ite]; simp [wpx_ret, wpx_bad]
end DL

/-! DLi: objects of own classes: a field read, a field written, an object made. -/
namespace DL
open PySem PySem.Spec PyProof.Rows L2 PySem.W
open Classical
section
variable {X : Cx} {W : WJ} {e o a : Expr} {pos pos' : Pos} {K : PySem.W.Frag} {C : Addr} {cn : Str} {f : Str} {fe fo : PEnv → M PV}
/-- a field of an object of the class C -/
noncomputable def fldV (C : Str) (f : Str) : PV → M PV
  | .cell n => getC n fun c => match c with
    | .ins D fs => if D = C then optM (fs.lookup f) else M.bad
    | _ => M.bad
  | _ => M.bad
theorem de_fld (hcn : clsOf X.K cn = some C) (c : Cls X.K C) (na : NoAttr X.K C f) (he : DE X W e fe) (hb : attributeBase e f X.env (eval e X.env) = eval e X.env := by rfl) : DE X W (.Attribute e f pos) (eUn (fldV cn f) fe) := by
  refine PE_imp (pe_fld he hb) fun σ H Q ⟨α, S, ρ, so, sl, h⟩ => ?_
  refine ⟨α, S, ρ, so, sl, (OD.bind (o := fe ρ S) h).imp (fun x α1 S1 H1 m1 h1 v rv => ?_) fun _ _ _ _ _ q => q⟩
  cases x with
  | cell n =>
    cases rv with
    | cell ea =>
      obtain ⟨d, q, h2⟩ := getC_od (show OD X.K α1 H1 (getC n _ S1) _ _ from h1)
      cases d with
      | ins D fs =>
        obtain ⟨hD, h3⟩ := if_outM h2
        subst hD
        obtain ⟨w, e2, h4⟩ := optM_od m1.ok h3
        obtain ⟨A, dx, gs, ec, e3, rf⟩ := m1.ok.ok _ _ _ ea q
        obtain rfl : C = A := Option.some.inj (hcn.symm.trans ec)
        obtain ⟨u, e4, ru⟩ := rf.look e2
        exact ⟨_, C, dx, gs, u, rfl, e3, c, na, e4, h4 u ru⟩
      | _ => exact h2.elim
  | _ => exact h1.elim
/-- f, with y put under its name -/
def putP (f : Str) (y : PV) : List (Str × PV) → List (Str × PV)
  | [] => [(f, y)]
  | (g, x) :: r => if g = f then (g, y) :: r else (g, x) :: putP f y r
theorem RepF.put {α : List Addr} {H : Hp} {y : PV} {v : V} (ry : Rep K α H y v) : ∀ {fs : List (Str × PV)} {gs : List (Str × V)}, RepF K α H fs gs → RepF K α H (putP f y fs) (putF f v gs)
  | [], _, h => by
    cases h
    exact ⟨v, [], rfl, ry, rfl⟩
  | (g, x) :: r, _, ⟨w, t, ew, hx, hr⟩ => by
    subst ew
    unfold putP putF
    by_cases z : g = f
    · rw [if_pos z, if_pos z]; exact ⟨v, t, rfl, ry, hr⟩
    · rw [if_neg z, if_neg z]; exact ⟨w, _, rfl, hx, RepF.put ry hr⟩
theorem Grow.putIns {H : Hp} {a dx : Addr} {gs gs' : List (Str × V)} (h : H a = some (.ins C dx gs)) : Grow H (upd H a (.ins C dx gs')) :=
  ⟨fun b xs e => by rw [upd_ne (fun z => by rw [z, h] at e; cases e)]; exact e, fun b o u e => by rw [upd_ne (fun z => by rw [z, h] at e; cases e)]; exact e, fun b fs e => by rw [upd_ne (fun z => by rw [z, h] at e; cases e)]; exact e⟩
noncomputable def setF (C : Str) (f : Str) (x y : PV) : M Unit := match x with
  | .cell n => getC n fun c => match c with
    | .ins D fs => if D = C ∧ fs.length < 1000 then fun S => .ok () (S.set n (.ins C (putP f y fs))) else M.bad
    | _ => M.bad
  | _ => M.bad
noncomputable def sFldD (C : Str) (f : Str) (fo fe : PEnv → M PV) : SD := fun ρ S => lift (fe ρ S) ρ fun y S1 => lift (fo ρ S1) ρ fun x S2 => lift (setF C f x y S2) ρ fun _ => M.ret (.nx, ρ)
theorem ds_fld (hcn : clsOf X.K cn = some C) (c : Cls X.K C) (na : NoAttr X.K C f) (ho : DE X W o fo) (hv : DE X W a fe) (hs : swapsWith a (some (.Attribute o f pos')) pos.line X.env = pure false := by rfl) : DS X W (.Assign [.Attribute o f pos'] a pos) (sFldD cn f fo fe) := by
  refine PS_imp (ps_fld ho hv hs) fun D σ H ⟨α, S, ρ, so, sl, h⟩ => ?_
  refine ⟨α, S, ρ, so, sl, (lift_od sl h).imp (fun y α1 S1 H1 m1 h1 v rv => ?_) fun _ _ _ _ _ q => q⟩
  refine ⟨α1, S1, ρ, m1.ok, sl.mv m1, (lift_od (sl.mv m1) h1).imp (fun x α2 S2 H2 m2 h2 u ru => ?_) fun _ _ _ _ _ q => q⟩
  have rv2 := rv.mono m2.grow m2.le
  have h3 := lift_od ((sl.mv m1).mv m2) h2
  cases x with
  | cell n =>
    cases ru with
    | cell ea =>
      obtain ⟨d, q, h4⟩ := getC_od (show OD X.K α2 H2 (getC n _ S2) _ _ from h3)
      cases d with
      | ins E fs =>
        obtain ⟨⟨hE, hl⟩, h6⟩ := if_outM h4
        subst hE
        obtain ⟨A, dx, gs, ec, e3, rf⟩ := m2.ok.ok _ _ _ ea q
        obtain rfl : C = A := Option.some.inj (hcn.symm.trans ec)
        have mv : Mv X.K α2 H2 α2 (S2.set n (.ins E (putP f y fs))) (upd H2 _ (.ins C dx (putF f v gs))) := Mv.put m2.ok ea q rfl (.putIns e3) rfl ⟨C, dx, _, hcn, upd_same, (RepF.put rv2 rf).mono (.putIns e3) (.refl α2)⟩
        refine ⟨_, C, dx, gs, rfl, e3, c, na, by rw [← rf.length]; exact hl, ?_⟩
        have h5 := h6 α2 _ mv
        exact h5 α2 _ (.refl mv.ok) σ (((sl.mv m1).mv m2).mv mv)
      | _ => exact h4.elim
  | _ => exact h3.elim
/-! ### an object made -/
variable {k np : Nat} {fI : Addr} {fd : FuncData} {ps : List Str} {F : FD} {pins : List (Addr × Obj)} {σ : L2.St} {H : Hp} {s : Shared} {Q : VK}
noncomputable def mkI (np : Nat) (C : Str) (F : FD) : FD := fun ds S => if ds.length = np then (F (.cell S.length :: ds) (S ++ [.ins C []])).bind fun v => match v with
  | .non => M.ret (.cell S.length)
  | _ => M.bad else .bad
theorem run_mkG {us : List Value} {vs : List V} {sp : Sp} (M : Mk X.K C fI) (G : FnG X.prog X.w X.K X.mg X.base k fI fd ps sp) (hr : Room (k + 1) X.A) (gd : X.A.guards = some []) (tk : Takes X W.w) (hb : Binds X.K fd ps []) (I : Inv X pins σ H s) (r : Vals vs us)
    (h : ∀ x dx, H x = none → H dx = none → dx ≠ x → sp (.ref x :: vs) (upd (upd H dx (.own x)) x (.ins C dx [])) (fun v H2 => v = .non ∧ Q (.ref x) H2) (WE W.w σ)) : wpAny (model X.prog X.w) X.A (call (.ref C) us) (EP X pins σ Q) X.xe s := by
  let ax := s.heap.objs.size + 1
  have hq := h ax s.heap.objs.size (I.hok.fresh (Nat.le_succ _)) (I.hok.fresh (Nat.le_refl _)) (Nat.ne_of_lt (Nat.lt_succ_self _))
  have J := Inv.made (C := C) I
  have rr : Vals (V.ref ax :: vs) (Value.ref ax :: us) := .cons rfl r
  have hl : (Value.ref ax :: us).length = ps.length := by rw [← rr.length]; exact G.len _ _ _ _ hq
  have hl' : (Value.ref ax :: us ++ []).length = ps.length := by rw [List.append_nil]; exact hl
  have bd := hb _ (Value.ref ax :: us) J.kIn hl'
  rw [List.append_nil] at bd
  refine wpAny_call (make_map (f := fI) I.kIn M.makes M.init (beq_iff_eq.mp M.fn) (codeAny_mono (G.run _ X.stack _ _ ⟨Value.ref ax :: us, []⟩ (Value.ref ax :: us) _ _ (WE W.w σ) (hr.make C us []) ?_ (J.env0.make C us []) bd rr hq) fun z s' hz => ?_))
  · first
      | exact gd
      | (show pushGuards _ X.A.guards = some []; rw [gd]; rfl)
      | (unfold Around.under; simp [gd])
  · cases z with
    | error e => exact passAt tk σ pins _ _ e s' J hz
    | ok fl =>
      cases fl with
      | ret u =>
        obtain ⟨v, H', I3, rv, ev, q3⟩ := J.after hz
        subst ev
        exact ⟨rv, ⟨V.ref ax, H', I3, rfl, q3⟩⟩
      | next => exact hz.elim
      | brk => exact hz.elim
      | cont => exact hz.elim
/-- C(e, ..) of a class of the module whose __init__ is a def of it -/
theorem de_make {x : Str} {p : Pos} {es : List Expr} {fa : PEnv → M (List PV)} (M : Mk X.K C fI) (G : FnG X.prog X.w X.K X.mg X.base k fI fd ps (spD X.K (np + 1) F)) (hr : Room (k + 1) X.A) (gd : X.A.guards = some []) (tk : Takes X W.w) (hcn : clsOf X.K cn = some C) (hm : X.mg x = some (.ref C)) (hb : Binds X.K fd ps [])
    (ha : DA X W (e :: es) fa) (hg : Gl X x := by rfl) (hdb : (x == ("__debug__" : Str)) = false := by decide) (he : starEach (e :: es) X.env = (false, eval e X.env) :: starEach es X.env := by rfl) (hpl : (backTo pos (starEach es X.env)).any (·.1) = false := by rfl) :
    DE X W (.Call (.Name x p) (e :: es) [] pos) (eArgs (mkI np cn F) fa) := by
  refine ⟨fun pins s σ H Q I ⟨α, S, ρ, o, sl, h⟩ => ?_⟩
  refine wpAny_Call_Name_kw (ld_glob I hg hm ?_ hdb)
  refine PySem.W.callWith_K (h₀ := X.base) I.ok.mod.kin M.kp (thn (ha.run pos pins s σ H (fun vs H1 => ∀ x dx, H1 x = none → H1 dx = none → dx ≠ x → spD X.K (np + 1) F (.ref x :: vs) (upd (upd H1 dx (.own x)) x (.ins C dx [])) (fun v H2 => v = .non ∧ Q (.ref x) H2) (WE W.w σ)) I ⟨α, S, ρ, o, sl, ?_⟩) fun us s1 ⟨vs, H1, I1, r, q⟩ => ⟨I1.kIn, run_mkG M G hr gd tk hb I1 r q⟩) he hpl
  refine (OD.bind (o := fa ρ S) h).imp (fun ds α1 S1 H1 m1 h1 vs rv x dx hx hd ne => ?_) fun _ _ _ _ _ q => q
  unfold mkI at h1
  obtain ⟨hl, h2⟩ := if_out h1
  have mA : Mv X.K α1 H1 α1 S1 (upd H1 dx (.own x)) := Mv.new m1.ok hd
  have hx2 : upd H1 dx (.own x) x = none := by rw [upd_ne (fun z => ne z.symm)]; exact hx
  have mB : Mv X.K α1 (upd H1 dx (.own x)) (α1 ++ [x]) (S1 ++ [.ins cn []]) (upd (upd H1 dx (.own x)) x (.ins C dx [])) := Mv.cell mA.ok hx2 ⟨C, dx, [], hcn, upd_same, rfl⟩
  have m2 := mA.trans mB
  refine ⟨α1 ++ [x], S1 ++ [.ins cn []], .cell S1.length :: ds, by rw [List.length_cons, hl], m2.ok, .cons (.cell ?_) (rv.mono m2.grow m2.le), ?_⟩
  · rw [← m1.ok.len]; simp
  · have h3 := OD.bind (o := F (.cell S1.length :: ds) (S1 ++ [.ins cn []])) (OD.trans h2 m2)
    refine h3.imp (fun v α3 S3 H3 m3 h4 u ru => ?_) fun _ _ _ _ _ q => q
    cases v with
    | non =>
      cases ru
      exact ⟨rfl, h4 α3 H3 (.refl m3.ok) _ (.cell (m3.le _ _ (by rw [← m1.ok.len]; simp)))⟩
    | _ => exact h4.elim
/-! ### a method called -/
noncomputable def insC (C : Str) (m : Str) : PV → M Unit
  | .cell n => getC n fun c => match c with
    | .ins D fs => if D = C ∧ fs.lookup m = none then M.ret () else M.bad
    | _ => M.bad
  | _ => M.bad
theorem insC_od {α : List Addr} {H : Hp} {S : Store} {m : Str} {x : PV} {v : V} {R : Unit → List Addr → Store → Hp → Prop} {E : Exn → List Addr → Store → Hp → Prop} (hcn : clsOf K cn = some C) (so : StoreOk K α S H) (r : Rep K α H x v) (h : OD K α H (insC cn m x S) R E) :
    ∃ b dx gs, v = .ref b ∧ H b = some (.ins C dx gs) ∧ gs.lookup m = none ∧ R () α S H := by
  cases x with
  | cell n =>
    cases r with
    | cell ea =>
      obtain ⟨d, q, h2⟩ := getC_od (show OD K α H (getC n _ S) _ _ from h)
      cases d with
      | ins D fs =>
        obtain ⟨⟨hD, hm⟩, h3⟩ := if_outM h2
        subst hD
        obtain ⟨A, dx, gs, ec, e3, rf⟩ := so.ok _ _ _ ea q
        obtain rfl : C = A := Option.some.inj (hcn.symm.trans ec)
        exact ⟨_, dx, gs, rfl, e3, rf.nolook hm, h3 α H (.refl so)⟩
      | _ => exact h2.elim
  | _ => exact h.elim
noncomputable def eMethC (C : Str) (m : Str) (np : Nat) (F : FD) (fo : PEnv → M PV) (fa : PEnv → M (List PV)) : PEnv → M PV := fun ρ => (fo ρ).bind fun x => (insC C m x).bind fun _ => (fa ρ).bind fun xs => chkL np F (x :: xs)
theorem de_meth {pl : Sem Bool} {m : Str} {apos : Pos} {es : List Expr} {fa : PEnv → M (List PV)} {fM : Addr} (hcn : clsOf X.K cn = some C) (c : Cls X.K C) (hm : Meth X.K C m fM) (G : FnG X.prog X.w X.K X.mg X.base k fM fd ps (spD X.K np F)) (hr : Room k X.A) (gd : X.A.guards = some []) (tk : Takes X W.w) (hb : Binds X.K fd ps [])
    (ho : DE X W o fo) (ha : DA X W (e :: es) fa) (hst : starEach (e :: es) X.env = (false, eval e X.env) :: starEach es X.env := by rfl) (hpl : (backTo pos (starEach es X.env)).any (·.1) = false := by rfl)
    (ht : eval (.Call (.Attribute o m apos) (e :: es) [] pos) X.env = (do let ov ← eval o X.env; standAt apos.atName; let (f, first) ← holding [ov] (getMethod ov m pl); callWith pos f first (backTo pos (starEach (e :: es) X.env)) (backToKw pos (keywordEach [] X.env))) := by rfl) :
    DE X W (.Call (.Attribute o m apos) (e :: es) [] pos) (eMethC cn m np F fo fa) := by
  refine ⟨fun pins s σ H Q I ⟨α, S, ρ, so, sl, h⟩ => ?_⟩
  refine PySem.W.methodCall_KW (pl := pl) (thn (ho.run pins s σ H (fun x H1 => ∃ b dx gs, x = .ref b ∧ H1 b = some (.ins C dx gs) ∧ gs.lookup m = none ∧ tDA X.K W fa σ H1 fun vs H2 => spD X.K np F (x :: vs) H2 Q (WE W.w σ)) I ⟨α, S, ρ, so, sl, ?_⟩) fun u s1 ⟨x, H1, I1, rx, b, dx, gs, ex, ea, l, q⟩ => ?_) ht
  · refine (OD.bind (o := fo ρ S) h).imp (fun x α1 S1 H1 m1 h1 v rv => ?_) fun _ _ _ _ _ q => q
    obtain ⟨b, dx, gs, rfl, e3, l, h2⟩ := insC_od hcn m1.ok rv (OD.bind (o := insC cn m x S1) h1)
    refine ⟨b, dx, gs, rfl, e3, l, α1, S1, ρ, m1.ok, sl.mv m1, (OD.bind (o := fa ρ S1) h2).imp (fun xs α2 S2 H2 m2 h3 vs rvs => ?_) fun _ _ _ _ _ q => q⟩
    exact sp_of m2.ok (.cons (rv.mono m2.grow m2.le) rvs) h3
  · subst ex
    obtain rfl : u = Value.ref b := rx
    refine getmeth_ok I1 ea c hm l ?_
    refine PySem.W.callWith_K (first := [.ref b]) (h₀ := X.base) I.ok.mod.kin hm.kp (thn (ha.run pos pins s1 σ H1 _ I1 q) fun us s2 ⟨vs, H2, I2, r, q2⟩ => ⟨I2.kIn, ?_⟩) hst hpl
    have rr : Vals (V.ref b :: vs) (Value.ref b :: us) := .cons rfl r
    have hl : (Value.ref b :: us ++ []).length = ps.length := by rw [List.append_nil, ← rr.length]; exact G.len _ _ _ _ q2
    have bd := hb s2 (Value.ref b :: us) I2.kIn hl
    rw [List.append_nil] at bd
    exact run_G G hr gd tk bd I2 rr q2
end
end DL

/-! DLj: what DLi's readings come to. -/
namespace DL
open PySem PySem.Spec PyProof.Rows L2 PySem.W
open Classical
section
variable {S : Store} {Q : PV → Store → Prop} {QU : Unit → Store → Prop} {QS : Fl × PEnv → Store → Prop} {E : Exn → Store → Prop} {C f m : Str} {n np : Nat} {y : PV} {F : FD} {ds : List PV} {ρ : PEnv} {fo fe : PEnv → M PV} {fa : PEnv → M (List PV)} {fs : List (Str × PV)}
theorem vv_fld (h : S[n]? = some (.ins C fs)) : wpx (fldV C f (.cell n)) S Q E ↔ ∃ d, fs.lookup f = some d ∧ Q d S := by
  show wpx (getC n _) S Q E ↔ _
  rw [wpx_getC]
  constructor
  · rintro ⟨c, h1, h2⟩
    rw [h] at h1; cases h1
    have h3 := wpx_ite.mp h2
    rw [if_pos rfl, wpx_optM] at h3
    exact h3
  · intro q
    refine ⟨_, h, wpx_ite.mpr ?_⟩
    rw [if_pos rfl, wpx_optM]
    exact q
theorem vv_setF (h : S[n]? = some (.ins C fs)) (hl : fs.length < 1000) : wpx (setF C f (.cell n) y) S QU E ↔ QU () (S.set n (.ins C (putP f y fs))) := by
  show wpx (getC n _) S QU E ↔ _
  rw [wpx_getC]
  constructor
  · rintro ⟨c, h1, h2⟩
    rw [h] at h1; cases h1
    have h3 := wpx_ite.mp h2
    rw [if_pos ⟨rfl, hl⟩] at h3
    exact h3
  · intro q
    refine ⟨_, h, wpx_ite.mpr ?_⟩
    rw [if_pos ⟨rfl, hl⟩]
    exact q
theorem ws_fld : wps (sFldD C f fo fe ρ) S QS ↔ wpx (fe ρ) S (fun y S1 => wpx (fo ρ) S1 (fun x S2 => wpx (setF C f x y) S2 (fun _ S3 => QS (.nx, ρ) S3) (fun c S' => QS (.ex c, ρ) S')) (fun c S' => QS (.ex c, ρ) S')) (fun c S' => QS (.ex c, ρ) S') := by
  unfold sFldD
  rw [wps_lift]
  simp only [wps_lift, wps_ret]
theorem wv_mkI (hl : ds.length = np) : wpx (mkI np C F ds) S Q E ↔ wpx (F (.cell S.length :: ds)) (S ++ [.ins C []]) (fun v S' => v = .non ∧ Q (.cell S.length) S') E := by
  have e : wpx (mkI np C F ds) S Q E ↔ wpx (M.bind (F (.cell S.length :: ds)) fun v => match v with | .non => M.ret (.cell S.length) | _ => M.bad) (S ++ [.ins C []]) Q E := by
    unfold wpx mkI
    rw [if_pos hl]
    exact Iff.rfl
  rw [e, wpx_bind]
  constructor
  · intro h
    refine wpx_imp h fun v S' q => ?_
    cases v with
    | non => exact ⟨rfl, q⟩
    | _ => exact q.elim
  · intro h
    refine wpx_imp h fun v S' q => ?_
    obtain ⟨rfl, q⟩ := q
    exact q
theorem vv_insC (h : S[n]? = some (.ins C fs)) (hm : fs.lookup m = none) : wpx (insC C m (.cell n)) S QU E ↔ QU () S := by
  show wpx (getC n _) S QU E ↔ _
  rw [wpx_getC]
  constructor
  · rintro ⟨c, h1, h2⟩
    rw [h] at h1; cases h1
    have h3 := wpx_ite.mp h2
    rw [if_pos ⟨rfl, hm⟩] at h3
    exact h3
  · intro q
    refine ⟨_, h, wpx_ite.mpr ?_⟩
    rw [if_pos ⟨rfl, hm⟩]
    exact q
theorem wv_methC : wpx (eMethC C m np F fo fa ρ) S Q E ↔ wpx (fo ρ) S (fun x S1 => wpx (insC C m x) S1 (fun _ S2 => wpx (fa ρ) S2 (fun xs S3 => wpx (chkL np F (x :: xs)) S3 Q E) E) E) E := by
  unfold eMethC; rw [wpx_bind]; simp only [wpx_bind]
end
end DL

/-! DLk: exceptions: made by a class whose __init__ says super().__init__(..), raised, caught. -/
namespace DL
open PySem PySem.Spec PyProof.Rows L2 PySem.W NdefX
open Classical
/-- what the written part says of an exception class's __init__ -/
structure InitK (K : PySem.W.Frag) (P : Program) (C fI cc cd : Addr) (F : NF) (fd : FuncData) : Prop where
  look : ∃ oc od dV kV doc pm an ctv sl, K.lookup fI = some ⟨oc, od, .func fd, sl⟩ ∧ fd = PySem.W.fnX F.name F.qual F.params F.body F.scope F.cl dV kV doc pm an (.ref F.c) ctv
  code : PySem.W.codeIn K (.ref cd) F.qual = true
  cdo : F.c = cd
  cl : F.cl = [(("__class__" : Str), cc)]
  cell : ∃ a b c, K.lookup cc = some ⟨a, b, .cell (some (.ref C)), c⟩
  file : ∃ a b vs c f tf, K.lookup cd = some ⟨a, b, .fields vs, c⟩ ∧ vs[2]? = some (.str f tf) ∧ ((P.main.file : Str) == f) = true
  cls : ∃ cdd, PySem.W.clsIn K C = some cdd
  sup : PySem.W.nsIn K mainGlobals "super" = some none
  any : PySem.W.nsIn K cStatics "thirdparty.any" = some none
  meth : PySem.W.ks_superIn K C C "__init__" = some (some (.builtin "ValueError.__init__"))
  subV : PySem.W.subIn K (.ref C) (.type "ValueError") = some true
  subC : PySem.W.mroIn K C (.ref C) = some true
  top : (P.main.scope.names.lookup ("super" : Str)).isSome = false
section
variable {X : Cx} {pins : List (Addr × Obj)} {σ : L2.St} {H : Hp} {s : Shared} {C fI cc cd a : Addr} {F : NF} {fd : FuncData} {e : Expr} {ta : TA} {p0 p1 p2 pos pos' : Pos} {body : List Stmt}
theorem call_mwV {u : Addr} {us : List Value} {Q : Value → Shared → Prop} {E : Value → Shared → Prop} (T : OexC X.K C) (I : Inv X pins σ H s) (e : H a = some (exo a C none)) (hu : s.heap.get? u = some (kxs_mw "ValueError.__init__" a)) (hl : us.length ≤ sizeLine)
    (h : ∀ s', Inv X pins σ H s' → Q .none s') : wpAny (model X.prog X.w) X.A (call (.ref u) us) Q E s := by
  obtain ⟨nm, q, N, bs, bm, sn, sub, ab, col, dd, k0, k1, k2, k3, k5, hC, hbm⟩ := T.cls
  obtain ⟨t1, ho⟩ := exo_at I.hok e
  obtain ⟨hp, g, d, t, os⟩ := s
  refine wpAny_call (codeAny_of_tree ?_)
  show wpAny _ X.A.in1 (callAny (.ref u) ⟨us, []⟩) _ _ _
  simp only [callAny]
  refine wpAny_bind (wpAny_load hu ?_)
  simp only [kxs_mw, show (Value.type "method-wrapper" == Value.type "method" || Value.type "method-wrapper" == Value.type "builtin_function_or_method" || Value.type "method-wrapper" == Value.type "method-wrapper") = true by decide, if_true]
  refine W.KFB.if_so (by decide) ?_
  refine wpAny_bind (check_bound_init F.excBase_ValueError.toExcCallFacts (I.kIn _ _ hC) ho rfl ?_)
  refine wpAny_bind (wpAny_pure (wpAny_pure ?_))
  refine ⟨plainId_quiet F.excBase_ValueError.init.plain _, codeAny_builtin F.excBase_ValueError.initEntry ?_⟩
  refine exc_init_tree (cls := .ref C) (t0 := t1) (dv := none) (c2 := .none) (c3 := .none) (b4 := .bool false) ho hl fun h' k hx ht => ?_
  have J := I.write (t' := t) (x := a) (e := a) (o := exo a C none) (by rw [e]; exact True.intro) (.inl rfl) k ⟨_, hx⟩ (exo_ok hx)
  have eu : upd H a (exo a C none) = H := by
    funext b
    by_cases hb : b = a
    · rw [hb, upd_same, e]
    · rw [upd_ne hb]
  rw [eu] at J
  exact h _ J
/-- super().__init__(e) in an own exception's __init__ -/
theorem super_ve {pl : Sem Bool} {D : Hp → Prop} (T : OexC X.K C) (Y : InitK X.K X.prog C fI cc cd F fd) (I : Inv X pins σ H s) (ea : H a = some (exo a C none)) (h0 : σ[0]? = some (some (.ref a))) (hN : X.N[0]? = some ("self" : Str))
    (hms : X.mg "super" = none) (hboot : bootBuiltins "super" = some (.type "super")) (hfu : X.env.func = some fI) (hco : X.env.code = .ref cd) (hce : X.env.cells = F.cl) (hks : X.env.scope.names.lookup ("super" : Str) = some .globalImplicit) (hkc : X.env.scope.names.lookup ("__class__" : Str) = some .free) (hka : X.env.scope.names.lookup ("self" : Str) = some .local)
    (hp : ∃ ar : Arg, (F.params.posonlyargs ++ F.params.args).head? = some ar ∧ ar.arg = ("self" : Str)) (he : PA X [e] ta)
    (q : ta σ H fun vs H1 => H1 a = some (exo a C none) ∧ vs.length ≤ 1000 ∧ D H1) (hs : starEach [e] X.env = (false, eval e X.env) :: starEach [] X.env := by rfl)
    (hat : eval (.Call (.Attribute (.Call (.Name "super" p0) [] [] p1) "__init__" p2) [e] [] pos) X.env = (do
      let ov ← attributeBase (.Call (.Name "super" p0) [] [] p1) "__init__" X.env (eval (.Call (.Name "super" p0) [] [] p1) X.env)
      standAt p2.atName
      let (f, first) ← holding [ov] (getMethod ov "__init__" pl)
      callWith pos f first (backTo pos (starEach [e] X.env)) []) := by rfl)
    (hi : interactive X.env = false := by rfl) (hsw : swapsWith (.Call (.Attribute (.Call (.Name "super" p0) [] [] p1) "__init__" p2) [e] [] pos) none pos'.line X.env = pure false := by rfl) :
    _root_.PySem.wpAt (model X.prog X.w) X.A (.func body X.env) (exec (.Expr (.Call (.Attribute (.Call (.Name "super" p0) [] [] p1) "__init__" p2) [e] [] pos) pos') X.env) (fun f s' => f = .next ∧ ∃ H', Inv X pins σ H' s' ∧ H' a = some (exo a C none) ∧ D H') X.xe s := by
  refine ks_wpAt_Expr_any ?_ hi hsw
  refine ks_wpAt_MethodCall (pl := pl) ?_ hat
  obtain ⟨oc, od, dV, kV, doc, pm, an, ctv, osl, lk, hfd⟩ := Y.look
  obtain ⟨ca, cb, cvs, cct, ff, tf, lcd, hvs, hfile⟩ := Y.file
  obtain ⟨xa, xb, xc, lcc⟩ := Y.cell
  obtain ⟨cdd, hcdd⟩ := Y.cls
  obtain ⟨ar, har, hself⟩ := hp
  obtain ⟨mb, hb1, hb2⟩ := I.mod.blt
  obtain ⟨m, hns, hloc⟩ := id I.loc
  have KX := I.kIn
  have hks' : X.env.kindOf ("super" : Str) = some .globalImplicit := hks
  have hkc' : X.env.kindOf ("__class__" : Str) = some .free := hkc
  obtain ⟨t1, hx⟩ := exo_at I.hok ea
  obtain ⟨oD, hD1, hD2⟩ : ∃ oD, s.heap.get? C = some oD ∧ oD.data = .cls cdd := by
    unfold PySem.W.clsIn at hcdd
    split at hcdd
    · rename_i c d cd' sl ho
      cases hcdd
      exact ⟨_, KX _ _ ho, rfl⟩
    · cases hcdd
  have hpar : (fd.params.posonlyargs ++ fd.params.args).head? = some ar := by rw [hfd]; exact har
  refine ks_wpAt_super_base (env := X.env) hks' hkc' (by decide) hfu (KX _ _ lk) rfl hpar hco (KX _ _ lcd) rfl hvs hfile Y.top ?_
  refine ks_loadName_global I.ok.kind hks' (Calls.loadGlobal_builtin (by rw [I.ok.glob]; exact I.mod.glob.keeps I.bk) hms (by rw [I.ok.blt]; exact hb1.keeps I.bk) ((hb2 _ (by decide)).trans hboot) ⟨rfl, ?_⟩)
  refine wpAny_loadName_free I.ok.kind hkc' (by rw [hce, Y.cl]; rfl) ⟨_, KX _ _ lcc, rfl⟩ ?_
  have hself' : m ar.arg = some (.ref a) := by
    obtain ⟨u, ru, lu⟩ := hloc 0 _ _ hN h0 (.inl hka)
    obtain rfl : u = Value.ref a := ru
    rcases lu with ⟨_, e⟩ | ⟨hh | hh, _⟩
    · rw [hself]; exact e
    · have z : X.env.scope.names.lookup ("self" : Str) = some .cell := hh
      rw [hka] at z; cases z
    · have z : X.env.scope.names.lookup ("self" : Str) = some .free := hh
      rw [hka] at z; cases z
  refine wpAny_loadName_local I.ok.kind (by rw [hself]; exact hka) hns hself' ?_
  refine ks_wpAny_isType_cls hD1 hD2 ⟨rfl, ?_⟩
  obtain ⟨hp, g, d, t, os⟩ := s
  refine ks_wpAny_call_super hD1 hD2 hx rfl (fun c e => by cases e) (PySem.W.looks_mroIn KX Y.subC) (fun h' hso k => ?_)
  have I2 : Inv X pins σ H ⟨h', g, d, t, os⟩ := I.kept (t' := t) k
  have KX2 := I2.kIn
  obtain ⟨t2, hx2⟩ := exo_at I2.hok ea
  have II : PySem.W.InstAt h' a { cls := .ref C, dict := none, data := .fields #[.ref t2, .none, .none, .none, .bool false, .none] } C none := ⟨hx2, rfl, rfl, trivial⟩
  have hm := Y.meth
  unfold PySem.W.ks_superIn at hm
  rw [hcdd] at hm
  refine kxs_getMethod kxs_ValueError hso (PySem.W.looks_opaque KX2 Y.any) (l₀ := cdd.mro) ?_ rfl KX2 hm (II.type.andThen (PySem.W.looks_subIn KX2 Y.subV)) (PySem.W.ks_ne KX2 II hcdd) (by decide) ?_
  · exact fun A Q E s k q => wpAny_bind ((PySem.W.looks_clsIn KX2 hcdd) A _ E s k (wpAny_pure q))
  have I3 : Inv X pins σ H ⟨h'.push (kxs_mw "ValueError.__init__" a), g, d, t + 1, os⟩ := I2.kept (t' := t + 1) fun b o e => Heap.get?_push_of_some _ e
  have hu : (h'.push (kxs_mw "ValueError.__init__" a)).get? h'.objs.size = some (kxs_mw "ValueError.__init__" a) := Heap.get?_push_at rfl rfl
  have I4 : Inv X (pins ++ [(h'.objs.size, kxs_mw "ValueError.__init__" a)]) σ H ⟨h'.push (kxs_mw "ValueError.__init__" a), g, d, t + 1, os⟩ := I3.pins_of fun p hp => by
    rcases List.mem_append.mp hp with z | z
    · exact I3.pin p (List.mem_append_right _ z)
    · have e : p = (h'.objs.size, kxs_mw "ValueError.__init__" a) := by simpa using z
      rw [e]
      have fp := I2.fpOk (b := h'.objs.size) (Nat.le_refl _) (I2.hok.fresh (Nat.le_refl _))
      exact ⟨hu, fp.1, fp.2.1, fp.2.2.1, fun v z => by cases z⟩
  show wpAny _ _ (callWith pos (.ref h'.objs.size) [] (backTo pos (starEach [e] X.env)) []) _ _ _
  rw [hs]
  refine kxs_callWith (i := "ValueError.__init__") (x := a) (by rfl) (Calls.evalArgs_plain ?_)
  have hr := he.run pos _ _ σ H _ I4 q
  rw [hs] at hr
  refine thn hr fun us s5 ⟨vs, H5, I5, r5, ea5, hl5, q5⟩ => ?_
  have hu5 := (I5.pin (h'.objs.size, kxs_mw "ValueError.__init__" a) (by simp)).1
  refine ⟨hu5, ?_⟩
  have I6 : Inv X pins σ H5 s5 := I5.unpinned
  refine call_mwV T I6 ea5 hu5 (show us.length ≤ sizeLine by rw [← r5.length, sizeLine_eq]; omega) fun s7 I7 => ?_
  exact ⟨rfl, H5, I7, ea5, q5⟩
end
section
variable {P : Program} {w : World} {K : PySem.W.Frag} {mg : Str → Option Value} {base : Heap} {CX : CXT} {k : Nat} {C fI cc cd : Addr} {F : NF} {fd : FuncData} {N ps : List Str} {e : Expr} {ta : TA} {tr : TS} {rest : List Stmt} {p0 p1 p2 pos pos' : Pos}
/-- the promise of an exception's __init__: super().__init__(e), then the rest -/
def spI (N ps : List Str) (C : Addr) (ta : TA) (tr : TS) : Sp := fun vs H Q _ => ∃ a ws, vs = .ref a :: ws ∧ vs.length = ps.length ∧ H a = some (exo a C none) ∧
  ta (startF N vs [some (.ref C)]) H fun vs1 H1 => H1 a = some (exo a C none) ∧ vs1.length ≤ 1000 ∧ tr { nx := fun _ H' => Q .non H', rt := Q } (startF N vs [some (.ref C)]) H1
theorem init_ok {pl : Addr → Sem Bool} (Y : InitK K P C fI cc cd F fd) (T : OexC K C) (S : NScope N ps ["__class__"] F.scope) (hps : ps.head? = some ("self" : Str)) (hbody : F.body = .Expr (.Call (.Attribute (.Call (.Name "super" p0) [] [] p1) "__init__" p2) [e] [] pos) pos' :: rest)
    (hms : mg "super" = none) (hboot : bootBuiltins "super" = some (.type "super")) (hks : F.scope.names.lookup ("super" : Str) = some .globalImplicit)
    (hp : ∃ ar : Arg, (F.params.posonlyargs ++ F.params.args).head? = some ar ∧ ar.arg = ("self" : Str))
    (he : ∀ (A : Around) (outer : List Env) (s : Shared) (H : Hp) (E : XK), PA (ncx CX P w K mg base N F fI A outer s H E) [e] ta)
    (hr : ∀ (A : Around) (outer : List Env) (s : Shared) (H : Hp) (E : XK), PSs (ncx CX P w K mg base N F fI A outer s H E) rest tr)
    (hs : ∀ L, starEach [e] (envF F fI L) = (false, eval e (envF F fI L)) :: starEach [] (envF F fI L) := by intro _; rfl)
    (hat : ∀ L, eval (.Call (.Attribute (.Call (.Name "super" p0) [] [] p1) "__init__" p2) [e] [] pos) (envF F fI L) = (do
      let ov ← attributeBase (.Call (.Name "super" p0) [] [] p1) "__init__" (envF F fI L) (eval (.Call (.Name "super" p0) [] [] p1) (envF F fI L))
      standAt p2.atName
      let (f, first) ← holding [ov] (getMethod ov "__init__" (pl L))
      callWith pos f first (backTo pos (starEach [e] (envF F fI L))) []) := by intro _; rfl)
    (hint : ∀ L, interactive (envF F fI L) = false := by intro _; rfl) (hsw : ∀ L, swapsWith (.Call (.Attribute (.Call (.Name "super" p0) [] [] p1) "__init__" p2) [e] [] pos) none pos'.line (envF F fI L) = pure false := by intro _; rfl) : FnOk P w K mg base CX (k + 1) fI fd ps (spI N ps C ta tr) := by
  obtain ⟨oc, od, dV, kV, doc, pm, an, ctv, osl, lk, hfd⟩ := id Y.look
  refine ⟨fun vs H Q E ⟨_, _, _, hl, _⟩ => hl, fun A outer s H args us vs Q E hroom e0 hb r hsp => ?_⟩
  obtain ⟨a, ws, ev, hl, ea, q⟩ := hsp
  have old : ∀ b o, base.get? b = some o → s.heap.get? b = some o := fun b o e => (e0.bs b o e).1
  have KX : K.In s.heap := e0.mod.kin.keeps old
  have hcode := PySem.W.codeRec_of KX Y.code
  rw [← Y.cdo] at hcode
  subst hfd
  refine ks_codeAny_call_defAt hroom.depth (KX _ _ lk) rfl (e0.mod.nolimit.keeps old) hcode rfl hb S.nocell (fun x hx => S.par x.1 (List.of_mem_zip hx).1) (fun h₀ hns kp => ?_) S.co S.gen S.kind
  obtain ⟨xa, xb, xc, lcc⟩ := Y.cell
  have hcc := KX _ _ lcc
  have hcn : H cc = none := (e0.bs _ _ (e0.mod.kin _ _ lcc)).2
  have CA : CellsAt F.cl ["__class__"] [some (.ref C)] s.heap H := by
    rw [Y.cl]
    refine ⟨rfl, fun y c e => ?_, fun x y c e1 e2 => ?_, fun i y e => ?_⟩
    · have z : c = cc := by
        rw [List.lookup_cons] at e
        cases q : (y == ("__class__" : Str)) with
        | true => rw [q] at e; exact (Option.some.inj e).symm
        | false => rw [q] at e; cases e
      subst z
      exact ⟨hcn, _, _, hcc, rfl⟩
    · have key : ∀ {z : Str} {c : Addr}, List.lookup z [(("__class__" : Str), cc)] = some c → z = "__class__" := fun {z c} e => by
        rw [List.lookup_cons] at e
        cases q : (z == ("__class__" : Str)) with
        | true => exact beq_iff_eq.mp q
        | false => rw [q] at e; cases e
      rw [key e1, key e2]
    · cases i with
      | zero =>
        simp at e
        subst e
        refine ⟨cc, rfl, fun v hv => ?_⟩
        simp at hv
        subst hv
        exact ⟨.ref C, rfl, _, hcc, rfl⟩
      | succ i => simp at e
  have I : Inv (ncx CX P w K mg base N F fI A outer s H E) [] (startF N vs [some (.ref C)]) H { s with heap := h₀, toks := s.toks + (ps.zip us).length } := inv_startN S hroom.hd e0 hl r CA hns kp
  show _root_.PySem.wpAt (model P w) (A.deeper (envF F fI s.heap.objs.size)) (.func F.body (envF F fI s.heap.objs.size)) (execs F.body (envF F fI s.heap.objs.size)) _ _ _
  have hpre : N[0]? = some ("self" : Str) := by
    have z := S.pre
    cases ps with
    | nil => cases hps
    | cons p ps =>
      cases N with
      | nil => simp at z
      | cons n N =>
        simp at z hps
        rw [List.getElem?_cons_zero, z.1, hps]
  have h0 : (startF N vs [some (.ref C)])[0]? = some (some (.ref a)) := by
    rw [ev]; rfl
  have hself : F.scope.names.lookup ("self" : Str) = some .local := S.par _ (by
    cases ps with
    | nil => cases hps
    | cons p ps => simp at hps; rw [hps]; exact List.mem_cons_self)
  have hc1 : F.scope.names.lookup ("__class__" : Str) = some .free := S.frk _ List.mem_cons_self
  rw [hbody]
  refine ks_wpAt_execs_cons (ks_wpAt_mono (super_ve (X := ncx CX P w K mg base N F fI A outer s H E) (F := F) (fI := fI) (cc := cc) (cd := cd) T Y I ea h0 hpre hms hboot rfl (by show Value.ref F.c = _; rw [Y.cdo]) rfl hks hc1 hself hp (he A outer s H E) q (hs _) (hat _) (hint _) (hsw _)) (fun f s1 hf => ?_) fun e s' z => z)
  obtain ⟨rfl, H1, I1, ea1, q1⟩ := hf
  refine wpAt_of_wpAny (wpAny_mono ((hr A outer s H E).run [] _ _ H1 _ I1 q1) (fun fl s' hs => ?_) fun e s' hs => hs)
  have fin : ∀ {σ' : L2.St} {H' : Hp} {v : V} {u : Value}, Inv (ncx CX P w K mg base N F fI A outer s H E) [] σ' H' s' → L2.RelV v u → Q v H' → CE outer P w H s Q u s' :=
    fun {σ' H' v u} J rv q => ⟨v, H', J.os, J.bare, J.base, J.hok, rv, q⟩
  cases fl with
  | ret u =>
    obtain ⟨v, σ', H', J, rv, q⟩ := hs
    exact fin J rv q
  | next =>
    obtain ⟨σ', H', J, q⟩ := hs
    exact fin (v := V.non) (u := Value.none) J rfl q
  | brk =>
    obtain ⟨_, _, _, q⟩ := hs
    exact False.elim q
  | cont =>
    obtain ⟨_, _, _, q⟩ := hs
    exact False.elim q
end
/-! ### classes with one field, with two -/
section
variable {P : Program} {w : World} {K : PySem.W.Frag} {mg : Str → Option Value} {base : Heap} {CX : CXT} {k : Nat} {C fI cc cd : Addr} {F : NF} {fd : FuncData} {f g px py : Str} {me : Expr} {te : TE} {cond : List V → Prop} {p0 p1 p2 p3 p4 p5 p6 p7 p8 pos pos' pos1 pos2 : Pos}
/-- what __init__ leaves: the fields ys of the names fs, the first one stored first -/
def spF (fs : List Str) (cond : List V → Prop) (C : Addr) : Sp := fun vs H Q _ => ∃ a ys, vs = .ref a :: ys ∧ ys.length = fs.length ∧ cond ys ∧ H a = some (exo a C none) ∧
  ∀ dx H', H dx = none → dx ≠ a → H' = upd (upd H dx (exd dx (fs.zip ys).reverse)) a (exo a C (some dx)) → Q .non H'
theorem upd_twice {H : Hp} {a dx : Addr} {o1 o2 o3 : HO} (ne : dx ≠ a) : upd (upd (upd H dx o1) a o2) dx o3 = upd (upd H dx o3) a o2 := by
  funext b
  by_cases h1 : b = dx
  · subst h1
    rw [upd_same, upd_ne ne, upd_same]
  · rw [upd_ne h1]
    by_cases h2 : b = a
    · subst h2; rw [upd_same, upd_same]
    · rw [upd_ne h2, upd_ne h1, upd_ne h2, upd_ne h1]
theorem init1 {pl : Addr → Sem Bool} (N : List Str) (hNN : N = [("self" : Str), px, "__class__"]) (hNd : N.Nodup) (Y : InitK K P C fI cc cd F fd) (T : OexC K C) (S : NScope N ["self", px] ["__class__"] F.scope) (hf : PySem.W.findIn K (.ref C) f = some none)
    (hbody : F.body = [.Expr (.Call (.Attribute (.Call (.Name "super" p0) [] [] p1) "__init__" p2) [me] [] pos) pos', .Assign [.Attribute (.Name "self" p3) f p4] (.Name px p5) pos1])
    (hms : mg "super" = none) (hboot : bootBuiltins "super" = some (.type "super")) (hks : F.scope.names.lookup ("super" : Str) = some .globalImplicit)
    (hp : ∃ ar : Arg, (F.params.posonlyargs ++ F.params.args).head? = some ar ∧ ar.arg = ("self" : Str))
    (he : ∀ (A : Around) (outer : List Env) (s : Shared) (H : Hp) (E : XK), PE (ncx CX P w K mg base N F fI A outer s H E) me te)
    (hme : ∀ (a : Addr) (y : V) (H : Hp) (Q : VK), cond [y] → (∀ v, Q v H) → te [some (.ref a), some y, some (.ref C)] H Q)
    (hsl : F.scope.names.lookup ("self" : Str) = some .local) (hxl : F.scope.names.lookup px = some .local) (hd1 : (px == ("__debug__" : Str)) = false) (hd2 : (px == ("__classdict__" : Str)) = false)
    (hs : ∀ L, starEach [me] (envF F fI L) = (false, eval me (envF F fI L)) :: starEach [] (envF F fI L) := by intro _; rfl)
    (hat : ∀ L, eval (.Call (.Attribute (.Call (.Name "super" p0) [] [] p1) "__init__" p2) [me] [] pos) (envF F fI L) = (do
      let ov ← attributeBase (.Call (.Name "super" p0) [] [] p1) "__init__" (envF F fI L) (eval (.Call (.Name "super" p0) [] [] p1) (envF F fI L))
      standAt p2.atName
      let (f, first) ← holding [ov] (getMethod ov "__init__" (pl L))
      callWith pos f first (backTo pos (starEach [me] (envF F fI L))) []) := by intro _; rfl)
    (hint : ∀ L, interactive (envF F fI L) = false := by intro _; rfl) (hsw : ∀ L, swapsWith (.Call (.Attribute (.Call (.Name "super" p0) [] [] p1) "__init__" p2) [me] [] pos) none pos'.line (envF F fI L) = pure false := by intro _; rfl)
    (hsw1 : ∀ L, swapsWith (.Name px p5) (some (.Attribute (.Name "self" p3) f p4)) pos1.line (envF F fI L) = pure false := by intro _; rfl) :
    FnOk P w K mg base CX (k + 1) fI fd ["self", px] (spF [f] cond C) := by
  subst hNN
  refine (init_ok (CX := CX) (k := k) (pl := pl) (tr := tOst K f (tVar 0) (tVar 1)) Y T S rfl hbody hms hboot hks hp (fun A outer s H E => pa_cons (he A outer s H E) pa_nil (hs _))
    (fun A outer s H E => pss_one (ps_ost (pe_var (i := 0) rfl (.inl hsl)) (pe_var (i := 1) rfl (.inl hxl) hd1 hd2) (hsw1 _))) hs hat hint hsw).imp fun vs H Q E h => ?_
  obtain ⟨a, ys, rfl, hl, hc, ea, q⟩ := h
  match ys, hl, hc, q with
  | [y], _, hc, q =>
    refine ⟨a, [y], rfl, rfl, ea, hme a y H _ hc fun v => ⟨ea, (show 1 ≤ 1000 by decide), ?_⟩⟩
    show tVar 1 _ H _
    refine ⟨y, rfl, _, rfl, a, C, rfl, T, hf, .inl ⟨ea, fun dx hn ne => ?_⟩⟩
    exact q dx _ hn ne rfl
theorem init2 {pl : Addr → Sem Bool} (N : List Str) (hNN : N = [("self" : Str), px, py, "__class__"]) (hNd : N.Nodup) (Y : InitK K P C fI cc cd F fd) (T : OexC K C) (S : NScope N ["self", px, py] ["__class__"] F.scope) (hf : PySem.W.findIn K (.ref C) f = some none) (hg : PySem.W.findIn K (.ref C) g = some none)
    (hbody : F.body = [.Expr (.Call (.Attribute (.Call (.Name "super" p0) [] [] p1) "__init__" p2) [me] [] pos) pos', .Assign [.Attribute (.Name "self" p3) f p4] (.Name px p5) pos1, .Assign [.Attribute (.Name "self" p6) g p7] (.Name py p8) pos2])
    (hms : mg "super" = none) (hboot : bootBuiltins "super" = some (.type "super")) (hks : F.scope.names.lookup ("super" : Str) = some .globalImplicit)
    (hp : ∃ ar : Arg, (F.params.posonlyargs ++ F.params.args).head? = some ar ∧ ar.arg = ("self" : Str))
    (he : ∀ (A : Around) (outer : List Env) (s : Shared) (H : Hp) (E : XK), PE (ncx CX P w K mg base N F fI A outer s H E) me te)
    (hme : ∀ (a : Addr) (y z : V) (H : Hp) (Q : VK), cond [y, z] → (∀ v, Q v H) → te [some (.ref a), some y, some z, some (.ref C)] H Q)
    (hsl : F.scope.names.lookup ("self" : Str) = some .local) (hxl : F.scope.names.lookup px = some .local) (hyl : F.scope.names.lookup py = some .local) (hd1 : (px == ("__debug__" : Str)) = false) (hd2 : (px == ("__classdict__" : Str)) = false) (hd3 : (py == ("__debug__" : Str)) = false) (hd4 : (py == ("__classdict__" : Str)) = false)
    (hs : ∀ L, starEach [me] (envF F fI L) = (false, eval me (envF F fI L)) :: starEach [] (envF F fI L) := by intro _; rfl)
    (hat : ∀ L, eval (.Call (.Attribute (.Call (.Name "super" p0) [] [] p1) "__init__" p2) [me] [] pos) (envF F fI L) = (do
      let ov ← attributeBase (.Call (.Name "super" p0) [] [] p1) "__init__" (envF F fI L) (eval (.Call (.Name "super" p0) [] [] p1) (envF F fI L))
      standAt p2.atName
      let (f, first) ← holding [ov] (getMethod ov "__init__" (pl L))
      callWith pos f first (backTo pos (starEach [me] (envF F fI L))) []) := by intro _; rfl)
    (hint : ∀ L, interactive (envF F fI L) = false := by intro _; rfl) (hsw : ∀ L, swapsWith (.Call (.Attribute (.Call (.Name "super" p0) [] [] p1) "__init__" p2) [me] [] pos) none pos'.line (envF F fI L) = pure false := by intro _; rfl)
    (hsw1 : ∀ L, swapsWith (.Name px p5) (some (.Attribute (.Name "self" p3) f p4)) pos1.line (envF F fI L) = pure false := by intro _; rfl) (hsw2 : ∀ L, swapsWith (.Name py p8) (some (.Attribute (.Name "self" p6) g p7)) pos2.line (envF F fI L) = pure false := by intro _; rfl) :
    FnOk P w K mg base CX (k + 1) fI fd ["self", px, py] (spF [f, g] cond C) := by
  subst hNN
  refine (init_ok (CX := CX) (k := k) (pl := pl) (tr := tSeq (tOst K f (tVar 0) (tVar 1)) (tOst K g (tVar 0) (tVar 2))) Y T S rfl hbody hms hboot hks hp (fun A outer s H E => pa_cons (he A outer s H E) pa_nil (hs _))
    (fun A outer s H E => pss_cons (ps_ost (pe_var (i := 0) rfl (.inl hsl)) (pe_var (i := 1) rfl (.inl hxl) hd1 hd2) (hsw1 _)) (pss_one (ps_ost (pe_var (i := 0) rfl (.inl hsl)) (pe_var (i := 2) rfl (.inl hyl) hd3 hd4) (hsw2 _)))) hs hat hint hsw).imp fun vs H Q E h => ?_
  obtain ⟨a, ys, rfl, hl, hc, ea, q⟩ := h
  match ys, hl, hc, q with
  | [y, z], _, hc, q =>
    refine ⟨a, [y, z], rfl, rfl, ea, hme a y z H _ hc fun v => ⟨ea, (show 1 ≤ 1000 by decide), ?_⟩⟩
    unfold tSeq
    refine ⟨y, rfl, _, rfl, a, C, rfl, T, hf, .inl ⟨ea, fun dx hn ne => ?_⟩⟩
    refine ⟨z, rfl, _, rfl, a, C, rfl, T, hg, .inr ⟨dx, [(f, y)], upd_same, by rw [upd_ne ne, upd_same], (show 1 ≤ 900 by decide), ?_⟩⟩
    exact q dx _ hn ne (by rw [upd_twice ne]; rfl)
end
/-! ### raise -/
section
variable {X : Cx} {W : WJ} {K : PySem.W.Frag} {C fI : Addr} {cn x : Str} {k : Nat} {fd : FuncData} {ps fs : List Str} {cond : List V → Prop} {condP : List PV → Prop} {e : Expr} {es : List Expr} {fa : PEnv → M (List PV)} {fm : PEnv → M Exn} {p pos : Pos}
def tM (K : PySem.W.Frag) (W : WJ) (f : PEnv → M Exn) : L2.St → Hp → XK → Prop := fun σ H Q => ∃ α S ρ, StoreOk K α S H ∧ Slots K W.j α H ρ σ ∧ OD K α H (f ρ S) (fun c α' _ H' => ∀ cls d, XRep K α' H' c cls d → Q cls d H') (EX K W σ)
abbrev DM (X : Cx) (W : WJ) (e : Expr) (f : PEnv → M Exn) : Prop := PMk X e (tM X.K W f)
/-- C(e, ..) of an exception class with the fields fs -/
noncomputable def eMkX (cn : Str) (fs : List Str) (condP : List PV → Prop) (fa : PEnv → M (List PV)) : PEnv → M Exn := fun ρ => (fa ρ).bind fun ds => if ds.length = fs.length ∧ ds.length ≤ 900 ∧ condP ds then M.ret ⟨cn, (fs.zip ds).reverse⟩ else M.bad
theorem RepF.app {α : List Addr} {H : Hp} : ∀ {fs gs : List (Str × PV)} {us vs : List (Str × V)}, RepF K α H fs us → RepF K α H gs vs → RepF K α H (fs ++ gs) (us ++ vs)
  | [], _, _, _, h, h2 => by cases h; exact h2
  | (n, d) :: r, _, _, _, ⟨v, t, e, h, hr⟩, h2 => by subst e; exact ⟨v, _, rfl, h, hr.app h2⟩
theorem RepF.zipR {α : List Addr} {H : Hp} : ∀ {fs : List Str} {ds : List PV} {vs : List V}, Reps K α H ds vs → RepF K α H (fs.zip ds).reverse (fs.zip vs).reverse
  | [], _, _, _ => rfl
  | f :: fs, _, _, .nil => rfl
  | f :: fs, _, _, .cons h t => by
    rw [List.zip_cons_cons, List.zip_cons_cons, List.reverse_cons, List.reverse_cons]
    exact RepF.app (RepF.zipR t) ⟨_, [], rfl, h, rfl⟩
theorem dm_mk (hcn : clsOf X.K cn = some C) (T : OexC X.K C) (iC : PySem.W.findIn X.K (.ref C) "__init__" = some (some (.ref fI))) (tI : PySem.W.typeIn X.K (.ref fI) = some (.type "function"))
    (F1 : FnOk X.prog X.w X.K X.mg X.base (L2.CX X.prog X.w) k fI fd ps (spF fs cond C)) (hr : Room (k + 1) X.A) (hb : Binds X.K fd ps []) (hx : Passes (L2.CX X.prog X.w) X (fun _ _ _ => False)) (hg : Gl X x) (hm : X.mg x = some (.ref C))
    (hc : ∀ α H ds vs, Reps X.K α H ds vs → condP ds → cond vs) (ha : DA X W (e :: es) fa)
    (hdb : (x == ("__debug__" : Str)) = false := by decide) (he : starEach (e :: es) X.env = (false, eval e X.env) :: starEach es X.env := by rfl) (hpl : (backTo pos (starEach es X.env)).any (·.1) = false := by rfl) :
    DM X W (.Call (.Name x p) (e :: es) [] pos) (eMkX cn fs condP fa) := by
  intro pins s σ H Q I ⟨α, S, ρ, so, sl, h⟩
  refine pmk_oex (CX := L2.CX X.prog X.w) (dvs := []) (ds := []) T iC tI F1 hr hb .nil hx hg hm ha hdb he hpl pins s σ H Q I ?_
  refine ⟨α, S, ρ, so, sl, (OD.bind (o := fa ρ S) h).imp (fun ds α1 S1 H1 m1 h1 vs rv => ?_) fun _ _ _ _ _ q => q⟩
  obtain ⟨⟨hl, hz, hcp⟩, h2⟩ := if_outM h1
  refine ⟨by rw [← rv.length]; omega, fun a hn => ⟨a, vs ++ [], rfl, by rw [List.append_nil, ← rv.length, hl], by rw [List.append_nil]; exact hc _ _ _ _ rv hcp, upd_same, fun dx H' hd ne e => ?_⟩⟩
  rw [List.append_nil] at e
  subst e
  have hd1 : H1 dx = none := by rw [upd_ne ne] at hd; exact hd
  refine ⟨rfl, dx, _, upd_same, by rw [upd_ne ne, upd_same], hd1, ?_⟩
  have eH : upd (del (upd (upd (upd H1 a (exo a C none)) dx (exd dx (fs.zip vs).reverse)) a (exo a C (some dx))) a) dx (.xd (fs.zip vs).reverse) = upd H1 dx (.xd (fs.zip vs).reverse) := by
    funext b
    by_cases h1 : b = dx
    · subst h1; rw [upd_same, upd_same]
    · rw [upd_ne h1, upd_ne h1]
      by_cases h2 : b = a
      · subst h2; rw [del_same, hn]
      · rw [del_ne h2, upd_ne h2, upd_ne h1, upd_ne h2]
  rw [eH]
  exact h2 α1 _ (.new m1.ok hd1) _ _ ⟨⟨C, hcn, rfl⟩, dx, _, rfl, upd_same, (RepF.zipR rv).mono (.new hd1) (.refl α1)⟩
def sRaise (fm : PEnv → M Exn) : SD := fun ρ S => lift (fm ρ S) ρ fun c => M.ret (.ex c, ρ)
theorem ds_raise (hc : X.calm = true) (tk : Takes X W.w) (h : DM X W e fm) : DS X W (.Raise (some e) none pos) (sRaise fm) := by
  refine PS_imp (ps_raise hc tk h) fun D σ H ⟨α, S, ρ, so, sl, h⟩ => ?_
  refine ⟨α, S, ρ, so, sl, (lift_od sl h).imp (fun c α1 S1 H1 m1 h1 cls d xr => ?_) fun _ _ _ _ _ q => q⟩
  exact h1 α1 H1 (.refl m1.ok) σ (sl.mv m1) cls d xr
end
/-! ### try, except as -/
section
variable {X : Cx} {W : WJ} {x n : Str} {c : Value} {i : Nat} {body suite : List Stmt} {b₀ : Stmt} {np pos pos' : Pos} {g : SD} {h : Nat → SD} {m : Str → Option Bool} {fl : List Str} {e : Expr} {fe : PEnv → M PV} {f : Str}
/-- what a clause's suite knows of its exception: its cell is n, its fields' cell n + 1 -/
def JE (K : PySem.W.Frag) (J : JX) (fl : List Str) (n : Nat) (a : Addr) (cls : Value) (d : Option Addr) : JX :=
  ⟨fun α => J.p α ∧ α[n]? = some a ∧ (∃ dd, d = some dd ∧ α[n + 1]? = some dd) ∧ ∃ C, cls = .ref C ∧ XfC K C ∧ ∀ f ∈ fl, PySem.W.findIn K (.ref C) f = some none,
    fun α α' l ⟨h0, h1, ⟨dd, e, h2⟩, h3⟩ => ⟨J.st _ _ l h0, l _ _ h1, ⟨dd, e, l _ _ h2⟩, h3⟩⟩
def xfV (n : Nat) (f : Str) : PV → M PV
  | .cell k => if k = n then getC (n + 1) fun c => match c with
    | .xdc fs => optM (fs.lookup f)
    | _ => M.bad
    else M.bad
  | _ => M.bad
theorem de_xf {a : Addr} {oe : Obj} {cls : Value} {d : Option Addr} {pn : List (Addr × Obj)} {J : JX} {k : Nat} {w : WX} (hz : Zc cls d oe) (hf : ∃ vs, oe.data = .fields vs) (hfl : f ∈ fl) (he : DE (X.suite a ((a, oe) :: pn)) ⟨w, JE X.K J fl k a cls d⟩ e fe)
    (hb : attributeBase e f X.env (eval e X.env) = eval e X.env := by rfl) : DE (X.suite a ((a, oe) :: pn)) ⟨w, JE X.K J fl k a cls d⟩ (.Attribute e f pos) (eUn (xfV k f) fe) := by
  refine ⟨fun pins s σ H Q I ⟨α, S, ρ, so, sl, h⟩ => ?_⟩
  obtain ⟨_, _, _, C, hC, hX, hfi⟩ := sl.j
  refine (pe_xf hX (hfi f hfl) hz hf he hb).run pins s σ H Q I ?_
  refine ⟨α, S, ρ, so, sl, (OD.bind (o := fe ρ S) h).imp (fun y α1 S1 H1 m1 h1 v rv => ?_) fun _ _ _ _ _ q => q⟩
  obtain ⟨_, hj1, ⟨dd, hd, hj2⟩, _⟩ := (sl.mv m1).j
  cases y with
  | cell q =>
    obtain ⟨hq, h2⟩ := if_outM (show OD X.K α1 H1 ((if q = k then getC (k + 1) fun c => match c with | .xdc fs => optM (fs.lookup f) | _ => M.bad else M.bad : M PV) S1) _ _ from h1)
    subst hq
    cases rv with
    | cell ea =>
      rw [hj1] at ea
      cases ea
      obtain ⟨c, hc, h3⟩ := getC_od h2
      cases c with
      | xdc fs =>
        obtain ⟨y, ey, h4⟩ := optM_od m1.ok h3
        obtain ⟨gs, e1, rf⟩ := m1.ok.ok _ _ _ hj2 hc
        obtain ⟨u, e2, ru⟩ := rf.look ey
        exact ⟨rfl, hC, dd, gs, u, hd, e1, e2, h4 u ru⟩
      | _ => exact h3.elim
  | _ => exact h1.elim
/-- a clause: m tells of a class's name whether the clause takes it -/
noncomputable def sTryAs (i : Nat) (m : Str → Option Bool) (g : SD) (h : Nat → SD) : SD := fun ρ S => match g ρ S with
  | .ok (.ex c, ρ1) S1 => match m c.cls with
    | some true => (h S1.length (ρ1.set i (some (.cell S1.length))) (S1 ++ [.obj, .xdc c.fs])).bind fun r => match r.1 with
      | .ex _ => M.bad
      | _ => M.ret (r.1, r.2.set i none)
    | some false => .ok (.ex c, ρ1) S1
    | none => .bad
  | r => r
theorem Mv.exn {K : PySem.W.Frag} {α : List Addr} {S : Store} {H : Hp} (o : StoreOk K α S H) {fs : List (Str × PV)} {gs : List (Str × V)} {a dd : Addr} (e : H dd = some (.xd gs)) (r : RepF K α H fs gs) : Mv K α H (α ++ [a, dd]) (S ++ [.obj, .xdc fs]) H := by
  have le : Le α (α ++ [a, dd]) := fun n b h => by rw [List.getElem?_append_left (List.getElem?_eq_some_iff.mp h).1]; exact h
  have key : ∀ {i : Nat} {b : Addr} {c : Cell}, (α ++ [a, dd])[i]? = some b → (S ++ [Cell.obj, .xdc fs])[i]? = some c → (α[i]? = some b ∧ S[i]? = some c) ∨ (c = .obj) ∨ (c = .xdc fs ∧ b = dd) := by
    intro i b c h1 h2
    by_cases hi : i < S.length
    · rw [List.getElem?_append_left hi] at h2
      rw [List.getElem?_append_left (by rw [o.len]; exact hi)] at h1
      exact .inl ⟨h1, h2⟩
    · rw [List.getElem?_append_right (by omega)] at h2
      rw [List.getElem?_append_right (by rw [o.len]; omega), o.len] at h1
      match q : i - S.length, h1, h2 with
      | 0, h1, h2 => simp at h2; exact .inr (.inl h2.symm)
      | 1, h1, h2 => simp at h1 h2; exact .inr (.inr ⟨h2.symm, h1.symm⟩)
      | k + 2, h1, h2 => simp at h2
  refine ⟨.refl H, le, ⟨by simp [o.len], fun i j b c d h1 h2 h3 h4 m1 m2 => ?_, fun i b c h1 h2 => ?_⟩⟩
  · rcases key h1 h3 with ⟨a1, a2⟩ | rfl | ⟨rfl, _⟩
    · rcases key h2 h4 with ⟨b1, b2⟩ | rfl | ⟨rfl, _⟩
      · exact o.inj _ _ _ _ _ a1 b1 a2 b2 m1 m2
      · cases m2
      · cases m2
    · cases m1
    · cases m1
  · rcases key h1 h2 with ⟨a1, a2⟩ | rfl | ⟨rfl, rfl⟩
    · exact (o.ok _ _ _ a1 a2).stay (.refl H) le fun _ => rfl
    · trivial
    · exact ⟨gs, e, r.mono (.refl H) le⟩
theorem ds_tryAs (fl : List Str) (hN : X.N.Nodup) (hc : Names X x c) (tk : Takes X W.w) (hb : ∀ (w : WX) (pn : List (Addr × Obj)) (xe : Value → Shared → Prop), Takes (X.tr pn xe) w → PassesOwn (model X.prog X.w) X.A X.env xe → DSs (X.tr pn xe) ⟨w, W.j⟩ body g)
    (hm : ∀ cn b C, m cn = some b → clsOf X.K cn = some C → PySem.W.exmOne X.K (.ref C) c = some b ∧ (b = true → XfC X.K C ∧ ∀ f ∈ fl, PySem.W.findIn X.K (.ref C) f = some none))
    (hsu : ∀ (a : Addr) (oe : Obj) (cls : Value) (d : Option Addr) (pn : List (Addr × Obj)) (k : Nat), Zc cls d oe → (∃ vs, oe.data = .fields vs) → DSs (X.suite a ((a, oe) :: pn)) ⟨fun _ _ _ _ => False, JE X.K W.j fl k a cls d⟩ (b₀ :: suite) (h k))
    (hs : X.stack = X.env :: X.outer := by rfl) (hf : X.env.frame = some X.env.locals := by rfl) (hi : X.N[i]? = some n := by rfl) (hln : X.env.kindOf n = some .local := by rfl) :
    DS X W (.Try body [.ExceptHandler (some (.Name x np)) (some n) (b₀ :: suite) pos'] [] [] pos) (sTryAs i m g h) := by
  let ts : Addr → Value → Option Addr → TS := fun a cls d D σ H => ∃ k, tS X.K ⟨fun _ _ _ _ => False, JE X.K W.j fl k a cls d⟩ (h k) D σ H
  refine PS_imp (ps_try_as (tb := fun w => tS X.K ⟨w, W.j⟩ g) (ts := ts) hs hf hN hi hln hc tk hb fun a oe cls d pn hz hd => ⟨fun pins s σ H D I ⟨k, q⟩ => (hsu a oe cls d pn k hz hd).run pins s σ H D I q⟩) fun D σ H ⟨α, S, ρ, so, sl, q⟩ => ?_
  refine ⟨α, S, ρ, so, sl, ?_⟩
  have q' : OD X.K α H (sTryAs i m g h ρ S) (Fin X.K W D) fun _ _ _ _ => False := q
  unfold sTryAs at q'
  show OD X.K α H (g ρ S) (Fin X.K ⟨_, W.j⟩ D) _
  cases eg : g ρ S with
  | bad => rw [eg] at q'; exact q'
  | ex c S1 => rw [eg] at q'; exact q'
  | ok r S1 =>
    rw [eg] at q'
    obtain ⟨f1, ρ1⟩ := r
    cases f1 with
    | nx => exact q'
    | bk => exact q'
    | ct => exact q'
    | rt d => exact q'
    | ex ce =>
      simp only at q'
      intro α1 H1 m1 σ1 sl1 cls d xr
      obtain ⟨⟨C, hC, hcls⟩, dd, gs, hd, e1, rf⟩ := id xr
      cases hmc : m ce.cls with
      | none => rw [hmc] at q'; exact q'.elim
      | some b =>
        rw [hmc] at q'
        obtain ⟨hx, hxt⟩ := hm _ _ _ hmc hC
        subst hcls
        refine ⟨b, hx, fun hbt a na => ?_, fun hbf => ?_⟩
        · subst hbt
          obtain ⟨hX, hfi⟩ := hxt rfl
          simp only at q'
          have mE : Mv X.K α1 H1 (α1 ++ [a, dd]) (S1 ++ [.obj, .xdc ce.fs]) H1 := Mv.exn m1.ok e1 rf
          have sl2 : Slots X.K (JE X.K W.j fl S1.length a (.ref C) d) (α1 ++ [a, dd]) H1 (ρ1.set i (some (.cell S1.length))) (σ1.set i (some (.ref a))) := by
            have z : Rep X.K (α1 ++ [a, dd]) H1 (.cell S1.length) (.ref a) := .cell (by rw [← m1.ok.len]; simp)
            have z2 := (sl1.mv mE).set i z
            exact ⟨z2.len, ⟨z2.j, by rw [← m1.ok.len]; simp, ⟨dd, hd, by rw [← m1.ok.len, List.getElem?_append_right (by omega)]; simp⟩, C, rfl, hX, hfi⟩, z2.get⟩
          refine ⟨S1.length, α1 ++ [a, dd], S1 ++ [.obj, .xdc ce.fs], _, mE.ok, sl2, ?_⟩
          have q2 := OD.bind (o := h S1.length (ρ1.set i (some (.cell S1.length))) (S1 ++ [.obj, .xdc ce.fs])) (q'.trans (m1.trans mE))
          refine q2.imp (fun r α3 S3 H3 m3 h3 => ?_) fun _ _ _ _ _ z => z
          obtain ⟨f3, ρ3⟩ := r
          have un : ∀ {σ3 : L2.St}, Slots X.K (JE X.K W.j fl S1.length a (.ref C) d) α3 H3 ρ3 σ3 → Slots X.K W.j α3 H3 (ρ3.set i none) (σ3.set i none) := fun {σ3} z => by
            have z2 := z.unset i
            exact ⟨z2.len, z2.j.1, z2.get⟩
          cases f3 with
          | nx => exact fun σ3 s3 => h3 α3 H3 (.refl m3.ok) _ (un s3)
          | bk => exact fun σ3 s3 => h3 α3 H3 (.refl m3.ok) _ (un s3)
          | ct => exact fun σ3 s3 => h3 α3 H3 (.refl m3.ok) _ (un s3)
          | rt d => exact fun σ3 s3 v rv => h3 α3 H3 (.refl m3.ok) _ (un s3) v rv
          | ex c => exact h3.elim
        · subst hbf
          exact q' α1 H1 m1 σ1 sl1 _ d xr
end
/-! ### the facts of an exception class -/
theorem passes0 {X : Cx} : Passes (L2.CX X.prog X.w) X (fun _ _ _ => False) := fun pins σ H s e s' I c => passAt (W := fun _ _ _ _ => False) takes0 σ pins H s e s' I c
structure ExcK (K : PySem.W.Frag) (P : Program) (w : World) (mg : Str → Option Value) (base : Heap) (cn : Str) (fs ps : List Str) (cond : List V → Prop) (C fI : Addr) (fd : FuncData) : Prop where
  g : mg cn = some (.ref C)
  cn : clsOf K cn = some C
  T : OexC K C
  iC : PySem.W.findIn K (.ref C) "__init__" = some (some (.ref fI))
  tI : PySem.W.typeIn K (.ref fI) = some (.type "function")
  F : FnOk P w K mg base (L2.CX P w) 1 fI fd ps (spF fs cond C)
  b : Binds K fd ps []
  xf : XfC K C ∧ ∀ f ∈ fs, PySem.W.findIn K (.ref C) f = some none
theorem dm_exc {X : Cx} {W : WJ} {C fI : Addr} {cn : Str} {fd : FuncData} {ps fs : List Str} {cond : List V → Prop} {condP : List PV → Prop} {e : Expr} {es : List Expr} {fa : PEnv → M (List PV)} {p pos : Pos}
    (Z : ExcK X.K X.prog X.w X.mg X.base cn fs ps cond C fI fd) (hr : Room 2 X.A) (hc : ∀ α H ds vs, Reps X.K α H ds vs → condP ds → cond vs) (ha : DA X W (e :: es) fa) (hg : Gl X cn := by rfl)
    (hdb : (cn == ("__debug__" : Str)) = false := by decide) (he : starEach (e :: es) X.env = (false, eval e X.env) :: starEach es X.env := by rfl) (hpl : (backTo pos (starEach es X.env)).any (·.1) = false := by rfl) :
    DM X W (.Call (.Name cn p) (e :: es) [] pos) (eMkX cn fs condP fa) := dm_mk Z.cn Z.T Z.iC Z.tI Z.F hr Z.b passes0 hg Z.g hc ha hdb he hpl
/-- which clause takes which class, by names -/
def mOf (l : List (Str × Bool)) : Str → Option Bool := fun cn => l.lookup cn
def MOk (K : PySem.W.Frag) (c : Value) (fl : List Str) (l : List (Str × Bool)) : Prop := ∀ cn b C, mOf l cn = some b → clsOf K cn = some C → PySem.W.exmOne K (.ref C) c = some b ∧ (b = true → XfC K C ∧ ∀ f ∈ fl, PySem.W.findIn K (.ref C) f = some none)
theorem mok_nil {K : PySem.W.Frag} {c : Value} {fl : List Str} : MOk K c fl [] := fun _ _ _ h => by cases h
theorem mok_cons {K : PySem.W.Frag} {c : Value} {fl : List Str} {l : List (Str × Bool)} {cn : Str} {b : Bool} {C : Addr} (hcn : clsOf K cn = some C) (he : PySem.W.exmOne K (.ref C) c = some b) (hx : b = true → XfC K C ∧ ∀ f ∈ fl, PySem.W.findIn K (.ref C) f = some none) (r : MOk K c fl l) : MOk K c fl ((cn, b) :: l) := fun n d D h hD => by
  unfold mOf at h
  rw [List.lookup_cons] at h
  cases z : (n == cn) with
  | true =>
    rw [z] at h
    cases h
    obtain rfl := beq_iff_eq.mp z
    obtain rfl : C = D := Option.some.inj (hcn.symm.trans hD)
    exact ⟨he, hx⟩
  | false => rw [z] at h; exact r n d D h hD
theorem exm_of {K : PySem.W.Frag} {S D : Addr} {b : Bool} (h1 : PySem.W.subIn K (.ref D) (.type "BaseException") = some true) (h2 : PySem.W.isClsIn K D = true) (h3 : PySem.W.typeIn K (.ref D) = some (.type "type")) (h4 : PySem.W.subIn K (.ref S) (.ref D) = some b) : PySem.W.exmOne K (.ref S) (.ref D) = some b := by
  have e1 : (PySem.W.subIn K (.ref D) (.type "BaseException") == some true) = true := by rw [h1]; rfl
  have e2 : ((PySem.W.clsIn K D).isSome && PySem.W.typeIn K (.ref D) == some (.type "type")) = true := by
    have z : (PySem.W.clsIn K D).isSome = true := h2
    rw [z, h3]; rfl
  unfold PySem.W.exmOne
  rw [if_pos e1]
  show (if ((PySem.W.clsIn K D).isSome && PySem.W.typeIn K (.ref D) == some (.type "type")) = true then PySem.W.subIn K (.ref S) (.ref D) else none) = some b
  rw [if_pos e2, h4]
/-! ### one of two defs, chosen by a number -/
section
variable {X : Cx} {W : WJ} {k1 k2 np : Nat} {f1 f2 : Addr} {fd1 fd2 : FuncData} {ps1 ps2 : List Str} {F1 F2 : FD} {x1 x2 : Str} {q1 q2 pos2 pos kl : Pos} {ie e : Expr} {es : List Expr} {fi : PEnv → M PV} {fa : PEnv → M (List PV)}
/-- [x1, x2][i]: which of both -/
def selK (n : Nat) (x1 x2 : Str) : PV → M Bool := fun d => getC n fun c => match c with
  | .fns ns => if ns = [x1, x2] then (match d with
    | .int i => if i = 0 then M.ret true else if i = 1 then M.ret false else M.bad
    | _ => M.bad) else M.bad
  | _ => M.bad
def selM (x1 x2 : Str) (fi : PEnv → M PV) : PEnv → M Bool := fun ρ S => (fi ρ (S ++ [.fns [x1, x2]])).bind (selK S.length x1 x2)
theorem sel2_fn (hm1 : X.mg x1 = some (.ref f1)) (hm2 : X.mg x2 = some (.ref f2)) (hc1 : clsOf X.K x1 = some f1) (hc2 : clsOf X.K x2 = some f2) (hi : DE X W ie fi) (hg1 : Gl X x1) (hg2 : Gl X x2) (hd1 : (x1 == ("__debug__" : Str)) = false) (hd2 : (x2 == ("__debug__" : Str)) = false)
    (hs1 : starEach [.Name x1 q1, .Name x2 q2] X.env = (false, eval (.Name x1 q1) X.env) :: starEach [.Name x2 q2] X.env := by rfl) (hs2 : starEach [.Name x2 q2] X.env = (false, eval (.Name x2 q2) X.env) :: starEach [] X.env := by rfl) (hpx : PlainIx ie := by intro _ _; rfl) :
    PE X (.Subscript (.List [.Name x1 q1, .Name x2 q2] kl) ie pos2) (fun σ H Q => ∃ α S ρ, StoreOk X.K α S H ∧ Slots X.K W.j α H ρ σ ∧ OD X.K α H (selM x1 x2 fi ρ S) (fun d _ _ H1 => Q (.ref (if d = true then f1 else f2)) H1) (EX X.K W σ)) := by
  refine PE_imp (pe_ix ix_seq (pe_lst (pa_cons (pe_glob (v := .ref f1) hg1 hm1 rfl hd1) (pa_cons (pe_glob (v := .ref f2) hg2 hm2 rfl hd2) pa_nil hs2) hs1)) hi hpx) fun σ H Q ⟨α, S, ρ, so, sl, h⟩ => ?_
  show (2 : Nat) ≤ sizeLine ∧ _
  refine ⟨by rw [sizeLine_eq]; omega, fun p hp => ?_⟩
  have efn : fnsV X.K [x1, x2] = [.ref f1, .ref f2] := by
    unfold fnsV
    simp only [List.map_cons, List.map_nil, hc1, hc2]
  have mv : Mv X.K α H (α ++ [p]) (S ++ [.fns [x1, x2]]) (upd H p (.lst [.ref f1, .ref f2])) := .cell so hp (by show upd H p _ p = _; rw [upd_same, efn])
  have h' := OD.bind (o := fi ρ (S ++ [.fns [x1, x2]])) (h.trans mv)
  refine ⟨_, _, ρ, mv.ok, sl.mv mv, h'.imp (fun d α1 S1 H1 m1 h1 v rv => ?_) fun _ _ _ _ _ q => q⟩
  have ep : α1[S.length]? = some p := m1.le _ _ (by rw [← so.len]; simp)
  obtain ⟨c, ec, h2⟩ := getC_od (show OD X.K α1 H1 (getC S.length _ S1) _ _ from h1)
  cases c with
  | fns ns =>
    obtain ⟨hns, h3⟩ := if_outM h2
    subst hns
    have hk : H1 p = some (.lst [.ref f1, .ref f2]) := by
      have z : H1 p = some (.lst (fnsV X.K [x1, x2])) := m1.ok.ok _ _ _ ep ec
      rw [z, efn]
    cases d with
    | int i =>
      cases rv
      have h4 : OD X.K α1 H1 ((if i = 0 then M.ret true else if i = 1 then M.ret false else M.bad : M Bool) S1) (fun d _ _ H1 => Q (.ref (if d = true then f1 else f2)) H1) (EX X.K W σ) := h3
      by_cases hi0 : i = 0
      · rw [if_pos hi0] at h4
        subst hi0
        exact .inl ⟨p, _, 0, .ref f1, rfl, rfl, SqL.of hk, rfl, h4 α1 H1 (.refl m1.ok)⟩
      · rw [if_neg hi0] at h4
        by_cases hi1 : i = 1
        · rw [if_pos hi1] at h4
          subst hi1
          exact .inl ⟨p, _, 1, .ref f2, rfl, rfl, SqL.of hk, rfl, h4 α1 H1 (.refl m1.ok)⟩
        · rw [if_neg hi1] at h4; exact h4.elim
    | _ => exact h3.elim
  | _ => exact h2.elim
noncomputable def eSel2 (x1 x2 : Str) (fi : PEnv → M PV) (g1 g2 : List PV → M PV) (fa : PEnv → M (List PV)) : PEnv → M PV := fun ρ => (selM x1 x2 fi ρ).bind fun b => (fa ρ).bind fun xs => if b = true then g1 xs else g2 xs
theorem de_sel2 (G1 : FnG X.prog X.w X.K X.mg X.base k1 f1 fd1 ps1 (spD X.K np F1)) (G2 : FnG X.prog X.w X.K X.mg X.base k1 f2 fd2 ps2 (spD X.K np F2)) (hr : Room k1 X.A) (gd : X.A.guards = some []) (tk : Takes X W.w) (hm1 : X.mg x1 = some (.ref f1)) (hm2 : X.mg x2 = some (.ref f2))
    (hk1 : PySem.W.keepIn X.K (.ref f1) = true) (hk2 : PySem.W.keepIn X.K (.ref f2) = true) (hb1 : Binds X.K fd1 ps1 []) (hb2 : Binds X.K fd2 ps2 []) (hc1 : clsOf X.K x1 = some f1) (hc2 : clsOf X.K x2 = some f2) (hi : DE X W ie fi) (ha : DA X W (e :: es) fa)
    (hg1 : Gl X x1 := by rfl) (hg2 : Gl X x2 := by rfl) (hd1 : (x1 == ("__debug__" : Str)) = false := by decide) (hd2 : (x2 == ("__debug__" : Str)) = false := by decide) (hs1 : starEach [.Name x1 q1, .Name x2 q2] X.env = (false, eval (.Name x1 q1) X.env) :: starEach [.Name x2 q2] X.env := by rfl) (hs2 : starEach [.Name x2 q2] X.env = (false, eval (.Name x2 q2) X.env) :: starEach [] X.env := by rfl)
    (hpx : PlainIx ie := by intro _ _; rfl) (he : starEach (e :: es) X.env = (false, eval e X.env) :: starEach es X.env := by rfl) (hpl : (backTo pos (starEach es X.env)).any (·.1) = false := by rfl) :
    DE X W (.Call (.Subscript (.List [.Name x1 q1, .Name x2 q2] kl) ie pos2) (e :: es) [] pos) (eSel2 x1 x2 fi (chkL np F1) (chkL np F2) fa) := by
  refine ⟨fun pins s σ H Q I ⟨α, S, ρ, so, sl, h⟩ => ?_⟩
  show wpAny _ _ (do callWith pos (← eval (.Subscript (.List [.Name x1 q1, .Name x2 q2] kl) ie pos2) X.env) [] (backTo pos (starEach (e :: es) X.env)) (backToKw pos (keywordEach [] X.env))) _ _ _
  refine wpAny_bind (thn ((sel2_fn (kl := kl) (pos2 := pos2) (q1 := q1) (q2 := q2) hm1 hm2 hc1 hc2 hi hg1 hg2 hd1 hd2 hs1 hs2 hpx).run pins s σ H (fun v H1 => ∃ b : Bool, v = .ref (if b = true then f1 else f2) ∧ ∃ α1 S1, StoreOk X.K α1 S1 H1 ∧ Slots X.K W.j α1 H1 ρ σ ∧
    OD X.K α1 H1 ((fa ρ S1).bind fun xs => if b = true then chkL np F1 xs else chkL np F2 xs) (fun d α' _ H' => ∀ v, Rep X.K α' H' d v → Q v H') (EX X.K W σ)) I ⟨α, S, ρ, so, sl, (OD.bind (o := selM x1 x2 fi ρ S) h).imp (fun b α1 S1 H1 m1 h1 => ⟨b, rfl, α1, S1, m1.ok, sl.mv m1, h1⟩) fun _ _ _ _ _ q => q⟩) fun u s1 ⟨v, H1, I1, r1, b, ev, α1, S1, o1, sl1, h1⟩ => ?_)
  subst ev
  obtain rfl : u = Value.ref (if b = true then f1 else f2) := r1
  cases b with
  | true =>
    refine PySem.W.callWith_K (h₀ := X.base) I.ok.mod.kin hk1 (thn (ha.run pos pins s1 σ H1 (fun vs H1 => spD X.K np F1 vs H1 Q (WE W.w σ)) I1 ⟨α1, S1, ρ, o1, sl1, ?_⟩) fun us s2 ⟨vs, H2, I2, r, q⟩ => ⟨I2.kIn, ?_⟩) he hpl
    · exact (OD.bind (o := fa ρ S1) h1).imp (fun ds α2 S2 H2 m2 h2 vs rv => sp_of m2.ok rv h2) fun _ _ _ _ _ q => q
    · have hl : (us ++ []).length = ps1.length := by rw [List.append_nil, ← r.length]; exact G1.len _ _ _ _ q
      have b := hb1 s2 us I2.kIn hl
      rw [List.append_nil] at b
      exact run_G G1 hr gd tk b I2 r q
  | false =>
    refine PySem.W.callWith_K (h₀ := X.base) I.ok.mod.kin hk2 (thn (ha.run pos pins s1 σ H1 (fun vs H1 => spD X.K np F2 vs H1 Q (WE W.w σ)) I1 ⟨α1, S1, ρ, o1, sl1, ?_⟩) fun us s2 ⟨vs, H2, I2, r, q⟩ => ⟨I2.kIn, ?_⟩) he hpl
    · exact (OD.bind (o := fa ρ S1) h1).imp (fun ds α2 S2 H2 m2 h2 vs rv => sp_of m2.ok rv h2) fun _ _ _ _ _ q => q
    · have hl : (us ++ []).length = ps2.length := by rw [List.append_nil, ← r.length]; exact G2.len _ _ _ _ q
      have b := hb2 s2 us I2.kIn hl
      rw [List.append_nil] at b
      exact run_G G2 hr gd tk b I2 r q
theorem de_sel2K {kws : List Keyword} (ks : List Str) (ix : List Nat) {fk : PEnv → M (List PV)} (G1 : FnG X.prog X.w X.K X.mg X.base k1 f1 fd1 ps1 (spD X.K np F1)) (G2 : FnG X.prog X.w X.K X.mg X.base k1 f2 fd2 ps2 (spD X.K np F2)) (hr : Room k1 X.A) (gd : X.A.guards = some []) (tk : Takes X W.w) (hm1 : X.mg x1 = some (.ref f1)) (hm2 : X.mg x2 = some (.ref f2))
    (hk1 : PySem.W.keepIn X.K (.ref f1) = true) (hk2 : PySem.W.keepIn X.K (.ref f2) = true) (hb1 : ∀ (s : Shared) (ws : List Value), ws.length = ks.length → BindsTo s fd1 ⟨[], ks.zip ws⟩ (ps1.zip (pick ix ws))) (hb2 : ∀ (s : Shared) (ws : List Value), ws.length = ks.length → BindsTo s fd2 ⟨[], ks.zip ws⟩ (ps2.zip (pick ix ws))) (hc1 : clsOf X.K x1 = some f1) (hc2 : clsOf X.K x2 = some f2) (hi : DE X W ie fi) (ha : DK X W kws fk)
    (hg1 : Gl X x1 := by rfl) (hg2 : Gl X x2 := by rfl) (hd1 : (x1 == ("__debug__" : Str)) = false := by decide) (hd2 : (x2 == ("__debug__" : Str)) = false := by decide) (hs1 : starEach [.Name x1 q1, .Name x2 q2] X.env = (false, eval (.Name x1 q1) X.env) :: starEach [.Name x2 q2] X.env := by rfl) (hs2 : starEach [.Name x2 q2] X.env = (false, eval (.Name x2 q2) X.env) :: starEach [] X.env := by rfl)
    (hpx : PlainIx ie := by intro _ _; rfl) (hall : (backToKw pos (keywordEach kws X.env)).all (·.1.isSome) = true := by rfl) (hks : (backToKw pos (keywordEach kws X.env)).filterMap (·.1) = ks := by rfl) (hpl : ((backTo pos (starEach [] X.env)).any (·.1) || (backToKw pos (keywordEach kws X.env)).any (·.1.isNone)) = false := by rfl) :
    DE X W (.Call (.Subscript (.List [.Name x1 q1, .Name x2 q2] kl) ie pos2) [] kws pos) (eSel2 x1 x2 fi (fun zs => if zs.length = ks.length then chkL np F1 (pick ix zs) else M.bad) (fun zs => if zs.length = ks.length then chkL np F2 (pick ix zs) else M.bad) fk) := by
  refine ⟨fun pins s σ H Q I ⟨α, S, ρ, so, sl, h⟩ => ?_⟩
  show wpAny _ _ (do callWith pos (← eval (.Subscript (.List [.Name x1 q1, .Name x2 q2] kl) ie pos2) X.env) [] (backTo pos (starEach [] X.env)) (backToKw pos (keywordEach kws X.env))) _ _ _
  refine wpAny_bind (thn ((sel2_fn (kl := kl) (pos2 := pos2) (q1 := q1) (q2 := q2) hm1 hm2 hc1 hc2 hi hg1 hg2 hd1 hd2 hs1 hs2 hpx).run pins s σ H (fun v H1 => ∃ b : Bool, v = .ref (if b = true then f1 else f2) ∧ ∃ α1 S1, StoreOk X.K α1 S1 H1 ∧ Slots X.K W.j α1 H1 ρ σ ∧
    OD X.K α1 H1 ((fk ρ S1).bind fun zs => if b = true then (if zs.length = ks.length then chkL np F1 (pick ix zs) else M.bad) else (if zs.length = ks.length then chkL np F2 (pick ix zs) else M.bad)) (fun d α' _ H' => ∀ v, Rep X.K α' H' d v → Q v H') (EX X.K W σ)) I ⟨α, S, ρ, so, sl, (OD.bind (o := selM x1 x2 fi ρ S) h).imp (fun b α1 S1 H1 m1 h1 => ⟨b, rfl, α1, S1, m1.ok, sl.mv m1, h1⟩) fun _ _ _ _ _ q => q⟩) fun u s1 ⟨v, H1, I1, r1, b, ev, α1, S1, o1, sl1, h1⟩ => ?_)
  subst ev
  obtain rfl : u = Value.ref (if b = true then f1 else f2) := r1
  cases b with
  | true =>
    refine PySem.W.callWith_KW0 (h₀ := X.base) I.ok.mod.kin hk1 hall (thn (ha.run pos pins s1 σ H1 (fun vs H1 => vs.length = ks.length ∧ spD X.K np F1 (pick ix vs) H1 Q (WE W.w σ)) I1 ⟨α1, S1, ρ, o1, sl1, ?_⟩) fun us s2 ⟨vs, H2, I2, r, hl, q⟩ => ⟨I2.kIn, ?_⟩) hpl
    · refine (OD.bind (o := fk ρ S1) h1).imp (fun ds α2 S2 H2 m2 h2 vs rv => ?_) fun _ _ _ _ _ q => q
      by_cases z : ds.length = ks.length
      · simp only [if_pos z, if_true] at h2
        exact ⟨by rw [← rv.length, z], sp_of m2.ok (rv.pick ix) h2⟩
      · simp only [if_neg z, if_true] at h2; exact h2.elim
    · rw [hks]
      exact run_G (us' := []) G1 hr gd tk (hb1 s2 us (by rw [← r.length, hl])) I2 (Vals.pick r ix) q
  | false =>
    refine PySem.W.callWith_KW0 (h₀ := X.base) I.ok.mod.kin hk2 hall (thn (ha.run pos pins s1 σ H1 (fun vs H1 => vs.length = ks.length ∧ spD X.K np F2 (pick ix vs) H1 Q (WE W.w σ)) I1 ⟨α1, S1, ρ, o1, sl1, ?_⟩) fun us s2 ⟨vs, H2, I2, r, hl, q⟩ => ⟨I2.kIn, ?_⟩) hpl
    · refine (OD.bind (o := fk ρ S1) h1).imp (fun ds α2 S2 H2 m2 h2 vs rv => ?_) fun _ _ _ _ _ q => q
      by_cases z : ds.length = ks.length
      · simp only [if_pos z, Bool.false_eq_true, if_false] at h2
        exact ⟨by rw [← rv.length, z], sp_of m2.ok (rv.pick ix) h2⟩
      · simp only [if_neg z, Bool.false_eq_true, if_false] at h2; exact h2.elim
    · rw [hks]
      exact run_G (us' := []) G2 hr gd tk (hb2 s2 us (by rw [← r.length, hl])) I2 (Vals.pick r ix) q
end
/-! ### within an except suite -/
theorem gd_suite {X : Cx} {a : Addr} {pn : List (Addr × Obj)} (gd : X.A.guards = some []) : (X.suite a pn).A.guards = some [] := gd
theorem un_suite {X : Cx} {a : Addr} {pn : List (Addr × Obj)} {n : Nat} (h : X.A.units + n < cLine) : (X.suite a pn).A.units + n < cLine := h
end DL

/-! DLn: what DLk's readings come to. -/
namespace DL
open PySem PySem.Spec PyProof.Rows L2 PySem.W
open Classical
abbrev xc_T : List V → Prop := fun _ => True
abbrev xp_T : List PV → Prop := fun _ => True
theorem xh_T {K : PySem.W.Frag} : ∀ α H ds vs, Reps K α H ds vs → xp_T ds → xc_T vs := fun _ _ _ _ _ _ => trivial
section
variable {S : Store} {Q : PV → Store → Prop} {QX : Exn → Store → Prop} {QS : Fl × PEnv → Store → Prop} {E : Exn → Store → Prop} {n i : Nat} {ρ : PEnv} {fm : PEnv → M Exn} {fa : PEnv → M (List PV)} {fi : PEnv → M PV} {cn x1 x2 f : Str} {fs : List Str} {cp : List PV → Prop} {g : SD} {h : Nat → SD} {m : Str → Option Bool} {g1 g2 : List PV → M PV}
theorem wv_mkX : wpx (eMkX cn fs cp fa ρ) S QX E ↔ wpx (fa ρ) S (fun ds S1 => (ds.length = fs.length ∧ ds.length ≤ 900 ∧ cp ds) ∧ QX ⟨cn, (fs.zip ds).reverse⟩ S1) E := by
  unfold eMkX
  rw [wpx_bind]
  constructor
  · intro z
    refine wpx_imp z fun ds S1 q => ?_
    have q := wpx_ite.mp q
    by_cases c : ds.length = fs.length ∧ ds.length ≤ 900 ∧ cp ds
    · rw [if_pos c] at q; exact ⟨c, q⟩
    · rw [if_neg c] at q; exact q.elim
  · intro z
    refine wpx_imp z fun ds S1 ⟨c, q⟩ => wpx_ite.mpr ?_
    rw [if_pos c]; exact q
theorem ws_raise : wps (sRaise fm ρ) S QS ↔ wpx (fm ρ) S (fun c S' => QS (.ex c, ρ) S') (fun c S' => QS (.ex c, ρ) S') := wps_lift
theorem wps_tryAs (z : wps (g ρ) S fun r S1 => match r.1 with
    | .ex c => (m c.cls = some true ∧ wps (h S1.length (r.2.set i (some (.cell S1.length)))) (S1 ++ [.obj, .xdc c.fs]) fun r2 S2 => match r2.1 with
      | .ex _ => False
      | _ => QS (r2.1, r2.2.set i none) S2) ∨ (m c.cls = some false ∧ QS r S1)
    | _ => QS r S1) : wps (sTryAs i m g h ρ) S QS := by
  unfold wps wpx at z ⊢
  unfold sTryAs
  cases e : g ρ S with
  | bad => rw [e] at z; exact z
  | ex c S1 => rw [e] at z; exact z
  | ok r S1 =>
    rw [e] at z
    obtain ⟨fl, ρ1⟩ := r
    cases fl with
    | nx => exact z
    | bk => exact z
    | ct => exact z
    | rt d => exact z
    | ex c =>
      simp only at z ⊢
      rcases z with ⟨hm, z⟩ | ⟨hm, z⟩
      · rw [hm]
        simp only
        cases e2 : h S1.length (ρ1.set i (some (.cell S1.length))) (S1 ++ [.obj, .xdc c.fs]) with
        | bad => rw [e2] at z; exact z
        | ex c2 S2 => rw [e2] at z; exact z
        | ok r2 S2 =>
          rw [e2] at z
          obtain ⟨fl2, ρ2⟩ := r2
          cases fl2 <;> exact z
      · rw [hm]; exact z
theorem vv_xf {fs : List (Str × PV)} (hc : S[n + 1]? = some (.xdc fs)) : wpx (xfV n f (.cell n)) S Q E ↔ ∃ d, fs.lookup f = some d ∧ Q d S := by
  show wpx (if n = n then _ else _) S Q E ↔ _
  rw [wpx_ite, if_pos rfl, wpx_getC]
  constructor
  · rintro ⟨c, h1, h2⟩
    rw [hc] at h1
    cases h1
    exact wpx_optM.mp h2
  · intro q
    exact ⟨_, hc, wpx_optM.mpr q⟩
theorem wv_sel2 : wpx (eSel2 x1 x2 fi g1 g2 fa ρ) S Q E ↔ wpx (fi ρ) (S ++ [.fns [x1, x2]]) (fun d S1 => wpx (selK S.length x1 x2 d) S1 (fun b S2 => wpx (fa ρ) S2 (fun xs S3 => if b = true then wpx (g1 xs) S3 Q E else wpx (g2 xs) S3 Q E) E) E) E := by
  unfold eSel2
  rw [wpx_bind]
  have e : ∀ {R : Bool → Store → Prop}, wpx (selM x1 x2 fi ρ) S R E ↔ wpx (fi ρ) (S ++ [.fns [x1, x2]]) (fun d S1 => wpx (selK S.length x1 x2 d) S1 R E) E := fun {R} => by
    have z : wpx (selM x1 x2 fi ρ) S R E ↔ wpx (M.bind (fi ρ) (selK S.length x1 x2)) (S ++ [.fns [x1, x2]]) R E := Iff.rfl
    rw [z, wpx_bind]
  rw [e]
  have e2 : ∀ {b : Bool} {S2 : Store}, wpx ((fa ρ).bind fun xs => if b = true then g1 xs else g2 xs) S2 Q E ↔ wpx (fa ρ) S2 (fun xs S3 => if b = true then wpx (g1 xs) S3 Q E else wpx (g2 xs) S3 Q E) E := fun {b S2} => by
    rw [wpx_bind]
    cases b <;> simp
  simp only [e2]
theorem vv_selK0 {QB : Bool → Store → Prop} (hc : S[n]? = some (.fns [x1, x2])) : wpx (selK n x1 x2 (.int 0)) S QB E ↔ QB true S := by
  unfold selK
  rw [wpx_getC]
  constructor
  · rintro ⟨c, h1, h2⟩
    rw [hc] at h1
    cases h1
    have h3 := wpx_ite.mp h2
    rw [if_pos rfl] at h3
    exact h3
  · intro q
    refine ⟨_, hc, wpx_ite.mpr ?_⟩
    rw [if_pos rfl]
    exact q
theorem vv_selK1 {QB : Bool → Store → Prop} (hc : S[n]? = some (.fns [x1, x2])) : wpx (selK n x1 x2 (.int 1)) S QB E ↔ QB false S := by
  unfold selK
  rw [wpx_getC]
  constructor
  · rintro ⟨c, h1, h2⟩
    rw [hc] at h1
    cases h1
    have h3 := wpx_ite.mp h2
    rw [if_pos rfl] at h3
    exact h3
  · intro q
    refine ⟨_, hc, wpx_ite.mpr ?_⟩
    rw [if_pos rfl]
    exact q
end
end DL

/-! DLq: values that can be shown, whatever is written elsewhere. -/
namespace DL
open PySem PySem.Spec PyProof.Rows L2 PySem.W
open Classical
/-- data that are short when shown: their weight, their depth -/
structure Sg (w k : Nat) (d : PyData) : Prop where
  lay : d.canLay0 = true
  shrt : d.intsShort 30 = true
  can : d.showable = true
  wt : d.weight ≤ w
  dp : d.depth ≤ k
theorem Sg.ok {w k : Nat} {d : PyData} (h : Sg w k d) (hw : w ≤ 400000) (hk : k ≤ 64) : ShowOk d := by
  refine ⟨h.lay, h.can, Nat.le_trans h.dp hk, ?_⟩
  have z := PyData.shown_le 30 (by decide) d (PyData.leavesShort_of_canLay0 30 d h.lay h.shrt)
  have := h.wt
  rw [sizeLine_eq]
  omega
theorem Sg.mono {w k w' k' : Nat} {d : PyData} (h : Sg w k d) (hw : w ≤ w') (hk : k ≤ k') : Sg w' k' d := ⟨h.lay, h.shrt, h.can, Nat.le_trans h.wt hw, Nat.le_trans h.dp hk⟩
theorem sg_non : Sg 0 0 .none := ⟨rfl, rfl, rfl, Nat.le_refl _, Nat.le_refl _⟩
theorem sg_bl {b : Bool} : Sg 0 0 (.bool b) := ⟨rfl, rfl, rfl, Nat.le_refl _, Nat.le_refl _⟩
theorem sg_int {i : Int} (h : i.natAbs < 10 ^ 24) : Sg 80 0 (.int i) := by
  have hl : i.natAbs.log2 < 80 := by
    by_cases z : i.natAbs = 0
    · rw [z]; decide
    · rw [Nat.log2_lt z]; exact Nat.lt_trans h (by decide)
  refine ⟨rfl, ?_, ?_, ?_, Nat.le_refl _⟩
  · simp only [PyData.intsShort, decide_eq_true_eq]
    show (Str.ofString (toString i)).length ≤ 30
    rw [PySem.ofString_length]
    exact Nat.le_trans (int_text_length_le10 (k := 24) (by decide) h) (by decide)
  · simp only [PyData.showable, decide_eq_true_eq]; omega
  · simp only [PyData.weight]
    split <;> omega
theorem sg_str {x : Str} {w : Nat} (h : PyData.strOk x = true) (hw : x.length ≤ w) : Sg w 0 (.str x) := ⟨h, rfl, rfl, hw, Nat.le_refl _⟩
theorem sg_all {w k : Nat} : ∀ {xs : List PyData}, (∀ x ∈ xs, Sg w k x) → PyData.canLayAll0 xs = true ∧ PyData.intsShortAll 30 xs = true ∧ PyData.showableAll xs = true ∧ PyData.weightAll xs ≤ xs.length * (w + 1) ∧ PyData.depthAll xs ≤ k
  | [], _ => ⟨rfl, rfl, rfl, Nat.zero_le _, Nat.zero_le _⟩
  | x :: xs, h => by
    obtain ⟨h1, h2, h3, h4, h5⟩ := sg_all fun y hy => h y (List.mem_cons_of_mem _ hy)
    have q := h x List.mem_cons_self
    refine ⟨?_, ?_, ?_, ?_, ?_⟩
    · rw [PyData.canLayAll0, q.lay, h1]; rfl
    · rw [PyData.intsShortAll, q.shrt, h2]; rfl
    · rw [PyData.showableAll, q.can, h3]; rfl
    · rw [PyData.weightAll, List.length_cons, Nat.add_mul]
      have := q.wt
      omega
    · rw [PyData.depthAll]
      have := q.dp
      omega
theorem sg_tup {w k n : Nat} {xs : List PyData} (h : ∀ x ∈ xs, Sg w k x) (hn : xs.length ≤ n) : Sg (n * (w + 1)) (k + 1) (.tuple xs) := by
  obtain ⟨h1, h2, h3, h4, h5⟩ := sg_all h
  refine ⟨by rw [PyData.canLay0]; exact h1, by rw [PyData.intsShort]; exact h2, by rw [PyData.showable]; exact h3, ?_, ?_⟩
  · rw [PyData.weight]
    exact Nat.le_trans h4 (Nat.mul_le_mul_right _ hn)
  · rw [PyData.depth]; omega
theorem sg_lst {w k n : Nat} {xs : List PyData} (h : ∀ x ∈ xs, Sg w k x) (hn : xs.length ≤ n) : Sg (n * (w + 1)) (k + 1) (.list xs) := by
  obtain ⟨h1, h2, h3, h4, h5⟩ := sg_all h
  refine ⟨by rw [PyData.canLay0]; exact h1, by rw [PyData.intsShort]; exact h2, by rw [PyData.showable]; exact h3, ?_, ?_⟩
  · rw [PyData.weight]
    exact Nat.le_trans h4 (Nat.mul_le_mul_right _ hn)
  · rw [PyData.depth]; omega
/-- what stood stands, but the cell 2 -/
def Keep (S S' : Store) : Prop := ∀ n c, n ≠ 2 → S[n]? = some c → S'[n]? = some c
theorem Keep.refl (S : Store) : Keep S S := fun _ _ _ h => h
theorem Keep.trans {S S1 S2 : Store} (a : Keep S S1) (b : Keep S1 S2) : Keep S S2 := fun n c h e => b n c h (a n c h e)
/-- x is read as d now and later -/
def Rp (S : Store) (k : Nat) (x : PV) (d : PyData) : Prop := ∀ S', Keep S S' → ∀ m, k < m → toD S' m x = some d
theorem Rp.later {S S' : Store} {k : Nat} {x : PV} {d : PyData} (r : Rp S k x d) (h : Keep S S') : Rp S' k x d := fun S'' h' m hm => r S'' (h.trans h') m hm
theorem Rp.now {S : Store} {k : Nat} {x : PV} {d : PyData} (r : Rp S k x d) {m : Nat} (h : k < m) : toD S m x = some d := r S (.refl S) m h
theorem mapO_rp {S' : Store} {m : Nat} {P : PyData → Prop} : ∀ {xs : List PV}, (∀ x ∈ xs, ∃ d, toD S' m x = some d ∧ P d) → ∃ ds, mapO (toD S' m) xs = some ds ∧ (∀ d ∈ ds, P d) ∧ ds.length = xs.length
  | [], _ => ⟨[], rfl, by simp, rfl⟩
  | x :: xs, h => by
    obtain ⟨d, h1, h2⟩ := h x List.mem_cons_self
    obtain ⟨ds, h3, h4, h5⟩ := mapO_rp fun y hy => h y (List.mem_cons_of_mem _ hy)
    refine ⟨d :: ds, by rw [mapO, h1]; simp only [h3, Option.map_some], fun e he => ?_, by simp [h5]⟩
    rcases List.mem_cons.mp he with rfl | he
    · exact h2
    · exact h4 e he
/-- a value that is shown alike now and later -/
def Sh (S : Store) (w k : Nat) (x : PV) : Prop := ∃ d, Rp S k x d ∧ Sg w k d
theorem Sh.later {S S' : Store} {w k : Nat} {x : PV} (s : Sh S w k x) (h : Keep S S') : Sh S' w k x := let ⟨d, r, g⟩ := s; ⟨d, r.later h, g⟩
theorem Sh.mono {S : Store} {w k w' k' : Nat} {x : PV} (s : Sh S w k x) (hw : w ≤ w') (hk : k ≤ k') : Sh S w' k' x := let ⟨d, r, g⟩ := s; ⟨d, fun S' h m hm => r S' h m (by omega), g.mono hw hk⟩
section
variable {S : Store} {w k n : Nat} {xs : List PV}
theorem toD_succ {S' : Store} {m : Nat} (h : 0 < m) : ∃ j, m = j + 1 := ⟨m - 1, by omega⟩
theorem sh_non : Sh S 0 0 .non := ⟨_, fun S' _ m h => by obtain ⟨j, rfl⟩ := toD_succ (S' := S') h; rfl, sg_non⟩
theorem sh_bl {b : Bool} : Sh S 0 0 (.bl b) := ⟨_, fun S' _ m h => by obtain ⟨j, rfl⟩ := toD_succ (S' := S') h; rfl, sg_bl⟩
theorem sh_int {i : Int} (hi : i.natAbs < 10 ^ 24) : Sh S 80 0 (.int i) := ⟨_, fun S' _ m h => by obtain ⟨j, rfl⟩ := toD_succ (S' := S') h; rfl, sg_int hi⟩
theorem sh_str {x : Str} (h : PyData.strOk x = true) (hw : x.length ≤ w) : Sh S w 0 (.str x) := ⟨_, fun S' _ m h => by obtain ⟨j, rfl⟩ := toD_succ (S' := S') h; rfl, sg_str h hw⟩
theorem rps {xs : List PV} (h : ∀ x ∈ xs, Sh S w k x) : ∃ ds : List PyData, (∀ S', Keep S S' → ∀ m, k < m → mapO (toD S' m) xs = some ds) ∧ (∀ d ∈ ds, Sg w k d) ∧ ds.length = xs.length := by
  induction xs with
  | nil => exact ⟨[], fun _ _ _ _ => rfl, by simp, rfl⟩
  | cons x xs ih =>
    obtain ⟨ds, h1, h2, h3⟩ := ih fun y hy => h y (List.mem_cons_of_mem _ hy)
    obtain ⟨d, r, g⟩ := h x List.mem_cons_self
    refine ⟨d :: ds, fun S' hS m hm => ?_, fun e he => ?_, by simp [h3]⟩
    · rw [mapO, r S' hS m hm]; simp only [h1 S' hS m hm, Option.map_some]
    · rcases List.mem_cons.mp he with rfl | he
      · exact g
      · exact h2 e he
theorem sh_tup (h : ∀ x ∈ xs, Sh S w k x) (hn : xs.length ≤ n) : Sh S (n * (w + 1)) (k + 1) (.tup xs) := by
  obtain ⟨ds, h1, h2, h3⟩ := rps h
  refine ⟨.tuple ds, fun S' hS m hm => ?_, sg_tup h2 (by omega)⟩
  obtain ⟨j, rfl⟩ := toD_succ (S' := S') (m := m) (by omega)
  show (mapO (toD S' j) xs).map PyData.tuple = _
  rw [h1 S' hS j (by omega)]; rfl
theorem sh_cell {c : Nat} (hc : S[c]? = some (.lst xs)) (h2c : c ≠ 2) (h : ∀ x ∈ xs, Sh S w k x) (hn : xs.length ≤ n) : Sh S (n * (w + 1)) (k + 1) (.cell c) := by
  obtain ⟨ds, h1, h2, h3⟩ := rps h
  refine ⟨.list ds, fun S' hS m hm => ?_, sg_lst h2 (by omega)⟩
  obtain ⟨j, rfl⟩ := toD_succ (S' := S') (m := m) (by omega)
  show (S'[c]?.bind Cell.items?).bind (fun ys => (mapO (toD S' j) ys).map PyData.list) = _
  rw [hS c _ h2c hc]
  show (mapO (toD S' j) xs).map PyData.list = _
  rw [h1 S' hS j (by omega)]; rfl
/-- shown: now, and later the same text -/
theorem Sh.repr {x : PV} (s : Sh S w k x) (hw : w ≤ 400000) (hk : k ≤ 63) : ∃ t : Str, ∀ S', Keep S S' → ∀ (Q : PV → Store → Prop) (E : Exn → Store → Prop), wpx (reprF [x]) S' Q E ↔ Q (.str t) S' := by
  obtain ⟨d, r, g⟩ := s
  exact ⟨d.shown, fun S' h Q E => vv_repr (r S' h 64 (by omega)) (g.ok hw (by omega))⟩
end
/-! texts of ints put together -/
theorem strOk_of {s : String} : PyData.strOk (Str.ofString s) = true := by
  unfold PyData.strOk
  rw [Str.ofString_eq_toList]
  rw [Array.all_eq_true_iff_forall_mem]
  intro c hc
  simp only [List.mem_toArray, List.mem_map] at hc
  obtain ⟨ch, _, rfl⟩ := hc
  have h := ch.valid
  simp only [decide_eq_true_eq]
  show ch.val.toNat < _
  rcases h with h | ⟨_, h⟩
  · have : ch.val.toNat < 0xd800 := h
    omega
  · have : ch.val.toNat < 0x110000 := h
    omega
theorem strOk_app {a b : Str} (ha : PyData.strOk a = true) (hb : PyData.strOk b = true) : PyData.strOk (a ++ b) = true := by
  unfold PyData.strOk at *
  show (a.cps ++ b.cps).all _ = true
  rw [Array.all_append, ha, hb]; rfl
theorem strOk_join {sep : Str} (h0 : PyData.strOk sep = true) : ∀ {ts : List Str}, (∀ t ∈ ts, PyData.strOk t = true) → PyData.strOk (Str.join sep ts) = true
  | [], _ => by rw [Str.join]; decide +kernel
  | [x], h => h x List.mem_cons_self
  | x :: y :: r, h => strOk_app (strOk_app (h x List.mem_cons_self) h0) (strOk_join h0 fun t ht => h t (List.mem_cons_of_mem _ ht))
theorem join_eq (sep : Str) (ts : List Str) : Txt.join sep ts = Str.join sep ts := StrLaws.glued_eq_join sep ts
end DL
namespace DL
open PySem PySem.Spec PyProof.Rows L2 PySem.W
theorem clsOf_of {K : PySem.W.Frag} {C : Str} {a : Addr} (h : PySem.W.nsIn K mainGlobals C = some (some (.ref a))) : clsOf K C = some a := by
  unfold clsOf
  rw [h]
end DL

/-! DLu: min of lists of tuples of ints, with a default too. -/
namespace DL
open PySem PySem.Spec PyProof.Rows L2 PySem.W
open Classical
def intO : PV → Option Int
  | .int i => some i
  | _ => none
def intsO : PV → Option (List Int)
  | .tup xs => mapO intO xs
  | _ => none
def toT (ns : List Int) : PyData := .tuple (ns.map PyData.int)
/-- the first of the least -/
def minL (y : List Int) (ys : List (List Int)) : List Int := (minOf (Tup.mk y) (ys.map Tup.mk)).items
theorem intO_all : ∀ {xs : List PV} {ns : List Int}, mapO intO xs = some ns → xs = ns.map PV.int
  | [], _, h => by cases h; rfl
  | x :: xs, _, h => by
    unfold mapO at h
    cases x with
    | int i =>
      simp only [intO] at h
      cases q : mapO intO xs with
      | none => rw [q] at h; cases h
      | some ms => rw [q] at h; cases h; rw [intO_all q]; rfl
    | _ => cases h
theorem intsO_is {x : PV} {ns : List Int} (h : intsO x = some ns) : x = .tup (ns.map PV.int) := by
  cases x with
  | tup xs => rw [intO_all (xs := xs) h]
  | _ => cases h
theorem intsO_all : ∀ {xs : List PV} {ls : List (List Int)}, mapO intsO xs = some ls → xs = ls.map fun ns => PV.tup (ns.map PV.int)
  | [], _, h => by cases h; rfl
  | x :: xs, _, h => by
    unfold mapO at h
    cases q0 : intsO x with
    | none => rw [q0] at h; cases h
    | some ns =>
      rw [q0] at h
      simp only at h
      cases q : mapO intsO xs with
      | none => rw [q] at h; cases h
      | some ms => rw [q] at h; cases h; rw [intsO_all q, intsO_is q0]; rfl
theorem intO_map (ns : List Int) : mapO intO (ns.map PV.int) = some ns := by
  induction ns with
  | nil => rfl
  | cons n ns ih => rw [List.map_cons, mapO]; simp only [intO, ih, Option.map_some]
theorem intsO_map (ls : List (List Int)) : mapO intsO (ls.map fun ns => PV.tup (ns.map PV.int)) = some ls := by
  induction ls with
  | nil => rfl
  | cons n ls ih =>
    rw [List.map_cons, mapO]
    simp only [intsO, intO_map, ih, Option.map_some]
section
variable {K : PySem.W.Frag} {α : List Addr} {H : Hp}
theorem ints_dp : ∀ {ns : List Int} {vs : List V}, Reps K α H (ns.map PV.int) vs → DpAll K H vs (ns.map PyData.int)
  | [], _, h => by cases h; exact .nil
  | n :: ns, _, h => by
    cases h with
    | cons a t => cases a; exact .cons (.int n) (ints_dp t)
theorem tups_dp : ∀ {ls : List (List Int)} {vs : List V}, Reps K α H (ls.map fun ns => PV.tup (ns.map PV.int)) vs → DpAll K H vs (ls.map toT)
  | [], _, h => by cases h; exact .nil
  | l :: ls, _, h => by
    cases h with
    | cons a t =>
      cases a with
      | tup hs hr => exact .cons (.tup hs.sq (ints_dp hr)) (tups_dp t)
end
theorem toT_inj {a b : List Int} (h : toT a = toT b) : a = b := by
  unfold toT at h
  injection h with h
  induction a generalizing b with
  | nil => cases b with
    | nil => rfl
    | cons y ys => cases h
  | cons x xs ih => cases b with
    | nil => cases h
    | cons y ys =>
      rw [List.map_cons, List.map_cons] at h
      injection h with h1 h2
      injection h1 with h1
      rw [h1, ih h2]
theorem minD_toT (y : List Int) (ys : List (List Int)) : minD (toT y) (ys.map toT) = toT (minL y ys) := by
  have h := minD_map (Tup.mk y) (ys.map Tup.mk)
  rw [List.map_map] at h
  exact h
theorem depth_toT (ls : List (List Int)) : PyData.depthAll (ls.map toT) ≤ 1 := by
  induction ls with
  | nil => exact Nat.zero_le _
  | cons l ls ih =>
    rw [List.map_cons, PyData.depthAll]
    have : (toT l).depth ≤ 1 := Datum.depth_le (Tup.mk l)
    omega
theorem alike_toT (ls : List (List Int)) : AlikeAll (ls.map toT) := by
  have h := alikeAll_datum (ls.map Tup.mk)
  rw [List.map_map] at h
  exact h
theorem lay_toT (l : List Int) : (toT l).canLay0 = true := PVal.lay (Tup.mk l)
section
variable {X : Cx}
/-- what min finds: some item that is the least -/
def rMinT (K : PySem.W.Frag) : List V → Hp → VK → Prop := fun vs H Q => ∃ (a : Addr) (ws : List V) (y : List Int) (ys : List (List Int)), vs = [.ref a] ∧ SqL K H a ws ∧ DpAll K H ws ((y :: ys).map toT) ∧ ∀ (i : Nat) v, ws[i]? = some v → (y :: ys)[i]? = some (minL y ys) → Q v H
theorem min_ix {pins : List (Addr × Obj)} {s : Shared} {σ : L2.St} {H : Hp} {h' : Heap} {ws : List V} {us : List Value} {y : List Int} {ys : List (List Int)} {i : Nat} {v : Value} {bs : List Addr} (I : Inv X pins σ H s) (rv : Vals ws us) (hd : DpAll X.K H ws ((y :: ys).map toT))
    (hi : us[i]? = some v) (r : Reads h' v (minD (toT y) (ys.map toT)) bs) (hk : ∀ b o, s.heap.get? b = some o → h'.get? b = some o) : ∃ x, ws[i]? = some x ∧ RelV x v ∧ (y :: ys)[i]? = some (minL y ys) := by
  obtain ⟨as, rs⟩ := Dp.readsAll I _ _ _ hd rv
  obtain ⟨cs, r2, hlt2, _, _⟩ := readsAll_at rs i v hi
  have hlt : i < us.length := (List.getElem?_eq_some_iff.mp hi).1
  have hw : i < ws.length := by rw [rv.length]; exact hlt
  have hy : i < (y :: ys).length := by
    rw [List.length_map] at hlt2
    exact hlt2
  have e : ((y :: ys).map toT).getD i .none = toT (y :: ys)[i] := by
    rw [List.getD_eq_getElem?_getD, List.getElem?_map, List.getElem?_eq_getElem hy]; rfl
  rw [e] at r2
  have r3 : ∃ ds, Reads h' v (toT (y :: ys)[i]) ds := ⟨_, Reads.keeps hk r2⟩
  obtain ⟨ds, r4⟩ := r3
  have q := (Reads.unique r4 _ _ r).1
  rw [minD_toT] at q
  obtain ⟨x, hx, rx⟩ : ∃ x, ws[i]? = some x ∧ RelV x v := by
    obtain ⟨u, hu, ru⟩ := rv.get (i := i) (x := ws[i]) (List.getElem?_eq_getElem hw)
    rw [hi] at hu
    cases hu
    exact ⟨_, List.getElem?_eq_getElem hw, ru⟩
  exact ⟨x, hx, rx, by rw [List.getElem?_eq_getElem hy, toT_inj q]⟩
theorem cr_minT (hc : X.calm = true) (hu : X.A.units + 64 < cLine) : CallR X (.builtin "min") (rMinT X.K) := by
  intro pins s σ H vs us Q I r h
  obtain ⟨a, ws, y, ys, rfl, hs, hd, q⟩ := h
  obtain ⟨its, rv, hl, _⟩ := I.list hs
  rw [Vals.ref1 r]
  obtain ⟨as, rs⟩ := Dp.readsAll I _ _ _ hd rv
  refine min_list_data (I.ok.hd hc) hl.isList rs (alike_toT (y :: ys)) (by have := depth_toT (y :: ys); rw [List.map_cons] at this; omega) fun i v h' tk bs hi r hk => ?_
  obtain ⟨x, hx, rx, hy⟩ := min_ix I rv hd (by simpa using hi) r hk
  exact ⟨x, H, I.kept hk, rx, q i x hx hy⟩
end
def minTF : List PV → M PV
  | [x] => itemsM x fun xs => match mapO intsO xs with
    | some (y :: ys) => M.ret (.tup ((minL y ys).map PV.int))
    | _ => M.bad
  | _ => M.bad
/-- a cell's items -/
theorem itemsL_od {β : Type} {K : PySem.W.Frag} {α : List Addr} {H : Hp} {S : Store} {R : β → List Addr → Store → Hp → Prop} {E : Exn → List Addr → Store → Hp → Prop} {x : PV} {v : V} {k : List PV → M β} (o : StoreOk K α S H) (r : Rep K α H x v) (hx : ∀ xs, x ≠ .tup xs) (h : OD K α H (itemsM x k S) R E) :
    ∃ a xs vs, v = .ref a ∧ SqL K H a vs ∧ Reps K α H xs vs ∧ OD K α H (k xs S) R E := by
  obtain ⟨a, xs, vs, e, hq, hr, h, hh⟩ := itemsM_od o r h
  rcases hh with ⟨e2, _⟩ | ⟨n, c, _, _, _, _, hl⟩
  · exact absurd e2 (hx _)
  · exact ⟨a, xs, vs, e, hl, hr, h⟩
def lstOnly {β : Type} (m : M β) : PV → M β
  | .cell _ => m
  | _ => M.bad
def minT1 : List PV → M PV
  | [x] => lstOnly (minTF [x]) x
  | _ => M.bad
section
variable {K : PySem.W.Frag}
theorem pick_min {α : List Addr} {H : Hp} {y : List Int} {ys : List (List Int)} {vs : List V} {i : Nat} {v : V} (hr : Reps K α H ((y :: ys).map fun ns => PV.tup (ns.map PV.int)) vs) (hi : vs[i]? = some v) (hy : (y :: ys)[i]? = some (minL y ys)) : Rep K α H (.tup ((minL y ys).map PV.int)) v := by
  obtain ⟨x, hx, rx⟩ := hr.get' hi
  rw [List.getElem?_map, hy] at hx
  cases hx
  exact rx
theorem den_minT : DenN K (rMinT K) minT1 := fun α S H xs vs Q E o r h => by
  cases r with
  | nil => exact h.elim
  | cons r1 r2 =>
    rename_i x v xr vr
    cases r2 with
    | cons _ _ => exact h.elim
    | nil =>
      cases x with
      | cell n =>
        obtain ⟨a, xs, ws, rfl, hl, hr, h⟩ := itemsL_od o r1 (fun _ e => by cases e) (show OD K α H (itemsM (.cell n) _ S) _ _ from h)
        cases q : mapO intsO xs with
        | none => simp only [q] at h; exact h.elim
        | some ls =>
          have e := intsO_all q
          subst e
          cases ls with
          | nil => simp only [q] at h; exact h.elim
          | cons y ys =>
            simp only [q] at h
            exact ⟨a, ws, y, ys, rfl, hl, tups_dp hr, fun i v hi hy => h α H (.refl o) v (pick_min hr hi hy)⟩
      | _ => exact h.elim
end
/-- min(e, default=d) -/
def eMinD (fe fd : PEnv → M PV) : PEnv → M PV := fun ρ => (fe ρ).bind fun x => (fd ρ).bind fun d => lstOnly (itemsM x fun xs => match mapO intsO xs with
  | some (y :: ys) => M.ret (.tup ((minL y ys).map PV.int))
  | some [] => M.ret d
  | none => M.bad) x
section
variable {X : Cx} {W : WJ} {e d : Expr} {fe fd : PEnv → M PV} {p kp pos : Pos}
theorem de_minD (hc : X.calm = true) (hu : X.A.units + 64 < cLine) (hm : X.mg "min" = none) (he : DE X W e fe) (hd : DE X W d fd) (hv : bootBuiltins "min" = some (.builtin "min")) (hg : Gl X "min" := by rfl)
    (h1 : backTo pos (starEach [e] X.env) = (false, eval e X.env) :: backTo pos (starEach [] X.env) := by rfl) (h2 : (backTo pos (starEach [e] X.env)).any (·.1) = false := by rfl)
    (h3 : (backToKw pos (keywordEach [⟨some "default", d, kp⟩] X.env)).all (·.1.isSome) = true := by rfl) (h4 : (backToKw pos (keywordEach [⟨some "default", d, kp⟩] X.env)).any (·.1.isNone) = false := by rfl)
    (h5 : (backToKw pos (keywordEach [⟨some "default", d, kp⟩] X.env)).filterMap (·.1) = [("default" : Str)] := by rfl) (h6 : starEach [e] X.env = (false, eval e X.env) :: starEach [] X.env := by rfl) :
    DE X W (.Call (.Name "min" p) [e] [⟨some "default", d, kp⟩] pos) (eMinD fe fd) := by
  refine ⟨fun pins s σ H Q I ⟨α, S, ρ, so, sl, h⟩ => ?_⟩
  refine wpAny_Call_Name_kw (ld_blt I hg hm hv ?_)
  have K1 : PK X [⟨some "default", d, kp⟩] (tCons (tD X.K W fd) tNil) := pk_cons hd pk_nil
  have A1 : PA X [e] (tCons (tD X.K W fe) tNil) := pa_cons he pa_nil h6
  let k : PV → PV → M PV := fun x d => lstOnly (itemsM x fun xs => match mapO intsO xs with
    | some (y :: ys) => M.ret (.tup ((minL y ys).map PV.int))
    | some [] => M.ret d
    | none => M.bad) x
  refine PyProof.Rows.callWith_kw (thn (A1.run pos pins s σ H (fun vs H1 => ∃ x v, vs = [v] ∧ ∃ α1 S1, StoreOk X.K α1 S1 H1 ∧ Slots X.K W.j α1 H1 ρ σ ∧ Rep X.K α1 H1 x v ∧ OD X.K α1 H1 ((fd ρ S1).bind fun d => k x d) (fun d α' _ H' => ∀ v, Rep X.K α' H' d v → Q v H') (EX X.K W σ)) I ?_) fun us s1 ⟨vs, H1, I1, r1, x, v, ev, α1, S1, o1, sl1, rx, h1⟩ => ?_) h1 h2 h3 h4
  · refine ⟨α, S, ρ, so, sl, (OD.bind (o := fe ρ S) h).imp (fun x α1 S1 H1 m1 h1 v rv => ?_) fun _ _ _ _ _ q => q⟩
    exact ⟨x, v, rfl, α1, S1, m1.ok, sl.mv m1, rv, h1⟩
  · subst ev
    refine thn (K1.run pos pins s1 σ H1 (fun ws H2 => ∃ w, ws = [w] ∧ ∃ d α2 S2, StoreOk X.K α2 S2 H2 ∧ Rep X.K α2 H2 x v ∧ Rep X.K α2 H2 d w ∧ OD X.K α2 H2 (k x d S2) (fun d α' _ H' => ∀ v, Rep X.K α' H' d v → Q v H') (EX X.K W σ)) I1 ?_) fun ks s2 ⟨ws, H2, I2, r2, w, ew, d, α2, S2, o2, rx2, rd, h2⟩ => ?_
    · refine ⟨α1, S1, ρ, o1, sl1, (OD.bind (o := fd ρ S1) h1).imp (fun d α2 S2 H2 m2 h2 w rw' => ?_) fun _ _ _ _ _ q => q⟩
      exact ⟨w, rfl, d, α2, S2, m2.ok, rx.mono m2.grow m2.le, rw', h2⟩
    · subst ew
      rw [h5]
      cases r1 with
      | @cons _ u0 _ ur ra rt =>
        cases rt
        cases r2 with
        | @cons _ w0 _ wr rb rt2 =>
          cases rt2
          cases x with
          | cell n =>
            obtain ⟨a, xs, vs, rfl, hl, hr, h6⟩ := itemsL_od o2 rx2 (fun _ e => by cases e) (show OD X.K α2 H2 (itemsM (.cell n) _ S2) _ _ from h2)
            obtain rfl : u0 = Value.ref a := ra
            obtain ⟨its, rv, hL, _⟩ := I2.list hl
            cases q : mapO intsO xs with
            | none => simp only [q] at h6; exact h6.elim
            | some ls =>
              have e := intsO_all q
              subst e
              obtain ⟨as, rs⟩ := Dp.readsAll I2 _ _ _ (tups_dp hr) rv
              show wpAny _ _ (call (.builtin "min") [.ref a] [(Str.ofString "default", w0)]) _ _ _
              refine min_list_default (I2.ok.hd hc) hL.isList rs (alike_toT ls) (by have := depth_toT ls; omega) (fun e h' tk hk => ?_) fun z zs i v h' tk bs e hi r hk => ?_
              · cases ls with
                | nil =>
                  simp only [q] at h6
                  exact ⟨w, H2, I2.kept hk, rb, h6 α2 H2 (.refl o2) w rd⟩
                | cons y ys => cases e
              · cases ls with
                | nil => cases e
                | cons y ys =>
                  simp only [q] at h6
                  rw [List.map_cons] at e
                  injection e with e1 e2
                  subst e1
                  subst e2
                  obtain ⟨x, hx, rx, hy⟩ := min_ix I2 rv (tups_dp hr) (by simpa using hi) r hk
                  exact ⟨x, H2, I2.kept hk, rx, h6 α2 H2 (.refl o2) x (pick_min hr hx hy)⟩
          | _ => exact h2.elim
end
section
variable {S : Store} {Q : PV → Store → Prop} {E : Exn → Store → Prop} {n : Nat} {c : Cell} {y : List Int} {ys : List (List Int)} {fe fd : PEnv → M PV} {ρ : PEnv} {d : PV}
def tupsP (ls : List (List Int)) : List PV := ls.map fun ns => PV.tup (ns.map PV.int)
theorem vv_minT (h : S[n]? = some c) (hi : c.items? = some (tupsP (y :: ys))) : wpx (minT1 [.cell n]) S Q E ↔ Q (.tup ((minL y ys).map PV.int)) S := by
  show wpx (itemsM (.cell n) fun xs => match mapO intsO xs with
    | some (y :: ys) => M.ret (.tup ((minL y ys).map PV.int))
    | _ => M.bad) S Q E ↔ _
  rw [vv_items_cell]
  constructor
  · rintro ⟨c', h1, zs, h2, h3⟩
    rw [h] at h1
    cases h1
    rw [hi] at h2
    cases h2
    simp only [tupsP, intsO_map] at h3
    exact h3
  · intro q
    refine ⟨c, h, _, hi, ?_⟩
    simp only [tupsP, intsO_map]
    exact q
theorem wv_minD : wpx (eMinD fe fd ρ) S Q E ↔ wpx (fe ρ) S (fun x S1 => wpx (fd ρ) S1 (fun d S2 => wpx (lstOnly (itemsM x fun xs => match mapO intsO xs with
  | some (y :: ys) => M.ret (.tup ((minL y ys).map PV.int))
  | some [] => M.ret d
  | none => M.bad) x) S2 Q E) E) E := by
  unfold eMinD
  rw [wpx_bind]
  simp only [wpx_bind]
theorem vv_minD (h : S[n]? = some c) {ls : List (List Int)} (hi : c.items? = some (tupsP ls)) (q0 : ls = [] → Q d S) (q1 : ∀ y ys, ls = y :: ys → Q (.tup ((minL y ys).map PV.int)) S) : wpx (lstOnly (itemsM (.cell n) fun xs => match mapO intsO xs with
  | some (y :: ys) => M.ret (.tup ((minL y ys).map PV.int))
  | some [] => M.ret d
  | none => M.bad) (.cell n)) S Q E := by
  show wpx (itemsM (.cell n) _) S Q E
  rw [vv_items_cell]
  refine ⟨c, h, _, hi, ?_⟩
  simp only [tupsP, intsO_map]
  cases ls with
  | nil => exact q0 rfl
  | cons y ys => exact q1 y ys rfl
end
end DL

/-! DLg: messages of exceptions that are f-strings of short texts and ints. -/
namespace DL
open PySem PySem.Spec PyProof.Rows L2 PySem.W
open Classical
/-- what may stand in a message -/
def MsgV (v : V) : Prop := (∃ z : Str, v = .str z ∧ z.length ≤ 1000) ∨ ∃ i : Int, v = .int i ∧ i.natAbs < 10 ^ 24
def MsgP (v : PV) : Prop := (∃ z : Str, v = .str z ∧ z.length ≤ 1000) ∨ ∃ i : Int, v = .int i ∧ i.natAbs < 10 ^ 24
abbrev xc_S : List V → Prop := fun vs => ∀ v ∈ vs, MsgV v
abbrev xp_S : List PV → Prop := fun ds => ∀ d ∈ ds, MsgP d
theorem xh_S {K : PySem.W.Frag} : ∀ α H ds vs, Reps K α H ds vs → xp_S ds → xc_S vs := by
  intro α H ds
  induction ds with
  | nil => intro vs r _ v hv; cases r; cases hv
  | cons d ds ih =>
    intro vs r p v hv
    cases r with
    | cons h r =>
      rcases List.mem_cons.mp hv with rfl | hv
      · rcases p d List.mem_cons_self with ⟨z, rfl, hz⟩ | ⟨i, rfl, hi⟩
        · cases h; exact .inl ⟨z, rfl, hz⟩
        · cases h; exact .inr ⟨i, rfl, hi⟩
      · exact ih _ r (fun d hd => p d (List.mem_cons_of_mem _ hd)) v hv
theorem js_nil {acc : Str} {σ : L2.St} {H : Hp} {Q : Str → Hp → Prop} (h : ∀ out, Q out H) : tJs [] acc σ H Q := h acc
theorem js_c {ts : List TE} {acc z : Str} {σ : L2.St} {H : Hp} {Q : Str → Hp → Prop} (n : Nat) (ha : acc.length ≤ n) (k : ∀ acc' : Str, acc'.length ≤ n + 5000 → tJs ts acc' σ H Q) (hn : n ≤ 100000 := by decide) (hz : z.length ≤ 5000 := by decide +kernel) : tJs (tC (.str z) :: ts) acc σ H Q := by
  have e : (acc ++ z).length ≤ n + 5000 := by have := PySem.Str.length_append acc z; omega
  exact ⟨z, rfl, by rw [sizeLine_eq]; omega, k _ e⟩
theorem js_v {ts : List TE} {acc : Str} {σ : L2.St} {H : Hp} {Q : Str → Hp → Prop} (n : Nat) (ha : acc.length ≤ n) {i : Nat} {v : V} (hv : σ[i]? = some (some v)) (m : MsgV v) (k : ∀ acc' : Str, acc'.length ≤ n + 5000 → tJs ts acc' σ H Q) (hn : n ≤ 100000 := by decide) : tJs (tFmt (tVar i) :: ts) acc σ H Q := by
  refine ⟨v, hv, ?_⟩
  rcases m with ⟨z, rfl, hz⟩ | ⟨j, rfl, hj⟩
  · have e : (acc ++ z).length ≤ n + 5000 := by have := PySem.Str.length_append acc z; omega
    exact .inl ⟨z, rfl, by rw [sizeLine_eq]; omega, z, rfl, by rw [sizeLine_eq]; omega, k _ e⟩
  · have hl : j.natAbs.log2 < 1920 := by
      by_cases z : j.natAbs = 0
      · rw [z]; decide
      · rw [Nat.log2_lt z]; exact Nat.lt_trans hj (by decide)
    have ht : (Str.ofString (toString j)).length ≤ 30 := by
      rw [PySem.ofString_length]
      exact Nat.le_trans (int_text_length_le10 (k := 24) (by decide) hj) (by decide)
    have e : (acc ++ Str.ofString (toString j)).length ≤ n + 5000 := by have := PySem.Str.length_append acc (Str.ofString (toString j)); omega
    exact .inr ⟨j, rfl, hl, _, rfl, by rw [sizeLine_eq]; omega, k _ e⟩
end DL

/-! DLh: a try with two clauses that name what they catch, by one name. -/
namespace DL
open PySem PySem.Spec PyProof.Rows L2 PySem.W
open Classical
section
variable {X : Cx} {x x2 n : Str} {c c2 : Value} {i : Nat} {body suite suite2 : List Stmt} {b₀ b₁ : Stmt} {np np2 pos pa pb : Pos} {tb : WX → TS} {ts ts2 : Addr → Value → Option Addr → TS} {Wout : WX}
theorem ps_try_as2 (hs : X.stack = X.env :: X.outer) (hf : X.env.frame = some X.env.locals) (hN : X.N.Nodup) (hi : X.N[i]? = some n) (hln : X.env.kindOf n = some .local) (hc : Names X x c) (hc2 : Names X x2 c2) (tk : Takes X Wout)
    (hb : ∀ (w : WX) (pn : List (Addr × Obj)) (xe : Value → Shared → Prop), Takes (X.tr pn xe) w → PassesOwn (model X.prog X.w) X.A X.env xe → PSs (X.tr pn xe) body (tb w))
    (h1 : ∀ (a : Addr) (oe : Obj) (cls : Value) (d : Option Addr) (pn : List (Addr × Obj)), Zc cls d oe → (∃ fs, oe.data = .fields fs) → PSs (X.suite a ((a, oe) :: pn)) (b₀ :: suite) (ts a cls d))
    (h2 : ∀ (a : Addr) (oe : Obj) (cls : Value) (d : Option Addr) (pn : List (Addr × Obj)), Zc cls d oe → (∃ fs, oe.data = .fields fs) → PSs (X.suite a ((a, oe) :: pn)) (b₁ :: suite2) (ts2 a cls d)) :
    PS X (.Try body [.ExceptHandler (some (.Name x np)) (some n) (b₀ :: suite) pa, .ExceptHandler (some (.Name x2 np2)) (some n) (b₁ :: suite2) pb] [] [] pos) (fun D σ H => tb (wAs X.K c i ts (wAs X.K c2 i ts2 Wout D) D) D σ H) := by
  refine ⟨fun pins s σ H D I h => wpAny_Try_except ?_⟩
  have okX := I.ok
  have frs0 : X.A.frames = some (X.env :: X.outer) := okX.frames.trans (congrArg some hs)
  refine wpAny_mono ((hb (wAs X.K c i ts (wAs X.K c2 i ts2 Wout D) D) (X.pn ++ pins) _ (fun u s' xx => ?_) PassesOwn.looking).run [] s σ H D (I.toTry _) h) (fun fl s1 sp => ?_) (fun _ _ z => z)
  · obtain ⟨a, B, s0, pins0, σ1, H1, cls, d, rfl, jTry, nb, up, sky, na, os, ag, t1, q1, yes1, no1⟩ := xx
    have jOld : Inv X pins σ1 H1 s0 := jTry.ofTry okX
    show wpAny (model X.prog X.w) X.A (noteFrame (.ref a) X.env) _ _ _
    refine Sky.land Zc.steady frs0 hf (hs ▸ sky) fun g3 flies upB => ?_
    have upA := up
    have j3 : Inv X pins σ1 H1 { s' with heap := g3 } := jOld.landed nb flies.1 (upA.trans upB) os ag
    obtain ⟨o3, f3, at3, zc3, dt3⟩ := flies.there
    have notFr : a ∉ frs (X.env :: X.outer) := fun hm => by
      obtain ⟨_, o', e', hnf⟩ := flies.2.2.1.mem hm
      rw [at3] at e'; cases e'
      exact hnf _ dt3
    have notL : a ≠ X.env.locals := fun z => notFr (List.mem_filterMap.mpr ⟨X.env, List.mem_cons_self, by rw [hf, z]⟩)
    have notF : a ∉ X.fs := fun hm => by
      obtain ⟨e, he, q⟩ := List.mem_filterMap.mp hm
      exact notFr (List.mem_filterMap.mpr ⟨e, List.mem_cons_of_mem _ he, q⟩)
    have j3s := j3.suite at3 dt3 na notL notF
    have named : ∀ {y : Str} {k : Value} {p : Pos} {Q E : Value → Shared → Prop}, Names X y k → Q k { s' with heap := g3 } → wpAny (model X.prog X.w) (X.A.mark (some (.ref a))) (eval (.Name y p) X.env) Q E { s' with heap := g3 } := fun {y k p Q E} hy q => by
      obtain ⟨hg, hdb, hm | ⟨hm, hv, hnn⟩⟩ := hy
      · exact ld_glob (X := X.suite a ((a, o3) :: (X.pn ++ pins))) j3s hg hm q hdb
      · exact ld_blt (X := X.suite a ((a, o3) :: (X.pn ++ pins))) j3s hg hm hv q hnn hdb
    have look : PySem.W.Looks (model X.prog X.w) g3 (typeOf (.ref a)) cls := fun A Q E s k q => wpAny_typeOf_ref (k _ _ at3) (by rw [zc3.1]; exact q)
    have m1 := PySem.W.exm_one (M := model X.prog X.w) j3.kIn look q1
    refine wpAny_handleBy_cons (codeAny_handlers_test (named hc (m1.here ?_))) (by intro q; cases q)
    cases t1 with
    | true =>
      refine codeAny_handlers_suite_as (HandSPX.lands_againZ flies fun g4 k4 l4 => ?_)
      have jj : Inv X pins σ1 H1 { s' with heap := g4 } := jOld.landed nb k4.1 ((upA.trans upB).trans l4) os ag
      obtain ⟨oo, fs4, at4, zc4, dt4⟩ := k4.there
      have js := jj.suite at4 dt4 na notL notF
      refine store_ok (X := X.suite a ((a, oo) :: (X.pn ++ pins))) (v := .ref a) js hN hi (.inl hln) rfl (fun s5 j5 => ?_) (.inr hln)
      refine wpAny_mono ((h1 a oo cls d (X.pn ++ pins) zc4 ⟨_, dt4⟩).run [] s5 _ H1 _ j5 (yes1 rfl a na)) (fun fl s6 sp6 => ?_) (fun _ _ z => z.elim)
      cases fl with
      | ret u6 =>
        obtain ⟨v6, t6, g6, j6, r6, q6⟩ := sp6
        exact gone_ok (j6.unsuite okX) hN hi hln fun s7 j7 => ⟨_, _, _, j7, r6, q6⟩
      | next => obtain ⟨t6, g6, j6, q6⟩ := sp6; exact gone_ok (j6.unsuite okX) hN hi hln fun s7 j7 => ⟨_, _, j7, q6⟩
      | brk => obtain ⟨t6, g6, j6, q6⟩ := sp6; exact gone_ok (j6.unsuite okX) hN hi hln fun s7 j7 => ⟨_, _, j7, q6⟩
      | cont => obtain ⟨t6, g6, j6, q6⟩ := sp6; exact gone_ok (j6.unsuite okX) hN hi hln fun s7 j7 => ⟨_, _, j7, q6⟩
    | false =>
      obtain ⟨t2, q2, yes2, no2⟩ := no1 rfl
      have m2 := PySem.W.exm_one (M := model X.prog X.w) j3.kIn look q2
      show wpAny _ X.A (handleBy (.ref a) X.env [_]) _ _ _
      refine wpAny_handleBy_cons (codeAny_handlers_test (named hc2 (m2.here ?_))) (by intro q; cases q)
      cases t2 with
      | true =>
        refine codeAny_handlers_suite_as (HandSPX.lands_againZ flies fun g4 k4 l4 => ?_)
        have jj : Inv X pins σ1 H1 { s' with heap := g4 } := jOld.landed nb k4.1 ((upA.trans upB).trans l4) os ag
        obtain ⟨oo, fs4, at4, zc4, dt4⟩ := k4.there
        have js := jj.suite at4 dt4 na notL notF
        refine store_ok (X := X.suite a ((a, oo) :: (X.pn ++ pins))) (v := .ref a) js hN hi (.inl hln) rfl (fun s5 j5 => ?_) (.inr hln)
        refine wpAny_mono ((h2 a oo cls d (X.pn ++ pins) zc4 ⟨_, dt4⟩).run [] s5 _ H1 _ j5 (yes2 rfl a na)) (fun fl s6 sp6 => ?_) (fun _ _ z => z.elim)
        cases fl with
        | ret u6 =>
          obtain ⟨v6, t6, g6, j6, r6, q6⟩ := sp6
          exact gone_ok (j6.unsuite okX) hN hi hln fun s7 j7 => ⟨_, _, _, j7, r6, q6⟩
        | next => obtain ⟨t6, g6, j6, q6⟩ := sp6; exact gone_ok (j6.unsuite okX) hN hi hln fun s7 j7 => ⟨_, _, j7, q6⟩
        | brk => obtain ⟨t6, g6, j6, q6⟩ := sp6; exact gone_ok (j6.unsuite okX) hN hi hln fun s7 j7 => ⟨_, _, j7, q6⟩
        | cont => obtain ⟨t6, g6, j6, q6⟩ := sp6; exact gone_ok (j6.unsuite okX) hN hi hln fun s7 j7 => ⟨_, _, j7, q6⟩
      | false =>
        show wpAny _ X.A (handleBy (.ref a) X.env []) _ _ _
        refine wpAny_handleBy_nil ?_
        obtain ⟨w1, w2, w3, oe, fs, T, oT, tt, he, hz, hd, hT, hr⟩ := id flies
        unfold PySem.passOn
        refine wpAny_bind (wpAny_field he hd hT ?_)
        rw [if_neg (by simp : ¬ ((Value.ref T == Value.none) = true))]
        have goes : wpAny (model X.prog X.w) X.A (setFlight (.ref a) X.env.frame) (fun _ s4 => wpAny (model X.prog X.w) X.A (throw (.ref a) : Sem Flow) (SP X pins D) X.xe s4) X.xe { s' with heap := g3 } := by
          rw [hf]
          refine HandSPX.setFlight_upZ flies fun g4 hh4 up4 => wpAny_throw (tk _ _ ?_)
          exact ⟨a, B, s0, pins, σ1, H1, cls, d, rfl, jOld, nb, (upA.trans upB).trans up4, .inr (.inr (by rw [hs]; exact hh4)), na, os, ag, no2 rfl⟩
        first
          | exact wpAny_bind (wpAny_pure (wpAny_bind goes))
          | exact wpAny_bind goes
  · cases fl with
    | ret u =>
      obtain ⟨v, σ1, H1, j1, r, q⟩ := sp
      exact ⟨v, σ1, H1, j1.ofTry okX, r, q⟩
    | next => obtain ⟨σ1, H1, j1, q⟩ := sp; exact wpAny_execs_nil ⟨σ1, H1, j1.ofTry okX, q⟩
    | brk => obtain ⟨σ1, H1, j1, q⟩ := sp; exact ⟨σ1, H1, j1.ofTry okX, q⟩
    | cont => obtain ⟨σ1, H1, j1, q⟩ := sp; exact ⟨σ1, H1, j1.ofTry okX, q⟩
end
/-- a try with two clauses of one name -/
noncomputable def suiteAs (i : Nat) (h : Nat → SD) (c : Exn) (ρ1 : PEnv) (S1 : Store) : Out (Fl × PEnv) := (h S1.length (ρ1.set i (some (.cell S1.length))) (S1 ++ [.obj, .xdc c.fs])).bind fun r => match r.1 with
  | .ex _ => M.bad
  | _ => M.ret (r.1, r.2.set i none)
noncomputable def sTryAs2 (i : Nat) (m m2 : Str → Option Bool) (g : SD) (h h2 : Nat → SD) : SD := fun ρ S => match g ρ S with
  | .ok (.ex c, ρ1) S1 => match m c.cls with
    | some true => suiteAs i h c ρ1 S1
    | some false => match m2 c.cls with
      | some true => suiteAs i h2 c ρ1 S1
      | some false => .ok (.ex c, ρ1) S1
      | none => .bad
    | none => .bad
  | r => r
section
variable {X : Cx} {W : WJ} {x x2 n : Str} {c c2 : Value} {i : Nat} {body suite suite2 : List Stmt} {b₀ b₁ : Stmt} {np np2 pos pa pb : Pos} {g : SD} {h h2 : Nat → SD} {m m2 : Str → Option Bool}
theorem ds_tryAs2 (fl fl2 : List Str) (hN : X.N.Nodup) (hc : Names X x c) (hc2 : Names X x2 c2) (tk : Takes X W.w) (hb : ∀ (w : WX) (pn : List (Addr × Obj)) (xe : Value → Shared → Prop), Takes (X.tr pn xe) w → PassesOwn (model X.prog X.w) X.A X.env xe → DSs (X.tr pn xe) ⟨w, W.j⟩ body g)
    (hm : ∀ cn b C, m cn = some b → clsOf X.K cn = some C → PySem.W.exmOne X.K (.ref C) c = some b ∧ (b = true → XfC X.K C ∧ ∀ f ∈ fl, PySem.W.findIn X.K (.ref C) f = some none))
    (hm2 : ∀ cn b C, m2 cn = some b → clsOf X.K cn = some C → PySem.W.exmOne X.K (.ref C) c2 = some b ∧ (b = true → XfC X.K C ∧ ∀ f ∈ fl2, PySem.W.findIn X.K (.ref C) f = some none))
    (hsu : ∀ (a : Addr) (oe : Obj) (cls : Value) (d : Option Addr) (pn : List (Addr × Obj)) (k : Nat), Zc cls d oe → (∃ vs, oe.data = .fields vs) → DSs (X.suite a ((a, oe) :: pn)) ⟨fun _ _ _ _ => False, JE X.K W.j fl k a cls d⟩ (b₀ :: suite) (h k))
    (hsu2 : ∀ (a : Addr) (oe : Obj) (cls : Value) (d : Option Addr) (pn : List (Addr × Obj)) (k : Nat), Zc cls d oe → (∃ vs, oe.data = .fields vs) → DSs (X.suite a ((a, oe) :: pn)) ⟨fun _ _ _ _ => False, JE X.K W.j fl2 k a cls d⟩ (b₁ :: suite2) (h2 k))
    (hs : X.stack = X.env :: X.outer := by rfl) (hf : X.env.frame = some X.env.locals := by rfl) (hi : X.N[i]? = some n := by rfl) (hln : X.env.kindOf n = some .local := by rfl) :
    DS X W (.Try body [.ExceptHandler (some (.Name x np)) (some n) (b₀ :: suite) pa, .ExceptHandler (some (.Name x2 np2)) (some n) (b₁ :: suite2) pb] [] [] pos) (sTryAs2 i m m2 g h h2) := by
  let ts : Addr → Value → Option Addr → TS := fun a cls d D σ H => ∃ k, tS X.K ⟨fun _ _ _ _ => False, JE X.K W.j fl k a cls d⟩ (h k) D σ H
  let ts2 : Addr → Value → Option Addr → TS := fun a cls d D σ H => ∃ k, tS X.K ⟨fun _ _ _ _ => False, JE X.K W.j fl2 k a cls d⟩ (h2 k) D σ H
  refine PS_imp (ps_try_as2 (tb := fun w => tS X.K ⟨w, W.j⟩ g) (ts := ts) (ts2 := ts2) hs hf hN hi hln hc hc2 tk hb (fun a oe cls d pn hz hd => ⟨fun pins s σ H D I ⟨k, q⟩ => (hsu a oe cls d pn k hz hd).run pins s σ H D I q⟩) fun a oe cls d pn hz hd => ⟨fun pins s σ H D I ⟨k, q⟩ => (hsu2 a oe cls d pn k hz hd).run pins s σ H D I q⟩) fun D σ H ⟨α, S, ρ, so, sl, q⟩ => ?_
  refine ⟨α, S, ρ, so, sl, ?_⟩
  have q' : OD X.K α H (sTryAs2 i m m2 g h h2 ρ S) (Fin X.K W D) fun _ _ _ _ => False := q
  unfold sTryAs2 at q'
  show OD X.K α H (g ρ S) (Fin X.K ⟨_, W.j⟩ D) _
  cases eg : g ρ S with
  | bad => rw [eg] at q'; exact q'
  | ex c S1 => rw [eg] at q'; exact q'
  | ok r S1 =>
    rw [eg] at q'
    obtain ⟨f1, ρ1⟩ := r
    cases f1 with
    | nx => exact q'
    | bk => exact q'
    | ct => exact q'
    | rt d => exact q'
    | ex ce =>
      simp only at q'
      intro α1 H1 m1 σ1 sl1 cls d xr
      obtain ⟨⟨C, hC, hcls⟩, dd, gs, hd, e1, rf⟩ := id xr
      cases hmc : m ce.cls with
      | none => rw [hmc] at q'; exact q'.elim
      | some b =>
        rw [hmc] at q'
        obtain ⟨hx, hxt⟩ := hm _ _ _ hmc hC
        subst hcls
        refine ⟨b, hx, fun hbt a na => ?_, fun hbf => ?_⟩
        · subst hbt
          simp only [suiteAs] at q'
          obtain ⟨hX, hfi⟩ := hxt rfl
          have mE : Mv X.K α1 H1 (α1 ++ [a, dd]) (S1 ++ [.obj, .xdc ce.fs]) H1 := Mv.exn m1.ok e1 rf
          have sl2 : Slots X.K (JE X.K W.j fl S1.length a (.ref C) d) (α1 ++ [a, dd]) H1 (ρ1.set i (some (.cell S1.length))) (σ1.set i (some (.ref a))) := by
            have z : Rep X.K (α1 ++ [a, dd]) H1 (.cell S1.length) (.ref a) := .cell (by rw [← m1.ok.len]; simp)
            have z2 := (sl1.mv mE).set i z
            exact ⟨z2.len, ⟨z2.j, by rw [← m1.ok.len]; simp, ⟨dd, hd, by rw [← m1.ok.len, List.getElem?_append_right (by omega)]; simp⟩, C, rfl, hX, hfi⟩, z2.get⟩
          refine ⟨S1.length, α1 ++ [a, dd], S1 ++ [.obj, .xdc ce.fs], _, mE.ok, sl2, ?_⟩
          have q2 := OD.bind (o := h S1.length (ρ1.set i (some (.cell S1.length))) (S1 ++ [.obj, .xdc ce.fs])) (q'.trans (m1.trans mE))
          refine q2.imp (fun r α3 S3 H3 m3 h3 => ?_) fun _ _ _ _ _ z => z
          obtain ⟨f3, ρ3⟩ := r
          have un : ∀ {σ3 : L2.St}, Slots X.K (JE X.K W.j fl S1.length a (.ref C) d) α3 H3 ρ3 σ3 → Slots X.K W.j α3 H3 (ρ3.set i none) (σ3.set i none) := fun {σ3} z => by
            have z2 := z.unset i
            exact ⟨z2.len, z2.j.1, z2.get⟩
          cases f3 with
          | nx => exact fun σ3 s3 => h3 α3 H3 (.refl m3.ok) _ (un s3)
          | bk => exact fun σ3 s3 => h3 α3 H3 (.refl m3.ok) _ (un s3)
          | ct => exact fun σ3 s3 => h3 α3 H3 (.refl m3.ok) _ (un s3)
          | rt d => exact fun σ3 s3 v rv => h3 α3 H3 (.refl m3.ok) _ (un s3) v rv
          | ex c => exact h3.elim
        · subst hbf
          simp only at q'
          cases hmc2 : m2 ce.cls with
          | none => rw [hmc2] at q'; exact q'.elim
          | some b2 =>
            rw [hmc2] at q'
            obtain ⟨hx2, hxt2⟩ := hm2 _ _ _ hmc2 hC
            refine ⟨b2, hx2, fun hbt a na => ?_, fun hbf => ?_⟩
            · subst hbt
              simp only [suiteAs] at q'
              obtain ⟨hX, hfi⟩ := hxt2 rfl
              have mE : Mv X.K α1 H1 (α1 ++ [a, dd]) (S1 ++ [.obj, .xdc ce.fs]) H1 := Mv.exn m1.ok e1 rf
              have sl2 : Slots X.K (JE X.K W.j fl2 S1.length a (.ref C) d) (α1 ++ [a, dd]) H1 (ρ1.set i (some (.cell S1.length))) (σ1.set i (some (.ref a))) := by
                have z : Rep X.K (α1 ++ [a, dd]) H1 (.cell S1.length) (.ref a) := .cell (by rw [← m1.ok.len]; simp)
                have z2 := (sl1.mv mE).set i z
                exact ⟨z2.len, ⟨z2.j, by rw [← m1.ok.len]; simp, ⟨dd, hd, by rw [← m1.ok.len, List.getElem?_append_right (by omega)]; simp⟩, C, rfl, hX, hfi⟩, z2.get⟩
              refine ⟨S1.length, α1 ++ [a, dd], S1 ++ [.obj, .xdc ce.fs], _, mE.ok, sl2, ?_⟩
              have q2 := OD.bind (o := h2 S1.length (ρ1.set i (some (.cell S1.length))) (S1 ++ [.obj, .xdc ce.fs])) (q'.trans (m1.trans mE))
              refine q2.imp (fun r α3 S3 H3 m3 h3 => ?_) fun _ _ _ _ _ z => z
              obtain ⟨f3, ρ3⟩ := r
              have un : ∀ {σ3 : L2.St}, Slots X.K (JE X.K W.j fl2 S1.length a (.ref C) d) α3 H3 ρ3 σ3 → Slots X.K W.j α3 H3 (ρ3.set i none) (σ3.set i none) := fun {σ3} z => by
                have z2 := z.unset i
                exact ⟨z2.len, z2.j.1, z2.get⟩
              cases f3 with
              | nx => exact fun σ3 s3 => h3 α3 H3 (.refl m3.ok) _ (un s3)
              | bk => exact fun σ3 s3 => h3 α3 H3 (.refl m3.ok) _ (un s3)
              | ct => exact fun σ3 s3 => h3 α3 H3 (.refl m3.ok) _ (un s3)
              | rt d => exact fun σ3 s3 v rv => h3 α3 H3 (.refl m3.ok) _ (un s3) v rv
              | ex c => exact h3.elim
            · subst hbf
              exact q' α1 H1 m1 σ1 sl1 _ d xr
end
/-- what the suite of a clause comes to -/
def SuEnd (QS : Fl × PEnv → Store → Prop) (i : Nat) (r2 : Fl × PEnv) (S2 : Store) : Prop := match r2.1 with
  | .ex _ => False
  | _ => QS (r2.1, r2.2.set i none) S2
theorem wps_suiteAs {QS : Fl × PEnv → Store → Prop} {i : Nat} {h : Nat → SD} {c : Exn} {ρ1 : PEnv} {S1 : Store} (z : wps (h S1.length (ρ1.set i (some (.cell S1.length)))) (S1 ++ [.obj, .xdc c.fs]) (SuEnd QS i)) :
    match suiteAs i h c ρ1 S1 with
    | .ok r S' => QS r S'
    | .ex _ _ => False
    | .bad => False := by
  unfold wps wpx at z
  unfold suiteAs
  cases e : h S1.length (ρ1.set i (some (.cell S1.length))) (S1 ++ [.obj, .xdc c.fs]) with
  | bad => rw [e] at z; exact z
  | ex c2 S2 => rw [e] at z; exact z
  | ok r S2 =>
    rw [e] at z
    obtain ⟨fl, ρ2⟩ := r
    cases fl <;> exact z
theorem wps_tryAs2 {QS : Fl × PEnv → Store → Prop} {S : Store} {ρ : PEnv} {i : Nat} {m m2 : Str → Option Bool} {g : SD} {h h2 : Nat → SD} (z : wps (g ρ) S fun r S1 => match r.1 with
    | .ex c => (m c.cls = some true ∧ wps (h S1.length (r.2.set i (some (.cell S1.length)))) (S1 ++ [.obj, .xdc c.fs]) (SuEnd QS i)) ∨ (m c.cls = some false ∧ m2 c.cls = some true ∧ wps (h2 S1.length (r.2.set i (some (.cell S1.length)))) (S1 ++ [.obj, .xdc c.fs]) (SuEnd QS i)) ∨
      (m c.cls = some false ∧ m2 c.cls = some false ∧ QS r S1)
    | _ => QS r S1) : wps (sTryAs2 i m m2 g h h2 ρ) S QS := by
  unfold wps wpx at z ⊢
  unfold sTryAs2
  cases e : g ρ S with
  | bad => rw [e] at z; exact z
  | ex c S1 => rw [e] at z; exact z
  | ok r S1 =>
    rw [e] at z
    obtain ⟨fl, ρ1⟩ := r
    cases fl with
    | nx => exact z
    | bk => exact z
    | ct => exact z
    | rt d => exact z
    | ex c =>
      simp only at z ⊢
      rcases z with ⟨hm, z⟩ | ⟨hm, hm2, z⟩ | ⟨hm, hm2, z⟩
      · have y := wps_suiteAs z
        rw [hm]; simp only
        cases e2 : suiteAs i h c ρ1 S1 <;> rw [e2] at y <;> exact y
      · have y := wps_suiteAs z
        rw [hm]; simp only; rw [hm2]; simp only
        cases e2 : suiteAs i h2 c ρ1 S1 <;> rw [e2] at y <;> exact y
      · rw [hm]; simp only; rw [hm2]; exact z
end DL

/-! DLf: enumerate of a tuple, below. -/
namespace EnT
open PySem PySem.Spec PyProof.Rows
/-- what enumerate leaves of a tuple: its iterator, itself -/
def itO (l : Addr) : Obj := { cls := .type "tuple_iterator", data := .fields #[.ref l, .int 0 0] }
def enO (it : Addr) : Obj := { cls := .type "enumerate", data := .fields #[.none, .bool false, .ref it, rawInt 0, .none, .none] }
theorem meets_new (l : Addr) (items : Array Value) : Meets (Builtin.«enumerate.__new__» ⟨[.type "enumerate", .ref l], []⟩) (fun _ R s => s.heap.IsTuple l items ∧
    R (.ok (.ret (.ref (s.heap.push (itO l)).objs.size))) { s with heap := (s.heap.push (itO l)).push (enO s.heap.objs.size) }) :=
  .of_wp fun prog w A R s hh => by
    obtain ⟨hp, g, d, tk, os⟩ := s
    obtain ⟨tl, hr⟩ := hh
    have sub := sub_enumerate
    have tL : Heap.IsTuple (Shared.heap ⟨hp, g, d, tk, os⟩) l items := tl
    obtain ⟨ol, hol, hcl, nl, hdl⟩ := id tl
    wp_walk using wpAny_loadPart' hol
    refine wpAny_stack_any fun st => wpAny_pure ?_
    split
    · rename_i c _ _ _ _ _
      cases (c == Value.type "enumerate") <;>
      · wp_walk using wpAny_loadPart' hol, wpAny_pyIter_tuple tL
        exact ⟨_, rfl, hr⟩
    · wp_walk using wpAny_loadPart' hol, wpAny_pyIter_tuple tL
      exact ⟨_, rfl, hr⟩
section
variable {prog : Program} {w : World} {A : Around} {E : Value → Shared → Prop} {s : Shared}
theorem call_tup {l : Addr} {items : Array Value} {Q : Value → Shared → Prop} (tl : s.heap.IsTuple l items)
    (q : ∀ h', IsEnum h' (s.heap.objs.size + 1) s.heap.objs.size 0 .none → h'.IsTupleIter s.heap.objs.size l 0 → h'.objs.size = s.heap.objs.size + 2 → (∀ b o, s.heap.get? b = some o → h'.get? b = some o) → Q (.ref (s.heap.objs.size + 1)) { s with heap := h' }) :
    wpAny (model prog w) A (call (.type "enumerate") [.ref l]) Q E s := by
  refine callType_new F.called_enumerate (by decide) (F.typeCall_enumerate_1 _) (F.newCall_enumerate_1 _) (fun obj => F.args_object_init_2 obj _) F.entry_enumerate_new (meets_new l items) ⟨tl, ?_⟩
  have z1 : (s.heap.push (itO l)).objs.size = s.heap.objs.size + 1 := Heap.size_push ..
  have g2 := Heap.get?_push_size (s.heap.push (itO l)) (o := enO s.heap.objs.size) rfl
  have g1 := Heap.get?_push_size s.heap (o := itO l) rfl
  show _ ∧ _
  rw [z1] at g2 ⊢
  exact ⟨⟨_, g2, rfl⟩, q _ g2 ⟨_, Heap.get?_push_of_some _ g1, rfl, rfl⟩ (by rw [Heap.size_push, z1]) fun b o x => Heap.get?_push_of_some _ (Heap.get?_push_of_some _ x)⟩
/-- a turn of it: the number and the item in a new pair -/
theorem next_item {e it l : Addr} {i : Nat} {items : Array Value} {x old : Value} {Q : Value → Shared → Prop} (he : IsEnum s.heap e it i old) (ti : s.heap.IsTupleIter it l i) (tl : s.heap.IsTuple l items) (hx : items[i]? = some x) (hne : e ≠ it)
    (q : ∀ h', IsEnumOut h' e it ((i : Int) + 1) x s.heap.objs.size → h'.IsTupleIter it l (i + 1) → h'.get? s.heap.objs.size = some { cls := .type "tuple", data := .seq #[.int i s.toks, x] } → h'.objs.size = s.heap.objs.size + 1 →
      (∀ b o, b ≠ e → b ≠ it → s.heap.get? b = some o → h'.get? b = some o) → Q (.ref s.heap.objs.size) { s with heap := h', toks := s.toks + 1 }) :
    wpAny (model prog w) A (Builtin.«enumerate.__next__» ⟨[.ref e], []⟩) (fun fin s' => ∃ v, fin = .done (.ret v) ∧ Q v s') E s := by
  obtain ⟨hp, g, d, tk, os⟩ := s
  show wpAny _ _ (field (.ref e) 2 >>= _) _ _ _
  refine wpAny_bind (wpAny_field he rfl (x := .ref it) rfl (wpAny_bind (RZ.nextOf_tuple_item ti tl hx fun k1 ti1 b1 => ?_)))
  replace b1 : Heap.SameBut it hp k1 := b1
  have he1 : IsEnum k1 e it i old := (b1.2 e hne).trans he
  show wpAny _ _ (field (.ref e) 3 >>= _) _ _ ⟨k1, g, d, tk, os⟩
  refine wpAny_bind (wpAny_field he1 rfl (x := rawInt i) rfl ?_)
  show wpAny _ _ (field (.ref e) 4 >>= _) _ _ ⟨k1, g, d, tk, os⟩
  refine wpAny_bind (wpAny_field he1 rfl (x := .none) rfl ?_)
  show wpAny _ _ (mkInt i >>= _) _ _ ⟨k1, g, d, tk, os⟩
  refine wpAny_bind (wpAny_mkInt ?_)
  show wpAny _ _ (setField (.ref e) 3 (rawInt ((i : Int) + 1)) >>= _) _ _ ⟨k1, g, d, tk + 1, os⟩
  refine wpAny_bind (wpAny_setField_rec he1 (by simp) fun k2 en2 b2 => ?_)
  replace b2 : Heap.SameBut e k1 k2 := b2
  replace en2 : IsEnum k2 e it ((i : Int) + 1) old := en2
  show wpAny _ _ (setField (.ref e) 4 .none >>= _) _ _ ⟨k2, g, d, tk + 1, os⟩
  refine wpAny_bind (wpAny_setField_rec en2 (by simp) fun k3 en3 b3 => ?_)
  replace b3 : Heap.SameBut e k2 k3 := b3
  replace en3 : IsEnum k3 e it ((i : Int) + 1) old := en3
  show wpAny _ _ (newTuple [.int i tk, x] >>= _) _ _ ⟨k3, g, d, tk + 1, os⟩
  refine wpAny_bind (wpAny_newTuple ?_)
  have en4 : IsEnum (k3.push { cls := .type "tuple", data := .seq #[.int i tk, x] }) e it ((i : Int) + 1) old := Heap.get?_push_of_some _ en3
  generalize e4 : k3.push { cls := .type "tuple", data := .seq #[.int i tk, x] } = k4 at en4
  have sz : k3.objs.size = hp.objs.size := by rw [b3.1, b2.1, b1.1]
  have lt : e < hp.objs.size := Heap.lt_size he
  have tp : k4.get? hp.objs.size = some { cls := .type "tuple", data := .seq #[.int i tk, x] } := by rw [← e4, ← sz]; exact Heap.get?_push_size _ rfl
  have sz4 : k4.objs.size = hp.objs.size + 1 := by rw [← e4, Heap.size_push, sz]
  have kp : ∀ b o, b ≠ e → b ≠ it → hp.get? b = some o → k4.get? b = some o := fun b o be bi hb => by
    rw [← e4]
    exact Heap.get?_push_of_some _ (b3.extBut b o be (b2.extBut b o be (b1.extBut b o bi hb)))
  have ti4 : k4.IsTupleIter it l (i + 1) := by
    obtain ⟨o, ho, r⟩ := (ti1.extBut b2.extBut hne.symm).extBut b3.extBut hne.symm
    rw [← e4]
    exact ⟨o, Heap.get?_push_of_some _ ho, r⟩
  show wpAny _ _ (Builtin.SmallTypes.ownedTupleIsFree (.ref e) >>= _) _ _ ⟨k4, g, d, tk + 1, os⟩
  rw [sz]
  clear e4 en3 b3 en2 b2 he1 b1 ti1 sz k3 k2 k1
  refine wpAny_bind ?_
  unfold Builtin.SmallTypes.ownedTupleIsFree
  refine wpAny_bind (wpAny_field en4 rfl (x := .none) rfl (wpAny_pure ?_))
  simp only [if_true]
  refine wpAny_bind (wpAny_rule (wpAny_bind (wpAny_field en4 rfl (x := old) rfl (wpAny_bind (wpAny_setField_rec en4 (by simp) fun k5 en5 b5 => ?_)))))
  replace b5 : Heap.SameBut e k4 k5 := b5
  replace en5 : IsEnum k5 e it ((i : Int) + 1) x := en5
  show wpAny _ _ (Builtin.SmallTypes.ownedTupleHandOut (.ref e) (.ref hp.objs.size) >>= _) _ _ ⟨k5, g, d, tk + 1, os⟩
  refine wpAny_bind ?_
  unfold Builtin.SmallTypes.ownedTupleHandOut
  refine wpAny_bind (wpAny_setField_rec en5 (by simp) fun k6 en6 b6 => ?_)
  replace b6 : Heap.SameBut e k5 k6 := b6
  replace en6 : IsEnumOut k6 e it ((i : Int) + 1) x hp.objs.size := en6
  refine wpAny_setField_rec en6 (by simp) fun k7 en7 b7 => ?_
  replace b7 : Heap.SameBut e k6 k7 := b7
  replace en7 : IsEnumOut k7 e it ((i : Int) + 1) x hp.objs.size := en7
  refine wpAny_bind (wpAny_letGo (wpAny_pure ⟨_, rfl, q k7 en7 ?_ ?_ ?_ ?_⟩))
  · exact ((ti4.extBut b5.extBut hne.symm).extBut b6.extBut hne.symm).extBut b7.extBut hne.symm
  · exact b7.extBut _ _ (Nat.ne_of_gt lt) (b6.extBut _ _ (Nat.ne_of_gt lt) (b5.extBut _ _ (Nat.ne_of_gt lt) tp))
  · rw [b7.1, b6.1, b5.1, sz4]
  · exact fun b o be bi hb => b7.extBut b o be (b6.extBut b o be (b5.extBut b o be (kp b o be bi hb)))
theorem pyNext_item {e it l : Addr} {i : Nat} {items : Array Value} {x old : Value} {Q : Option Value → Shared → Prop} (he : IsEnum s.heap e it i old) (ti : s.heap.IsTupleIter it l i) (tl : s.heap.IsTuple l items) (hx : items[i]? = some x) (hne : e ≠ it)
    (q : ∀ h', IsEnumOut h' e it ((i : Int) + 1) x s.heap.objs.size → h'.IsTupleIter it l (i + 1) → h'.get? s.heap.objs.size = some { cls := .type "tuple", data := .seq #[.int i s.toks, x] } → h'.objs.size = s.heap.objs.size + 1 →
      (∀ b o, b ≠ e → b ≠ it → s.heap.get? b = some o → h'.get? b = some o) → Q (some (.ref s.heap.objs.size)) { s with heap := h', toks := s.toks + 1 }) :
    wpAny (model prog w) A (pyNext (.ref e)) Q E s := by
  have ty : s.TypeIs (.ref e) "enumerate" := ⟨_, he, rfl⟩
  unfold pyNext
  exact wpAny_bind (wpAny_attempt (wpAny_callSpecial?_slot (name := Str.ofString "__next__") ty F.slot_enumerate_next (wpAny_call_entry F.slot_enumerate_next ty F.entry_enumerate_next
    (next_item he ti tl hx hne fun h' a b c d k => wpAny_pure (q h' a b c d k)) (F.args_enumerate_next_1 _))))
theorem pyNext_end {e it l : Addr} {i : Nat} {items : Array Value} {old : Value} {Q : Option Value → Shared → Prop} (hh : A.handled = none) (he : IsEnum s.heap e it i old) (ti : s.heap.IsTupleIter it l i) (tl : s.heap.IsTuple l items) (hx : items[i]? = none)
    (q : ∀ h', Heap.ExtBut it s.heap h' → Q none { s with heap := h' }) : wpAny (model prog w) A (pyNext (.ref e)) Q E s := by
  have ty : s.TypeIs (.ref e) "enumerate" := ⟨_, he, rfl⟩
  unfold pyNext
  refine wpAny_bind (wpAny_attempt (wpAny_callSpecial?_slot (name := Str.ofString "__next__") ty F.slot_enumerate_next (wpAny_call_entry F.slot_enumerate_next ty F.entry_enumerate_next ?_ (F.args_enumerate_next_1 _))))
  show wpAny _ _ (field (.ref e) 2 >>= _) _ _ _
  refine wpAny_bind (wpAny_field he rfl (x := .ref it) rfl (wpAny_bind (RZ.nextOf_tuple_end hh ti tl hx fun h' z hb hz => ?_)))
  obtain ⟨o, ho, hc⟩ := hz
  exact wpAny_bind (wpAny_isInstance (T := "StopIteration") (b := true) ⟨o, ho, hc⟩ isSubtype_stop (wpAny_pure (q _ hb)))
end
open L2
/-- the tuple at a, each item in a new pair behind its number -/
def ItN (K : PySem.W.Frag) (a : Addr) : It where
  go := fun i H => ∃ (xs : List V) (x : V), SqT K H a xs ∧ xs[i]? = some x
  yld := fun i H v H' => ∃ T x, v = .ref T ∧ H T = none ∧ H' = upd H T (.tup [.int (i : Nat), x]) ∧ ∀ xs, SqT K H a xs → xs[i]? = some x
  stop := fun i H => ∃ xs : List V, SqT K H a xs ∧ xs.length ≤ i
theorem turnN {P : Program} {w : World} {K : PySem.W.Frag} {elts : List Expr} {kk : Nat} {tpos : Pos} (a e it : Addr) :
    Turn P w K (.Tuple elts kk tpos) (ItN K a) [e, it] e (fun i h => (∃ old, IsEnum h e it ((i : Nat) : Int) old) ∧ h.IsTupleIter it a i ∧ e ≠ it) where
  mem := List.mem_cons_self
  obj := fun i h ⟨⟨old, he⟩, ⟨o, ho, _, hd⟩, _⟩ b hb => by
    rcases List.mem_cons.mp hb with rfl | hb
    · exact ⟨_, he, fun v q => nomatch q⟩
    · rw [List.mem_singleton.mp hb]
      exact ⟨o, ho, fun v q => by rw [hd] at q; cases q⟩
  keep := fun i h h' ⟨⟨old, he⟩, ti, hne⟩ k => ⟨⟨old, k e (by simp) _ he⟩, ti.at fun o q => k it (by simp) o q, hne⟩
  item := by
    intro X hP hw hK hc i pins s σ H E I hf st ⟨xs, x, hq, hx⟩
    subst hP hw hK
    obtain ⟨⟨old, he⟩, ti, hne⟩ := st
    obtain ⟨its, rv, p, _⟩ := I.tuple hq
    obtain ⟨u, hu, ru⟩ := rv.get hx
    have el : e < s.heap.objs.size := Heap.lt_size he
    have il : it < s.heap.objs.size := by obtain ⟨_, q, _⟩ := ti; exact Heap.lt_size q
    refine pyNext_item he ti (show s.heap.IsTuple a its.toArray from p) (x := u) (by simpa using hu) hne fun h1 out ti1 tp _ hk => ⟨_, rfl, wpAny_letOwnedTupleGo_enum (s := { s with heap := h1, toks := s.toks + 1 }) out fun h2 he2 sb => ?_⟩
    have tp2 : h2.get? s.heap.objs.size = some { cls := .type "tuple", data := .seq #[.int i s.toks, u] } := (sb.2 _ (Nat.ne_of_gt el)).trans tp
    have okT : ObjOk X.prog X.w (upd H s.heap.objs.size (.tup [.int (i : Nat), x])) h2 s.heap.objs.size (.tup [.int (i : Nat), x]) :=
      ⟨by show 2 ≤ sizeLine; decide, [.int i s.toks, u], .cons ⟨_, rfl⟩ (.cons ru .nil), ⟨_, tp2, rfl, _, rfl⟩⟩
    have I1 : Inv X pins σ (upd H s.heap.objs.size (.tup [.int (i : Nat), x])) { s with heap := h2, toks := s.toks + 1 } :=
      I.turnedNew (ch := [e, it]) (fun b ob hb q => (sb.2 b (fun z => hb (by simp [z]))).trans (hk b ob (fun z => hb (by simp [z])) (fun z => hb (by simp [z])) q)) hf (Nat.le_refl _) okT
    refine ⟨.ref s.heap.objs.size, _, I1, rfl, ⟨_, x, rfl, I.hok.fresh (Nat.le_refl _), rfl, fun ys hy => by rw [I.tuple_inj hy hq]; exact hx⟩, ⟨⟨u, ?_⟩, ti1.at fun o q => (sb.2 it hne.symm).trans q, hne⟩, fun b hb => ?_⟩
    · rw [show ((i + 1 : Nat) : Int) = (i : Int) + 1 by omega]; exact he2
    · have lb : b < s.heap.objs.size := by
        rcases List.mem_cons.mp hb with rfl | h
        · exact el
        · rw [List.mem_singleton.mp h]; exact il
      rw [upd_ne (Nat.ne_of_lt lb)]
      exact (hf b hb).1
  done := by
    intro X hP hw hK hc i pins s σ H E I hf st ⟨xs, hq, hx⟩
    subst hP hw hK
    obtain ⟨⟨old, he⟩, ti, hne⟩ := st
    obtain ⟨its, rv, p, _⟩ := I.tuple hq
    obtain ⟨f0, f1, f2, f3, f4, f5⟩ := hf it (by simp)
    have ln := rv.length
    exact pyNext_end (I.ok.hd hc) he ti (show s.heap.IsTuple a its.toArray from p) (by simp; omega) fun h' eb => ⟨rfl, I.turned (t' := s.toks) (fun b o hb q => eb b o hb q) f0 f1 f3 f4 f5⟩
  self := fun A i s Q E ⟨⟨_, he⟩, _⟩ h => wpAny_pyIter_enum he h
/-- enumerate of a list or a tuple -/
def iNum (K : PySem.W.Frag) (ta : TA) : TI := fun σ H R => ta σ H fun vs H1 => ∃ a xs, vs = [.ref a] ∧ ((SqL K H1 a xs ∧ R (Ite K a) H1) ∨ (SqT K H1 a xs ∧ R (ItN K a) H1))
theorem pi_num {X : Cx} {e : Expr} {ta : TA} {p pos tpos : Pos} {elts : List Expr} {kk : Nat} (hg : Gl X "enumerate") (hm : X.mg "enumerate" = none) (ha : PA X [e] ta) (hs : starEach [e] X.env = [(false, eval e X.env)] := by rfl) :
    PI X (.Tuple elts kk tpos) (.Call (.Name "enumerate" p) [e] [] pos) (iNum X.K ta) := by
  refine ⟨fun pins s σ H R I h => Call_ (ld_blt I hg hm boot_enumerate (PyProof.Rows.callWith_type1 (thn (ha.run pos pins s σ H _ I h) fun us s1 ⟨vs, H1, I1, r1, q1⟩ => ?_) hs rfl))⟩
  obtain ⟨a, xs, ex, q1⟩ := q1
  subst ex
  cases r1 with
  | cons r rr =>
    cases rr
    cases r
    have young : ∀ b ∈ [s1.heap.objs.size + 1, s1.heap.objs.size], FpOk X pins H1 b := fun b hb => by
      have hle : s1.heap.objs.size ≤ b := by
        rcases List.mem_cons.mp hb with rfl | hb
        · exact Nat.le_add_right _ _
        · rw [List.mem_singleton.mp hb]; exact Nat.le_refl _
      exact I1.fpOk hle (I1.hok.fresh hle)
    rcases q1 with ⟨hq, q⟩ | ⟨hq, q⟩
    · obtain ⟨its, rv, p1, _⟩ := I1.list hq
      refine call_enumerate_list p1.isList fun h' he hit hsz hk => wpAny_pyIter_enum he ?_
      have I2 : Inv X pins σ H1 { s1 with heap := h' } := I1.kept (t' := s1.toks) hk
      exact ⟨s1.heap.objs.size + 1, [s1.heap.objs.size + 1, s1.heap.objs.size], _, _, H1, rfl, I2, turn_enum a (s1.heap.objs.size + 1) s1.heap.objs.size, ⟨⟨.none, he⟩, hit, Nat.succ_ne_self _⟩, young, q⟩
    · obtain ⟨its, rv, p1, _⟩ := I1.tuple hq
      refine call_tup (show s1.heap.IsTuple a its.toArray from p1) fun h' he hit hsz hk => wpAny_pyIter_enum he ?_
      have I2 : Inv X pins σ H1 { s1 with heap := h' } := I1.kept (t' := s1.toks) hk
      exact ⟨s1.heap.objs.size + 1, [s1.heap.objs.size + 1, s1.heap.objs.size], _, _, H1, rfl, I2, turnN a (s1.heap.objs.size + 1) s1.heap.objs.size, ⟨⟨.none, he⟩, hit, Nat.succ_ne_self _⟩, young, q⟩
end EnT
namespace DL
open PySem PySem.Spec PyProof.Rows L2 PySem.W
open Classical
/-- the items, each behind its number -/
def numF (k : Nat) : List PV → List PV
  | [] => []
  | x :: xs => .tup [.int (k : Nat), x] :: numF (k + 1) xs
theorem numF_at : ∀ (xs : List PV) (k i : Nat), (numF k xs)[i]? = xs[i]?.map fun x => PV.tup [.int ((k + i : Nat) : Int), x]
  | [], k, i => rfl
  | x :: xs, k, 0 => rfl
  | x :: xs, k, i + 1 => by
    show (numF (k + 1) xs)[i]? = _
    rw [numF_at xs (k + 1) i, List.getElem?_cons_succ, show k + 1 + i = k + (i + 1) by omega]
theorem numF_len : ∀ (xs : List PV) (k : Nat), (numF k xs).length = xs.length
  | [], k => rfl
  | x :: xs, k => by rw [numF, List.length_cons, List.length_cons, numF_len xs]
theorem srcNumT_ok {K : PySem.W.Frag} {α : List Addr} {H : Hp} {a : Addr} {vs : List V} {xs : List PV} (h : ST K H a vs) (r : Reps K α H xs vs) : SrcOk K (EnT.ItN K a) α H ⟨numF 0 xs, fun _ => True⟩ := by
  intro i α' S' H' m hk
  have q := (m.grow.sT h).sq
  have r' := r.mono m.grow m.le
  refine ⟨fun x ex => ?_, fun hl => ⟨vs, q, ?_⟩⟩
  · replace ex : (numF 0 xs)[i]? = some x := ex
    rw [numF_at, Nat.zero_add] at ex
    cases e1 : xs[i]? with
    | none => rw [e1] at ex; cases ex
    | some x1 =>
      rw [e1] at ex
      cases ex
      obtain ⟨v1, f1, r1⟩ := r'.get e1
      refine ⟨⟨vs, v1, q, f1⟩, fun w H'' y => ?_⟩
      obtain ⟨T, u1, rfl, hT, rfl, g1⟩ := y
      have z1 := g1 vs q
      rw [f1] at z1; cases z1
      have mv := Mv.new m.ok hT (u := .tup [.int (i : Nat), v1])
      exact ⟨mv, .tup (.inl upd_same) (.cons (.int _) (.cons (r1.mono mv.grow mv.le) .nil))⟩
  · have hl' : (numF 0 xs).length ≤ i := hl
    rw [numF_len] at hl'
    have := r.length
    omega
theorem srcNumL_ok {K : PySem.W.Frag} {α : List Addr} {H : Hp} {n : Nat} {a : Addr} {c : Cell} {xs : List PV} (e : α[n]? = some a) (hc : c.items? = some xs) : SrcOk K (Ite K a) α H ⟨numF 0 xs, fun S' => S'[n]? = some c⟩ := by
  intro i α' S' H' m hk
  obtain ⟨vs, q, r⟩ := seqL m.ok (m.le _ _ e) hk xs (Cell.items_or hc)
  refine ⟨fun x ex => ?_, fun hl => ⟨vs, q, ?_⟩⟩
  · replace ex : (numF 0 xs)[i]? = some x := ex
    rw [numF_at, Nat.zero_add] at ex
    cases e1 : xs[i]? with
    | none => rw [e1] at ex; cases ex
    | some x1 =>
      rw [e1] at ex
      cases ex
      obtain ⟨v1, f1, r1⟩ := r.get e1
      refine ⟨⟨vs, v1, q, f1⟩, fun w H'' y => ?_⟩
      obtain ⟨T, u1, rfl, hT, rfl, g1⟩ := y
      have z1 := g1 vs q
      rw [f1] at z1; cases z1
      have mv := Mv.new m.ok hT (u := .tup [.int (i : Nat), v1])
      exact ⟨mv, .tup (.inl upd_same) (.cons (.int _) (.cons (r1.mono mv.grow mv.le) .nil))⟩
  · have hl' : (numF 0 xs).length ≤ i := hl
    rw [numF_len] at hl'
    have := r.length
    omega
section
variable {X : Cx} {W : WJ} {a : Expr} {pos tpos : Pos}
def enumM : List PV → M Src
  | [.tup xs] => M.ret ⟨numF 0 xs, fun _ => True⟩
  | [.cell n] => getC n fun c => match c.items? with
    | some xs => M.ret ⟨numF 0 xs, fun S' => S'[n]? = some c⟩
    | none => M.bad
  | _ => M.bad
theorem di_enum {elts : List Expr} {kk : Nat} {p : Pos} {f : PEnv → M (List PV)} (hm : X.mg "enumerate" = none) (ha : DA X W [a] f) (hg : Gl X "enumerate" := by rfl) (hs : starEach [a] X.env = [(false, eval a X.env)] := by rfl) :
    DI X W (.Tuple elts kk tpos) (.Call (.Name "enumerate" p) [a] [] pos) (sArgs enumM f) := by
  refine PI_imp (EnT.pi_num hg hm ha hs) fun σ H R ⟨α, S, ρ, o, sl, h⟩ => ?_
  refine ⟨α, S, ρ, o, sl, (OD.bind (o := f ρ S) h).imp (fun xs α1 S1 H1 m1 h1 vs rv => ?_) fun _ _ _ _ _ q => q⟩
  unfold enumM at h1
  split at h1
  · cases rv with
    | cons r1 r2 =>
      cases r2
      cases r1 with
      | tup hs1 hr1 => exact ⟨_, _, rfl, .inr ⟨hs1.sq, h1 α1 H1 (.refl m1.ok) _ (srcNumT_ok hs1 hr1)⟩⟩
  · rename_i n
    cases rv with
    | cons r1 r2 =>
      cases r2
      cases r1 with
      | cell e =>
        obtain ⟨c, q, h2⟩ := getC_od (show OD X.K α1 H1 (getC n _ S1) _ _ from h1)
        cases z : c.items? with
        | none => rw [z] at h2; exact h2.elim
        | some xs =>
          rw [z] at h2
          obtain ⟨vs, hq, _⟩ := seqL m1.ok e q xs (Cell.items_or z)
          exact ⟨_, _, rfl, .inl ⟨hq, h2 α1 H1 (.refl m1.ok) _ (srcNumL_ok e z)⟩⟩
  · exact h1.elim
theorem wsr_enumT {S : Store} {E : Exn → Store → Prop} {xs : List PV} {Q : Src → Store → Prop} : wpx (enumM [.tup xs]) S Q E ↔ Q ⟨numF 0 xs, fun _ => True⟩ S := Iff.rfl
theorem wsr_enumL {S : Store} {E : Exn → Store → Prop} {n : Nat} {c : Cell} {xs : List PV} {Q : Src → Store → Prop} (e : S[n]? = some c) (e2 : c.items? = some xs) (q : Q ⟨numF 0 xs, fun S' => S'[n]? = some c⟩ S) : wpx (enumM [.cell n]) S Q E := by
  show wpx (getC n fun c => match c.items? with | some xs => M.ret ⟨numF 0 xs, fun S' => S'[n]? = some c⟩ | none => M.bad) S Q E
  rw [wpx_getC]
  refine ⟨c, e, ?_⟩
  rw [e2]
  exact q
end
end DL

/-! isinstance(x, (S, T)) -/
namespace DL
open PySem PySem.Spec PyProof.Rows L2 PySem.W
open Classical
section
variable {K : PySem.W.Frag}
def isi2F : List PV → M PV
  | [x, .tup [.con (.ty T), .con (.ty T2)]] => tyM x fun t => (optM (kitB t T)).bind fun b => (optM (kitB t T2)).bind fun b2 => M.ret (.bl (b || b2))
  | _ => M.bad
theorem den_isi2 : DenN K (fun xs H Q => rIsiT K xs H Q ∨ rIsiK K xs H Q) isi2F := fun α S H xs vs Q E o r h => by
  unfold isi2F at h
  split at h
  · rename_i x T T2
    cases r with
    | cons r1 r2 =>
      cases r2 with
      | cons r2 r3 =>
        cases r3
        obtain ⟨t, ty, h⟩ := tyM_od o r1 h
        obtain ⟨b, e, h⟩ := optM_od o (OD.bind (o := optM (kitB t T) S) h)
        obtain ⟨b2, e2, h⟩ := optM_od o (OD.bind (o := optM (kitB t T2) S) h)
        have ek : PySem.W.kitAny K (.type t) [.type T, .type T2] = some (b || b2) := by
          unfold PySem.W.kitAny
          rw [kit_ty e]
          cases b with
          | true => rfl
          | false =>
            simp only
            unfold PySem.W.kitAny
            rw [kit_ty e2]
            cases b2 <;> rfl
        cases r2 with
        | tup hs hr =>
          cases hr with
          | cons q1 q2 =>
            cases q2 with
            | cons q2 q3 =>
              cases q3; cases q1; cases q2
              rcases hs with hs | ⟨ob, its, n, hk, hc, hd, _, hv⟩
              · exact .inl ⟨_, _, _, .type t, [.type T, .type T2], _, rfl, hs, .cons (.ty T) (.cons (.ty T2) .nil), ty, ek, ret_od o h _ (.bl _)⟩
              · obtain ⟨c0, dd, dt, sl⟩ := ob
                replace hc : c0 = .type "tuple" := hc
                replace hd : dt = .seq its n := hd
                subst hc hd
                have hi : its.toList = [.type T, .type T2] := by
                  generalize its.toList = us at hv
                  cases hv with
                  | cons a1 a2 =>
                    cases a2 with
                    | cons a2 a3 =>
                      cases a3
                      rw [show _ = Value.type T from a1, show _ = Value.type T2 from a2]
                have hi2 : its = [Value.type T, .type T2].toArray := by rw [← hi, Array.toArray_toList]
                subst hi2
                exact .inr ⟨_, _, dd, [.type T, .type T2], n, sl, .type t, _, rfl, hk, ty, ek, ret_od o h _ (.bl _)⟩
  · exact h.elim
theorem call_isi2 {X : Cx} : CallR X (.builtin "isinstance") (fun xs H Q => rIsiT X.K xs H Q ∨ rIsiK X.K xs H Q) := CallR.or call_isiT call_isiK
/-- an int in a tuple of ints, or not -/
def inTF (neg : Bool) : PV → PV → M PV := fun x y => match x, y with
  | .int i, .tup ys => match mapO intO ys with
    | some ns => M.ret (.bl (if neg then !decide (i ∈ ns) else decide (i ∈ ns)))
    | none => M.bad
  | _, _ => M.bad
theorem reps_ints {α : List Addr} {H : Hp} : ∀ {ns : List Int} {vs : List V}, Reps K α H (ns.map PV.int) vs → vs = ns.map V.int
  | [], _, r => by cases r; rfl
  | n :: ns, _, r => by
    cases r with
    | cons a b => cases a; rw [reps_ints b]; rfl
theorem inV_ints {i : Int} {ns : List Int} : L2.inV (.int i) (ns.map V.int) = decide (i ∈ ns) := by
  unfold L2.inV
  rw [Bool.eq_iff_iff, List.any_eq_true, decide_eq_true_eq]
  constructor
  · rintro ⟨y, hy, e⟩
    obtain ⟨n, hn, rfl⟩ := List.mem_map.mp hy
    have : n = i := by simpa [L2.eqV] using e
    exact this ▸ hn
  · exact fun h => ⟨.int i, List.mem_map.mpr ⟨i, h, rfl⟩, by simp [L2.eqV]⟩
theorem den_inT {neg : Bool} : Den2 K (rIn K neg) (inTF neg) := fun α S H x y vx vy Q E o rx ry h => by
  unfold inTF at h
  split at h
  · rename_i i ys
    cases en : mapO intO ys with
    | none => simp only [en] at h; exact h.elim
    | some ns =>
      simp only [en] at h
      have e1 := intO_all en
      subst e1
      cases rx
      cases ry with
      | tup hs hr =>
        have e2 := reps_ints hr
        subst e2
        refine ⟨_, _, rfl, .inr hs.sq, rfl, by simp [L2.flatV], ?_⟩
        have z := ret_od o h _ (.bl _)
        cases neg <;> simpa [inV_ints] using z
  · exact h.elim
end
end DL

/-! DLC: own classes: isinstance, ==, len; C(k = ..), o.m(k = ..); a list taken n times. -/
namespace DL
open PySem PySem.Spec PyProof.Rows L2 PySem.W
open Classical
/-- a def in a class -/
structure DefM (K : PySem.W.Frag) (nm qual : Str) (st : Stmt) (f : Addr) (fd : FuncData) (ps : List Str) : Prop where
  F : L2.Fun K nm qual st f fd
  b : Binds K fd ps []
def sixT : List String := ["NoneType", "bool", "int", "str", "list", "tuple"]
/-- an own class -/
structure OwnC (K : PySem.W.Frag) (cn : Str) (C : Addr) : Prop where
  cn : clsOf K cn = some C
  cl : Cls K C
  ha : PySem.W.findIn K (.ref C) "__class__" = some (some (.builtin "object.__class__"))
  hn : PySem.W.specialIn K (.builtin "object.__class__") "__get__" = some (some (.builtin "getset_descriptor.__get__"))
  htk : PySem.W.takesIn K (.builtin "object.__class__") = some true
  hm : PySem.W.mroIn K C (.type "object") = some true
  kt : ∀ T ∈ sixT, PySem.W.kitOne K (.type T) (.ref C) = some false
  nf : ∀ T ∈ sixT, PySem.W.notFirst K C (.type T) = true
  kc : PySem.W.kitOne K (.ref C) (.ref C) = some true
section
variable {K : PySem.W.Frag} {cn : Str} {C : Addr}
theorem OwnC.nfc (_ : OwnC K cn C) : PySem.W.notFirst K C (.ref C) = true := by
  unfold PySem.W.notFirst
  rw [Bool.or_eq_true]
  exact .inl (beq_self_eq_true _)
theorem kit_no {T : String} (ic : PySem.W.isClsIn K C = true) (tc : PySem.W.typeIn K (.ref C) = some (.type "type")) (s : PySem.W.subIn K (.type T) (.ref C) = some false) : PySem.W.kitOne K (.type T) (.ref C) = some false := by
  have n : ¬ (Value.type T == Value.ref C) = true := fun h => by have := eq_of_beq h; cases this
  unfold PySem.W.kitOne
  rw [if_neg n]
  unfold PySem.W.kitCls
  have z : ((PySem.W.clsIn K C).isSome && PySem.W.typeIn K (.ref C) == some (.type "type")) = true := by
    rw [tc, Bool.and_eq_true]
    exact ⟨ic, beq_self_eq_true _⟩
  simp only [z, if_true, s]
theorem kit_other {A : Addr} (n : A ≠ C) (ic : PySem.W.isClsIn K C = true) (tc : PySem.W.typeIn K (.ref C) = some (.type "type")) (s : PySem.W.subIn K (.ref A) (.ref C) = some false) : PySem.W.kitOne K (.ref A) (.ref C) = some false := by
  have n : ¬ (Value.ref A == Value.ref C) = true := fun h => by have := eq_of_beq h; injection this with h; exact n h
  unfold PySem.W.kitOne
  rw [if_neg n]
  unfold PySem.W.kitCls
  have z : ((PySem.W.clsIn K C).isSome && PySem.W.typeIn K (.ref C) == some (.type "type")) = true := by
    rw [tc, Bool.and_eq_true]
    exact ⟨ic, beq_self_eq_true _⟩
  simp only [z, if_true, s]
theorem kit_self : PySem.W.kitOne K (.ref C) (.ref C) = some true := by
  unfold PySem.W.kitOne
  rw [if_pos (beq_self_eq_true _)]
/-- a value's type -/
noncomputable def tyC (x : PV) : M (String ⊕ Str) := match x with
  | .cell n => getC n fun c => match c with
    | .ins D _ => M.ret (.inr D)
    | _ => tyM (.cell n) fun t => if t ∈ sixT then M.ret (.inl t) else M.bad
  | x => tyM x fun t => if t ∈ sixT then M.ret (.inl t) else M.bad
theorem tyC_od {α : List Addr} {H : Hp} {S : Store} {x : PV} {v : V} {R : (String ⊕ Str) → List Addr → Store → Hp → Prop} {E : Exn → List Addr → Store → Hp → Prop} (o : StoreOk K α S H) (r : Rep K α H x v) (h : OD K α H (tyC x S) R E) :
    (∃ T ∈ sixT, TyX K H v (.type T) ∧ R (.inl T) α S H) ∨ ∃ D a A dx gs, v = .ref a ∧ clsOf K D = some A ∧ H a = some (.ins A dx gs) ∧ R (.inr D) α S H := by
  have key : OD K α H (tyM x (fun t => if t ∈ sixT then M.ret (.inl t) else M.bad) S) R E → ∃ T ∈ sixT, TyX K H v (.type T) ∧ R (.inl T) α S H := fun h => by
    obtain ⟨t, ty, h⟩ := tyM_od o r h
    obtain ⟨z, h⟩ := if_outM h
    exact ⟨t, z, ty, ret_od o h⟩
  cases x with
  | cell n =>
    cases r with
    | cell ea =>
      have h' := getC_od (show OD K α H (getC n _ S) _ _ from h)
      obtain ⟨c, e, h1⟩ := h'
      cases c with
      | ins D fs =>
        obtain ⟨A, dx, gs, ec, e3, _⟩ := o.ok _ _ _ ea e
        exact .inr ⟨D, _, A, dx, gs, rfl, ec, e3, ret_od o h1⟩
      | _ => exact .inl (key h1)
  | _ => exact .inl (key h)
theorem OwnC.ty (O : OwnC K cn C) {H : Hp} {a dx : Addr} {gs : List (Str × V)} (e : H a = some (.ins C dx gs)) : TyX K H (.ref a) (.ref C) := .base (.ins e O.cl O.ha O.hn O.htk O.hm)
/-- isinstance(x, C); ds: other own classes -/
noncomputable def isIC (cn : Str) (ds : List Str) (x : PV) : M PV := (tyC x).bind fun t => match t with
  | .inl _ => M.ret (.bl false)
  | .inr D => if D = cn then M.ret (.bl true) else if D ∈ ds then M.ret (.bl false) else M.bad
/-- the own one at C among others -/
structure Others (K : PySem.W.Frag) (C : Addr) (ds : List Str) : Prop where
  at_ : ∀ D ∈ ds, ∃ A, OwnC K D A ∧ PySem.W.kitOne K (.ref A) (.ref C) = some false ∧ PySem.W.notFirst K C (.ref A) = true
theorem Others.nil : Others K C [] := ⟨fun _ h => by cases h⟩
end
section
variable {X : Cx} {W : WJ} {e a : Expr} {es : List Expr} {pos p p' : Pos} {cn : Str} {C : Addr} {ds : List Str} {x : Str} {f : PEnv → M PV}
theorem de_isC (O : OwnC X.K cn C) (T : Others X.K C ds) (hm : X.mg "isinstance" = none) (hmc : X.mg x = some (.ref C)) (ha : DE X W a f) (hg : Gl X "isinstance" := by rfl) (hgx : Gl X x := by rfl) (hdb : (x == ("__debug__" : Str)) = false := by decide)
    (he : starEach [a, .Name x p'] X.env = (false, eval a X.env) :: starEach [.Name x p'] X.env := by rfl) (he2 : starEach [Expr.Name x p'] X.env = (false, eval (.Name x p') X.env) :: starEach [] X.env := by rfl) (hpl : (backTo pos (starEach [.Name x p'] X.env)).any (·.1) = false := by rfl) :
    DE X W (.Call (.Name "isinstance" p) [a, .Name x p'] [] pos) (eUn (isIC cn ds) f) := by
  refine PE_imp (pe_callB call_isi hg hm bt_isinstance (pa_cons ha (pa_cons (pe_glob hgx hmc (v := .ref C) rfl hdb) pa_nil he2) he) (by decide) (by decide) he hpl) fun σ H Q ⟨α, S, ρ, o, sl, h⟩ => ?_
  refine ⟨α, S, ρ, o, sl, (OD.bind (o := f ρ S) h).imp (fun x α1 S1 H1 m1 h1 v rv => ?_) fun _ _ _ _ _ q => q⟩
  have h2 := tyC_od m1.ok rv (OD.bind (o := tyC x S1) h1)
  rcases h2 with ⟨T, hT, ty, h3⟩ | ⟨D, b, A, dx, gs, rfl, ec, e3, h3⟩
  · exact ⟨v, .ref C, .type T, .ref C, false, rfl, .own C, ty, O.kt T hT, ret_od m1.ok h3 _ (.bl false)⟩
  · by_cases z : D = cn
    · subst z
      obtain rfl : C = A := Option.some.inj (O.cn.symm.trans ec)
      have h3 : OD X.K α1 H1 ((if D = D then M.ret (PV.bl true) else if D ∈ ds then M.ret (PV.bl false) else M.bad) S1) (fun d α' _ H' => ∀ v, Rep X.K α' H' d v → Q v H') (EX X.K W σ) := h3
      rw [if_pos rfl] at h3
      exact ⟨_, .ref C, .ref C, .ref C, true, rfl, .own C, O.ty e3, O.kc, ret_od m1.ok h3 _ (.bl true)⟩
    · have h3 : OD X.K α1 H1 ((if D = cn then M.ret (PV.bl true) else if D ∈ ds then M.ret (PV.bl false) else M.bad) S1) (fun d α' _ H' => ∀ v, Rep X.K α' H' d v → Q v H') (EX X.K W σ) := h3
      rw [if_neg z] at h3
      obtain ⟨hD, h3⟩ := if_outM h3
      obtain ⟨A', O', k, _⟩ := T.at_ D hD
      obtain rfl : A' = A := Option.some.inj (O'.cn.symm.trans ec)
      exact ⟨_, .ref C, .ref A', .ref C, false, rfl, .own C, O'.ty e3, k, ret_od m1.ok h3 _ (.bl false)⟩
/-! ### len(o) -/
noncomputable def lenIC (cn : Str) (F : FD) : PV → M PV
  | .cell n => getC n fun c => match c with
    | .ins D _ => if D = cn then fun S => (noEx (F [.cell n] S)).bind fun v => match v with
      | .int i => if 0 ≤ i ∧ i < 2 ^ 63 then M.ret (.int i) else M.bad
      | _ => M.bad else M.bad
    | _ => M.bad
  | _ => M.bad
def rLenC (K : PySem.W.Frag) (C : Addr) (F : FD) : List V → Hp → VK → Prop := fun xs H Q => ∃ a dx fs, xs = [.ref a] ∧ H a = some (.ins C dx fs) ∧ spD K 1 F [.ref a] H (fun v H' => ∃ n : Int, v = .int n ∧ 0 ≤ n ∧ n < 2 ^ 63 ∧ Q (.int n) H') (fun _ _ _ => False)
variable {k np : Nat} {fI : Addr} {fd : FuncData} {ps : List Str} {F : FD}
theorem call_lenC (hl : PySem.W.findIn X.K (.ref C) "__len__" = some (some (.ref fI))) (hf : PySem.W.isFn X.K (.ref fI) = true) (G : FnG X.prog X.w X.K X.mg X.base k fI fd ps (spD X.K 1 F)) (hr : Room (k + 1) X.A) (gd : X.A.guards = some []) (hb : Binds X.K fd ps []) :
    CallR X (.builtin "len") (rLenC X.K C F) := by
  intro pins s σ H xs us Q I r h
  obtain ⟨b, dx, fs, rfl, eb, sp⟩ := h
  obtain ⟨u1, rfl, r1⟩ := vals1 r
  cases r1
  obtain ⟨mA, J, _⟩ := ins_get I.hok eb
  obtain ⟨od, J, _⟩ := J.look
  obtain ⟨m, hF⟩ := I.fr
  have rr : Vals [V.ref b] [Value.ref b] := .cons rfl .nil
  have bd := hb s [.ref b] I.kIn (by rw [List.append_nil]; exact G.len _ _ _ _ sp)
  rw [List.append_nil] at bd
  refine PySem.W.len_K hF I.ok.mod.kin J hl hf ?_
  refine wpAny_call (codeAny_mono (G.run X.A.in1 X.stack s H ⟨[.ref b], []⟩ [.ref b] [.ref b] _ (fun _ _ _ => False) hr.in1 gd I.env0.in1 bd rr sp) fun r s' hq => ?_)
  cases r with
  | error e => exact passAt (W := fun _ _ _ _ => False) takes0 σ pins H s e s' I hq
  | ok fl =>
    cases fl with
    | ret w =>
      obtain ⟨z, H', I', rz, n, rfl, n0, n1, q⟩ := I.after hq
      obtain ⟨t, rfl⟩ := rz
      exact ⟨⟨n0, n1⟩, .int n, H', I'.tok _, ⟨_, rfl⟩, q⟩
    | next => exact hq.elim
    | brk => exact hq.elim
    | cont => exact hq.elim
theorem de_lenC (O : OwnC X.K cn C) (hl : PySem.W.findIn X.K (.ref C) "__len__" = some (some (.ref fI))) (hf : PySem.W.isFn X.K (.ref fI) = true) (G : FnG X.prog X.w X.K X.mg X.base k fI fd ps (spD X.K 1 F)) (hr : Room (k + 1) X.A) (gd : X.A.guards = some []) (hb : Binds X.K fd ps [])
    (hm : X.mg "len" = none) (ha : DE X W a f) (hg : Gl X "len" := by rfl) (he : starEach [a] X.env = (false, eval a X.env) :: starEach [] X.env := by rfl) (hpl : (backTo pos (starEach [] X.env)).any (·.1) = false := by rfl) :
    DE X W (.Call (.Name "len" p) [a] [] pos) (eUn (lenIC cn F) f) := by
  refine PE_imp (pe_callB (call_lenC hl hf G hr gd hb) hg hm PySem.boot_len (pa_cons ha pa_nil he) (by decide) (by decide) he hpl) fun σ H Q ⟨α, S, ρ, o, sl, h⟩ => ?_
  refine ⟨α, S, ρ, o, sl, (OD.bind (o := f ρ S) h).imp (fun x α1 S1 H1 m1 h1 v rv => ?_) fun _ _ _ _ _ q => q⟩
  cases x with
  | cell n =>
    obtain ⟨c, e, h2⟩ := getC_od (show OD X.K α1 H1 (getC n _ S1) _ _ from h1)
    cases c with
    | ins D fs =>
      obtain ⟨z, h3⟩ := if_outM h2
      subst z
      cases rv with
      | cell ea =>
        obtain ⟨A, dx, gs, ec, e3, _⟩ := m1.ok.ok _ _ _ ea e
        obtain rfl : C = A := Option.some.inj (O.cn.symm.trans ec)
        refine ⟨_, dx, gs, rfl, e3, α1, S1, [.cell n], rfl, m1.ok, .cons (.cell ea) .nil, ?_⟩
        refine (noEx_od (OD.bind (o := noEx (F [.cell n] S1)) h3)).imp (fun y α2 S2 H2 m2 h4 w rw' => ?_) fun _ _ _ _ _ z => z
        cases y with
        | int i =>
          cases rw'
          obtain ⟨z, h5⟩ := if_outM h4
          exact ⟨i, rfl, z.1, z.2, ret_od m2.ok h5 _ (.int i)⟩
        | _ => exact h4.elim
    | _ => exact h2.elim
  | _ => exact h1.elim
/-! ### o == y -/
noncomputable def eqIC (cn : Str) (ds : List Str) (F : FD) (x y : PV) : M PV := match x with
  | .cell n => getC n fun c => match c with
    | .ins D _ => if D = cn then (tyC y).bind fun t => match t with
        | .inl _ => fun S => (noEx (F [x, y] S)).bind fun v => match v with
          | .bl b => M.ret (.bl b)
          | _ => M.bad
        | .inr D2 => if D2 = cn ∨ D2 ∈ ds then fun S => (noEx (F [x, y] S)).bind fun v => match v with
          | .bl b => M.ret (.bl b)
          | _ => M.bad else M.bad
      else M.bad
    | _ => M.bad
  | _ => M.bad
def rEqC (K : PySem.W.Frag) (C : Addr) (F : FD) : R2 := fun x y H Q => ∃ a dx fs t, x = .ref a ∧ H a = some (.ins C dx fs) ∧ TyX K H y t ∧ PySem.W.notFirst K C t = true ∧ spD K 2 F [x, y] H (fun v H' => ∃ b : Bool, v = .bl b ∧ Q (.bl b) H') (fun _ _ _ => False)
theorem op_eqC (hl : PySem.W.findIn X.K (.ref C) "__eq__" = some (some (.ref fI))) (hf : PySem.W.isFn X.K (.ref fI) = true) (G : FnG X.prog X.w X.K X.mg X.base k fI fd ps (spD X.K 2 F)) (hr : Room k X.A) (gd : X.A.guards = some []) (hb : Binds X.K fd ps []) :
    OpR X (compareOp .Eq) (rEqC X.K C F) := by
  intro pins s σ H x y v u Q I rx ry h
  obtain ⟨b, dx, fs, t, rfl, eb, ty, nf, sp⟩ := h
  cases rx
  obtain ⟨P, Z, hp, _⟩ := kit_of I ry ty
  obtain ⟨mA, J, _⟩ := ins_get I.hok eb
  obtain ⟨od, J, _⟩ := J.look
  obtain ⟨m, hF⟩ := I.fr
  have rr : Vals [V.ref b, y] [Value.ref b, u] := .cons rfl (.cons ry .nil)
  have bd := hb s [.ref b, u] I.kIn (by rw [List.append_nil]; exact G.len _ _ _ _ sp)
  rw [List.append_nil] at bd
  show wpAny (model X.prog X.w) X.A (richCompare .Eq (.ref b) u) (EP X pins σ Q) X.xe s
  refine PySem.W.cmp_K (op := .Eq) hr.units0 hF I.ok.mod.kin J (Z.ty _ _ I.kIn hp) nf hl hf ?_
  refine wpAny_call (codeAny_mono (G.run X.A X.stack s H ⟨[.ref b, u], []⟩ [.ref b, u] [.ref b, y] _ (fun _ _ _ => False) hr gd I.env0 bd rr sp) fun r s' hq => ?_)
  cases r with
  | error e => exact passAt (W := fun _ _ _ _ => False) takes0 σ pins H s e s' I hq
  | ok fl =>
    cases fl with
    | ret w =>
      obtain ⟨z, H', I', rz, c, rfl, q⟩ := I.after hq
      cases rz
      exact ⟨.bl c, H', I', rfl, q⟩
    | next => exact hq.elim
    | brk => exact hq.elim
    | cont => exact hq.elim
theorem den_eqC {K : PySem.W.Frag} (O : OwnC K cn C) (T : Others K C ds) : Den2 K (rEqC K C F) (eqIC cn ds F) := fun α S H x y vx vy Q E o rx ry h => by
  cases x with
  | cell n =>
    obtain ⟨c, e, h2⟩ := getC_od (show OD K α H (getC n _ S) _ _ from h)
    cases c with
    | ins D fs =>
      obtain ⟨z, h3⟩ := if_outM h2
      subst z
      cases rx with
      | cell ea =>
        obtain ⟨A, dx, gs, ec, e3, _⟩ := o.ok _ _ _ ea e
        obtain rfl : C = A := Option.some.inj (O.cn.symm.trans ec)
        have fin : OD K α H ((noEx (F [.cell n, y] S)).bind fun v => match v with
            | .bl b => M.ret (.bl b)
            | _ => M.bad) (fun d α' _ H' => ∀ v, Rep K α' H' d v → Q v H') E → spD K 2 F [.ref _, vy] H (fun v H' => ∃ b : Bool, v = .bl b ∧ Q (.bl b) H') (fun _ _ _ => False) := fun h4 => by
          refine ⟨α, S, [.cell n, y], rfl, o, .cons (.cell ea) (.cons ry .nil), ?_⟩
          refine (noEx_od (OD.bind (o := noEx (F [.cell n, y] S)) h4)).imp (fun z α2 S2 H2 m2 h5 w rw' => ?_) fun _ _ _ _ _ z => z
          cases z with
          | bl i =>
            cases rw'
            exact ⟨i, rfl, ret_od m2.ok h5 _ (.bl i)⟩
          | _ => exact h5.elim
        have h4 := tyC_od o ry (OD.bind (o := tyC y S) h3)
        rcases h4 with ⟨T', hT, ty, h5⟩ | ⟨D2, b, A, dx2, gs2, rfl, ec2, e4, h5⟩
        · exact ⟨_, dx, gs, .type T', rfl, e3, ty, O.nf T' hT, fin h5⟩
        · obtain ⟨z, h6⟩ := if_outM h5
          by_cases z2 : D2 = D
          · subst z2
            obtain rfl : C = A := Option.some.inj (O.cn.symm.trans ec2)
            exact ⟨_, dx, gs, .ref C, rfl, e3, O.ty e4, O.nfc, fin h6⟩
          · obtain ⟨A', O', _, nf⟩ := T.at_ D2 (z.resolve_left z2)
            obtain rfl : A' = A := Option.some.inj (O'.cn.symm.trans ec2)
            exact ⟨_, dx, gs, .ref A', rfl, e3, O'.ty e4, nf, fin h6⟩
    | _ => exact h2.elim
  | _ => exact h.elim
/-! ### a list taken n times -/
def mulL : PV → PV → M PV
  | .cell n, .int k => getC n fun c => match c with
    | .lst xs => if -(2 ^ 63) ≤ k ∧ k < 2 ^ 63 ∧ xs.length * k.toNat ≤ sizeLine then fun S => .ok (.cell S.length) (S ++ [.lst (List.replicate k.toNat xs).flatten]) else M.bad
    | _ => M.bad
  | _, _ => M.bad
theorem den_mulL {K : PySem.W.Frag} : Den2 K rRep mulL := fun α S H x y vx vy Q E o rx ry h => by
  unfold mulL at h
  split at h
  · rename_i n k
    cases ry
    obtain ⟨c, e, h2⟩ := getC_od h
    cases c with
    | lst xs =>
      cases rx with
      | cell ea =>
        obtain ⟨vs, e3, rv⟩ := o.ok _ _ _ ea e
        obtain ⟨⟨z1, z2, z3⟩, h3⟩ := if_outM h2
        refine ⟨_, k, vs, rfl, rfl, e3, z1, z2, by rw [← rv.length]; exact z3, fun p hp => ?_⟩
        refine h3 _ _ (.cell o hp ⟨_, upd_same, (Reps.rep rv k.toNat).mono (.new hp) (.snoc α p)⟩) _ (.cell ?_)
        rw [← o.len, List.getElem?_append_right (Nat.le_refl _), Nat.sub_self]; rfl
    | _ => exact h2.elim
  · exact h.elim
/-! ### C(k = v, ..) -/
noncomputable def mkIK (n : Nat) (ix : List Nat) (np : Nat) (C : Str) (F : FD) : FD := fun zs => if zs.length = n then mkI np C F (pick ix zs) else M.bad
theorem run_mkGK {pins : List (Addr × Obj)} {σ : L2.St} {H : Hp} {s : Shared} {Q : VK} {us us' : List Value} {kw : List (Str × Value)} {vs : List V} {sp : Sp} (M : Mk X.K C fI) (G : FnG X.prog X.w X.K X.mg X.base k fI fd ps sp) (hr : Room (k + 1) X.A) (gd : X.A.guards = some []) (tk : Takes X W.w)
    (hb : ∀ (s : Shared) (u : Value), BindsTo s fd ⟨u :: us', kw⟩ (ps.zip (u :: us))) (I : Inv X pins σ H s) (r : Vals vs us)
    (h : ∀ x dx, H x = none → H dx = none → dx ≠ x → sp (.ref x :: vs) (upd (upd H dx (.own x)) x (.ins C dx [])) (fun v H2 => v = .non ∧ Q (.ref x) H2) (WE W.w σ)) : wpAny (model X.prog X.w) X.A (call (.ref C) us' kw) (EP X pins σ Q) X.xe s := by
  let ax := s.heap.objs.size + 1
  have hq := h ax s.heap.objs.size (I.hok.fresh (Nat.le_succ _)) (I.hok.fresh (Nat.le_refl _)) (Nat.ne_of_lt (Nat.lt_succ_self _))
  have J := Inv.made (C := C) I
  have rr : Vals (V.ref ax :: vs) (Value.ref ax :: us) := .cons rfl r
  refine wpAny_call (make_map (f := fI) I.kIn M.makes M.init (beq_iff_eq.mp M.fn) (codeAny_mono (G.run _ X.stack _ _ ⟨Value.ref ax :: us', kw⟩ (Value.ref ax :: us) _ _ (WE W.w σ) (hr.make C us' kw) ?_ (J.env0.make C us' kw) (hb _ _) rr hq) fun z s' hz => ?_))
  · first
      | exact gd
      | (show pushGuards _ X.A.guards = some []; rw [gd]; rfl)
      | (unfold Around.under; simp [gd])
  · cases z with
    | error e => exact passAt tk σ pins _ _ e s' J hz
    | ok fl =>
      cases fl with
      | ret u =>
        obtain ⟨v, H', I3, rv, ev, q3⟩ := J.after hz
        subst ev
        exact ⟨rv, ⟨V.ref ax, H', I3, rfl, q3⟩⟩
      | next => exact hz.elim
      | brk => exact hz.elim
      | cont => exact hz.elim
theorem de_makeK {kws : List Keyword} {fk : PEnv → M (List PV)} (ks : List Str) (ix : List Nat) (M : Mk X.K C fI) (G : FnG X.prog X.w X.K X.mg X.base k fI fd ps (spD X.K (np + 1) F)) (hr : Room (k + 1) X.A) (gd : X.A.guards = some []) (tk : Takes X W.w) (hcn : clsOf X.K cn = some C) (hm : X.mg x = some (.ref C))
    (hb : ∀ (s : Shared) (u : Value) (ws : List Value), ws.length = ks.length → BindsTo s fd ⟨[u], ks.zip ws⟩ (ps.zip (u :: pick ix ws))) (ha : DK X W kws fk) (hg : Gl X x := by rfl) (hall : (backToKw pos (keywordEach kws X.env)).all (·.1.isSome) = true := by rfl)
    (hks : (backToKw pos (keywordEach kws X.env)).filterMap (·.1) = ks := by rfl) (hdb : (x == ("__debug__" : Str)) = false := by decide) (hpl : ((backTo pos (starEach [] X.env)).any (·.1) || (backToKw pos (keywordEach kws X.env)).any (·.1.isNone)) = false := by rfl) :
    DE X W (.Call (.Name x p) [] kws pos) (eArgs (mkIK ks.length ix np cn F) fk) := by
  refine ⟨fun pins s σ H Q I ⟨α, S, ρ, o, sl, h⟩ => ?_⟩
  refine wpAny_Call_Name_kw (ld_glob I hg hm ?_ hdb)
  refine PySem.W.callWith_KW0 (h₀ := X.base) I.ok.mod.kin M.kp hall (thn (ha.run pos pins s σ H (fun vs H1 => vs.length = ks.length ∧ ∀ x dx, H1 x = none → H1 dx = none → dx ≠ x → spD X.K (np + 1) F (.ref x :: pick ix vs) (upd (upd H1 dx (.own x)) x (.ins C dx [])) (fun v H2 => v = .non ∧ Q (.ref x) H2) (WE W.w σ)) I ⟨α, S, ρ, o, sl, ?_⟩) fun us s1 ⟨vs, H1, I1, r, hl, q⟩ => ⟨I1.kIn, ?_⟩) hpl
  · refine (OD.bind (o := fk ρ S) h).imp (fun ds α1 S1 H1 m1 h1 vs rv => ?_) fun _ _ _ _ _ q => q
    unfold mkIK at h1
    obtain ⟨hz, h1⟩ := if_outM h1
    refine ⟨by rw [← rv.length, hz], fun x dx hx hd ne => ?_⟩
    have rv' := rv.pick ix
    unfold mkI at h1
    obtain ⟨hl, h2⟩ := if_out h1
    have mA : Mv X.K α1 H1 α1 S1 (upd H1 dx (.own x)) := Mv.new m1.ok hd
    have hx2 : upd H1 dx (.own x) x = none := by rw [upd_ne (fun z => ne z.symm)]; exact hx
    have mB : Mv X.K α1 (upd H1 dx (.own x)) (α1 ++ [x]) (S1 ++ [.ins cn []]) (upd (upd H1 dx (.own x)) x (.ins C dx [])) := Mv.cell mA.ok hx2 ⟨C, dx, [], hcn, upd_same, rfl⟩
    have m2 := mA.trans mB
    refine ⟨α1 ++ [x], S1 ++ [.ins cn []], .cell S1.length :: pick ix ds, by rw [List.length_cons, hl], m2.ok, .cons (.cell ?_) (rv'.mono m2.grow m2.le), ?_⟩
    · rw [← m1.ok.len]; simp
    · have h3 := OD.bind (o := F (.cell S1.length :: pick ix ds) (S1 ++ [.ins cn []])) (OD.trans h2 m2)
      refine h3.imp (fun v α3 S3 H3 m3 h4 u ru => ?_) fun _ _ _ _ _ q => q
      cases v with
      | non =>
        cases ru
        exact ⟨rfl, h4 α3 H3 (.refl m3.ok) _ (.cell (m3.le _ _ (by rw [← m1.ok.len]; simp)))⟩
      | _ => exact h4.elim
  · rw [hks]
    exact run_mkGK M G hr gd tk (fun s u => hb s u us (by rw [← r.length, hl])) I1 (Vals.pick r ix) q
/-! ### o.m(k = v, ..) -/
noncomputable def eMethCK (C : Str) (m : Str) (n : Nat) (ix : List Nat) (np : Nat) (F : FD) (fo : PEnv → M PV) (fk : PEnv → M (List PV)) : PEnv → M PV := fun ρ => (fo ρ).bind fun x => (insC C m x).bind fun _ => (fk ρ).bind fun zs => if zs.length = n then chkL np F (x :: pick ix zs) else M.bad
theorem de_methK {pl : Sem Bool} {m : Str} {apos : Pos} {o : Expr} {fo : PEnv → M PV} {kws : List Keyword} {fk : PEnv → M (List PV)} {fM : Addr} (ks : List Str) (ix : List Nat) (hcn : clsOf X.K cn = some C) (c : Cls X.K C) (hm : Meth X.K C m fM) (G : FnG X.prog X.w X.K X.mg X.base k fM fd ps (spD X.K np F)) (hr : Room k X.A) (gd : X.A.guards = some []) (tk : Takes X W.w)
    (hb : ∀ (s : Shared) (u : Value) (ws : List Value), ws.length = ks.length → BindsTo s fd ⟨[u], ks.zip ws⟩ (ps.zip (u :: pick ix ws))) (ho : DE X W o fo) (ha : DK X W kws fk) (hall : (backToKw pos (keywordEach kws X.env)).all (·.1.isSome) = true := by rfl)
    (hks : (backToKw pos (keywordEach kws X.env)).filterMap (·.1) = ks := by rfl) (hpl : ((backTo pos (starEach [] X.env)).any (·.1) || (backToKw pos (keywordEach kws X.env)).any (·.1.isNone)) = false := by rfl)
    (ht : eval (.Call (.Attribute o m apos) [] kws pos) X.env = (do let ov ← eval o X.env; standAt apos.atName; let (f, first) ← holding [ov] (getMethod ov m pl); callWith pos f first (backTo pos (starEach [] X.env)) (backToKw pos (keywordEach kws X.env))) := by rfl) :
    DE X W (.Call (.Attribute o m apos) [] kws pos) (eMethCK cn m ks.length ix np F fo fk) := by
  refine ⟨fun pins s σ H Q I ⟨α, S, ρ, so, sl, h⟩ => ?_⟩
  refine PySem.W.methodCall_KW (pl := pl) (thn (ho.run pins s σ H (fun x H1 => ∃ b dx gs, x = .ref b ∧ H1 b = some (.ins C dx gs) ∧ gs.lookup m = none ∧ tDA X.K W fk σ H1 fun vs H2 => vs.length = ks.length ∧ spD X.K np F (x :: pick ix vs) H2 Q (WE W.w σ)) I ⟨α, S, ρ, so, sl, ?_⟩) fun u s1 ⟨x, H1, I1, rx, b, dx, gs, ex, ea, l, q⟩ => ?_) ht
  · refine (OD.bind (o := fo ρ S) h).imp (fun x α1 S1 H1 m1 h1 v rv => ?_) fun _ _ _ _ _ q => q
    obtain ⟨b, dx, gs, rfl, e3, l, h2⟩ := insC_od hcn m1.ok rv (OD.bind (o := insC cn m x S1) h1)
    refine ⟨b, dx, gs, rfl, e3, l, α1, S1, ρ, m1.ok, sl.mv m1, (OD.bind (o := fk ρ S1) h2).imp (fun xs α2 S2 H2 m2 h3 vs rvs => ?_) fun _ _ _ _ _ q => q⟩
    obtain ⟨hz, h3⟩ := if_outM h3
    exact ⟨by rw [← rvs.length, hz], sp_of m2.ok (.cons (rv.mono m2.grow m2.le) (rvs.pick ix)) h3⟩
  · subst ex
    obtain rfl : u = Value.ref b := rx
    refine getmeth_ok I1 ea c hm l ?_
    refine PySem.W.callWith_KW0 (first := [.ref b]) (h₀ := X.base) I.ok.mod.kin hm.kp hall (thn (ha.run pos pins s1 σ H1 _ I1 q) fun us s2 ⟨vs, H2, I2, r, hl, q2⟩ => ⟨I2.kIn, ?_⟩) hpl
    have rr : Vals (V.ref b :: pick ix vs) (Value.ref b :: pick ix us) := .cons rfl (Vals.pick r ix)
    rw [hks]
    exact run_G G hr gd tk (hb s2 _ us (by rw [← r.length, hl])) I2 rr q2
end
end DL

/-! DLt2: values that may be None. -/
namespace DL
open PySem PySem.Spec PyProof.Rows L2 PySem.W
open Classical
open PVal (pv)
instance : PVal (Option Int) where
  pv o := match o with
    | none => .non
    | some i => .int i
  lay o := by cases o <;> rfl
  rd S n o h := by
    obtain ⟨m, rfl⟩ : ∃ m, n = m + 1 := ⟨n - 1, by omega⟩
    cases o <;> rfl
section
variable {S : Store} {Q : PV → Store → Prop} {E : Exn → Store → Prop}
/-- is it None -/
def isNonB : PV → Bool
  | .non => true
  | _ => false
theorem vv_isnon {x : PV} (h : Okv S x) : wpx (isNV x .non) S Q E ↔ Q (.bl (isNonB x)) S := by
  cases x with
  | con u => exact h.elim
  | _ => exact Iff.rfl
theorem vv_notnon {x : PV} (h : Okv S x) : wpx (notNV x .non) S Q E ↔ Q (.bl (!isNonB x)) S := by
  cases x with
  | con u => exact h.elim
  | _ => exact Iff.rfl
theorem vv_isbl {a b : Bool} : wpx (isNV (.bl a) (.bl b)) S Q E ↔ Q (.bl (decide (a = b))) S := Iff.rfl
theorem vv_notbl {a b : Bool} : wpx (notNV (.bl a) (.bl b)) S Q E ↔ Q (.bl (!decide (a = b))) S := Iff.rfl
end
end DL

/-! DLD: dicts whose keys are tuples, written as such: d = {(..): v}, d.get((..), x), d[(..)] = v. -/
namespace DL
open PySem PySem.Spec PyProof.Rows L2 PySem.W
section
variable {κ : Type} [DecidableEq κ]
def valD (kvs : List (κ × PV)) (k : κ) : Option PV := (kvs.find? fun kv => decide (kv.1 = k)).map (·.2)
def putD (kvs : List (κ × PV)) (k : κ) (v : PV) : List (κ × PV) :=
  if (kvs.any fun kv => decide (kv.1 = k)) = true then kvs.map (fun kv => if kv.1 = k then (kv.1, v) else kv) else kvs ++ [(k, v)]
variable {K : PySem.W.Frag} {α : List Addr} {H : Hp}
theorem RepD.val {k : κ} : ∀ {kvs : List (κ × PV)} {ds : List (κ × V)}, RepD K α H kvs ds → ∀ {z : PV} {vz : V}, Rep K α H z vz → Rep K α H ((valD kvs k).getD z) ((valV ds k).getD vz)
  | [], _, h, z, vz, rz => by cases h; exact rz
  | (n, d) :: r, _, ⟨v, t, e, h, h2⟩, z, vz, rz => by
    subst e
    by_cases p : n = k
    · have e1 : valD ((n, d) :: r) k = some d := by simp [valD, List.find?_cons, p]
      rw [e1, valV_pos (p := (n, v)) p]; exact h
    · have e1 : valD ((n, d) :: r) k = valD r k := by simp [valD, List.find?_cons, p]
      rw [e1, valV_neg (p := (n, v)) p]; exact h2.val rz
theorem RepD.any {k : κ} : ∀ {kvs : List (κ × PV)} {ds : List (κ × V)}, RepD K α H kvs ds → (kvs.any fun kv => decide (kv.1 = k)) = ds.any fun kv => decide (kv.1 = k)
  | [], _, h => by cases h; rfl
  | (n, d) :: r, _, ⟨v, t, e, h, h2⟩ => by subst e; rw [List.any_cons, List.any_cons, h2.any]
theorem RepD.repl {k : κ} {z : PV} {vz : V} (rz : Rep K α H z vz) : ∀ {kvs : List (κ × PV)} {ds : List (κ × V)}, RepD K α H kvs ds → RepD K α H (kvs.map fun kv => if kv.1 = k then (kv.1, z) else kv) (ds.map fun kv => if kv.1 = k then (kv.1, vz) else kv)
  | [], _, h => by cases h; rfl
  | (n, d) :: r, _, ⟨v, t, e, h, h2⟩ => by
    subst e
    rw [List.map_cons, List.map_cons]
    by_cases p : n = k
    · rw [if_pos p, if_pos p]; exact ⟨vz, _, rfl, rz, h2.repl rz⟩
    · rw [if_neg p, if_neg p]; exact ⟨v, _, rfl, h, h2.repl rz⟩
theorem RepD.snoc {k : κ} {z : PV} {vz : V} (rz : Rep K α H z vz) : ∀ {kvs : List (κ × PV)} {ds : List (κ × V)}, RepD K α H kvs ds → RepD K α H (kvs ++ [(k, z)]) (ds ++ [(k, vz)])
  | [], _, h => by cases h; exact ⟨vz, [], rfl, rz, rfl⟩
  | (n, d) :: r, _, ⟨v, t, e, h, h2⟩ => by subst e; exact ⟨v, _, rfl, h, h2.snoc rz⟩
theorem RepD.put {k : κ} {z : PV} {vz : V} {kvs : List (κ × PV)} {ds : List (κ × V)} (h : RepD K α H kvs ds) (rz : Rep K α H z vz) : RepD K α H (putD kvs k z) (putK ds k vz) := by
  unfold putD putK
  rw [h.any (k := k)]
  split
  · exact h.repl rz
  · exact h.snoc rz
end
/-- a tuple of ints and texts as a key -/
def keyOf : List PV → Option (List Key)
  | [] => some []
  | .int i :: r => (keyOf r).map fun k => .inl i :: k
  | .str x :: r => (keyOf r).map fun k => .inr x :: k
  | _ => none
theorem keyOf_reps {K : PySem.W.Frag} {α : List Addr} {H : Hp} : ∀ {ks : List PV} {vs : List V} {k : List Key}, Reps K α H ks vs → keyOf ks = some k → vs = k.map kV
  | [], _, k, h, e => by cases h; cases e; rfl
  | x :: r, _, k, h, e => by
    cases h with
    | cons h1 h2 =>
      cases x with
      | int i =>
        obtain ⟨k', e1, rfl⟩ := Option.map_eq_some_iff.mp (show (keyOf r).map (fun k => (Sum.inl i : Key) :: k) = some k from e)
        cases h1
        rw [keyOf_reps h2 e1]; rfl
      | str y =>
        obtain ⟨k', e1, rfl⟩ := Option.map_eq_some_iff.mp (show (keyOf r).map (fun k => (Sum.inr y : Key) :: k) = some k from e)
        cases h1
        rw [keyOf_reps h2 e1]; rfl
      | _ => exact (nomatch e)
/-- the dict in a cell -/
def getDT {β : Type} (x : PV) (f : Nat → List (List Key × PV) → M β) : M β := match x with
  | .cell n => getC n fun c => match c with
    | .dT kvs => f n kvs
    | _ => M.bad
  | _ => M.bad
theorem getDT_od {K : PySem.W.Frag} {α : List Addr} {H : Hp} {β : Type} {S : Store} {x : PV} {f : Nat → List (List Key × PV) → M β} {R : β → List Addr → Store → Hp → Prop} {E : Exn → List Addr → Store → Hp → Prop} (h : OD K α H (getDT x f S) R E) :
    ∃ n kvs, x = .cell n ∧ S[n]? = some (.dT kvs) ∧ OD K α H (f n kvs S) R E := by
  cases x with
  | cell n =>
    obtain ⟨c, e, h2⟩ := getC_od (show OD K α H (getC n _ S) _ _ from h)
    cases c with
    | dT kvs => exact ⟨n, kvs, rfl, e, h2⟩
    | _ => exact h2.elim
  | _ => exact h.elim
def few100 (ks : List PV) : M Unit := if ks.length ≤ 100 then M.ret () else M.bad
/-- d.get((..), x) -/
def eGetT (fo : PEnv → M PV) (fk : PEnv → M (List PV)) (fz : PEnv → M PV) : PEnv → M PV := fun ρ => (fo ρ).bind fun x => (getDT x fun _ _ => M.ret ()).bind fun _ => (fk ρ).bind fun ks => (few100 ks).bind fun _ => (fz ρ).bind fun z => getDT x fun _ kvs => (optM (keyOf ks)).bind fun k => M.ret ((valD kvs k).getD z)
def putDT (x : PV) (ks : List PV) (d : PV) : M Unit := getDT x fun n kvs => if kvs.length < 1000000 then (optM (keyOf ks)).bind fun k S => .ok () (S.set n (.dT (putD kvs k d))) else M.bad
/-- d[(..)] = v -/
def sPutT (fo : PEnv → M PV) (fk : PEnv → M (List PV)) (f : PEnv → M PV) : SD := fun ρ S => lift (f ρ S) ρ fun d S1 => lift (fo ρ S1) ρ fun x S2 => lift (fk ρ S2) ρ fun ks S3 => lift ((few100 ks).bind (fun _ => putDT x ks d) S3) ρ fun _ => M.ret (.nx, ρ)
/-- {(..): v} -/
def eNewT (fk : PEnv → M (List PV)) (f : PEnv → M PV) : PEnv → M PV := fun ρ S => ((fk ρ (S ++ [.dT []])).bind fun ks => (few100 ks).bind fun _ => (f ρ).bind fun d => getDT (.cell S.length) fun n kvs => if kvs = [] then (optM (keyOf ks)).bind fun k S2 => .ok (.cell n) (S2.set n (.dT [(k, d)])) else M.bad)
section
variable {X : Cx} {W : WJ} {es : List Expr} {o d e : Expr} {fo fz f : PEnv → M PV} {fk : PEnv → M (List PV)} {p p' apos cpos pos : Pos}
theorem few_od {K : PySem.W.Frag} {α : List Addr} {H : Hp} {β : Type} {S : Store} {ks : List PV} {g : Unit → M β} {R : β → List Addr → Store → Hp → Prop} {E : Exn → List Addr → Store → Hp → Prop} (h : OD K α H ((few100 ks).bind g S) R E) : ks.length ≤ 100 ∧ OD K α H (g () S) R E := by
  unfold few100 at h
  by_cases c : ks.length ≤ 100
  · rw [if_pos c] at h; exact ⟨c, h⟩
  · rw [if_neg c] at h; exact h.elim
theorem line100 {vs : List V} (h : vs.length ≤ 100) : vs.length ≤ sizeLine := by rw [sizeLine_eq]; omega
theorem Grow.putT {H : Hp} {a : Addr} {vs : List (List Key × V)} {o : HO} (h : H a = some (.dT vs)) : Grow H (upd H a o) :=
  ⟨fun b xs e => by rw [upd_ne (fun z => by rw [z, h] at e; cases e)]; exact e, fun b o u e => by rw [upd_ne (fun z => by rw [z, h] at e; cases e)]; exact e, fun b fs e => by rw [upd_ne (fun z => by rw [z, h] at e; cases e)]; exact e⟩
theorem de_getT {x1} (hu : X.A.units + 1 < cLine) (ho : DE X W o fo) (hk : DA X W es fk) (hd : DE X W d fz) (m : M2 X o "get" apos (.Tuple es x1 p) d cpos) : DE X W (.Call (.Attribute o "get" apos) [.Tuple es x1 p, d] [] cpos) (eGetT fo fk fz) := by
  refine PE_imp (pe_dget2 hu ho (pe_tup hk) hd m) fun σ H Q ⟨α, S, ρ, so, sl, h⟩ => ?_
  refine ⟨α, S, ρ, so, sl, (OD.bind (o := fo ρ S) h).imp (fun x α1 S1 H1 m1 h1 v rv => ?_) fun _ _ _ _ _ q => q⟩
  obtain ⟨n, kvs, rfl, en, h2⟩ := getDT_od (OD.bind (o := getDT x (fun _ _ => M.ret ()) S1) h1)
  cases rv with
  | cell ea =>
    obtain ⟨ds, eH, rd⟩ := m1.ok.ok _ _ _ ea en
    refine ⟨_, rfl, .inr ⟨ds, .inl eH⟩, α1, S1, ρ, m1.ok, sl.mv m1, (OD.bind (o := fk ρ S1) (ret_od m1.ok h2)).imp (fun ks α2 S2 H2 m2 h3 vs rvs => ?_) fun _ _ _ _ _ q => q⟩
    obtain ⟨hz, h3⟩ := few_od h3
    refine ⟨line100 (by rw [← rvs.length]; exact hz), fun q hq => ?_⟩
    have mA : Mv X.K α2 H2 α2 S2 (upd H2 q (.tup vs)) := Mv.new m2.ok hq
    refine ⟨α2, S2, ρ, mA.ok, ((sl.mv m1).mv m2).mv mA, (OD.bind (o := fz ρ S2) (OD.trans h3 mA)).imp (fun z α3 S3 H3 m3 h4 vz rz => ?_) fun _ _ _ _ _ q => q⟩
    obtain ⟨n', kvs3, e3, en3, h5⟩ := getDT_od h4
    cases e3
    obtain ⟨ds3, eH3, rd3⟩ := m3.ok.ok _ _ _ (m3.le _ _ (m2.le _ _ ea)) en3
    obtain ⟨k, ek, h6⟩ := optM_od m3.ok (OD.bind (o := optM (keyOf ks) S3) h5)
    have ev := keyOf_reps rvs ek
    subst ev
    have hp3 : H3 q = some (.tup (k.map kV)) := m3.grow.tup _ _ upd_same
    exact ⟨_, DGet.t eH3 hp3, ret_od m3.ok h6 _ (rd3.val rz)⟩
theorem ds_putT {x1} (hu : X.A.units + 1 < cLine) (he : DE X W e f) (ho : DE X W o fo) (hk : DA X W es fk) (hs : swapsWith e (some (.Subscript o (.Tuple es x1 p) p')) pos.line X.env = pure false := by rfl) :
    DS X W (.Assign [.Subscript o (.Tuple es x1 p) p'] e pos) (sPutT fo fk f) := by
  refine PS_imp (ps_dput hu ho (pe_tup hk) he hs) fun D σ H ⟨α, S, ρ, so, sl, h⟩ => ?_
  refine ⟨α, S, ρ, so, sl, (lift_od sl h).imp (fun d α1 S1 H1 m1 h1 v rv => ?_) fun _ _ _ _ _ q => q⟩
  refine ⟨α1, S1, ρ, m1.ok, sl.mv m1, (lift_od (sl.mv m1) h1).imp (fun x α2 S2 H2 m2 h2 vx rx => ?_) fun _ _ _ _ _ q => q⟩
  refine ⟨α2, S2, ρ, m2.ok, (sl.mv m1).mv m2, (lift_od ((sl.mv m1).mv m2) h2).imp (fun ks α3 S3 H3 m3 h3 vs rvs => ?_) fun _ _ _ _ _ q => q⟩
  obtain ⟨hz, h4⟩ := few_od (lift_od (((sl.mv m1).mv m2).mv m3) h3)
  refine ⟨line100 (by rw [← rvs.length]; exact hz), fun q hq => ?_⟩
  have mA : Mv X.K α3 H3 α3 S3 (upd H3 q (.tup vs)) := Mv.new m3.ok hq
  obtain ⟨n, kvs, rfl, en, h5⟩ := getDT_od h4
  obtain ⟨hl, h5⟩ := if_outM h5
  cases rx with
  | cell ea =>
    obtain ⟨ds, eH, rd⟩ := mA.ok.ok _ _ _ (m3.le _ _ ea) en
    obtain ⟨k, ek, h6⟩ := optM_od m3.ok (OD.bind (o := optM (keyOf ks) S3) h5)
    have ev := keyOf_reps rvs ek
    subst ev
    have m23 := (m2.trans m3).trans mA
    have rd2 : RepD X.K α3 (upd H3 q (.tup (k.map kV))) (putD kvs k d) (putK ds k v) := rd.put (rv.mono m23.grow m23.le)
    refine ⟨_, _, rfl, DPut.t eH upd_same (by rw [← rd.length, sizeLine_eq]; omega), ?_⟩
    have g := Grow.putT (o := .dT (putK ds k v)) eH
    have mB := Mv.put mA.ok (c' := .dT (putD kvs k d)) (m3.le _ _ ea) en rfl g rfl ⟨_, upd_same, rd2.mono g (.refl _)⟩
    have m4 := mA.trans mB
    have h7 := (OD.trans (show OD X.K α3 H3 (.ok () (S3.set n (.dT (putD kvs k d)))) _ _ from h6) (.refl m3.ok)) α3 _ m4
    exact h7 α3 _ (.refl m4.ok) σ ((((sl.mv m1).mv m2).mv m3).mv m4)
def tDispT (ty tv : TE) : TE := fun σ H Q => ∀ p, H p = none → ty σ (upd H p (.dT [])) fun y H1 => tv σ H1 fun v H2 => H2 p = some (.dT []) ∧ ∃ k b, y = .ref b ∧ H2 b = some (.tup (k.map kV)) ∧ Q (.ref p) (upd H2 p (.dT [(k, v)]))
theorem pe_dispT {ke ve : Expr} {ty tv : TE} (hu : X.A.units + 1 < cLine) (hk : PE X ke ty) (hv : PE X ve tv) : PE X (.Dict [some ke] [ve] pos) (tDispT ty tv) := by
  refine ⟨fun pins s σ H Q I q => ?_⟩
  have hn := I.hok.fresh (Nat.le_refl s.heap.objs.size)
  have I1 := I.laid (a := s.heap.objs.size) (o := .dT []) (h' := s.heap.push { cls := .type "dict", data := .dict #[] }) (t' := s.toks) (fun _ _ q => Heap.get?_push_of_some _ q) (Nat.le_refl _) (dt_empty s.heap I.big)
  have hall : ([some ke] : List (Option Expr)).all (·.isSome) = true := rfl
  have hl : ([some ke] : List (Option Expr)).length = [ve].length := rfl
  have hn2 := pairTrees_length [some ke] [ve] X.env pos hall hl
  have h0 : pairTrees [some ke] [ve] X.env pos ≠ [] := fun z => by rw [z] at hn2; cases hn2
  rw [arm_eval_Dict, zip_pairTrees [some ke] [ve] X.env pos hall hl, dictDisplay_pairs _ h0 (by rw [hn2]; simp)]
  refine wpAny_bind (wpAny_standAt (wpAny_bind (wpAny_subDictH (knd := tupleKind (mixKind X.prog X.w)) (show X.A.units < cLine by omega) (by rw [hn2]; simp) ?_)))
  refine pairTrees_cons_walk (thn (hk.run pins _ σ _ _ I1 (q _ hn)) fun u s1 ⟨y, H1, I1', ry, q1⟩ => thn (hv.run pins s1 σ H1 _ I1' q1) fun wv s2 ⟨v, H2, I2, rv, e, k, b, ey, eb, q2⟩ => pairTrees_nil_walk ?_)
  subst ey
  obtain rfl : u = Value.ref b := ry
  obtain ⟨z, hd, xs0, rel0, dd0⟩ := dt_of I2.hok e
  cases rel0
  refine ⟨[(k, b, wv)], ⟨rfl, rfl, key_of I2.hok eb, trivial⟩, dd0, fun h' tk dd' hs => wpAny_pure ?_⟩
  obtain ⟨o', es', ep', hq', h2, h3, h4, _, h5⟩ := dd'
  refine ⟨.ref s.heap.objs.size, _, ?_, rfl, q2⟩
  refine d_write I2 (by rw [e]; exact True.intro) hs ⟨o', hq'⟩ ⟨by rw [sizeLine_eq]; simp, hd, [(k, b, wv)], .cons ⟨rfl, ?_, rv⟩ .nil, o', es', ep', hq', h2, h3, h4, h5⟩
  rw [upd_ne (ne_of eb e (fun z => nomatch z))]
  exact eb
theorem de_newT {x1} (hu : X.A.units + 1 < cLine) (hk : DA X W es fk) (hv : DE X W e f) : DE X W (.Dict [some (.Tuple es x1 p)] [e] pos) (eNewT fk f) := by
  refine PE_imp (pe_dispT hu (pe_tup hk) hv) fun σ H Q ⟨α, S, ρ, so, sl, h⟩ => fun q hq => ?_
  have mN : Mv X.K α H (α ++ [q]) (S ++ [.dT []]) (upd H q (.dT [])) := Mv.cell so hq ⟨[], upd_same, rfl⟩
  refine ⟨α ++ [q], S ++ [.dT []], ρ, mN.ok, sl.mv mN, (OD.bind (o := fk ρ (S ++ [.dT []])) (OD.trans h mN)).imp (fun ks α2 S2 H2 m2 h3 vs rvs => ?_) fun _ _ _ _ _ q => q⟩
  obtain ⟨hz, h3⟩ := few_od h3
  refine ⟨line100 (by rw [← rvs.length]; exact hz), fun r hr => ?_⟩
  have mA : Mv X.K α2 H2 α2 S2 (upd H2 r (.tup vs)) := Mv.new m2.ok hr
  refine ⟨α2, S2, ρ, mA.ok, ((sl.mv mN).mv m2).mv mA, (OD.bind (o := f ρ S2) (OD.trans h3 mA)).imp (fun d α3 S3 H3 m3 h4 v rv => ?_) fun _ _ _ _ _ q => q⟩
  obtain ⟨n, kvs, e1, en, h5⟩ := getDT_od h4
  cases e1
  obtain ⟨h0, h5⟩ := if_outM h5
  subst h0
  obtain ⟨k, ek, h6⟩ := optM_od m3.ok (OD.bind (o := optM (keyOf ks) S3) h5)
  have ev := keyOf_reps rvs ek
  subst ev
  have ea : α3[S.length]? = some q := m3.le _ _ (m2.le _ _ (by rw [← so.len]; simp))
  obtain ⟨ds, eH, rd⟩ := m3.ok.ok _ _ _ ea en
  cases rd
  refine ⟨eH, k, r, rfl, m3.grow.tup _ _ upd_same, ?_⟩
  have g := Grow.putT (o := .dT [(k, v)]) eH
  have mB := Mv.put m3.ok (c' := .dT [(k, d)]) ea en rfl g rfl ⟨_, upd_same, v, [], rfl, rv.mono g (.refl _), rfl⟩
  exact (show OD X.K α3 H3 (.ok (PV.cell S.length) (S3.set S.length (.dT [(k, d)]))) _ _ from h6) α3 _ mB _ (.cell ea)
end
end DL
namespace DL
open PySem PySem.Spec PyProof.Rows L2 PySem.W
theorem u1_of {u c : Nat} (h : u + 64 < c) : u + 1 < c := by omega
/-! ### a[::-1] of a list -/
section
variable {X : Cx} {W : WJ} {e st : Expr} {te ts : TE} {f fz : PEnv → M PV} {p2 pos : Pos}
def tRevL (K : PySem.W.Frag) (te ts : TE) : TE := fun σ H Q => te σ H fun x H1 => ts σ H1 fun z H2 => z = .int (-1) ∧ ∃ a xs, x = .ref a ∧ SqL K H2 a xs ∧ ∀ p, H2 p = none → Q (.ref p) (upd H2 p (.lst xs.reverse))
theorem Vals.rev {xs : List V} {us : List Value} (r : Vals xs us) : Vals xs.reverse us.reverse := by
  induction r with
  | nil => exact .nil
  | cons h t ih => rw [List.reverse_cons, List.reverse_cons]; exact Paired.snoc ih h
theorem pe_revL (he : PE X e te) (hst : PE X st ts) : PE X (.Subscript e (.Slice none none (some st) p2) pos) (tRevL X.K te ts) := by
  refine ⟨fun pins s σ H Q I h => ?_⟩
  refine Subscript_ (thn (he.run pins s σ H _ I h) fun v s1 ⟨x, H1, I1, r1, q1⟩ => ?_)
  refine wpAny_Slice ?_
  rw [evalPart_none]
  refine wpAny_pure (wpAny_pure ?_)
  rw [evalPart_some]
  refine thn (hst.run pins s1 σ H1 _ I1 q1) fun vs s2 ⟨z, H2, I2, rz, ez, a, xs, ex, hx, q⟩ => ?_
  subst ez; subst ex
  obtain ⟨t, rfl⟩ := rz
  obtain rfl : v = Value.ref a := r1
  have I4 : Inv X pins σ H2 { s2 with heap := s2.heap.push { cls := .type "slice", data := .fields #[.none, .none, .int (-1) t] } } := I2.kept (t' := s2.toks) fun b ob q => Heap.get?_push_of_some _ q
  obtain ⟨its, r, ht, hz⟩ := I4.list hx
  have hlen := r.length
  refine tail_any (T := "list") (ops := [.ref a, .ref s2.heap.objs.size]) ht.isList.typeIs slot_list_getitem.lookup ?_ (by with_unfolding_all rfl)
  refine wpAny_getItem_list_slice ht.isList (Heap.IsSliceOf.new ..) .none .none (.int (-1) t) (by simp) ?_ (by rw [List.size_toArray]; omega)
  rw [krv_pick]
  refine ⟨.ref _, _, I4.laid (t' := s2.toks) (o := .lst xs.reverse) (fun b ob q => Heap.get?_push_of_some _ q) (Nat.le_refl _) ?_, rfl, q _ (I4.hok.fresh (Nat.le_refl _))⟩
  exact ⟨by rw [List.length_reverse]; exact hz, _, 0, Vals.rev r, Heap.get?_push_size _ rfl⟩
def revL : PV → M PV
  | .cell n => getC n fun c => match c.items? with
    | some xs => fun S => .ok (.cell S.length) (S ++ [.lst xs.reverse])
    | none => M.bad
  | _ => M.bad
def eRevL (f fz : PEnv → M PV) : PEnv → M PV := fun ρ => (f ρ).bind fun x => (fz ρ).bind fun z => match z with
  | .int i => if i = -1 then revL x else M.bad
  | _ => M.bad
theorem de_revL (he : DE X W e f) (hst : DE X W st fz) : DE X W (.Subscript e (.Slice none none (some st) p2) pos) (eRevL f fz) := by
  refine PE_imp (pe_revL he hst) fun σ H Q ⟨α, S, ρ, so, sl, h⟩ => ?_
  refine ⟨α, S, ρ, so, sl, (OD.bind (o := f ρ S) h).imp (fun x α1 S1 H1 m1 h1 v rv => ?_) fun _ _ _ _ _ q => q⟩
  refine ⟨α1, S1, ρ, m1.ok, sl.mv m1, (OD.bind (o := fz ρ S1) h1).imp (fun z α2 S2 H2 m2 h2 vz rz => ?_) fun _ _ _ _ _ q => q⟩
  cases z with
  | int i =>
    cases rz
    obtain ⟨hi, h3⟩ := if_outM h2
    subst hi
    refine ⟨rfl, ?_⟩
    cases x with
    | cell n =>
      cases rv with
      | cell ea =>
        obtain ⟨c, en, h4⟩ := getC_od (show OD X.K α2 H2 (getC n _ S2) _ _ from h3)
        cases hc : c.items? with
        | none => rw [hc] at h4; exact h4.elim
        | some xs =>
          rw [hc] at h4
          obtain ⟨vs, hq, r⟩ := seqL m2.ok (m2.le _ _ ea) en xs (Cell.items_or hc)
          refine ⟨_, vs, rfl, hq, fun p hp => ?_⟩
          have mN : Mv X.K α2 H2 (α2 ++ [p]) (S2 ++ [.lst xs.reverse]) (upd H2 p (.lst vs.reverse)) := Mv.cell m2.ok hp ⟨_, upd_same, r.reverse.mono (.new hp) (.snoc α2 p)⟩
          refine (show OD X.K α2 H2 (.ok (PV.cell S2.length) (S2 ++ [.lst xs.reverse])) _ _ from h4) _ _ mN _ (.cell ?_)
          rw [← m2.ok.len]; simp
    | _ => exact h3.elim
  | _ => exact h2.elim
end
end DL

/-! DLE: what dicts do, reckoned. -/
namespace DL
open PySem PySem.Spec PyProof.Rows L2 PySem.W
section
variable {κ : Type} [DecidableEq κ]
theorem valD_pos {p : κ × PV} {r : List (κ × PV)} {k : κ} (e : p.1 = k) : valD (p :: r) k = some p.2 := by simp [valD, List.find?_cons, e]
theorem valD_neg {p : κ × PV} {r : List (κ × PV)} {k : κ} (e : ¬ p.1 = k) : valD (p :: r) k = valD r k := by simp [valD, List.find?_cons, e]
theorem valD_any (k : κ) : ∀ kvs : List (κ × PV), (kvs.any fun kv => decide (kv.1 = k)) = (valD kvs k).isSome
  | [] => rfl
  | p :: r => by
    rw [List.any_cons]
    by_cases e : p.1 = k
    · simp only [valD_pos e, decide_eq_true e, Bool.true_or, Option.isSome_some]
    · rw [valD_neg e, decide_eq_false e, Bool.false_or]; exact valD_any k r
theorem valD_map (k j : κ) (y : PV) : ∀ kvs : List (κ × PV), valD (kvs.map fun kv => if kv.1 = k then (kv.1, y) else kv) j = (valD kvs j).map fun x => if j = k then y else x
  | [] => rfl
  | p :: r => by
    have ih := valD_map k j y r
    rw [List.map_cons]
    by_cases h : p.1 = k
    · rw [if_pos h]
      by_cases e : p.1 = j
      · rw [valD_pos (p := (p.1, y)) e, valD_pos e, Option.map_some, if_pos (e.symm.trans h)]
      · rw [valD_neg (p := (p.1, y)) e, valD_neg e, ih]
    · rw [if_neg h]
      by_cases e : p.1 = j
      · rw [valD_pos (p := p) e, valD_pos e, Option.map_some, if_neg (fun z => h (e.trans z))]
      · rw [valD_neg (p := p) e, valD_neg e, ih]
theorem valD_snoc (k j : κ) (y : PV) : ∀ kvs : List (κ × PV), valD kvs k = none → valD (kvs ++ [(k, y)]) j = if j = k then some y else valD kvs j
  | [], _ => by
    by_cases e : k = j
    · rw [if_pos e.symm]; exact valD_pos (p := (k, y)) e
    · rw [if_neg (fun z => e z.symm)]; exact valD_neg (p := (k, y)) e
  | p :: r, hn => by
    rw [List.cons_append]
    have hk : ¬ p.1 = k := fun z => by rw [valD_pos z] at hn; cases hn
    rw [valD_neg hk] at hn
    have ih := valD_snoc k j y r hn
    by_cases e : p.1 = j
    · rw [valD_pos e, valD_pos e, if_neg (fun z => hk (e.trans z))]
    · rw [valD_neg e, valD_neg e, ih]
theorem valD_put (kvs : List (κ × PV)) (k j : κ) (y : PV) : valD (putD kvs k y) j = if j = k then some y else valD kvs j := by
  unfold putD
  by_cases a : (kvs.any fun kv => decide (kv.1 = k)) = true
  · rw [if_pos a, valD_map]
    rw [valD_any] at a
    by_cases e : j = k
    · obtain ⟨x, hx⟩ := Option.isSome_iff_exists.mp a
      rw [if_pos e, e, hx, Option.map_some, if_pos rfl]
    · rw [if_neg e]
      cases valD kvs j with
      | none => rfl
      | some x => rw [Option.map_some, if_neg e]
  · rw [if_neg a]
    refine valD_snoc k j y kvs ?_
    rw [valD_any] at a
    cases q : valD kvs k with
    | none => rfl
    | some x => rw [q] at a; exact (a rfl).elim
theorem length_putD (kvs : List (κ × PV)) (k : κ) (v : PV) : (putD kvs k v).length ≤ kvs.length + 1 := by
  unfold putD
  split
  · rw [List.length_map]; omega
  · rw [List.length_append, List.length_singleton]; omega
end
section
variable {β : Type} {S : Store} {Q : PV → Store → Prop} {QB : β → Store → Prop} {QU : Unit → Store → Prop} {QS : Fl × PEnv → Store → Prop} {E : Exn → Store → Prop} {fo fz f : PEnv → M PV} {fk : PEnv → M (List PV)} {ρ : PEnv} {n : Nat} {kvs : List (List Key × PV)} {ks : List PV} {k : List Key} {d : PV}
theorem wv_getDT {g : Nat → List (List Key × PV) → M β} (h : S[n]? = some (.dT kvs)) : wpx (getDT (.cell n) g) S QB E ↔ wpx (g n kvs) S QB E := by
  show wpx (getC n _) S QB E ↔ _
  rw [wpx_getC]
  constructor
  · rintro ⟨c, h1, h2⟩
    rw [h] at h1
    cases h1
    exact h2
  · exact fun q => ⟨_, h, q⟩
theorem wv_few (h : ks.length ≤ 100) : wpx (few100 ks) S QU E ↔ QU () S := by
  unfold few100; rw [if_pos h]; exact Iff.rfl
theorem wv_getT : wpx (eGetT fo fk fz ρ) S Q E ↔ wpx (fo ρ) S (fun x S1 => wpx (getDT x fun _ _ => M.ret ()) S1 (fun _ S2 => wpx (fk ρ) S2 (fun ks S3 => wpx (few100 ks) S3 (fun _ S4 => wpx (fz ρ) S4 (fun z S5 => wpx (getDT x fun _ kvs => (optM (keyOf ks)).bind fun k => M.ret ((valD kvs k).getD z)) S5 Q E) E) E) E) E) E := by
  unfold eGetT; simp only [wpx_bind]
/-- the value at a key -/
theorem vv_getT {z : PV} (h : S[n]? = some (.dT kvs)) (hk : keyOf ks = some k) (q : Q ((valD kvs k).getD z) S) : wpx (getDT (.cell n) fun _ kvs => (optM (keyOf ks)).bind fun k => M.ret ((valD kvs k).getD z)) S Q E := by
  rw [wv_getDT h, wpx_bind, wpx_optM]
  exact ⟨k, hk, q⟩
theorem vv_putT (h : S[n]? = some (.dT kvs)) (hk : keyOf ks = some k) (hl : kvs.length < 1000000) (q : QU () (S.set n (.dT (putD kvs k d)))) : wpx (putDT (.cell n) ks d) S QU E := by
  unfold putDT
  rw [wv_getDT h, if_pos hl, wpx_bind, wpx_optM]
  exact ⟨k, hk, q⟩
theorem ws_putT : wps (sPutT fo fk f ρ) S QS ↔ wpx (f ρ) S (fun d S1 => wpx (fo ρ) S1 (fun x S2 => wpx (fk ρ) S2 (fun ks S3 => wpx (few100 ks) S3 (fun _ S4 => wpx (putDT x ks d) S4 (fun _ S5 => QS (.nx, ρ) S5) (fun c S' => QS (.ex c, ρ) S')) (fun c S' => QS (.ex c, ρ) S')) (fun c S' => QS (.ex c, ρ) S')) (fun c S' => QS (.ex c, ρ) S')) (fun c S' => QS (.ex c, ρ) S') := by
  unfold sPutT
  rw [wps_lift]
  simp only [wps_lift, wps_ret, wpx_bind]
/-- a new one -/
theorem wv_newT : wpx (eNewT fk f ρ) S Q E ↔ wpx (fk ρ) (S ++ [.dT []]) (fun ks S1 => wpx (few100 ks) S1 (fun _ S2 => wpx (f ρ) S2 (fun d S3 => wpx (getDT (.cell S.length) fun n kvs => if kvs = [] then (optM (keyOf ks)).bind fun k S2 => .ok (.cell n) (S2.set n (.dT [(k, d)])) else M.bad) S3 Q E) E) E) E := by
  have e : ∀ m : M PV, (fun S0 : Store => m S0) = m := fun _ => rfl
  show wpx (((fk ρ).bind fun ks => (few100 ks).bind fun _ => (f ρ).bind fun d => getDT (.cell S.length) fun n kvs => if kvs = [] then (optM (keyOf ks)).bind fun k S2 => .ok (.cell n) (S2.set n (.dT [(k, d)])) else M.bad)) (S ++ [.dT []]) Q E ↔ _
  simp only [wpx_bind]
theorem vv_newT (h : S[n]? = some (.dT [])) (hk : keyOf ks = some k) (q : Q (.cell n) (S.set n (.dT [(k, d)]))) : wpx (getDT (.cell n) fun n kvs => if kvs = [] then (optM (keyOf ks)).bind fun k S2 => .ok (.cell n) (S2.set n (.dT [(k, d)])) else M.bad) S Q E := by
  rw [wv_getDT h, if_pos rfl, wpx_bind, wpx_optM]
  exact ⟨k, hk, q⟩
end
end DL

/-! DLF: what is shown is a text of code points; tuples of texts compared. -/
namespace DL
open PySem PySem.Spec PyProof.Rows L2 PySem.W
abbrev Cp (c : Nat) : Prop := c < 0x110000
theorem strOk_iff {x : Str} : PyData.strOk x = true ↔ ∀ c ∈ x.cps, Cp c := by
  unfold PyData.strOk
  rw [Array.all_eq_true_iff_forall_mem]
  constructor
  · intro h c hc; simpa using h c hc
  · intro h c hc; simpa using h c hc
theorem ch_cp (ch : Char) : Cp ch.toNat := by
  have h := ch.valid
  show ch.val.toNat < _
  rcases h with h | ⟨_, h⟩
  · have : ch.val.toNat < 0xd800 := h
    omega
  · have : ch.val.toNat < 0x110000 := h
    omega
theorem hex_cp {w c k : Nat} (h : k ∈ List.replicate (w - ((Nat.toDigits 16 c).map Char.toNat).length) 48 ++ (Nat.toDigits 16 c).map Char.toNat) : Cp k := by
  rcases List.mem_append.mp h with h | h
  · rw [(List.mem_replicate.mp h).2]; decide
  · obtain ⟨ch, _, rfl⟩ := List.mem_map.mp h; exact ch_cp ch
theorem reprChar_cp {q c : Nat} (hc : Cp c) : ∀ k ∈ Builtin.Str.reprChar q c, Cp k := by
  intro k hk
  unfold Builtin.Str.reprChar at hk
  have two : ∀ {a b : Nat}, k ∈ [a, b] → Cp a → Cp b → Cp k := fun h ha hb => by
    simp only [List.mem_cons, List.not_mem_nil, or_false] at h
    rcases h with rfl | rfl
    · exact ha
    · exact hb
  simp only at hk
  split at hk
  · exact two hk (by decide) hc
  split at hk
  · exact two hk (by decide) (by decide)
  split at hk
  · exact two hk (by decide) (by decide)
  split at hk
  · exact two hk (by decide) (by decide)
  split at hk
  · rw [List.mem_singleton.mp hk]; exact hc
  split at hk
  · rcases List.mem_append.mp hk with h | h
    · exact two h (by decide) (by decide)
    · exact hex_cp h
  split at hk
  · rcases List.mem_append.mp hk with h | h
    · exact two h (by decide) (by decide)
    · exact hex_cp h
  · rcases List.mem_append.mp hk with h | h
    · exact two h (by decide) (by decide)
    · exact hex_cp h
theorem strOk_repr {x : Str} (h : PyData.strOk x = true) : PyData.strOk (reprText x) = true := by
  have hx := strOk_iff.mp h
  rw [strOk_iff]
  unfold reprText
  have hq : Cp (reprQuote x) := by unfold reprQuote; split <;> decide
  have key : ∀ (l : List Nat) (acc : Array Nat), (∀ c ∈ l, Cp c) → (∀ c ∈ acc, Cp c) → ∀ c ∈ l.foldl (fun out c => out ++ (Builtin.Str.reprChar (reprQuote x) c).toArray) acc, Cp c := by
    intro l
    induction l with
    | nil => exact fun acc _ h => h
    | cons a l ih =>
      intro acc hl ha
      rw [List.foldl_cons]
      refine ih _ (fun c hc => hl c (List.mem_cons_of_mem _ hc)) fun c hc => ?_
      rcases Array.mem_append.mp hc with hc | hc
      · exact ha c hc
      · exact reprChar_cp (hl a List.mem_cons_self) c (List.mem_toArray.mp hc)
  intro c hc
  rcases Array.mem_push.mp hc with hc | rfl
  · rw [← Array.foldl_toList] at hc
    exact key x.cps.toList _ (fun c hc => hx c (Array.mem_toList_iff.mp hc)) (fun c hc => by
      have : c = reprQuote x := by simpa using hc
      rw [this]; exact hq) c hc
  · exact hq
theorem strOk_from : ∀ (ts : List Str) (k : Nat) (acc : Str), PyData.strOk acc = true → (∀ t ∈ ts, PyData.strOk t = true) → PyData.strOk (textFrom k acc ts) = true
  | [], _, acc, h, _ => h
  | t :: r, k, acc, h, ht => by
    unfold textFrom
    refine strOk_from r _ _ ?_ fun t' h' => ht t' (List.mem_cons_of_mem _ h')
    have h1 := ht t List.mem_cons_self
    have h2 : PyData.strOk (", " : Str) = true := by decide +kernel
    first
      | (split <;> first | exact strOk_app h h1 | exact strOk_app (strOk_app h h2) h1)
      | exact strOk_app (strOk_app h h2) h1
mutual
theorem strOk_shown : ∀ d : PyData, d.canLay0 = true → PyData.strOk d.shown = true
  | .none, _ => by rw [PyData.shown]; exact strOk_of
  | .bool b, _ => by rw [PyData.shown]; cases b <;> exact strOk_of
  | .int i, _ => by rw [PyData.shown]; exact strOk_of
  | .str x, h => by rw [PyData.shown]; exact strOk_repr (by rw [PyData.canLay0] at h; exact h)
  | .list xs, h => by
    rw [PyData.shown]
    exact strOk_app (strOk_from _ _ _ (by decide +kernel) (strOk_shownAll xs (by rw [PyData.canLay0] at h; exact h))) (by decide +kernel)
  | .tuple xs, h => by
    rw [PyData.shown]
    unfold tupleText
    refine strOk_app (strOk_app (by decide +kernel) (strOk_join (by decide +kernel) (strOk_shownAll xs (by rw [PyData.canLay0] at h; exact h)))) ?_
    split <;> exact strOk_of
  | .dict kvs, h => by rw [PyData.canLay0] at h; cases h
theorem strOk_shownAll : ∀ xs : List PyData, PyData.canLayAll0 xs = true → ∀ t ∈ PyData.shownAll xs, PyData.strOk t = true
  | [], _, t, ht => by rw [PyData.shownAll] at ht; cases ht
  | x :: xs, h, t, ht => by
    rw [PyData.canLayAll0, Bool.and_eq_true] at h
    rw [PyData.shownAll] at ht
    rcases List.mem_cons.mp ht with rfl | ht
    · exact strOk_shown x h.1
    · exact strOk_shownAll xs h.2 t ht
end
section
variable {S : Store} {w k : Nat} {x : PV} {Q : PV → Store → Prop} {E : Exn → Store → Prop}
/-- shown: now, and later the same text, of code points -/
theorem Sh.text (s : Sh S w k x) (hw : w ≤ 400000) (hk : k ≤ 63) : ∃ t : Str, PyData.strOk t = true ∧ ∀ S', Keep S S' → ∀ (Q : PV → Store → Prop) (E : Exn → Store → Prop), wpx (reprF [x]) S' Q E ↔ Q (.str t) S' := by
  obtain ⟨d, r, g⟩ := s
  exact ⟨d.shown, strOk_shown d g.lay, fun S' h Q E => vv_repr (r S' h 64 (by omega)) (g.ok hw (by omega))⟩
/-- a tuple of texts and itself -/
theorem vv_ne_strs {ts : List Str} (h : ∀ t ∈ ts, PyData.strOk t = true) : wpx (neA (.tup (ts.map PV.str)) (.tup (ts.map PV.str))) S Q E ↔ Q (.bl false) S := by
  rw [neA_tup]
  have t : toD S 64 (.tup (ts.map PV.str)) = some (.tuple (ts.map PyData.str)) := by
    show (mapO (toD S 63) (ts.map PV.str)).map PyData.tuple = _
    have mp : ∀ ts : List Str, mapO (toD S 63) (ts.map PV.str) = some (ts.map PyData.str) := by
      intro ts
      induction ts with
      | nil => rfl
      | cons a ts ih => rw [List.map_cons, mapO, ih]; rfl
    rw [mp]; rfl
  have la : ∀ ts : List Str, (∀ t ∈ ts, PyData.strOk t = true) → PyData.canLayAll0 (ts.map PyData.str) = true := by
    intro ts
    induction ts with
    | nil => exact fun _ => rfl
    | cons a ts ih => exact fun h => by rw [List.map_cons, PyData.canLayAll0, PyData.canLay0, h a List.mem_cons_self, ih fun t ht => h t (List.mem_cons_of_mem _ ht)]; rfl
  have de : ∀ ts : List Str, PyData.depthAll (ts.map PyData.str) ≤ 1 := by
    intro ts
    induction ts with
    | nil => exact Nat.zero_le _
    | cons a ts ih => rw [List.map_cons, PyData.depthAll]; simp only [PyData.depth]; omega
  have sh : SeqAt.shaped (.tuple (ts.map PyData.str)) = true := by
    unfold SeqAt.shaped
    rw [PyData.canLay0, la ts h, Bool.true_and, decide_eq_true_eq, PyData.depth]
    have := de ts
    omega
  have ev : PyData.eqv (.tuple (ts.map PyData.str)) (.tuple (ts.map PyData.str)) = true := by
    rw [PyData.eqv]
    have : ∀ ts : List Str, PyData.eqvAll (ts.map PyData.str) (ts.map PyData.str) = true := by
      intro ts
      induction ts with
      | nil => rfl
      | cons a ts ih => rw [List.map_cons, PyData.eqvAll, ih]; simp [PyData.eqv]
    exact this ts
  have e : eqM (.tup (ts.map PV.str)) (.tup (ts.map PV.str)) S = .ok true S := by
    unfold eqM
    rw [t]
    simp [sh, ev]
  unfold DL.neV
  rw [wpx_bind, wpx_eq e]
  rfl
end
end DL

namespace KK
open PySem PySem.Spec PyProof.Rows L2 DL
def topS (i : Nat) : Stmt := PySem.Challenge.pw_normalwords_k19_first_and_second_led.main.body.getD i (.Pass ⟨0, 0, 0, 0⟩)
def clsS (st : Stmt) (j : Nat) : Stmt := match st with
  | .ClassDef _ _ _ b _ _ _ _ _ _ _ => b.getD j (.Pass ⟨0, 0, 0, 0⟩)
  | _ => .Pass ⟨0, 0, 0, 0⟩
abbrev s_InvalidMachine_init : Stmt := clsS (topS 3) 0
abbrev s_InvalidWord_init : Stmt := clsS (topS 2) 0
abbrev s_is_whole : Stmt := topS 5
theorem sc_is_whole : FnScope ["value"] ["value"] (defScope s_is_whole) := ⟨rfl, rfl, rfl, by decide +kernel, rfl, by decide +kernel, by decide +kernel⟩
abbrev s_is_number : Stmt := topS 6
theorem sc_is_number : FnScope ["value"] ["value"] (defScope s_is_number) := ⟨rfl, rfl, rfl, by decide +kernel, rfl, by decide +kernel, by decide +kernel⟩
abbrev s_is_sequence : Stmt := topS 7
theorem sc_is_sequence : FnScope ["value"] ["value"] (defScope s_is_sequence) := ⟨rfl, rfl, rfl, by decide +kernel, rfl, by decide +kernel, by decide +kernel⟩
abbrev s_first_fault : Stmt := topS 8
theorem sc_first_fault : FnScope ["rights", "many", "least", "place"] ["rights", "many"] (defScope s_first_fault) := ⟨rfl, rfl, rfl, by decide +kernel, rfl, by decide +kernel, by decide +kernel⟩
abbrev s_is_word : Stmt := topS 10
theorem sc_is_word : FnScope ["value", "letters", "x"] ["value", "letters"] (defScope s_is_word) := ⟨rfl, rfl, rfl, by decide +kernel, rfl, by decide +kernel, by decide +kernel⟩
abbrev s__is_row : Stmt := topS 15
theorem sc__is_row : FnScope ["value", "letters", "states", "t"] ["value", "letters", "states"] (defScope s__is_row) := ⟨rfl, rfl, rfl, by decide +kernel, rfl, by decide +kernel, by decide +kernel⟩
abbrev s__table_fault : Stmt := topS 14
theorem sc__table_fault : FnScope ["letters", "table", "row"] ["letters", "table"] (defScope s__table_fault) := ⟨rfl, rfl, rfl, by decide +kernel, rfl, by decide +kernel, by decide +kernel⟩
abbrev s__ends_fault : Stmt := topS 16
theorem sc__ends_fault : FnScope ["states", "ends", "bit"] ["states", "ends"] (defScope s__ends_fault) := ⟨rfl, rfl, rfl, by decide +kernel, rfl, by decide +kernel, by decide +kernel⟩
abbrev s_pair_letter : Stmt := topS 18
theorem sc_pair_letter : FnScope ["letters", "x", "y"] ["letters", "x", "y"] (defScope s_pair_letter) := ⟨rfl, rfl, rfl, by decide +kernel, rfl, by decide +kernel, by decide +kernel⟩
abbrev s__endings : Stmt := topS 23
theorem sc__endings : FnScope ["machine", "letters", "word", "told", "x", "column", "nexts", "row", "t"] ["machine", "letters", "word"] (defScope s__endings) := ⟨rfl, rfl, rfl, by decide +kernel, rfl, by decide +kernel, by decide +kernel⟩
abbrev s__longer_ways : Stmt := topS 24
theorem sc__longer_ways : FnScope ["machine", "letters", "word", "most", "ways", "met", "size", "x", "place", "longer", "v", "state", "y", "t"] ["machine", "letters", "word", "most", "ways", "met"] (defScope s__longer_ways) := ⟨rfl, rfl, rfl, by decide +kernel, rfl, by decide +kernel, by decide +kernel⟩
abbrev s__led : Stmt := topS 22
theorem sc__led : FnScope ["machine", "letters", "word", "most", "endings", "found", "ways", "met", "place", "v", "state"] ["machine", "letters", "word", "most"] (defScope s__led) := ⟨rfl, rfl, rfl, by decide +kernel, rfl, by decide +kernel, by decide +kernel⟩
abbrev s_first_led : Stmt := topS 20
theorem sc_first_led : FnScope ["machine", "letters", "word", "found"] ["machine", "letters", "word"] (defScope s_first_led) := ⟨rfl, rfl, rfl, by decide +kernel, rfl, by decide +kernel, by decide +kernel⟩
abbrev s_second_led : Stmt := topS 21
theorem sc_second_led : FnScope ["machine", "letters", "word", "found"] ["machine", "letters", "word"] (defScope s_second_led) := ⟨rfl, rfl, rfl, by decide +kernel, rfl, by decide +kernel, by decide +kernel⟩
abbrev s__law_box : Stmt := topS 26
theorem sc__law_box : FnScope ["script", "cell"] ["script"] (defScope s__law_box) := ⟨rfl, rfl, rfl, by decide +kernel, rfl, by decide +kernel, by decide +kernel⟩
abbrev s__law_draw : Stmt := topS 27
theorem sc__law_draw : FnScope ["box", "limit", "cells", "k", "digit", "cell", "mixed"] ["box", "limit"] (defScope s__law_draw) := ⟨rfl, rfl, rfl, by decide +kernel, rfl, by decide +kernel, by decide +kernel⟩
abbrev s__law_word : Stmt := topS 28
theorem sc__law_word : FnScope ["box", "letters", "most", "k"] ["box", "letters", "most"] (defScope s__law_word) := ⟨rfl, rfl, rfl, by decide +kernel, rfl, by decide +kernel, by decide +kernel⟩
abbrev s_Machine___init__ : Stmt := clsS (topS 13) 0
theorem sc_Machine___init__ : FnScope ["self", "letters", "table", "ends", "place"] ["self", "letters", "table", "ends"] (defScope s_Machine___init__) := ⟨rfl, rfl, rfl, by decide +kernel, rfl, by decide +kernel, by decide +kernel⟩
abbrev s__law_made : Stmt := topS 29
theorem sc__law_made : FnScope ["one"] ["one"] (defScope s__law_made) := ⟨rfl, rfl, rfl, by decide +kernel, rfl, by decide +kernel, by decide +kernel⟩
abbrev s__law_is : Stmt := topS 30
theorem sc__law_is : FnScope ["told", "due"] ["told", "due"] (defScope s__law_is) := ⟨rfl, rfl, rfl, by decide +kernel, rfl, by decide +kernel, by decide +kernel⟩
abbrev s__law_phase : Stmt := topS 31
theorem sc__law_phase : FnScope ["letters", "z"] ["letters", "z"] (defScope s__law_phase) := ⟨rfl, rfl, rfl, by decide +kernel, rfl, by decide +kernel, by decide +kernel⟩
abbrev s__law_pair_machine : Stmt := topS 32
theorem sc__law_pair_machine : FnScope ["box", "letters", "most", "size", "phases", "few", "rows", "s", "row", "z", "phase", "fit", "to", "t"] ["box", "letters", "most"] (defScope s__law_pair_machine) := ⟨rfl, rfl, rfl, by decide +kernel, rfl, by decide +kernel, by decide +kernel⟩
abbrev s__law_sides : Stmt := topS 34
theorem sc__law_sides : FnScope ["letters", "at", "length", "y"] ["letters", "at", "length"] (defScope s__law_sides) := ⟨rfl, rfl, rfl, by decide +kernel, rfl, by decide +kernel, by decide +kernel⟩
abbrev s__law_left : Stmt := topS 35
theorem sc__law_left : FnScope ["letters", "word", "at"] ["letters", "word", "at"] (defScope s__law_left) := ⟨rfl, rfl, rfl, by decide +kernel, rfl, by decide +kernel, by decide +kernel⟩
abbrev s__law_of_length : Stmt := topS 33
theorem sc__law_of_length : FnScope ["one", "letters", "word", "length", "size", "good", "k", "at", "states", "s", "y", "to", "parts", "longer", "part"] ["one", "letters", "word", "length"] (defScope s__law_of_length) := ⟨rfl, rfl, rfl, by decide +kernel, rfl, by decide +kernel, by decide +kernel⟩
abbrev s__law_leds : Stmt := topS 36
theorem sc__law_leds : FnScope ["one", "letters", "word", "found", "most", "length"] ["one", "letters", "word"] (defScope s__law_leds) := ⟨rfl, rfl, rfl, by decide +kernel, rfl, by decide +kernel, by decide +kernel⟩
abbrev s__law_asked : Stmt := topS 37
theorem sc__law_asked : FnScope ["box", "one", "letters", "machine", "k", "word", "due"] ["box", "one", "letters"] (defScope s__law_asked) := ⟨rfl, rfl, rfl, by decide +kernel, rfl, by decide +kernel, by decide +kernel⟩
abbrev s__law_all : Stmt := topS 38
theorem sc__law_all : FnScope ["script", "box", "letters"] ["script"] (defScope s__law_all) := ⟨rfl, rfl, rfl, by decide +kernel, rfl, by decide +kernel, by decide +kernel⟩
abbrev s_law : Stmt := topS 39
theorem sc_law : FnScope ["script"] ["script"] (defScope s_law) := ⟨rfl, rfl, rfl, by decide +kernel, rfl, by decide +kernel, by decide +kernel⟩
noncomputable def g_is_whole : SD :=
  sRet (eAndV (eArgs isiF (eCons (eVar 0) (eCons (eLit (.con (.ty "int"))) eNil))) (eNotV (eArgs isiF (eCons (eVar 0) (eCons (eLit (.con (.ty "bool"))) eNil)))))
noncomputable def F_is_whole : FD := runF 1 g_is_whole
noncomputable def g_is_number : SD :=
  sRet (eAndV (eArgs (chkL 1 F_is_whole) (eCons (eVar 0) eNil)) (eBin geI (eVar 0) (eLit (.int 0))))
noncomputable def F_is_number : FD := runF 1 g_is_number
noncomputable def g_is_sequence : SD :=
  sRet (eArgs isi2F (eCons (eVar 0) (eCons (eArgs mkTup (eCons (eLit (.con (.ty "list"))) (eCons (eLit (.con (.ty "tuple"))) eNil))) eNil)))
noncomputable def F_is_sequence : FD := runF 1 g_is_sequence
noncomputable def g_first_fault_B1 : SD :=
  sIf (eNot (eTest (eBin ixV (eVar 0) (eVar 3)))) (sRet (eVar 3)) sNil
noncomputable def g_first_fault_R2 : SD :=
  sRet (eLit .non)
noncomputable def g_first_fault_R3 : SD :=
  sSeq (sIf (eTest (eBin neA (eArgs lenV (eCons (eVar 0) eNil)) (eVar 1))) (sRet (eVar 2)) sNil) g_first_fault_R2
noncomputable def g_first_fault : SD :=
  sSeq (sSet 2 (eArgs mnF (eCons (eArgs lenV (eCons (eVar 0) eNil)) (eCons (eVar 1) eNil)))) (sSeq (sFor (sArgs range1M (eCons (eVar 2) eNil)) (.nm 3) g_first_fault_B1) g_first_fault_R3)
noncomputable def F_first_fault : FD := runF 4 g_first_fault
noncomputable def g_is_word : SD :=
  sRet (eAndV (eArgs isiF (eCons (eVar 0) (eCons (eLit (.con (.ty "tuple"))) eNil))) (eArgs allF (eCons (eLc (eSrc (eVar 0)) (.nm 2) tTrue (eAndV (eArgs (chkL 1 F_is_number) (eCons (eVar 2) eNil)) (eBin ltA (eVar 2) (eVar 1))) (List.map (·.2) ([("x", 2)] : List (Str × Nat)))) eNil)))
noncomputable def F_is_word : FD := runF 3 g_is_word
noncomputable def g__is_row_R1 : SD :=
  sRet (eArgs allF (eCons (eLc (eSrc (eVar 0)) (.nm 3) tTrue (eOrV (eBin isNV (eVar 3) (eLit .non)) (eAndV (eArgs (chkL 1 F_is_number) (eCons (eVar 3) eNil)) (eBin ltA (eVar 3) (eVar 2)))) (List.map (·.2) ([("t", 3)] : List (Str × Nat)))) eNil))
noncomputable def g__is_row : SD :=
  sSeq (sIf (eOr (eNot (eTest (eArgs isiF (eCons (eVar 0) (eCons (eLit (.con (.ty "tuple"))) eNil))))) (eTest (eBin neA (eArgs lenV (eCons (eVar 0) eNil)) (eVar 1)))) (sRet (eLit (.bl false))) sNil) g__is_row_R1
noncomputable def F__is_row : FD := runF 4 g__is_row
noncomputable def g__table_fault_R1 : SD :=
  sRet (eArgs (chkL 2 F_first_fault) (eCons (eLc (eSrc (eVar 1)) (.nm 2) tTrue (eArgs (chkL 3 F__is_row) (eCons (eVar 2) (eCons (eVar 0) (eCons (eArgs lenV (eCons (eVar 1) eNil)) eNil)))) (List.map (·.2) ([("row", 2)] : List (Str × Nat)))) (eCons (eArgs lenV (eCons (eVar 1) eNil)) eNil)))
noncomputable def g__table_fault : SD :=
  sSeq (sIf (eOr (eNot (eTest (eArgs (chkL 1 F_is_sequence) (eCons (eVar 1) eNil)))) (eTest (eBin eqA (eArgs lenV (eCons (eVar 1) eNil)) (eLit (.int 0))))) (sRet (eLit (.int 0))) sNil) g__table_fault_R1
noncomputable def F__table_fault : FD := runF 3 g__table_fault
noncomputable def g__ends_fault_R1 : SD :=
  sRet (eArgs (chkL 2 F_first_fault) (eCons (eLc (eSrc (eVar 1)) (.nm 2) tTrue (eAndV (eArgs (chkL 1 F_is_whole) (eCons (eVar 2) eNil)) (eChain leI leI (eLit (.int 0)) (eVar 2) (eLit (.int 1)))) (List.map (·.2) ([("bit", 2)] : List (Str × Nat)))) (eCons (eVar 0) eNil)))
noncomputable def g__ends_fault : SD :=
  sSeq (sIf (eNot (eTest (eArgs (chkL 1 F_is_sequence) (eCons (eVar 1) eNil)))) (sRet (eLit (.int 0))) sNil) g__ends_fault_R1
noncomputable def F__ends_fault : FD := runF 3 g__ends_fault
noncomputable def g_pair_letter : SD :=
  sRet (eBin addV (eBin mulA (eVar 1) (eBin addV (eVar 0) (eLit (.int 1)))) (eVar 2))
noncomputable def F_pair_letter : FD := runF 3 g_pair_letter
noncomputable def g__endings_B1 : SD :=
  sSeq (sSet 5 (eArgs (chkL 3 F_pair_letter) (eCons (eVar 1) (eCons (eVar 4) (eCons (eVar 1) eNil))))) (sSeq (sSet 6 (eLc (eSrc (eUn (fldV "Machine" "table") (eVar 0))) (.nm 7) tTrue (eBin ixV (eVar 7) (eVar 5)) (List.map (·.2) ([("row", 7)] : List (Str × Nat))))) (sExpr (eMethL appendV (eVar 3) (eCons (eLc (eSrc (eVar 6)) (.nm 8) tTrue (eIf (eTest (eBin isNV (eVar 8) (eLit .non))) (eLit (.int 0)) (eBin ixV (eBin ixV (eVar 3) (eUn negV (eLit (.int 1)))) (eVar 8))) (List.map (·.2) ([("t", 8)] : List (Str × Nat)))) eNil))))
noncomputable def g__endings_R2 : SD :=
  sRet (eRevL (eVar 3) (eUn negV (eLit (.int 1))))
noncomputable def g__endings : SD :=
  sSeq (sSet 3 (eArgs mkLst (eCons (eArgs lstF (eCons (eUn (fldV "Machine" "ends") (eVar 0)) eNil)) eNil))) (sSeq (sFor (eRev (eVar 2)) (.nm 4) g__endings_B1) g__endings_R2)
noncomputable def F__endings : FD := runF 9 g__endings
noncomputable def g__longer_ways_B1 : SD :=
  sSeq (sSet 13 (eBin ixV (eBin ixV (eUn (fldV "Machine" "table") (eVar 0)) (eVar 11)) (eArgs (chkL 3 F_pair_letter) (eCons (eVar 1) (eCons (eVar 7) (eCons (eVar 12) eNil)))))) (sIf (eAnd (eTest (eBin notNV (eVar 13) (eLit .non))) (eTest (eBin ltA (eGetT (eVar 5) (eCons (eVar 8) (eCons (eVar 13) eNil)) (eLit (.int 0))) (eVar 3)))) (sSeq (sPutT (eVar 5) (eCons (eVar 8) (eCons (eVar 13) eNil)) (eBin addV (eGetT (eVar 5) (eCons (eVar 8) (eCons (eVar 13) eNil)) (eLit (.int 0))) (eLit (.int 1)))) (sExpr (eMethL appendV (eVar 9) (eCons (eArgs mkTup (eCons (eBin addV (eVar 10) (eArgs mkTup (eCons (eVar 12) eNil))) (eCons (eVar 13) eNil))) eNil)))) sNil)
noncomputable def g__longer_ways_B2 : SD :=
  sFor (sArgs range1M (eCons (eVar 1) eNil)) (.nm 12) g__longer_ways_B1
noncomputable def g__longer_ways_R3 : SD :=
  sRet (eVar 9)
noncomputable def g__longer_ways : SD :=
  sSeq (sSet 6 (eArgs lenV (eCons (eBin ixV (eBin ixV (eVar 4) (eLit (.int 0))) (eLit (.int 0))) eNil))) (sSeq (sSet 7 (eIf (eTest (eBin ltA (eVar 6) (eArgs lenV (eCons (eVar 2) eNil)))) (eBin ixV (eVar 2) (eVar 6)) (eVar 1))) (sSeq (sSet 8 (eArgs mnF (eCons (eBin addV (eVar 6) (eLit (.int 1))) (eCons (eArgs lenV (eCons (eVar 2) eNil)) eNil)))) (sSeq (sSet 9 (eArgs mkLst eNil)) (sSeq (sFor (eSrc (eVar 4)) (.tp [.nm 10, .nm 11]) g__longer_ways_B2) g__longer_ways_R3))))
noncomputable def F__longer_ways : FD := runF 14 g__longer_ways
noncomputable def g__led_B1 : SD :=
  sSeq (sSet 8 (eArgs mnF (eCons (eArgs lenV (eCons (eBin ixV (eBin ixV (eVar 6) (eLit (.int 0))) (eLit (.int 0))) eNil)) (eCons (eArgs lenV (eCons (eVar 2) eNil)) eNil)))) (sSeq (sExpr (eMethL extendV (eVar 5) (eCons (eLc (eSrc (eVar 6)) (.tp [.nm 9, .nm 10]) (eTest (eBin eqA (eBin ixV (eBin ixV (eVar 4) (eVar 8)) (eVar 10)) (eLit (.int 1)))) (eVar 9) (List.map (·.2) ([("v", 9), ("state", 10)] : List (Str × Nat)))) eNil))) (sSet 6 (eArgs (chkL 6 F__longer_ways) (eCons (eVar 0) (eCons (eVar 1) (eCons (eVar 2) (eCons (eVar 3) (eCons (eVar 6) (eCons (eVar 7) eNil)))))))))
noncomputable def g__led_R2 : SD :=
  sRet (eSlice sliceV (eVar 5) eNoPart (ePart (eVar 3)))
noncomputable def g__led_R3 : SD :=
  sSeq (sSet 4 (eArgs (chkL 3 F__endings) (eCons (eVar 0) (eCons (eVar 1) (eCons (eVar 2) eNil))))) (sSeq (sSet 5 (eArgs mkLst eNil)) (sSeq (sSet 6 (eArgs mkLst (eCons (eArgs mkTup (eCons (eArgs mkTup eNil) (eCons (eLit (.int 0)) eNil))) eNil))) (sSeq (sSet 7 (eNewT (eCons (eLit (.int 0)) (eCons (eLit (.int 0)) eNil)) (eLit (.int 1)))) (sSeq (sWhile (eAnd (eTest (eBin gtI (eArgs lenV (eCons (eVar 6) eNil)) (eLit (.int 0)))) (eTest (eBin ltA (eArgs lenV (eCons (eVar 5) eNil)) (eVar 3)))) g__led_B1) g__led_R2))))
noncomputable def g__led : SD :=
  sSeq (sIf (eNot (eTest (eArgs (chkL 2 F_is_word) (eCons (eVar 2) (eCons (eVar 1) eNil))))) (sRaise (eMkX "InvalidWord" ["value"] xp_T (eCons (eVar 2) eNil))) sNil) g__led_R3
noncomputable def F__led : FD := runF 11 g__led
noncomputable def g_first_led : SD :=
  sSeq (sSet 3 (eArgs (chkL 4 F__led) (eCons (eVar 0) (eCons (eVar 1) (eCons (eVar 2) (eCons (eLit (.int 1)) eNil)))))) (sRet (eIf (eTest (eBin gtI (eArgs lenV (eCons (eVar 3) eNil)) (eLit (.int 0)))) (eBin ixV (eVar 3) (eLit (.int 0))) (eLit .non)))
noncomputable def F_first_led : FD := runF 4 g_first_led
noncomputable def g_second_led : SD :=
  sSeq (sSet 3 (eArgs (chkL 4 F__led) (eCons (eVar 0) (eCons (eVar 1) (eCons (eVar 2) (eCons (eLit (.int 2)) eNil)))))) (sRet (eIf (eTest (eBin gtI (eArgs lenV (eCons (eVar 3) eNil)) (eLit (.int 1)))) (eBin ixV (eVar 3) (eLit (.int 1))) (eLit .non)))
noncomputable def F_second_led : FD := runF 4 g_second_led
noncomputable def g__law_box : SD :=
  sRet (eArgs mkLst (eCons (eLc (eSrc (eVar 0)) (.nm 1) tTrue (eArgs intF (eCons (eVar 1) eNil)) (List.map (·.2) ([("cell", 1)] : List (Str × Nat)))) (eCons (eLit (.int 0)) (eCons (eLit (.int 0)) (eCons (eLit (.int 0)) eNil)))))
noncomputable def F__law_box : FD := runF 2 g__law_box
noncomputable def g__law_draw_R1 : SD :=
  sSub setV (eVar 0) (eLit (.int 3)) (eBin addV (eBin ixV (eVar 0) (eLit (.int 3))) (eLit (.int 1)))
noncomputable def g__law_draw_B2 : SD :=
  sIf (eAnd (eTest (eBin eqA (eBin ixV (eVar 0) (eLit (.int 2))) (eLit (.int 0)))) (eTest (eBin ltA (eBin ixV (eVar 0) (eLit (.int 3))) (eArgs lenV (eCons (eVar 2) eNil))))) (sSeq (sIf (eTest (eBin geI (eArgs absF (eCons (eBin ixV (eVar 2) (eBin ixV (eVar 0) (eLit (.int 3)))) eNil)) (eBin powV (eLit (.int 10)) (eLit (.int 18))))) (sSub setV (eVar 0) (eLit (.int 2)) (eArgs absF (eCons (eBin ixV (eVar 2) (eBin ixV (eVar 0) (eLit (.int 3)))) eNil))) sNil) g__law_draw_R1) sBk
noncomputable def g__law_draw_R3 : SD :=
  sSeq (sSet 6 (eBin modV (eArgs intF (eCons (eBin addV (eBin addV (eBin mulA (eVar 5) (eLit (.int 48271))) (eBin mulA (eBin ixV (eVar 0) (eLit (.int 1))) (eLit (.int 69621)))) (eLit (.int 7))) eNil)) (eLit (.int 2147483647)))) (sSeq (sSet 6 (eBin modV (eArgs intF (eCons (eBin addV (eBin addV (eBin mulA (eVar 6) (eVar 6)) (eBin mulA (eBin ixV (eVar 0) (eLit (.int 1))) (eLit (.int 7919)))) (eVar 5)) eNil)) (eLit (.int 1000003)))) (sSeq (sSet 6 (eBin modV (eArgs intF (eCons (eBin addV (eBin addV (eBin mulA (eBin mulA (eVar 6) (eVar 6)) (eLit (.int 16807))) (eBin divV (eVar 5) (eLit (.int 5)))) (eLit (.int 11))) eNil)) (eLit (.int 998244353)))) (sRet (eBin modV (eArgs intF (eCons (eBin divV (eVar 6) (eLit (.int 3))) eNil)) (eVar 1)))))
noncomputable def g__law_draw_R4 : SD :=
  sSeq (sSet 5 (eLit (.int 0))) (sSeq (sIf (eTest (eBin gtI (eArgs lenV (eCons (eVar 2) eNil)) (eLit (.int 0)))) (sSet 5 (eArgs absF (eCons (eBin ixV (eVar 2) (eBin modV (eArgs intF (eCons (eBin ixV (eVar 0) (eLit (.int 1))) eNil)) (eArgs lenV (eCons (eVar 2) eNil)))) eNil))) sNil) g__law_draw_R3)
noncomputable def g__law_draw_R5 : SD :=
  sSeq (sIf (eTest (eBin gtI (eBin ixV (eVar 0) (eLit (.int 2))) (eLit (.int 0)))) (sSeq (sSet 4 (eBin modV (eArgs intF (eCons (eBin ixV (eVar 0) (eLit (.int 2))) eNil)) (eVar 1))) (sSeq (sSub setV (eVar 0) (eLit (.int 2)) (eBin divV (eBin ixV (eVar 0) (eLit (.int 2))) (eVar 1))) (sRet (eVar 4)))) sNil) g__law_draw_R4
noncomputable def g__law_draw : SD :=
  sSeq (sSet 2 (eBin ixV (eVar 0) (eLit (.int 0)))) (sSeq (sSub setV (eVar 0) (eLit (.int 1)) (eBin addV (eBin ixV (eVar 0) (eLit (.int 1))) (eLit (.int 1)))) (sSeq (sFor (sArgs range1M (eCons (eArgs lenV (eCons (eVar 2) eNil)) eNil)) (.nm 3) g__law_draw_B2) g__law_draw_R5))
noncomputable def F__law_draw : FD := runF 7 g__law_draw
noncomputable def g__law_word : SD :=
  sRet (eArgs tupF (eCons (eLc (sArgs range1M (eCons (eArgs (chkL 2 F__law_draw) (eCons (eVar 0) (eCons (eBin addV (eVar 2) (eLit (.int 1))) eNil))) eNil)) (.nm 3) tTrue (eArgs (chkL 2 F__law_draw) (eCons (eVar 0) (eCons (eVar 1) eNil))) (List.map (·.2) ([("k", 3)] : List (Str × Nat)))) eNil))
noncomputable def F__law_word : FD := runF 4 g__law_word
noncomputable def g_Machine___init___R1 : SD :=
  sSeq (sFldD "Machine" "letters" (eVar 0) (eVar 1)) (sSeq (sFldD "Machine" "table" (eVar 0) (eArgs tupF (eCons (eVar 2) eNil))) (sFldD "Machine" "ends" (eVar 0) (eArgs tupF (eCons (eVar 3) eNil))))
noncomputable def g_Machine___init___R2 : SD :=
  sSeq (sSet 4 (eArgs (chkL 2 F__ends_fault) (eCons (eArgs lenV (eCons (eVar 2) eNil)) (eCons (eVar 3) eNil)))) (sSeq (sIf (eTest (eBin notNV (eVar 4) (eLit .non))) (sRaise (eMkX "InvalidMachine" ["part", "place"] xp_S (eCons (eLit (.str "ends")) (eCons (eVar 4) eNil)))) sNil) g_Machine___init___R1)
noncomputable def g_Machine___init___R3 : SD :=
  sSeq (sSet 4 (eArgs (chkL 2 F__table_fault) (eCons (eVar 1) (eCons (eVar 2) eNil)))) (sSeq (sIf (eTest (eBin notNV (eVar 4) (eLit .non))) (sRaise (eMkX "InvalidMachine" ["part", "place"] xp_S (eCons (eLit (.str "table")) (eCons (eVar 4) eNil)))) sNil) g_Machine___init___R2)
noncomputable def g_Machine___init__ : SD :=
  sSeq (sIf (eOr (eNot (eTest (eArgs (chkL 1 F_is_whole) (eCons (eVar 1) eNil)))) (eNot (eTest (eChain leI leI (eLit (.int 1)) (eVar 1) (eLit (.int 48)))))) (sRaise (eMkX "InvalidMachine" ["part", "place"] xp_S (eCons (eLit (.str "letters")) (eCons (eLit (.int 0)) eNil)))) sNil) g_Machine___init___R3
noncomputable def F_Machine___init__ : FD := runF 5 g_Machine___init__
noncomputable def g__law_made : SD :=
  sRet (eArgs (mkI 3 "Machine" F_Machine___init__) (eCons (eBin ixV (eVar 0) (eLit (.int 0))) (eCons (eBin ixV (eVar 0) (eLit (.int 1))) (eCons (eBin ixV (eVar 0) (eLit (.int 2))) eNil))))
noncomputable def F__law_made : FD := runF 1 g__law_made
noncomputable def g__law_is_R1 : SD :=
  sRet (eBin eqA (eArgs reprF (eCons (eUn (fldV "Machine" "ends") (eVar 0)) eNil)) (eArgs reprF (eCons (eBin ixV (eVar 1) (eLit (.int 2))) eNil)))
noncomputable def g__law_is : SD :=
  sSeq (sIf (eOr (eNot (eTest (eUn (isIC "Machine" []) (eVar 0)))) (eOr (eTest (eBin neA (eArgs reprF (eCons (eUn (fldV "Machine" "letters") (eVar 0)) eNil)) (eArgs reprF (eCons (eBin ixV (eVar 1) (eLit (.int 0))) eNil)))) (eTest (eBin neA (eArgs reprF (eCons (eUn (fldV "Machine" "table") (eVar 0)) eNil)) (eArgs reprF (eCons (eBin ixV (eVar 1) (eLit (.int 1))) eNil)))))) (sRet (eLit (.bl false))) sNil) g__law_is_R1
noncomputable def F__law_is : FD := runF 2 g__law_is
noncomputable def g__law_phase : SD :=
  sRet (eBin addV (eArgs intF (eCons (eBin eqA (eBin divV (eVar 1) (eBin addV (eVar 0) (eLit (.int 1)))) (eVar 0)) eNil)) (eBin mulA (eLit (.int 2)) (eArgs intF (eCons (eBin eqA (eBin modV (eArgs intF (eCons (eVar 1) eNil)) (eBin addV (eVar 0) (eLit (.int 1)))) (eVar 0)) eNil))))
noncomputable def F__law_phase : FD := runF 2 g__law_phase
noncomputable def g__law_pair_machine_R1 : SD :=
  sExpr (eMethL appendV (eVar 8) (eCons (eVar 12) eNil))
noncomputable def g__law_pair_machine_B2 : SD :=
  sSeq (sSet 10 (eArgs (chkL 2 F__law_phase) (eCons (eVar 1) (eCons (eVar 9) eNil)))) (sSeq (sSet 11 (eLc (sArgs range1M (eCons (eVar 3) eNil)) (.nm 13) (eTest (eBin eqA (eBin ixV (eVar 4) (eVar 13)) (eVar 10))) (eVar 13) (List.map (·.2) ([("t", 13)] : List (Str × Nat))))) (sSeq (sSet 12 (eLit .non)) (sSeq (sIf (eAnd (eOr (eTest (eBin eqA (eBin ixV (eVar 4) (eVar 7)) (eLit (.int 0)))) (eTest (eBin eqA (eBin ixV (eVar 4) (eVar 7)) (eVar 10)))) (eAnd (eTest (eBin gtI (eArgs lenV (eCons (eVar 11) eNil)) (eLit (.int 0)))) (eTest (eBin gtI (eArgs (chkL 2 F__law_draw) (eCons (eVar 0) (eCons (eBin addV (eVar 5) (eLit (.int 1))) eNil))) (eLit (.int 0)))))) (sSet 12 (eBin ixV (eVar 11) (eArgs (chkL 2 F__law_draw) (eCons (eVar 0) (eCons (eArgs lenV (eCons (eVar 11) eNil)) eNil))))) sNil) g__law_pair_machine_R1)))
noncomputable def g__law_pair_machine_R3 : SD :=
  sExpr (eMethL appendV (eVar 6) (eCons (eArgs tupF (eCons (eVar 8) eNil)) eNil))
noncomputable def g__law_pair_machine_B4 : SD :=
  sSeq (sSet 8 (eArgs mkLst eNil)) (sSeq (sFor (sArgs range1M (eCons (eBin subV (eBin mulA (eBin addV (eVar 1) (eLit (.int 1))) (eBin addV (eVar 1) (eLit (.int 1)))) (eLit (.int 1))) eNil)) (.nm 9) g__law_pair_machine_B2) g__law_pair_machine_R3)
noncomputable def g__law_pair_machine_R5 : SD :=
  sRet (eArgs mkTup (eCons (eBin subV (eBin mulA (eBin addV (eVar 1) (eLit (.int 1))) (eBin addV (eVar 1) (eLit (.int 1)))) (eLit (.int 1))) (eCons (eArgs tupF (eCons (eVar 6) eNil)) (eCons (eArgs tupF (eCons (eLc (sArgs range1M (eCons (eVar 3) eNil)) (.nm 7) tTrue (eArgs intF (eCons (eBin gtI (eArgs (chkL 2 F__law_draw) (eCons (eVar 0) (eCons (eLit (.int 3)) eNil))) (eLit (.int 0))) eNil)) (List.map (·.2) ([("s", 7)] : List (Str × Nat)))) eNil)) eNil))))
noncomputable def g__law_pair_machine : SD :=
  sSeq (sSet 3 (eBin addV (eLit (.int 1)) (eArgs (chkL 2 F__law_draw) (eCons (eVar 0) (eCons (eVar 2) eNil))))) (sSeq (sSet 4 (eBin addV (eArgs mkLst (eCons (eLit (.int 0)) eNil)) (eLc (sArgs range1M (eCons (eBin subV (eVar 3) (eLit (.int 1))) eNil)) (.nm 7) tTrue (eArgs (chkL 2 F__law_draw) (eCons (eVar 0) (eCons (eLit (.int 3)) eNil))) (List.map (·.2) ([("s", 7)] : List (Str × Nat)))))) (sSeq (sSet 5 (eBin addV (eLit (.int 1)) (eArgs (chkL 2 F__law_draw) (eCons (eVar 0) (eCons (eLit (.int 3)) eNil))))) (sSeq (sSet 6 (eArgs mkLst eNil)) (sSeq (sFor (sArgs range1M (eCons (eVar 3) eNil)) (.nm 7) g__law_pair_machine_B4) g__law_pair_machine_R5))))
noncomputable def F__law_pair_machine : FD := runF 14 g__law_pair_machine
noncomputable def g__law_sides_R1 : SD :=
  sRet (eArgs mkLst (eCons (eVar 0) eNil))
noncomputable def g__law_sides : SD :=
  sSeq (sIf (eTest (eBin ltA (eVar 1) (eVar 2))) (sRet (eLc (sArgs range1M (eCons (eVar 0) eNil)) (.nm 3) tTrue (eVar 3) (List.map (·.2) ([("y", 3)] : List (Str × Nat))))) sNil) g__law_sides_R1
noncomputable def F__law_sides : FD := runF 4 g__law_sides
noncomputable def g__law_left_R1 : SD :=
  sRet (eVar 0)
noncomputable def g__law_left : SD :=
  sSeq (sIf (eTest (eBin ltA (eVar 2) (eArgs lenV (eCons (eVar 1) eNil)))) (sRet (eBin ixV (eVar 1) (eVar 2))) sNil) g__law_left_R1
noncomputable def F__law_left : FD := runF 3 g__law_left
noncomputable def g__law_of_length_B1 : SD :=
  sSeq (sSet 11 (eBin ixV (eBin ixV (eBin ixV (eVar 0) (eLit (.int 1))) (eVar 9)) (eBin addV (eBin mulA (eArgs (chkL 3 F__law_left) (eCons (eVar 1) (eCons (eVar 2) (eCons (eVar 7) eNil)))) (eBin addV (eVar 1) (eLit (.int 1)))) (eVar 10)))) (sIf (eAnd (eTest (eBin notNV (eVar 11) (eLit .non))) (eAnd (eTest (eBin inV (eVar 11) (eBin ixV (eVar 5) (eLit (.int 0))))) (eTest (eBin notInV (eVar 9) (eVar 8))))) (sExpr (eMethL appendV (eVar 8) (eCons (eVar 9) eNil))) sNil)
noncomputable def g__law_of_length_B2 : SD :=
  sFor (eSrc (eArgs (chkL 3 F__law_sides) (eCons (eVar 1) (eCons (eVar 7) (eCons (eVar 3) eNil))))) (.nm 10) g__law_of_length_B1
noncomputable def g__law_of_length_R3 : SD :=
  sSet 5 (eBin addV (eArgs mkLst (eCons (eVar 8) eNil)) (eVar 5))
noncomputable def g__law_of_length_B4 : SD :=
  sSeq (sSet 7 (eBin subV (eBin subV (eVar 4) (eLit (.int 1))) (eVar 6))) (sSeq (sSet 8 (eArgs mkLst eNil)) (sSeq (sFor (sArgs range1M (eCons (eArgs lenV (eCons (eBin ixV (eVar 0) (eLit (.int 1))) eNil)) eNil)) (.nm 9) g__law_of_length_B2) g__law_of_length_R3))
noncomputable def g__law_of_length_B5 : SD :=
  sSeq (sSet 11 (eBin ixV (eBin ixV (eBin ixV (eVar 0) (eLit (.int 1))) (eVar 9)) (eBin addV (eBin mulA (eArgs (chkL 3 F__law_left) (eCons (eVar 1) (eCons (eVar 2) (eCons (eVar 7) eNil)))) (eBin addV (eVar 1) (eLit (.int 1)))) (eVar 10)))) (sIf (eAnd (eTest (eBin notNV (eVar 11) (eLit .non))) (eTest (eBin inV (eVar 11) (eBin ixV (eVar 5) (eBin addV (eVar 7) (eLit (.int 1))))))) (sExpr (eMethL appendV (eVar 13) (eCons (eArgs mkTup (eCons (eBin addV (eVar 14) (eBin mulA (eArgs mkTup (eCons (eVar 10) eNil)) (eArgs intF (eCons (eBin ltA (eVar 10) (eVar 1)) eNil)))) (eCons (eVar 11) eNil))) eNil))) sNil)
noncomputable def g__law_of_length_B6 : SD :=
  sFor (eSrc (eArgs (chkL 3 F__law_sides) (eCons (eVar 1) (eCons (eVar 7) (eCons (eVar 3) eNil))))) (.nm 10) g__law_of_length_B5
noncomputable def g__law_of_length_R7 : SD :=
  sSet 12 (eSlice sliceV (eVar 13) eNoPart (ePart (eLit (.int 2))))
noncomputable def g__law_of_length_B8 : SD :=
  sSeq (sSet 13 (eArgs mkLst eNil)) (sSeq (sFor (eSrc (eVar 12)) (.tp [.nm 14, .nm 9]) g__law_of_length_B6) g__law_of_length_R7)
noncomputable def g__law_of_length_R9 : SD :=
  sRet (eLc (eSrc (eVar 12)) (.tp [.nm 14, .nm 9]) tTrue (eVar 14) (List.map (·.2) ([("part", 14), ("s", 9)] : List (Str × Nat))))
noncomputable def g__law_of_length_R10 : SD :=
  sSeq (sFor (sArgs range1M (eCons (eVar 4) eNil)) (.nm 7) g__law_of_length_B8) g__law_of_length_R9
noncomputable def g__law_of_length_R11 : SD :=
  sSeq (sSet 12 (eArgs mkLst eNil)) (sSeq (sIf (eTest (eBin inV (eLit (.int 0)) (eBin ixV (eVar 5) (eLit (.int 0))))) (sSet 12 (eArgs mkLst (eCons (eArgs mkTup (eCons (eArgs mkTup eNil) (eCons (eLit (.int 0)) eNil))) eNil))) sNil) g__law_of_length_R10)
noncomputable def g__law_of_length : SD :=
  sSeq (sSet 4 (eArgs mxF (eCons (eArgs lenV (eCons (eVar 2) eNil)) (eCons (eVar 3) eNil)))) (sSeq (sSet 5 (eArgs mkLst (eCons (eLc (sArgs range1M (eCons (eArgs lenV (eCons (eBin ixV (eVar 0) (eLit (.int 1))) eNil)) eNil)) (.nm 9) (eTest (eBin eqA (eBin ixV (eBin ixV (eVar 0) (eLit (.int 2))) (eVar 9)) (eLit (.int 1)))) (eVar 9) (List.map (·.2) ([("s", 9)] : List (Str × Nat)))) eNil))) (sSeq (sFor (sArgs range1M (eCons (eVar 4) eNil)) (.nm 6) g__law_of_length_B4) g__law_of_length_R11))
noncomputable def F__law_of_length : FD := runF 15 g__law_of_length
noncomputable def g__law_leds_B1 : SD :=
  sIf (eAnd (eTest (eBin ltA (eArgs lenV (eCons (eVar 3) eNil)) (eLit (.int 2)))) (eOr (eTest (eBin eqA (eArgs lenV (eCons (eVar 3) eNil)) (eLit (.int 1)))) (eTest (eBin leI (eVar 5) (eBin addV (eVar 4) (eLit (.int 1))))))) (sSet 3 (eBin addV (eVar 3) (eArgs (chkL 4 F__law_of_length) (eCons (eVar 0) (eCons (eVar 1) (eCons (eVar 2) (eCons (eVar 5) eNil))))))) sNil
noncomputable def g__law_leds_R2 : SD :=
  sRet (eSlice sliceV (eBin addV (eVar 3) (eArgs mkLst (eCons (eLit .non) (eCons (eLit .non) eNil)))) eNoPart (ePart (eLit (.int 2))))
noncomputable def g__law_leds : SD :=
  sSeq (sSet 3 (eArgs mkLst eNil)) (sSeq (sSet 4 (eBin addV (eArgs lenV (eCons (eVar 2) eNil)) (eArgs lenV (eCons (eBin ixV (eVar 0) (eLit (.int 1))) eNil)))) (sSeq (sFor (sArgs range1M (eCons (eBin addV (eBin addV (eVar 4) (eArgs lenV (eCons (eBin ixV (eVar 0) (eLit (.int 1))) eNil))) (eLit (.int 2))) eNil)) (.nm 5) g__law_leds_B1) g__law_leds_R2))
noncomputable def F__law_leds : FD := runF 6 g__law_leds
noncomputable def g__law_asked_R1 : SD :=
  sIf (eTest (eBin neA (eArgs reprF (eCons (eArgs (fun zs => if zs.length = (["word", "letters", "machine"] : List Str).length then chkL 3 F_second_led (pick [2, 1, 0] zs) else M.bad) (eCons (eVar 5) (eCons (eVar 2) (eCons (eVar 3) eNil)))) eNil)) (eArgs reprF (eCons (eBin ixV (eVar 6) (eLit (.int 1))) eNil)))) (sRet (eLit (.bl false))) sNil
noncomputable def g__law_asked_R2 : SD :=
  sSeq (sIf (eTest (eBin neA (eArgs reprF (eCons (eArgs (fun zs => if zs.length = (["word", "letters", "machine"] : List Str).length then chkL 3 F_first_led (pick [2, 1, 0] zs) else M.bad) (eCons (eVar 5) (eCons (eVar 2) (eCons (eVar 3) eNil)))) eNil)) (eArgs reprF (eCons (eBin ixV (eVar 6) (eLit (.int 0))) eNil)))) (sRet (eLit (.bl false))) sNil) g__law_asked_R1
noncomputable def g__law_asked_B3 : SD :=
  sSeq (sSet 5 (eArgs (chkL 3 F__law_word) (eCons (eVar 0) (eCons (eVar 2) (eCons (eLit (.int 6)) eNil))))) (sSeq (sSet 6 (eArgs (chkL 3 F__law_leds) (eCons (eVar 1) (eCons (eVar 2) (eCons (eVar 5) eNil))))) (sSeq (sIf (eOr (eTest (eBin neA (eArgs reprF (eCons (eArgs (chkL 3 F_first_led) (eCons (eVar 3) (eCons (eVar 2) (eCons (eVar 5) eNil)))) eNil)) (eArgs reprF (eCons (eBin ixV (eVar 6) (eLit (.int 0))) eNil)))) (eTest (eBin neA (eArgs reprF (eCons (eArgs (chkL 3 F_second_led) (eCons (eVar 3) (eCons (eVar 2) (eCons (eVar 5) eNil)))) eNil)) (eArgs reprF (eCons (eBin ixV (eVar 6) (eLit (.int 1))) eNil))))) (sRet (eLit (.bl false))) sNil) g__law_asked_R2))
noncomputable def g__law_asked_R4 : SD :=
  sRet (eArgs (chkL 2 F__law_is) (eCons (eVar 3) (eCons (eVar 1) eNil)))
noncomputable def g__law_asked : SD :=
  sSeq (sSet 3 (eArgs (chkL 1 F__law_made) (eCons (eVar 1) eNil))) (sSeq (sFor (sArgs range1M (eCons (eLit (.int 2)) eNil)) (.nm 4) g__law_asked_B3) g__law_asked_R4)
noncomputable def F__law_asked : FD := runF 7 g__law_asked
noncomputable def g__law_all_B1 : SD :=
  sIf (eNot (eTest (eArgs (chkL 3 F__law_asked) (eCons (eVar 1) (eCons (eArgs (chkL 3 F__law_pair_machine) (eCons (eVar 1) (eCons (eVar 2) (eCons (eBin ixV (eArgs mkLst (eCons (eLit (.int 5)) (eCons (eLit (.int 6)) eNil))) (eArgs (chkL 2 F__law_draw) (eCons (eVar 1) (eCons (eLit (.int 2)) eNil)))) eNil)))) (eCons (eVar 2) eNil)))))) (sRet (eLit (.bl false))) sNil
noncomputable def g__law_all_R2 : SD :=
  sRet (eLit (.bl true))
noncomputable def g__law_all : SD :=
  sSeq (sSet 1 (eArgs (chkL 1 F__law_box) (eCons (eVar 0) eNil))) (sSeq (sFor (eSrc (eArgs mkLst (eCons (eLit (.int 1)) (eCons (eLit (.int 2)) (eCons (eLit (.int 1)) (eCons (eLit (.int 2)) eNil)))))) (.nm 2) g__law_all_B1) g__law_all_R2)
noncomputable def F__law_all : FD := runF 3 g__law_all
noncomputable def g_law : SD :=
  sThru (sRet (eArgs (chkL 1 F__law_all) (eCons (eVar 0) eNil)))
noncomputable def F_law : FD := runF 1 g_law
structure TX (P : Program) (w : World) (K : PySem.W.Frag) (mg : Str → Option Value) (base : Heap) (a_is_whole : Addr) (fd_is_whole : FuncData) (a_is_number : Addr) (fd_is_number : FuncData) (a_is_sequence : Addr) (fd_is_sequence : FuncData) (a_first_fault : Addr) (fd_first_fault : FuncData) (a_is_word : Addr) (fd_is_word : FuncData) (a__is_row : Addr) (fd__is_row : FuncData) (a__table_fault : Addr) (fd__table_fault : FuncData) (a__ends_fault : Addr) (fd__ends_fault : FuncData) (a_pair_letter : Addr) (fd_pair_letter : FuncData) (a__endings : Addr) (fd__endings : FuncData) (a__longer_ways : Addr) (fd__longer_ways : FuncData) (a__led : Addr) (fd__led : FuncData) (a_first_led : Addr) (fd_first_led : FuncData) (a_second_led : Addr) (fd_second_led : FuncData) (a__law_box : Addr) (fd__law_box : FuncData) (a__law_draw : Addr) (fd__law_draw : FuncData) (a__law_word : Addr) (fd__law_word : FuncData) (a_Machine___init__ : Addr) (fd_Machine___init__ : FuncData) (a__law_made : Addr) (fd__law_made : FuncData) (a__law_is : Addr) (fd__law_is : FuncData) (a__law_phase : Addr) (fd__law_phase : FuncData) (a__law_pair_machine : Addr) (fd__law_pair_machine : FuncData) (a__law_sides : Addr) (fd__law_sides : FuncData) (a__law_left : Addr) (fd__law_left : FuncData) (a__law_of_length : Addr) (fd__law_of_length : FuncData) (a__law_leds : Addr) (fd__law_leds : FuncData) (a__law_asked : Addr) (fd__law_asked : FuncData) (a__law_all : Addr) (fd__law_all : FuncData) (a_law : Addr) (fd_law : FuncData) (a_InvalidMachine i_InvalidMachine : Addr) (fd_InvalidMachine : FuncData) (a_InvalidWord i_InvalidWord : Addr) (fd_InvalidWord : FuncData) (a_Machine : Addr) : Prop where
  x_InvalidMachine : ExcK K P w mg base "InvalidMachine" ["part", "place"] ["self", "part", "place"] xc_S a_InvalidMachine i_InvalidMachine fd_InvalidMachine
  x_InvalidWord : ExcK K P w mg base "InvalidWord" ["value"] ["self", "value"] xc_T a_InvalidWord i_InvalidWord fd_InvalidWord
  z_abs : mg "abs" = none
  z_all : mg "all" = none
  z_bool : mg "bool" = none
  z_int : mg "int" = none
  z_isinstance : mg "isinstance" = none
  z_len : mg "len" = none
  z_list : mg "list" = none
  z_max : mg "max" = none
  z_min : mg "min" = none
  z_range : mg "range" = none
  z_repr : mg "repr" = none
  z_reversed : mg "reversed" = none
  z_tuple : mg "tuple" = none
  c_MOST_LETTERS : ∃ t, mg "MOST_LETTERS" = some (.int (48) t)
  o_Machine : OwnC K "Machine" a_Machine
  g_Machine : mg "Machine" = some (.ref a_Machine)
  mk_Machine : Mk K a_Machine a_Machine___init__
  na_Machine_ends : NoAttr K a_Machine "ends"
  na_Machine_letters : NoAttr K a_Machine "letters"
  na_Machine_table : NoAttr K a_Machine "table"
  d_is_whole : DefAt K mg "is_whole" s_is_whole a_is_whole fd_is_whole ["value"]
  d_is_number : DefAt K mg "is_number" s_is_number a_is_number fd_is_number ["value"]
  d_is_sequence : DefAt K mg "is_sequence" s_is_sequence a_is_sequence fd_is_sequence ["value"]
  d_first_fault : DefAt K mg "first_fault" s_first_fault a_first_fault fd_first_fault ["rights", "many"]
  d_is_word : DefAt K mg "is_word" s_is_word a_is_word fd_is_word ["value", "letters"]
  d__is_row : DefAt K mg "_is_row" s__is_row a__is_row fd__is_row ["value", "letters", "states"]
  d__table_fault : DefAt K mg "_table_fault" s__table_fault a__table_fault fd__table_fault ["letters", "table"]
  d__ends_fault : DefAt K mg "_ends_fault" s__ends_fault a__ends_fault fd__ends_fault ["states", "ends"]
  d_pair_letter : DefAt K mg "pair_letter" s_pair_letter a_pair_letter fd_pair_letter ["letters", "x", "y"]
  d__endings : DefAt K mg "_endings" s__endings a__endings fd__endings ["machine", "letters", "word"]
  d__longer_ways : DefAt K mg "_longer_ways" s__longer_ways a__longer_ways fd__longer_ways ["machine", "letters", "word", "most", "ways", "met"]
  d__led : DefAt K mg "_led" s__led a__led fd__led ["machine", "letters", "word", "most"]
  d_first_led : DefAt K mg "first_led" s_first_led a_first_led fd_first_led ["machine", "letters", "word"]
  d_second_led : DefAt K mg "second_led" s_second_led a_second_led fd_second_led ["machine", "letters", "word"]
  d__law_box : DefAt K mg "_law_box" s__law_box a__law_box fd__law_box ["script"]
  d__law_draw : DefAt K mg "_law_draw" s__law_draw a__law_draw fd__law_draw ["box", "limit"]
  d__law_word : DefAt K mg "_law_word" s__law_word a__law_word fd__law_word ["box", "letters", "most"]
  d_Machine___init__ : DefM K "__init__" "Machine.__init__" s_Machine___init__ a_Machine___init__ fd_Machine___init__ ["self", "letters", "table", "ends"]
  d__law_made : DefAt K mg "_law_made" s__law_made a__law_made fd__law_made ["one"]
  d__law_is : DefAt K mg "_law_is" s__law_is a__law_is fd__law_is ["told", "due"]
  d__law_phase : DefAt K mg "_law_phase" s__law_phase a__law_phase fd__law_phase ["letters", "z"]
  d__law_pair_machine : DefAt K mg "_law_pair_machine" s__law_pair_machine a__law_pair_machine fd__law_pair_machine ["box", "letters", "most"]
  d__law_sides : DefAt K mg "_law_sides" s__law_sides a__law_sides fd__law_sides ["letters", "at", "length"]
  d__law_left : DefAt K mg "_law_left" s__law_left a__law_left fd__law_left ["letters", "word", "at"]
  d__law_of_length : DefAt K mg "_law_of_length" s__law_of_length a__law_of_length fd__law_of_length ["one", "letters", "word", "length"]
  d__law_leds : DefAt K mg "_law_leds" s__law_leds a__law_leds fd__law_leds ["one", "letters", "word"]
  d__law_asked : DefAt K mg "_law_asked" s__law_asked a__law_asked fd__law_asked ["box", "one", "letters"]
  d__law_all : DefAt K mg "_law_all" s__law_all a__law_all fd__law_all ["script"]
  d_law : DefAt K mg "law" s_law a_law fd_law ["script"]
  k_first_led_word_letters_machine : ∀ (s : Shared) (ws : List Value), ws.length = (["word", "letters", "machine"] : List Str).length → BindsTo s fd_first_led ⟨[], (["word", "letters", "machine"] : List Str).zip ws⟩ ((["machine", "letters", "word"] : List Str).zip (pick [2, 1, 0] ws))
  k_second_led_word_letters_machine : ∀ (s : Shared) (ws : List Value), ws.length = (["word", "letters", "machine"] : List Str).length → BindsTo s fd_second_led ⟨[], (["word", "letters", "machine"] : List Str).zip ws⟩ ((["machine", "letters", "word"] : List Str).zip (pick [2, 1, 0] ws))
section
variable {P : Program} {w : World} {K : PySem.W.Frag} {mg : Str → Option Value} {base : Heap} {a_is_whole : Addr} {fd_is_whole : FuncData} {a_is_number : Addr} {fd_is_number : FuncData} {a_is_sequence : Addr} {fd_is_sequence : FuncData} {a_first_fault : Addr} {fd_first_fault : FuncData} {a_is_word : Addr} {fd_is_word : FuncData} {a__is_row : Addr} {fd__is_row : FuncData} {a__table_fault : Addr} {fd__table_fault : FuncData} {a__ends_fault : Addr} {fd__ends_fault : FuncData} {a_pair_letter : Addr} {fd_pair_letter : FuncData} {a__endings : Addr} {fd__endings : FuncData} {a__longer_ways : Addr} {fd__longer_ways : FuncData} {a__led : Addr} {fd__led : FuncData} {a_first_led : Addr} {fd_first_led : FuncData} {a_second_led : Addr} {fd_second_led : FuncData} {a__law_box : Addr} {fd__law_box : FuncData} {a__law_draw : Addr} {fd__law_draw : FuncData} {a__law_word : Addr} {fd__law_word : FuncData} {a_Machine___init__ : Addr} {fd_Machine___init__ : FuncData} {a__law_made : Addr} {fd__law_made : FuncData} {a__law_is : Addr} {fd__law_is : FuncData} {a__law_phase : Addr} {fd__law_phase : FuncData} {a__law_pair_machine : Addr} {fd__law_pair_machine : FuncData} {a__law_sides : Addr} {fd__law_sides : FuncData} {a__law_left : Addr} {fd__law_left : FuncData} {a__law_of_length : Addr} {fd__law_of_length : FuncData} {a__law_leds : Addr} {fd__law_leds : FuncData} {a__law_asked : Addr} {fd__law_asked : FuncData} {a__law_all : Addr} {fd__law_all : FuncData} {a_law : Addr} {fd_law : FuncData} {a_InvalidMachine i_InvalidMachine : Addr} {fd_InvalidMachine : FuncData} {a_InvalidWord i_InvalidWord : Addr} {fd_InvalidWord : FuncData} {a_Machine : Addr}
theorem ok_is_whole (T : TX P w K mg base a_is_whole fd_is_whole a_is_number fd_is_number a_is_sequence fd_is_sequence a_first_fault fd_first_fault a_is_word fd_is_word a__is_row fd__is_row a__table_fault fd__table_fault a__ends_fault fd__ends_fault a_pair_letter fd_pair_letter a__endings fd__endings a__longer_ways fd__longer_ways a__led fd__led a_first_led fd_first_led a_second_led fd_second_led a__law_box fd__law_box a__law_draw fd__law_draw a__law_word fd__law_word a_Machine___init__ fd_Machine___init__ a__law_made fd__law_made a__law_is fd__law_is a__law_phase fd__law_phase a__law_pair_machine fd__law_pair_machine a__law_sides fd__law_sides a__law_left fd__law_left a__law_of_length fd__law_of_length a__law_leds fd__law_leds a__law_asked fd__law_asked a__law_all fd__law_all a_law fd_law a_InvalidMachine i_InvalidMachine fd_InvalidMachine a_InvalidWord i_InvalidWord fd_InvalidWord a_Machine) : FnG P w K mg base 2 a_is_whole fd_is_whole ["value"] (spD K 1 F_is_whole) := by
  have sc := sc_is_whole
  refine fnG_mk' ["value"] ["value"] 1 1 1 g_is_whole rfl rfl P w mg base T.d_is_whole.F sc (fun cdv A outer s H E hr gd => ?_)
  have tk := takes_of (X := cxOf (L2.CX P w) P w K mg base ["value"] "is_whole" (defScope s_is_whole) a_is_whole cdv A outer s H E) rfl rfl rfl rfl
  have po := passes_of (X := cxOf (L2.CX P w) P w K mg base ["value"] "is_whole" (defScope s_is_whole) a_is_whole cdv A outer s H E) rfl
  exact dss_one (ds_ret (de_and (de_callB call_isi den_isi T.z_isinstance bt_isinstance (da_cons (de_var 0) (da_cons (de_ty T.z_int bt_int) da_nil))) (de_and1 (de_not (de_callB call_isi den_isi T.z_isinstance bt_isinstance (da_cons (de_var 0) (da_cons (de_ty T.z_bool bt_bool) da_nil)))))))
theorem ok_is_number (T : TX P w K mg base a_is_whole fd_is_whole a_is_number fd_is_number a_is_sequence fd_is_sequence a_first_fault fd_first_fault a_is_word fd_is_word a__is_row fd__is_row a__table_fault fd__table_fault a__ends_fault fd__ends_fault a_pair_letter fd_pair_letter a__endings fd__endings a__longer_ways fd__longer_ways a__led fd__led a_first_led fd_first_led a_second_led fd_second_led a__law_box fd__law_box a__law_draw fd__law_draw a__law_word fd__law_word a_Machine___init__ fd_Machine___init__ a__law_made fd__law_made a__law_is fd__law_is a__law_phase fd__law_phase a__law_pair_machine fd__law_pair_machine a__law_sides fd__law_sides a__law_left fd__law_left a__law_of_length fd__law_of_length a__law_leds fd__law_leds a__law_asked fd__law_asked a__law_all fd__law_all a_law fd_law a_InvalidMachine i_InvalidMachine fd_InvalidMachine a_InvalidWord i_InvalidWord fd_InvalidWord a_Machine) : FnG P w K mg base 3 a_is_number fd_is_number ["value"] (spD K 1 F_is_number) := by
  have G_is_whole := ok_is_whole T
  have sc := sc_is_number
  refine fnG_mk' ["value"] ["value"] 2 1 1 g_is_number rfl rfl P w mg base T.d_is_number.F sc (fun cdv A outer s H E hr gd => ?_)
  have tk := takes_of (X := cxOf (L2.CX P w) P w K mg base ["value"] "is_number" (defScope s_is_number) a_is_number cdv A outer s H E) rfl rfl rfl rfl
  have po := passes_of (X := cxOf (L2.CX P w) P w K mg base ["value"] "is_number" (defScope s_is_number) a_is_number cdv A outer s H E) rfl
  exact dss_one (ds_ret (de_and (de_call G_is_whole (hr.mono (by decide)) gd tk T.d_is_whole.g T.d_is_whole.F.kp T.d_is_whole.b (da_cons (de_var 0) da_nil)) (de_and1 (de_cmp op_ge den_geI (de_var 0) de_int))))
theorem ok_is_sequence (T : TX P w K mg base a_is_whole fd_is_whole a_is_number fd_is_number a_is_sequence fd_is_sequence a_first_fault fd_first_fault a_is_word fd_is_word a__is_row fd__is_row a__table_fault fd__table_fault a__ends_fault fd__ends_fault a_pair_letter fd_pair_letter a__endings fd__endings a__longer_ways fd__longer_ways a__led fd__led a_first_led fd_first_led a_second_led fd_second_led a__law_box fd__law_box a__law_draw fd__law_draw a__law_word fd__law_word a_Machine___init__ fd_Machine___init__ a__law_made fd__law_made a__law_is fd__law_is a__law_phase fd__law_phase a__law_pair_machine fd__law_pair_machine a__law_sides fd__law_sides a__law_left fd__law_left a__law_of_length fd__law_of_length a__law_leds fd__law_leds a__law_asked fd__law_asked a__law_all fd__law_all a_law fd_law a_InvalidMachine i_InvalidMachine fd_InvalidMachine a_InvalidWord i_InvalidWord fd_InvalidWord a_Machine) : FnG P w K mg base 2 a_is_sequence fd_is_sequence ["value"] (spD K 1 F_is_sequence) := by
  have sc := sc_is_sequence
  refine fnG_mk' ["value"] ["value"] 1 1 1 g_is_sequence rfl rfl P w mg base T.d_is_sequence.F sc (fun cdv A outer s H E hr gd => ?_)
  have tk := takes_of (X := cxOf (L2.CX P w) P w K mg base ["value"] "is_sequence" (defScope s_is_sequence) a_is_sequence cdv A outer s H E) rfl rfl rfl rfl
  have po := passes_of (X := cxOf (L2.CX P w) P w K mg base ["value"] "is_sequence" (defScope s_is_sequence) a_is_sequence cdv A outer s H E) rfl
  exact dss_one (ds_ret (de_callB call_isi2 den_isi2 T.z_isinstance bt_isinstance (da_cons (de_var 0) (da_cons (de_tup (da_cons (de_ty T.z_list bt_list) (da_cons (de_ty T.z_tuple bt_tuple) da_nil))) da_nil))))
theorem ok_first_fault (T : TX P w K mg base a_is_whole fd_is_whole a_is_number fd_is_number a_is_sequence fd_is_sequence a_first_fault fd_first_fault a_is_word fd_is_word a__is_row fd__is_row a__table_fault fd__table_fault a__ends_fault fd__ends_fault a_pair_letter fd_pair_letter a__endings fd__endings a__longer_ways fd__longer_ways a__led fd__led a_first_led fd_first_led a_second_led fd_second_led a__law_box fd__law_box a__law_draw fd__law_draw a__law_word fd__law_word a_Machine___init__ fd_Machine___init__ a__law_made fd__law_made a__law_is fd__law_is a__law_phase fd__law_phase a__law_pair_machine fd__law_pair_machine a__law_sides fd__law_sides a__law_left fd__law_left a__law_of_length fd__law_of_length a__law_leds fd__law_leds a__law_asked fd__law_asked a__law_all fd__law_all a_law fd_law a_InvalidMachine i_InvalidMachine fd_InvalidMachine a_InvalidWord i_InvalidWord fd_InvalidWord a_Machine) : FnG P w K mg base 2 a_first_fault fd_first_fault ["rights", "many"] (spD K 2 F_first_fault) := by
  have sc := sc_first_fault
  refine fnG_mk' ["rights", "many", "least", "place"] ["rights", "many"] 1 2 4 g_first_fault rfl rfl P w mg base T.d_first_fault.F sc (fun cdv A outer s H E hr gd => ?_)
  have tk := takes_of (X := cxOf (L2.CX P w) P w K mg base ["rights", "many", "least", "place"] "first_fault" (defScope s_first_fault) a_first_fault cdv A outer s H E) rfl rfl rfl rfl
  have po := passes_of (X := cxOf (L2.CX P w) P w K mg base ["rights", "many", "least", "place"] "first_fault" (defScope s_first_fault) a_first_fault cdv A outer s H E) rfl
  exact dss_cons (ds_set 2 (de_callB (call_min2 rfl) den_mn T.z_min bt_min (da_cons (de_callB call_lenA den_len T.z_len PySem.boot_len (da_cons (de_var 0) da_nil)) (da_cons (de_var 1) da_nil))) sc.nd) (dss_cons (ds_for po rfl (di_range1 T.z_range (da_cons (de_var 2) da_nil)) (dg_name 3 sc.nd) (dss_one (ds_if (dt_not (dt_val (de_ix ix_seq den_ix (de_var 0) (de_var 3)))) (dss_one (ds_ret (de_var 3))) dss_nil))) (dss_cons (ds_if (dt_cmp (op_neA hr.u64) den_neA (de_callB call_lenA den_len T.z_len PySem.boot_len (da_cons (de_var 0) da_nil)) (de_var 1)) (dss_one (ds_ret (de_var 2))) dss_nil) (dss_one (ds_ret de_non))))
theorem ok_is_word (T : TX P w K mg base a_is_whole fd_is_whole a_is_number fd_is_number a_is_sequence fd_is_sequence a_first_fault fd_first_fault a_is_word fd_is_word a__is_row fd__is_row a__table_fault fd__table_fault a__ends_fault fd__ends_fault a_pair_letter fd_pair_letter a__endings fd__endings a__longer_ways fd__longer_ways a__led fd__led a_first_led fd_first_led a_second_led fd_second_led a__law_box fd__law_box a__law_draw fd__law_draw a__law_word fd__law_word a_Machine___init__ fd_Machine___init__ a__law_made fd__law_made a__law_is fd__law_is a__law_phase fd__law_phase a__law_pair_machine fd__law_pair_machine a__law_sides fd__law_sides a__law_left fd__law_left a__law_of_length fd__law_of_length a__law_leds fd__law_leds a__law_asked fd__law_asked a__law_all fd__law_all a_law fd_law a_InvalidMachine i_InvalidMachine fd_InvalidMachine a_InvalidWord i_InvalidWord fd_InvalidWord a_Machine) : FnG P w K mg base 4 a_is_word fd_is_word ["value", "letters"] (spD K 2 F_is_word) := by
  have G_is_number := ok_is_number T
  have sc := sc_is_word
  refine fnG_mk' ["value", "letters", "x"] ["value", "letters"] 3 2 3 g_is_word rfl rfl P w mg base T.d_is_word.F sc (fun cdv A outer s H E hr gd => ?_)
  have tk := takes_of (X := cxOf (L2.CX P w) P w K mg base ["value", "letters", "x"] "is_word" (defScope s_is_word) a_is_word cdv A outer s H E) rfl rfl rfl rfl
  have po := passes_of (X := cxOf (L2.CX P w) P w K mg base ["value", "letters", "x"] "is_word" (defScope s_is_word) a_is_word cdv A outer s H E) rfl
  exact dss_one (ds_ret (de_and (de_callB call_isi den_isi T.z_isinstance bt_isinstance (da_cons (de_var 0) (da_cons (de_ty T.z_tuple bt_tuple) da_nil))) (de_and1 (de_callB (cr_all rfl) den_all T.z_all bt_all (da_cons (de_lc [("x", 2)] rfl sc.nd (di_seq (de_var 0)) (blkOk_by (N := ["value", "letters", "x"]) (sc := defScope s_is_word) (by decide +kernel)) (by decide) (fun _ _ _ _ _ => dg_name 2 sc.nd) (fun _ _ _ _ _ => pts_nilD) (fun _ _ _ _ _ => de_and (de_call G_is_number (hr.mono (by decide)) gd takes0 T.d_is_number.g T.d_is_number.F.kp T.d_is_number.b (da_cons (de_var 2) da_nil)) (de_and1 (de_cmp (op_ltA hr.u64) den_ltA (de_var 2) (de_var 1))))) da_nil)))))
theorem ok__is_row (T : TX P w K mg base a_is_whole fd_is_whole a_is_number fd_is_number a_is_sequence fd_is_sequence a_first_fault fd_first_fault a_is_word fd_is_word a__is_row fd__is_row a__table_fault fd__table_fault a__ends_fault fd__ends_fault a_pair_letter fd_pair_letter a__endings fd__endings a__longer_ways fd__longer_ways a__led fd__led a_first_led fd_first_led a_second_led fd_second_led a__law_box fd__law_box a__law_draw fd__law_draw a__law_word fd__law_word a_Machine___init__ fd_Machine___init__ a__law_made fd__law_made a__law_is fd__law_is a__law_phase fd__law_phase a__law_pair_machine fd__law_pair_machine a__law_sides fd__law_sides a__law_left fd__law_left a__law_of_length fd__law_of_length a__law_leds fd__law_leds a__law_asked fd__law_asked a__law_all fd__law_all a_law fd_law a_InvalidMachine i_InvalidMachine fd_InvalidMachine a_InvalidWord i_InvalidWord fd_InvalidWord a_Machine) : FnG P w K mg base 4 a__is_row fd__is_row ["value", "letters", "states"] (spD K 3 F__is_row) := by
  have G_is_number := ok_is_number T
  have sc := sc__is_row
  refine fnG_mk' ["value", "letters", "states", "t"] ["value", "letters", "states"] 3 3 4 g__is_row rfl rfl P w mg base T.d__is_row.F sc (fun cdv A outer s H E hr gd => ?_)
  have tk := takes_of (X := cxOf (L2.CX P w) P w K mg base ["value", "letters", "states", "t"] "_is_row" (defScope s__is_row) a__is_row cdv A outer s H E) rfl rfl rfl rfl
  have po := passes_of (X := cxOf (L2.CX P w) P w K mg base ["value", "letters", "states", "t"] "_is_row" (defScope s__is_row) a__is_row cdv A outer s H E) rfl
  exact dss_cons (ds_if (dt_w (dw_or (dt_not (dt_val (de_callB call_isi den_isi T.z_isinstance bt_isinstance (da_cons (de_var 0) (da_cons (de_ty T.z_tuple bt_tuple) da_nil))))) (dw_or1 (dt_cmp (op_neA hr.u64) den_neA (de_callB call_lenA den_len T.z_len PySem.boot_len (da_cons (de_var 0) da_nil)) (de_var 1))))) (dss_one (ds_ret de_bl)) dss_nil) (dss_one (ds_ret (de_callB (cr_all rfl) den_all T.z_all bt_all (da_cons (de_lc [("t", 3)] rfl sc.nd (di_seq (de_var 0)) (blkOk_by (N := ["value", "letters", "states", "t"]) (sc := defScope s__is_row) (by decide +kernel)) (by decide) (fun _ _ _ _ _ => dg_name 3 sc.nd) (fun _ _ _ _ _ => pts_nilD) (fun _ _ _ _ _ => de_or (de_cmp op_isA den_is (de_var 3) de_non) (de_and1 (de_and (de_call G_is_number (hr.mono (by decide)) gd takes0 T.d_is_number.g T.d_is_number.F.kp T.d_is_number.b (da_cons (de_var 3) da_nil)) (de_and1 (de_cmp (op_ltA hr.u64) den_ltA (de_var 3) (de_var 2))))))) da_nil))))
theorem ok__table_fault (T : TX P w K mg base a_is_whole fd_is_whole a_is_number fd_is_number a_is_sequence fd_is_sequence a_first_fault fd_first_fault a_is_word fd_is_word a__is_row fd__is_row a__table_fault fd__table_fault a__ends_fault fd__ends_fault a_pair_letter fd_pair_letter a__endings fd__endings a__longer_ways fd__longer_ways a__led fd__led a_first_led fd_first_led a_second_led fd_second_led a__law_box fd__law_box a__law_draw fd__law_draw a__law_word fd__law_word a_Machine___init__ fd_Machine___init__ a__law_made fd__law_made a__law_is fd__law_is a__law_phase fd__law_phase a__law_pair_machine fd__law_pair_machine a__law_sides fd__law_sides a__law_left fd__law_left a__law_of_length fd__law_of_length a__law_leds fd__law_leds a__law_asked fd__law_asked a__law_all fd__law_all a_law fd_law a_InvalidMachine i_InvalidMachine fd_InvalidMachine a_InvalidWord i_InvalidWord fd_InvalidWord a_Machine) : FnG P w K mg base 5 a__table_fault fd__table_fault ["letters", "table"] (spD K 2 F__table_fault) := by
  have G_is_sequence := ok_is_sequence T
  have G_first_fault := ok_first_fault T
  have G__is_row := ok__is_row T
  have sc := sc__table_fault
  refine fnG_mk' ["letters", "table", "row"] ["letters", "table"] 4 2 3 g__table_fault rfl rfl P w mg base T.d__table_fault.F sc (fun cdv A outer s H E hr gd => ?_)
  have tk := takes_of (X := cxOf (L2.CX P w) P w K mg base ["letters", "table", "row"] "_table_fault" (defScope s__table_fault) a__table_fault cdv A outer s H E) rfl rfl rfl rfl
  have po := passes_of (X := cxOf (L2.CX P w) P w K mg base ["letters", "table", "row"] "_table_fault" (defScope s__table_fault) a__table_fault cdv A outer s H E) rfl
  exact dss_cons (ds_if (dt_w (dw_or (dt_not (dt_val (de_call G_is_sequence (hr.mono (by decide)) gd tk T.d_is_sequence.g T.d_is_sequence.F.kp T.d_is_sequence.b (da_cons (de_var 1) da_nil)))) (dw_or1 (dt_cmp (op_eqA hr.u64) den_eqA (de_callB call_lenA den_len T.z_len PySem.boot_len (da_cons (de_var 1) da_nil)) de_int)))) (dss_one (ds_ret de_int)) dss_nil) (dss_one (ds_ret (de_call G_first_fault (hr.mono (by decide)) gd tk T.d_first_fault.g T.d_first_fault.F.kp T.d_first_fault.b (da_cons (de_lc [("row", 2)] rfl sc.nd (di_seq (de_var 1)) (blkOk_by (N := ["letters", "table", "row"]) (sc := defScope s__table_fault) (by decide +kernel)) (by decide) (fun _ _ _ _ _ => dg_name 2 sc.nd) (fun _ _ _ _ _ => pts_nilD) (fun _ _ _ _ _ => de_call G__is_row (hr.mono (by decide)) gd takes0 T.d__is_row.g T.d__is_row.F.kp T.d__is_row.b (da_cons (de_var 2) (da_cons (de_var 0) (da_cons (de_callB call_lenA den_len T.z_len PySem.boot_len (da_cons (de_var 1) da_nil)) da_nil))))) (da_cons (de_callB call_lenA den_len T.z_len PySem.boot_len (da_cons (de_var 1) da_nil)) da_nil)))))
theorem ok__ends_fault (T : TX P w K mg base a_is_whole fd_is_whole a_is_number fd_is_number a_is_sequence fd_is_sequence a_first_fault fd_first_fault a_is_word fd_is_word a__is_row fd__is_row a__table_fault fd__table_fault a__ends_fault fd__ends_fault a_pair_letter fd_pair_letter a__endings fd__endings a__longer_ways fd__longer_ways a__led fd__led a_first_led fd_first_led a_second_led fd_second_led a__law_box fd__law_box a__law_draw fd__law_draw a__law_word fd__law_word a_Machine___init__ fd_Machine___init__ a__law_made fd__law_made a__law_is fd__law_is a__law_phase fd__law_phase a__law_pair_machine fd__law_pair_machine a__law_sides fd__law_sides a__law_left fd__law_left a__law_of_length fd__law_of_length a__law_leds fd__law_leds a__law_asked fd__law_asked a__law_all fd__law_all a_law fd_law a_InvalidMachine i_InvalidMachine fd_InvalidMachine a_InvalidWord i_InvalidWord fd_InvalidWord a_Machine) : FnG P w K mg base 3 a__ends_fault fd__ends_fault ["states", "ends"] (spD K 2 F__ends_fault) := by
  have G_is_whole := ok_is_whole T
  have G_is_sequence := ok_is_sequence T
  have G_first_fault := ok_first_fault T
  have sc := sc__ends_fault
  refine fnG_mk' ["states", "ends", "bit"] ["states", "ends"] 2 2 3 g__ends_fault rfl rfl P w mg base T.d__ends_fault.F sc (fun cdv A outer s H E hr gd => ?_)
  have tk := takes_of (X := cxOf (L2.CX P w) P w K mg base ["states", "ends", "bit"] "_ends_fault" (defScope s__ends_fault) a__ends_fault cdv A outer s H E) rfl rfl rfl rfl
  have po := passes_of (X := cxOf (L2.CX P w) P w K mg base ["states", "ends", "bit"] "_ends_fault" (defScope s__ends_fault) a__ends_fault cdv A outer s H E) rfl
  exact dss_cons (ds_if (dt_not (dt_val (de_call G_is_sequence (hr.mono (by decide)) gd tk T.d_is_sequence.g T.d_is_sequence.F.kp T.d_is_sequence.b (da_cons (de_var 1) da_nil)))) (dss_one (ds_ret de_int)) dss_nil) (dss_one (ds_ret (de_call G_first_fault (hr.mono (by decide)) gd tk T.d_first_fault.g T.d_first_fault.F.kp T.d_first_fault.b (da_cons (de_lc [("bit", 2)] rfl sc.nd (di_seq (de_var 1)) (blkOk_by (N := ["states", "ends", "bit"]) (sc := defScope s__ends_fault) (by decide +kernel)) (by decide) (fun _ _ _ _ _ => dg_name 2 sc.nd) (fun _ _ _ _ _ => pts_nilD) (fun _ _ _ _ _ => de_and (de_call G_is_whole (hr.mono (by decide)) gd takes0 T.d_is_whole.g T.d_is_whole.F.kp T.d_is_whole.b (da_cons (de_var 2) da_nil)) (de_and1 (de_chain op_le den_leI op_le den_leI de_int (de_var 2) de_int)))) (da_cons (de_var 0) da_nil)))))
theorem ok_pair_letter (T : TX P w K mg base a_is_whole fd_is_whole a_is_number fd_is_number a_is_sequence fd_is_sequence a_first_fault fd_first_fault a_is_word fd_is_word a__is_row fd__is_row a__table_fault fd__table_fault a__ends_fault fd__ends_fault a_pair_letter fd_pair_letter a__endings fd__endings a__longer_ways fd__longer_ways a__led fd__led a_first_led fd_first_led a_second_led fd_second_led a__law_box fd__law_box a__law_draw fd__law_draw a__law_word fd__law_word a_Machine___init__ fd_Machine___init__ a__law_made fd__law_made a__law_is fd__law_is a__law_phase fd__law_phase a__law_pair_machine fd__law_pair_machine a__law_sides fd__law_sides a__law_left fd__law_left a__law_of_length fd__law_of_length a__law_leds fd__law_leds a__law_asked fd__law_asked a__law_all fd__law_all a_law fd_law a_InvalidMachine i_InvalidMachine fd_InvalidMachine a_InvalidWord i_InvalidWord fd_InvalidWord a_Machine) : FnG P w K mg base 2 a_pair_letter fd_pair_letter ["letters", "x", "y"] (spD K 3 F_pair_letter) := by
  have sc := sc_pair_letter
  refine fnG_mk' ["letters", "x", "y"] ["letters", "x", "y"] 1 3 3 g_pair_letter rfl rfl P w mg base T.d_pair_letter.F sc (fun cdv A outer s H E hr gd => ?_)
  have tk := takes_of (X := cxOf (L2.CX P w) P w K mg base ["letters", "x", "y"] "pair_letter" (defScope s_pair_letter) a_pair_letter cdv A outer s H E) rfl rfl rfl rfl
  have po := passes_of (X := cxOf (L2.CX P w) P w K mg base ["letters", "x", "y"] "pair_letter" (defScope s_pair_letter) a_pair_letter cdv A outer s H E) rfl
  exact dss_one (ds_ret (de_op op_addA den_add (de_op op_mulA den_mulA (de_var 1) (de_op op_addA den_add (de_var 0) de_int)) (de_var 2)))
theorem ok__endings (T : TX P w K mg base a_is_whole fd_is_whole a_is_number fd_is_number a_is_sequence fd_is_sequence a_first_fault fd_first_fault a_is_word fd_is_word a__is_row fd__is_row a__table_fault fd__table_fault a__ends_fault fd__ends_fault a_pair_letter fd_pair_letter a__endings fd__endings a__longer_ways fd__longer_ways a__led fd__led a_first_led fd_first_led a_second_led fd_second_led a__law_box fd__law_box a__law_draw fd__law_draw a__law_word fd__law_word a_Machine___init__ fd_Machine___init__ a__law_made fd__law_made a__law_is fd__law_is a__law_phase fd__law_phase a__law_pair_machine fd__law_pair_machine a__law_sides fd__law_sides a__law_left fd__law_left a__law_of_length fd__law_of_length a__law_leds fd__law_leds a__law_asked fd__law_asked a__law_all fd__law_all a_law fd_law a_InvalidMachine i_InvalidMachine fd_InvalidMachine a_InvalidWord i_InvalidWord fd_InvalidWord a_Machine) : FnG P w K mg base 3 a__endings fd__endings ["machine", "letters", "word"] (spD K 3 F__endings) := by
  have G_pair_letter := ok_pair_letter T
  have sc := sc__endings
  refine fnG_mk' ["machine", "letters", "word", "told", "x", "column", "nexts", "row", "t"] ["machine", "letters", "word"] 2 3 9 g__endings rfl rfl P w mg base T.d__endings.F sc (fun cdv A outer s H E hr gd => ?_)
  have tk := takes_of (X := cxOf (L2.CX P w) P w K mg base ["machine", "letters", "word", "told", "x", "column", "nexts", "row", "t"] "_endings" (defScope s__endings) a__endings cdv A outer s H E) rfl rfl rfl rfl
  have po := passes_of (X := cxOf (L2.CX P w) P w K mg base ["machine", "letters", "word", "told", "x", "column", "nexts", "row", "t"] "_endings" (defScope s__endings) a__endings cdv A outer s H E) rfl
  exact dss_cons (ds_set 3 (de_lst (da_cons (de_callTy call_list_of den_lst T.z_list bt_list (da_cons (de_fld T.o_Machine.cn T.o_Machine.cl T.na_Machine_ends (de_var 0)) da_nil)) da_nil)) sc.nd) (dss_cons (ds_for po rfl (di_rev T.z_reversed (de_var 2)) (dg_name 4 sc.nd) (dss_cons (ds_set 5 (de_call G_pair_letter (hr.mono (by decide)) gd tk T.d_pair_letter.g T.d_pair_letter.F.kp T.d_pair_letter.b (da_cons (de_var 1) (da_cons (de_var 4) (da_cons (de_var 1) da_nil)))) sc.nd) (dss_cons (ds_setLc 6 [("row", 7)] rfl sc.nd (di_seq (de_fld T.o_Machine.cn T.o_Machine.cl T.na_Machine_table (de_var 0))) (blkOk_by (N := ["machine", "letters", "word", "told", "x", "column", "nexts", "row", "t"]) (sc := defScope s__endings) (by decide +kernel)) (by decide) (fun _ _ _ _ _ => dg_name 7 sc.nd) (fun _ _ _ _ _ => pts_nilD) (fun _ _ _ _ _ => de_ix ix_seq den_ix (de_var 7) (de_var 5)) (sw_true rfl rfl rfl (by decide +kernel))) (dss_one (ds_expr (de_methL PySem.F.slot_list_append PySem.F.type_list_append mt_append den_append (de_var 3) (da_cons (de_lc [("t", 8)] rfl sc.nd (di_seq (de_var 6)) (blkOk_by (N := ["machine", "letters", "word", "told", "x", "column", "nexts", "row", "t"]) (sc := defScope s__endings) (by decide +kernel)) (by decide) (fun _ _ _ _ _ => dg_name 8 sc.nd) (fun _ _ _ _ _ => pts_nilD) (fun _ _ _ _ _ => de_if (dt_cmp op_isA den_is (de_var 8) de_non) de_int (de_ix ix_seq den_ix (de_ix ix_seq den_ix (de_var 3) (de_un un_neg den_neg de_int)) (de_var 8)))) da_nil))))))) (dss_one (ds_ret (de_revL (de_var 3) (de_un un_neg den_neg de_int)))))
theorem ok__longer_ways (T : TX P w K mg base a_is_whole fd_is_whole a_is_number fd_is_number a_is_sequence fd_is_sequence a_first_fault fd_first_fault a_is_word fd_is_word a__is_row fd__is_row a__table_fault fd__table_fault a__ends_fault fd__ends_fault a_pair_letter fd_pair_letter a__endings fd__endings a__longer_ways fd__longer_ways a__led fd__led a_first_led fd_first_led a_second_led fd_second_led a__law_box fd__law_box a__law_draw fd__law_draw a__law_word fd__law_word a_Machine___init__ fd_Machine___init__ a__law_made fd__law_made a__law_is fd__law_is a__law_phase fd__law_phase a__law_pair_machine fd__law_pair_machine a__law_sides fd__law_sides a__law_left fd__law_left a__law_of_length fd__law_of_length a__law_leds fd__law_leds a__law_asked fd__law_asked a__law_all fd__law_all a_law fd_law a_InvalidMachine i_InvalidMachine fd_InvalidMachine a_InvalidWord i_InvalidWord fd_InvalidWord a_Machine) : FnG P w K mg base 3 a__longer_ways fd__longer_ways ["machine", "letters", "word", "most", "ways", "met"] (spD K 6 F__longer_ways) := by
  have G_pair_letter := ok_pair_letter T
  have sc := sc__longer_ways
  refine fnG_mk' ["machine", "letters", "word", "most", "ways", "met", "size", "x", "place", "longer", "v", "state", "y", "t"] ["machine", "letters", "word", "most", "ways", "met"] 2 6 14 g__longer_ways rfl rfl P w mg base T.d__longer_ways.F sc (fun cdv A outer s H E hr gd => ?_)
  have tk := takes_of (X := cxOf (L2.CX P w) P w K mg base ["machine", "letters", "word", "most", "ways", "met", "size", "x", "place", "longer", "v", "state", "y", "t"] "_longer_ways" (defScope s__longer_ways) a__longer_ways cdv A outer s H E) rfl rfl rfl rfl
  have po := passes_of (X := cxOf (L2.CX P w) P w K mg base ["machine", "letters", "word", "most", "ways", "met", "size", "x", "place", "longer", "v", "state", "y", "t"] "_longer_ways" (defScope s__longer_ways) a__longer_ways cdv A outer s H E) rfl
  exact dss_cons (ds_set 6 (de_callB call_lenA den_len T.z_len PySem.boot_len (da_cons (de_ix ix_seq den_ix (de_ix ix_seq den_ix (de_var 4) de_int) de_int) da_nil)) sc.nd) (dss_cons (ds_set 7 (de_if (dt_cmp (op_ltA hr.u64) den_ltA (de_var 6) (de_callB call_lenA den_len T.z_len PySem.boot_len (da_cons (de_var 2) da_nil))) (de_ix ix_seq den_ix (de_var 2) (de_var 6)) (de_var 1)) sc.nd) (dss_cons (ds_set 8 (de_callB (call_min2 rfl) den_mn T.z_min bt_min (da_cons (de_op op_addA den_add (de_var 6) de_int) (da_cons (de_callB call_lenA den_len T.z_len PySem.boot_len (da_cons (de_var 2) da_nil)) da_nil))) sc.nd) (dss_cons (ds_set 9 (de_lst da_nil) sc.nd) (dss_cons (ds_for po rfl (di_seq (de_var 4)) (dg_tup rfl (dgs_cons (dg_name 10 sc.nd) (dgs_cons (dg_name 11 sc.nd) dgs_nil))) (dss_one (ds_for po rfl (di_range1 T.z_range (da_cons (de_var 1) da_nil)) (dg_name 12 sc.nd) (dss_cons (ds_set 13 (de_ix ix_seq den_ix (de_ix ix_seq den_ix (de_fld T.o_Machine.cn T.o_Machine.cl T.na_Machine_table (de_var 0)) (de_var 11)) (de_call G_pair_letter (hr.mono (by decide)) gd tk T.d_pair_letter.g T.d_pair_letter.F.kp T.d_pair_letter.b (da_cons (de_var 1) (da_cons (de_var 7) (da_cons (de_var 12) da_nil))))) sc.nd) (dss_one (ds_if (dt_w (dw_and (dt_cmp op_notA den_not (de_var 13) de_non) (dw_and1 (dt_cmp (op_ltA hr.u64) den_ltA (de_getT (u1_of hr.u64) (de_var 5) (da_cons (de_var 8) (da_cons (de_var 13) da_nil)) de_int ⟨rfl, rfl, rfl, rfl⟩) (de_var 3))))) (dss_cons (ds_putT (u1_of hr.u64) (de_op op_addA den_add (de_getT (u1_of hr.u64) (de_var 5) (da_cons (de_var 8) (da_cons (de_var 13) da_nil)) de_int ⟨rfl, rfl, rfl, rfl⟩) de_int) (de_var 5) (da_cons (de_var 8) (da_cons (de_var 13) da_nil))) (dss_one (ds_expr (de_methL PySem.F.slot_list_append PySem.F.type_list_append mt_append den_append (de_var 9) (da_cons (de_tup (da_cons (de_op op_addA den_add (de_var 10) (de_tup (da_cons (de_var 12) da_nil))) (da_cons (de_var 13) da_nil))) da_nil))))) dss_nil)))))) (dss_one (ds_ret (de_var 9)))))))
theorem ok__led (T : TX P w K mg base a_is_whole fd_is_whole a_is_number fd_is_number a_is_sequence fd_is_sequence a_first_fault fd_first_fault a_is_word fd_is_word a__is_row fd__is_row a__table_fault fd__table_fault a__ends_fault fd__ends_fault a_pair_letter fd_pair_letter a__endings fd__endings a__longer_ways fd__longer_ways a__led fd__led a_first_led fd_first_led a_second_led fd_second_led a__law_box fd__law_box a__law_draw fd__law_draw a__law_word fd__law_word a_Machine___init__ fd_Machine___init__ a__law_made fd__law_made a__law_is fd__law_is a__law_phase fd__law_phase a__law_pair_machine fd__law_pair_machine a__law_sides fd__law_sides a__law_left fd__law_left a__law_of_length fd__law_of_length a__law_leds fd__law_leds a__law_asked fd__law_asked a__law_all fd__law_all a_law fd_law a_InvalidMachine i_InvalidMachine fd_InvalidMachine a_InvalidWord i_InvalidWord fd_InvalidWord a_Machine) : FnG P w K mg base 5 a__led fd__led ["machine", "letters", "word", "most"] (spD K 4 F__led) := by
  have G_is_word := ok_is_word T
  have G__endings := ok__endings T
  have G__longer_ways := ok__longer_ways T
  have sc := sc__led
  refine fnG_mk' ["machine", "letters", "word", "most", "endings", "found", "ways", "met", "place", "v", "state"] ["machine", "letters", "word", "most"] 4 4 11 g__led rfl rfl P w mg base T.d__led.F sc (fun cdv A outer s H E hr gd => ?_)
  have tk := takes_of (X := cxOf (L2.CX P w) P w K mg base ["machine", "letters", "word", "most", "endings", "found", "ways", "met", "place", "v", "state"] "_led" (defScope s__led) a__led cdv A outer s H E) rfl rfl rfl rfl
  have po := passes_of (X := cxOf (L2.CX P w) P w K mg base ["machine", "letters", "word", "most", "endings", "found", "ways", "met", "place", "v", "state"] "_led" (defScope s__led) a__led cdv A outer s H E) rfl
  exact dss_cons (ds_if (dt_not (dt_val (de_call G_is_word (hr.mono (by decide)) gd tk T.d_is_word.g T.d_is_word.F.kp T.d_is_word.b (da_cons (de_var 2) (da_cons (de_var 1) da_nil))))) (dss_one (ds_raise rfl tk (dm_exc (condP := xp_T) T.x_InvalidWord (hr.mono (by decide)) xh_T (da_cons (de_var 2) da_nil)))) dss_nil) (dss_cons (ds_set 4 (de_call G__endings (hr.mono (by decide)) gd tk T.d__endings.g T.d__endings.F.kp T.d__endings.b (da_cons (de_var 0) (da_cons (de_var 1) (da_cons (de_var 2) da_nil)))) sc.nd) (dss_cons (ds_set 5 (de_lst da_nil) sc.nd) (dss_cons (ds_set 6 (de_lst (da_cons (de_tup (da_cons (de_tup da_nil) (da_cons de_int da_nil))) da_nil)) sc.nd) (dss_cons (ds_set 7 (de_newT (u1_of hr.u64) (da_cons de_int (da_cons de_int da_nil)) de_int) sc.nd) (dss_cons (ds_while po (dt_w (dw_and (dt_cmp op_gt den_gtI (de_callB call_lenA den_len T.z_len PySem.boot_len (da_cons (de_var 6) da_nil)) de_int) (dw_and1 (dt_cmp (op_ltA hr.u64) den_ltA (de_callB call_lenA den_len T.z_len PySem.boot_len (da_cons (de_var 5) da_nil)) (de_var 3))))) (dss_cons (ds_set 8 (de_callB (call_min2 rfl) den_mn T.z_min bt_min (da_cons (de_callB call_lenA den_len T.z_len PySem.boot_len (da_cons (de_ix ix_seq den_ix (de_ix ix_seq den_ix (de_var 6) de_int) de_int) da_nil)) (da_cons (de_callB call_lenA den_len T.z_len PySem.boot_len (da_cons (de_var 2) da_nil)) da_nil))) sc.nd) (dss_cons (ds_expr (de_methL PySem.F.slot_list_extend PySem.F.type_list_extend mt_extend den_extend (de_var 5) (da_cons (de_lc [("v", 9), ("state", 10)] rfl sc.nd (di_seq (de_var 6)) (blkOk_by (N := ["machine", "letters", "word", "most", "endings", "found", "ways", "met", "place", "v", "state"]) (sc := defScope s__led) (by decide +kernel)) (by decide) (fun _ _ _ _ _ => dg_tup rfl (dgs_cons (dg_name 9 sc.nd) (dgs_cons (dg_name 10 sc.nd) dgs_nil))) (fun _ _ _ _ _ => pts_oneD (dt_cmp (op_eqA hr.u64) den_eqA (de_ix ix_seq den_ix (de_ix ix_seq den_ix (de_var 4) (de_var 8)) (de_var 10)) de_int)) (fun _ _ _ _ _ => de_var 9)) da_nil))) (dss_one (ds_set 6 (de_call G__longer_ways (hr.mono (by decide)) gd tk T.d__longer_ways.g T.d__longer_ways.F.kp T.d__longer_ways.b (da_cons (de_var 0) (da_cons (de_var 1) (da_cons (de_var 2) (da_cons (de_var 3) (da_cons (de_var 6) (da_cons (de_var 7) da_nil))))))) sc.nd))))) (dss_one (ds_ret (de_slice sl_all den_slice (de_var 5) do_none (do_some (de_var 3))))))))))
theorem ok_first_led (T : TX P w K mg base a_is_whole fd_is_whole a_is_number fd_is_number a_is_sequence fd_is_sequence a_first_fault fd_first_fault a_is_word fd_is_word a__is_row fd__is_row a__table_fault fd__table_fault a__ends_fault fd__ends_fault a_pair_letter fd_pair_letter a__endings fd__endings a__longer_ways fd__longer_ways a__led fd__led a_first_led fd_first_led a_second_led fd_second_led a__law_box fd__law_box a__law_draw fd__law_draw a__law_word fd__law_word a_Machine___init__ fd_Machine___init__ a__law_made fd__law_made a__law_is fd__law_is a__law_phase fd__law_phase a__law_pair_machine fd__law_pair_machine a__law_sides fd__law_sides a__law_left fd__law_left a__law_of_length fd__law_of_length a__law_leds fd__law_leds a__law_asked fd__law_asked a__law_all fd__law_all a_law fd_law a_InvalidMachine i_InvalidMachine fd_InvalidMachine a_InvalidWord i_InvalidWord fd_InvalidWord a_Machine) : FnG P w K mg base 6 a_first_led fd_first_led ["machine", "letters", "word"] (spD K 3 F_first_led) := by
  have G__led := ok__led T
  have sc := sc_first_led
  refine fnG_mk' ["machine", "letters", "word", "found"] ["machine", "letters", "word"] 5 3 4 g_first_led rfl rfl P w mg base T.d_first_led.F sc (fun cdv A outer s H E hr gd => ?_)
  have tk := takes_of (X := cxOf (L2.CX P w) P w K mg base ["machine", "letters", "word", "found"] "first_led" (defScope s_first_led) a_first_led cdv A outer s H E) rfl rfl rfl rfl
  have po := passes_of (X := cxOf (L2.CX P w) P w K mg base ["machine", "letters", "word", "found"] "first_led" (defScope s_first_led) a_first_led cdv A outer s H E) rfl
  exact dss_cons (ds_set 3 (de_call G__led (hr.mono (by decide)) gd tk T.d__led.g T.d__led.F.kp T.d__led.b (da_cons (de_var 0) (da_cons (de_var 1) (da_cons (de_var 2) (da_cons de_int da_nil))))) sc.nd) (dss_one (ds_ret (de_if (dt_cmp op_gt den_gtI (de_callB call_lenA den_len T.z_len PySem.boot_len (da_cons (de_var 3) da_nil)) de_int) (de_ix ix_seq den_ix (de_var 3) de_int) de_non)))
theorem ok_second_led (T : TX P w K mg base a_is_whole fd_is_whole a_is_number fd_is_number a_is_sequence fd_is_sequence a_first_fault fd_first_fault a_is_word fd_is_word a__is_row fd__is_row a__table_fault fd__table_fault a__ends_fault fd__ends_fault a_pair_letter fd_pair_letter a__endings fd__endings a__longer_ways fd__longer_ways a__led fd__led a_first_led fd_first_led a_second_led fd_second_led a__law_box fd__law_box a__law_draw fd__law_draw a__law_word fd__law_word a_Machine___init__ fd_Machine___init__ a__law_made fd__law_made a__law_is fd__law_is a__law_phase fd__law_phase a__law_pair_machine fd__law_pair_machine a__law_sides fd__law_sides a__law_left fd__law_left a__law_of_length fd__law_of_length a__law_leds fd__law_leds a__law_asked fd__law_asked a__law_all fd__law_all a_law fd_law a_InvalidMachine i_InvalidMachine fd_InvalidMachine a_InvalidWord i_InvalidWord fd_InvalidWord a_Machine) : FnG P w K mg base 6 a_second_led fd_second_led ["machine", "letters", "word"] (spD K 3 F_second_led) := by
  have G__led := ok__led T
  have sc := sc_second_led
  refine fnG_mk' ["machine", "letters", "word", "found"] ["machine", "letters", "word"] 5 3 4 g_second_led rfl rfl P w mg base T.d_second_led.F sc (fun cdv A outer s H E hr gd => ?_)
  have tk := takes_of (X := cxOf (L2.CX P w) P w K mg base ["machine", "letters", "word", "found"] "second_led" (defScope s_second_led) a_second_led cdv A outer s H E) rfl rfl rfl rfl
  have po := passes_of (X := cxOf (L2.CX P w) P w K mg base ["machine", "letters", "word", "found"] "second_led" (defScope s_second_led) a_second_led cdv A outer s H E) rfl
  exact dss_cons (ds_set 3 (de_call G__led (hr.mono (by decide)) gd tk T.d__led.g T.d__led.F.kp T.d__led.b (da_cons (de_var 0) (da_cons (de_var 1) (da_cons (de_var 2) (da_cons de_int da_nil))))) sc.nd) (dss_one (ds_ret (de_if (dt_cmp op_gt den_gtI (de_callB call_lenA den_len T.z_len PySem.boot_len (da_cons (de_var 3) da_nil)) de_int) (de_ix ix_seq den_ix (de_var 3) de_int) de_non)))
theorem ok__law_box (T : TX P w K mg base a_is_whole fd_is_whole a_is_number fd_is_number a_is_sequence fd_is_sequence a_first_fault fd_first_fault a_is_word fd_is_word a__is_row fd__is_row a__table_fault fd__table_fault a__ends_fault fd__ends_fault a_pair_letter fd_pair_letter a__endings fd__endings a__longer_ways fd__longer_ways a__led fd__led a_first_led fd_first_led a_second_led fd_second_led a__law_box fd__law_box a__law_draw fd__law_draw a__law_word fd__law_word a_Machine___init__ fd_Machine___init__ a__law_made fd__law_made a__law_is fd__law_is a__law_phase fd__law_phase a__law_pair_machine fd__law_pair_machine a__law_sides fd__law_sides a__law_left fd__law_left a__law_of_length fd__law_of_length a__law_leds fd__law_leds a__law_asked fd__law_asked a__law_all fd__law_all a_law fd_law a_InvalidMachine i_InvalidMachine fd_InvalidMachine a_InvalidWord i_InvalidWord fd_InvalidWord a_Machine) : FnG P w K mg base 2 a__law_box fd__law_box ["script"] (spD K 1 F__law_box) := by
  have sc := sc__law_box
  refine fnG_mk' ["script", "cell"] ["script"] 1 1 2 g__law_box rfl rfl P w mg base T.d__law_box.F sc (fun cdv A outer s H E hr gd => ?_)
  have tk := takes_of (X := cxOf (L2.CX P w) P w K mg base ["script", "cell"] "_law_box" (defScope s__law_box) a__law_box cdv A outer s H E) rfl rfl rfl rfl
  have po := passes_of (X := cxOf (L2.CX P w) P w K mg base ["script", "cell"] "_law_box" (defScope s__law_box) a__law_box cdv A outer s H E) rfl
  exact dss_one (ds_ret (de_lst (da_cons (de_lc [("cell", 1)] rfl sc.nd (di_seq (de_var 0)) (blkOk_by (N := ["script", "cell"]) (sc := defScope s__law_box) (by decide +kernel)) (by decide) (fun _ _ _ _ _ => dg_name 1 sc.nd) (fun _ _ _ _ _ => pts_nilD) (fun _ _ _ _ _ => de_callTy call_int1 den_int T.z_int bt_int (da_cons (de_var 1) da_nil))) (da_cons de_int (da_cons de_int (da_cons de_int da_nil))))))
theorem ok__law_draw (T : TX P w K mg base a_is_whole fd_is_whole a_is_number fd_is_number a_is_sequence fd_is_sequence a_first_fault fd_first_fault a_is_word fd_is_word a__is_row fd__is_row a__table_fault fd__table_fault a__ends_fault fd__ends_fault a_pair_letter fd_pair_letter a__endings fd__endings a__longer_ways fd__longer_ways a__led fd__led a_first_led fd_first_led a_second_led fd_second_led a__law_box fd__law_box a__law_draw fd__law_draw a__law_word fd__law_word a_Machine___init__ fd_Machine___init__ a__law_made fd__law_made a__law_is fd__law_is a__law_phase fd__law_phase a__law_pair_machine fd__law_pair_machine a__law_sides fd__law_sides a__law_left fd__law_left a__law_of_length fd__law_of_length a__law_leds fd__law_leds a__law_asked fd__law_asked a__law_all fd__law_all a_law fd_law a_InvalidMachine i_InvalidMachine fd_InvalidMachine a_InvalidWord i_InvalidWord fd_InvalidWord a_Machine) : FnG P w K mg base 2 a__law_draw fd__law_draw ["box", "limit"] (spD K 2 F__law_draw) := by
  have sc := sc__law_draw
  refine fnG_mk' ["box", "limit", "cells", "k", "digit", "cell", "mixed"] ["box", "limit"] 1 2 7 g__law_draw rfl rfl P w mg base T.d__law_draw.F sc (fun cdv A outer s H E hr gd => ?_)
  have tk := takes_of (X := cxOf (L2.CX P w) P w K mg base ["box", "limit", "cells", "k", "digit", "cell", "mixed"] "_law_draw" (defScope s__law_draw) a__law_draw cdv A outer s H E) rfl rfl rfl rfl
  have po := passes_of (X := cxOf (L2.CX P w) P w K mg base ["box", "limit", "cells", "k", "digit", "cell", "mixed"] "_law_draw" (defScope s__law_draw) a__law_draw cdv A outer s H E) rfl
  exact dss_cons (ds_set 2 (de_ix ix_seq den_ix (de_var 0) de_int) sc.nd) (dss_cons (ds_sub set_list den_set (de_op op_addA den_add (de_ix ix_seq den_ix (de_var 0) de_int) de_int) (de_var 0) de_int) (dss_cons (ds_for po rfl (di_range1 T.z_range (da_cons (de_callB call_lenA den_len T.z_len PySem.boot_len (da_cons (de_var 2) da_nil)) da_nil)) (dg_name 3 sc.nd) (dss_one (ds_if (dt_w (dw_and (dt_cmp (op_eqA hr.u64) den_eqA (de_ix ix_seq den_ix (de_var 0) de_int) de_int) (dw_and1 (dt_cmp (op_ltA hr.u64) den_ltA (de_ix ix_seq den_ix (de_var 0) de_int) (de_callB call_lenA den_len T.z_len PySem.boot_len (da_cons (de_var 2) da_nil)))))) (dss_cons (ds_if (dt_cmp op_ge den_geI (de_callB call_abs den_abs T.z_abs bt_abs (da_cons (de_ix ix_seq den_ix (de_var 2) (de_ix ix_seq den_ix (de_var 0) de_int)) da_nil)) (de_op op_pow den_pow de_int de_int)) (dss_one (ds_sub set_list den_set (de_callB call_abs den_abs T.z_abs bt_abs (da_cons (de_ix ix_seq den_ix (de_var 2) (de_ix ix_seq den_ix (de_var 0) de_int)) da_nil)) (de_var 0) de_int)) dss_nil) (dss_one (ds_sub set_list den_set (de_op op_addA den_add (de_ix ix_seq den_ix (de_var 0) de_int) de_int) (de_var 0) de_int))) (dss_one ds_break)))) (dss_cons (ds_if (dt_cmp op_gt den_gtI (de_ix ix_seq den_ix (de_var 0) de_int) de_int) (dss_cons (ds_set 4 (de_op op_mod den_mod (de_callTy call_int1 den_int T.z_int bt_int (da_cons (de_ix ix_seq den_ix (de_var 0) de_int) da_nil)) (de_var 1)) sc.nd) (dss_cons (ds_sub set_list den_set (de_op op_fdiv den_div (de_ix ix_seq den_ix (de_var 0) de_int) (de_var 1)) (de_var 0) de_int) (dss_one (ds_ret (de_var 4))))) dss_nil) (dss_cons (ds_set 5 de_int sc.nd) (dss_cons (ds_if (dt_cmp op_gt den_gtI (de_callB call_lenA den_len T.z_len PySem.boot_len (da_cons (de_var 2) da_nil)) de_int) (dss_one (ds_set 5 (de_callB call_abs den_abs T.z_abs bt_abs (da_cons (de_ix ix_seq den_ix (de_var 2) (de_op op_mod den_mod (de_callTy call_int1 den_int T.z_int bt_int (da_cons (de_ix ix_seq den_ix (de_var 0) de_int) da_nil)) (de_callB call_lenA den_len T.z_len PySem.boot_len (da_cons (de_var 2) da_nil)))) da_nil)) sc.nd)) dss_nil) (dss_cons (ds_set 6 (de_op op_mod den_mod (de_callTy call_int1 den_int T.z_int bt_int (da_cons (de_op op_addA den_add (de_op op_addA den_add (de_op op_mulA den_mulA (de_var 5) de_int) (de_op op_mulA den_mulA (de_ix ix_seq den_ix (de_var 0) de_int) de_int)) de_int) da_nil)) de_int) sc.nd) (dss_cons (ds_set 6 (de_op op_mod den_mod (de_callTy call_int1 den_int T.z_int bt_int (da_cons (de_op op_addA den_add (de_op op_addA den_add (de_op op_mulA den_mulA (de_var 6) (de_var 6)) (de_op op_mulA den_mulA (de_ix ix_seq den_ix (de_var 0) de_int) de_int)) (de_var 5)) da_nil)) de_int) sc.nd) (dss_cons (ds_set 6 (de_op op_mod den_mod (de_callTy call_int1 den_int T.z_int bt_int (da_cons (de_op op_addA den_add (de_op op_addA den_add (de_op op_mulA den_mulA (de_op op_mulA den_mulA (de_var 6) (de_var 6)) de_int) (de_op op_fdiv den_div (de_var 5) de_int)) de_int) da_nil)) de_int) sc.nd) (dss_one (ds_ret (de_op op_mod den_mod (de_callTy call_int1 den_int T.z_int bt_int (da_cons (de_op op_fdiv den_div (de_var 6) de_int) da_nil)) (de_var 1))))))))))))
theorem ok__law_word (T : TX P w K mg base a_is_whole fd_is_whole a_is_number fd_is_number a_is_sequence fd_is_sequence a_first_fault fd_first_fault a_is_word fd_is_word a__is_row fd__is_row a__table_fault fd__table_fault a__ends_fault fd__ends_fault a_pair_letter fd_pair_letter a__endings fd__endings a__longer_ways fd__longer_ways a__led fd__led a_first_led fd_first_led a_second_led fd_second_led a__law_box fd__law_box a__law_draw fd__law_draw a__law_word fd__law_word a_Machine___init__ fd_Machine___init__ a__law_made fd__law_made a__law_is fd__law_is a__law_phase fd__law_phase a__law_pair_machine fd__law_pair_machine a__law_sides fd__law_sides a__law_left fd__law_left a__law_of_length fd__law_of_length a__law_leds fd__law_leds a__law_asked fd__law_asked a__law_all fd__law_all a_law fd_law a_InvalidMachine i_InvalidMachine fd_InvalidMachine a_InvalidWord i_InvalidWord fd_InvalidWord a_Machine) : FnG P w K mg base 3 a__law_word fd__law_word ["box", "letters", "most"] (spD K 3 F__law_word) := by
  have G__law_draw := ok__law_draw T
  have sc := sc__law_word
  refine fnG_mk' ["box", "letters", "most", "k"] ["box", "letters", "most"] 2 3 4 g__law_word rfl rfl P w mg base T.d__law_word.F sc (fun cdv A outer s H E hr gd => ?_)
  have tk := takes_of (X := cxOf (L2.CX P w) P w K mg base ["box", "letters", "most", "k"] "_law_word" (defScope s__law_word) a__law_word cdv A outer s H E) rfl rfl rfl rfl
  have po := passes_of (X := cxOf (L2.CX P w) P w K mg base ["box", "letters", "most", "k"] "_law_word" (defScope s__law_word) a__law_word cdv A outer s H E) rfl
  exact dss_one (ds_ret (de_callTy call_tuple_of den_tup T.z_tuple bt_tuple (da_cons (de_lc [("k", 3)] rfl sc.nd (di_range1 T.z_range (da_cons (de_call G__law_draw (hr.mono (by decide)) gd tk T.d__law_draw.g T.d__law_draw.F.kp T.d__law_draw.b (da_cons (de_var 0) (da_cons (de_op op_addA den_add (de_var 2) de_int) da_nil))) da_nil)) (blkOk_by (N := ["box", "letters", "most", "k"]) (sc := defScope s__law_word) (by decide +kernel)) (by decide) (fun _ _ _ _ _ => dg_name 3 sc.nd) (fun _ _ _ _ _ => pts_nilD) (fun _ _ _ _ _ => de_call G__law_draw (hr.mono (by decide)) gd takes0 T.d__law_draw.g T.d__law_draw.F.kp T.d__law_draw.b (da_cons (de_var 0) (da_cons (de_var 1) da_nil)))) da_nil)))
theorem ok_Machine___init__ (T : TX P w K mg base a_is_whole fd_is_whole a_is_number fd_is_number a_is_sequence fd_is_sequence a_first_fault fd_first_fault a_is_word fd_is_word a__is_row fd__is_row a__table_fault fd__table_fault a__ends_fault fd__ends_fault a_pair_letter fd_pair_letter a__endings fd__endings a__longer_ways fd__longer_ways a__led fd__led a_first_led fd_first_led a_second_led fd_second_led a__law_box fd__law_box a__law_draw fd__law_draw a__law_word fd__law_word a_Machine___init__ fd_Machine___init__ a__law_made fd__law_made a__law_is fd__law_is a__law_phase fd__law_phase a__law_pair_machine fd__law_pair_machine a__law_sides fd__law_sides a__law_left fd__law_left a__law_of_length fd__law_of_length a__law_leds fd__law_leds a__law_asked fd__law_asked a__law_all fd__law_all a_law fd_law a_InvalidMachine i_InvalidMachine fd_InvalidMachine a_InvalidWord i_InvalidWord fd_InvalidWord a_Machine) : FnG P w K mg base 6 a_Machine___init__ fd_Machine___init__ ["self", "letters", "table", "ends"] (spD K 4 F_Machine___init__) := by
  have G_is_whole := ok_is_whole T
  have G__table_fault := ok__table_fault T
  have G__ends_fault := ok__ends_fault T
  have sc := sc_Machine___init__
  refine fnG_mk' ["self", "letters", "table", "ends", "place"] ["self", "letters", "table", "ends"] 5 4 5 g_Machine___init__ rfl rfl P w mg base T.d_Machine___init__.F sc (fun cdv A outer s H E hr gd => ?_)
  have tk := takes_of (X := cxOf (L2.CX P w) P w K mg base ["self", "letters", "table", "ends", "place"] "Machine.__init__" (defScope s_Machine___init__) a_Machine___init__ cdv A outer s H E) rfl rfl rfl rfl
  have po := passes_of (X := cxOf (L2.CX P w) P w K mg base ["self", "letters", "table", "ends", "place"] "Machine.__init__" (defScope s_Machine___init__) a_Machine___init__ cdv A outer s H E) rfl
  exact dss_cons (ds_if (dt_w (dw_or (dt_not (dt_val (de_call G_is_whole (hr.mono (by decide)) gd tk T.d_is_whole.g T.d_is_whole.F.kp T.d_is_whole.b (da_cons (de_var 1) da_nil)))) (dw_or1 (dt_not (dt_chain op_le den_leI op_le den_leI de_int (de_var 1) (de_globI T.c_MOST_LETTERS)))))) (dss_one (ds_raise rfl tk (dm_exc (condP := xp_S) T.x_InvalidMachine (hr.mono (by decide)) xh_S (da_cons de_str (da_cons de_int da_nil))))) dss_nil) (dss_cons (ds_set 4 (de_call G__table_fault (hr.mono (by decide)) gd tk T.d__table_fault.g T.d__table_fault.F.kp T.d__table_fault.b (da_cons (de_var 1) (da_cons (de_var 2) da_nil))) sc.nd) (dss_cons (ds_if (dt_cmp op_notA den_not (de_var 4) de_non) (dss_one (ds_raise rfl tk (dm_exc (condP := xp_S) T.x_InvalidMachine (hr.mono (by decide)) xh_S (da_cons de_str (da_cons (de_var 4) da_nil))))) dss_nil) (dss_cons (ds_set 4 (de_call G__ends_fault (hr.mono (by decide)) gd tk T.d__ends_fault.g T.d__ends_fault.F.kp T.d__ends_fault.b (da_cons (de_callB call_lenA den_len T.z_len PySem.boot_len (da_cons (de_var 2) da_nil)) (da_cons (de_var 3) da_nil))) sc.nd) (dss_cons (ds_if (dt_cmp op_notA den_not (de_var 4) de_non) (dss_one (ds_raise rfl tk (dm_exc (condP := xp_S) T.x_InvalidMachine (hr.mono (by decide)) xh_S (da_cons de_str (da_cons (de_var 4) da_nil))))) dss_nil) (dss_cons (ds_fld T.o_Machine.cn T.o_Machine.cl T.na_Machine_letters (de_var 0) (de_var 1)) (dss_cons (ds_fld T.o_Machine.cn T.o_Machine.cl T.na_Machine_table (de_var 0) (de_callTy call_tuple_of den_tup T.z_tuple bt_tuple (da_cons (de_var 2) da_nil))) (dss_one (ds_fld T.o_Machine.cn T.o_Machine.cl T.na_Machine_ends (de_var 0) (de_callTy call_tuple_of den_tup T.z_tuple bt_tuple (da_cons (de_var 3) da_nil))))))))))
theorem ok__law_made (T : TX P w K mg base a_is_whole fd_is_whole a_is_number fd_is_number a_is_sequence fd_is_sequence a_first_fault fd_first_fault a_is_word fd_is_word a__is_row fd__is_row a__table_fault fd__table_fault a__ends_fault fd__ends_fault a_pair_letter fd_pair_letter a__endings fd__endings a__longer_ways fd__longer_ways a__led fd__led a_first_led fd_first_led a_second_led fd_second_led a__law_box fd__law_box a__law_draw fd__law_draw a__law_word fd__law_word a_Machine___init__ fd_Machine___init__ a__law_made fd__law_made a__law_is fd__law_is a__law_phase fd__law_phase a__law_pair_machine fd__law_pair_machine a__law_sides fd__law_sides a__law_left fd__law_left a__law_of_length fd__law_of_length a__law_leds fd__law_leds a__law_asked fd__law_asked a__law_all fd__law_all a_law fd_law a_InvalidMachine i_InvalidMachine fd_InvalidMachine a_InvalidWord i_InvalidWord fd_InvalidWord a_Machine) : FnG P w K mg base 8 a__law_made fd__law_made ["one"] (spD K 1 F__law_made) := by
  have G_Machine___init__ := ok_Machine___init__ T
  have sc := sc__law_made
  refine fnG_mk' ["one"] ["one"] 7 1 1 g__law_made rfl rfl P w mg base T.d__law_made.F sc (fun cdv A outer s H E hr gd => ?_)
  have tk := takes_of (X := cxOf (L2.CX P w) P w K mg base ["one"] "_law_made" (defScope s__law_made) a__law_made cdv A outer s H E) rfl rfl rfl rfl
  have po := passes_of (X := cxOf (L2.CX P w) P w K mg base ["one"] "_law_made" (defScope s__law_made) a__law_made cdv A outer s H E) rfl
  exact dss_one (ds_ret (de_make T.mk_Machine G_Machine___init__ (hr.mono (by decide)) gd tk T.o_Machine.cn T.g_Machine T.d_Machine___init__.b (da_cons (de_ix ix_seq den_ix (de_var 0) de_int) (da_cons (de_ix ix_seq den_ix (de_var 0) de_int) (da_cons (de_ix ix_seq den_ix (de_var 0) de_int) da_nil)))))
theorem ok__law_is (T : TX P w K mg base a_is_whole fd_is_whole a_is_number fd_is_number a_is_sequence fd_is_sequence a_first_fault fd_first_fault a_is_word fd_is_word a__is_row fd__is_row a__table_fault fd__table_fault a__ends_fault fd__ends_fault a_pair_letter fd_pair_letter a__endings fd__endings a__longer_ways fd__longer_ways a__led fd__led a_first_led fd_first_led a_second_led fd_second_led a__law_box fd__law_box a__law_draw fd__law_draw a__law_word fd__law_word a_Machine___init__ fd_Machine___init__ a__law_made fd__law_made a__law_is fd__law_is a__law_phase fd__law_phase a__law_pair_machine fd__law_pair_machine a__law_sides fd__law_sides a__law_left fd__law_left a__law_of_length fd__law_of_length a__law_leds fd__law_leds a__law_asked fd__law_asked a__law_all fd__law_all a_law fd_law a_InvalidMachine i_InvalidMachine fd_InvalidMachine a_InvalidWord i_InvalidWord fd_InvalidWord a_Machine) : FnG P w K mg base 2 a__law_is fd__law_is ["told", "due"] (spD K 2 F__law_is) := by
  have sc := sc__law_is
  refine fnG_mk' ["told", "due"] ["told", "due"] 1 2 2 g__law_is rfl rfl P w mg base T.d__law_is.F sc (fun cdv A outer s H E hr gd => ?_)
  have tk := takes_of (X := cxOf (L2.CX P w) P w K mg base ["told", "due"] "_law_is" (defScope s__law_is) a__law_is cdv A outer s H E) rfl rfl rfl rfl
  have po := passes_of (X := cxOf (L2.CX P w) P w K mg base ["told", "due"] "_law_is" (defScope s__law_is) a__law_is cdv A outer s H E) rfl
  exact dss_cons (ds_if (dt_w (dw_or (dt_not (dt_val (de_isC T.o_Machine Others.nil T.z_isinstance T.g_Machine (de_var 0)))) (dw_or (dt_cmp (op_neA hr.u64) den_neA (de_callB (call_repr gd hr.u65) den_repr T.z_repr bt_repr (da_cons (de_fld T.o_Machine.cn T.o_Machine.cl T.na_Machine_letters (de_var 0)) da_nil)) (de_callB (call_repr gd hr.u65) den_repr T.z_repr bt_repr (da_cons (de_ix ix_seq den_ix (de_var 1) de_int) da_nil))) (dw_or1 (dt_cmp (op_neA hr.u64) den_neA (de_callB (call_repr gd hr.u65) den_repr T.z_repr bt_repr (da_cons (de_fld T.o_Machine.cn T.o_Machine.cl T.na_Machine_table (de_var 0)) da_nil)) (de_callB (call_repr gd hr.u65) den_repr T.z_repr bt_repr (da_cons (de_ix ix_seq den_ix (de_var 1) de_int) da_nil))))))) (dss_one (ds_ret de_bl)) dss_nil) (dss_one (ds_ret (de_cmp (op_eqA hr.u64) den_eqA (de_callB (call_repr gd hr.u65) den_repr T.z_repr bt_repr (da_cons (de_fld T.o_Machine.cn T.o_Machine.cl T.na_Machine_ends (de_var 0)) da_nil)) (de_callB (call_repr gd hr.u65) den_repr T.z_repr bt_repr (da_cons (de_ix ix_seq den_ix (de_var 1) de_int) da_nil)))))
theorem ok__law_phase (T : TX P w K mg base a_is_whole fd_is_whole a_is_number fd_is_number a_is_sequence fd_is_sequence a_first_fault fd_first_fault a_is_word fd_is_word a__is_row fd__is_row a__table_fault fd__table_fault a__ends_fault fd__ends_fault a_pair_letter fd_pair_letter a__endings fd__endings a__longer_ways fd__longer_ways a__led fd__led a_first_led fd_first_led a_second_led fd_second_led a__law_box fd__law_box a__law_draw fd__law_draw a__law_word fd__law_word a_Machine___init__ fd_Machine___init__ a__law_made fd__law_made a__law_is fd__law_is a__law_phase fd__law_phase a__law_pair_machine fd__law_pair_machine a__law_sides fd__law_sides a__law_left fd__law_left a__law_of_length fd__law_of_length a__law_leds fd__law_leds a__law_asked fd__law_asked a__law_all fd__law_all a_law fd_law a_InvalidMachine i_InvalidMachine fd_InvalidMachine a_InvalidWord i_InvalidWord fd_InvalidWord a_Machine) : FnG P w K mg base 2 a__law_phase fd__law_phase ["letters", "z"] (spD K 2 F__law_phase) := by
  have sc := sc__law_phase
  refine fnG_mk' ["letters", "z"] ["letters", "z"] 1 2 2 g__law_phase rfl rfl P w mg base T.d__law_phase.F sc (fun cdv A outer s H E hr gd => ?_)
  have tk := takes_of (X := cxOf (L2.CX P w) P w K mg base ["letters", "z"] "_law_phase" (defScope s__law_phase) a__law_phase cdv A outer s H E) rfl rfl rfl rfl
  have po := passes_of (X := cxOf (L2.CX P w) P w K mg base ["letters", "z"] "_law_phase" (defScope s__law_phase) a__law_phase cdv A outer s H E) rfl
  exact dss_one (ds_ret (de_op op_addA den_add (de_callTy call_int1 den_int T.z_int bt_int (da_cons (de_cmp (op_eqA hr.u64) den_eqA (de_op op_fdiv den_div (de_var 1) (de_op op_addA den_add (de_var 0) de_int)) (de_var 0)) da_nil)) (de_op op_mulA den_mulA de_int (de_callTy call_int1 den_int T.z_int bt_int (da_cons (de_cmp (op_eqA hr.u64) den_eqA (de_op op_mod den_mod (de_callTy call_int1 den_int T.z_int bt_int (da_cons (de_var 1) da_nil)) (de_op op_addA den_add (de_var 0) de_int)) (de_var 0)) da_nil)))))
theorem ok__law_pair_machine (T : TX P w K mg base a_is_whole fd_is_whole a_is_number fd_is_number a_is_sequence fd_is_sequence a_first_fault fd_first_fault a_is_word fd_is_word a__is_row fd__is_row a__table_fault fd__table_fault a__ends_fault fd__ends_fault a_pair_letter fd_pair_letter a__endings fd__endings a__longer_ways fd__longer_ways a__led fd__led a_first_led fd_first_led a_second_led fd_second_led a__law_box fd__law_box a__law_draw fd__law_draw a__law_word fd__law_word a_Machine___init__ fd_Machine___init__ a__law_made fd__law_made a__law_is fd__law_is a__law_phase fd__law_phase a__law_pair_machine fd__law_pair_machine a__law_sides fd__law_sides a__law_left fd__law_left a__law_of_length fd__law_of_length a__law_leds fd__law_leds a__law_asked fd__law_asked a__law_all fd__law_all a_law fd_law a_InvalidMachine i_InvalidMachine fd_InvalidMachine a_InvalidWord i_InvalidWord fd_InvalidWord a_Machine) : FnG P w K mg base 3 a__law_pair_machine fd__law_pair_machine ["box", "letters", "most"] (spD K 3 F__law_pair_machine) := by
  have G__law_draw := ok__law_draw T
  have G__law_phase := ok__law_phase T
  have sc := sc__law_pair_machine
  refine fnG_mk' ["box", "letters", "most", "size", "phases", "few", "rows", "s", "row", "z", "phase", "fit", "to", "t"] ["box", "letters", "most"] 2 3 14 g__law_pair_machine rfl rfl P w mg base T.d__law_pair_machine.F sc (fun cdv A outer s H E hr gd => ?_)
  have tk := takes_of (X := cxOf (L2.CX P w) P w K mg base ["box", "letters", "most", "size", "phases", "few", "rows", "s", "row", "z", "phase", "fit", "to", "t"] "_law_pair_machine" (defScope s__law_pair_machine) a__law_pair_machine cdv A outer s H E) rfl rfl rfl rfl
  have po := passes_of (X := cxOf (L2.CX P w) P w K mg base ["box", "letters", "most", "size", "phases", "few", "rows", "s", "row", "z", "phase", "fit", "to", "t"] "_law_pair_machine" (defScope s__law_pair_machine) a__law_pair_machine cdv A outer s H E) rfl
  exact dss_cons (ds_set 3 (de_op op_addA den_add de_int (de_call G__law_draw (hr.mono (by decide)) gd tk T.d__law_draw.g T.d__law_draw.F.kp T.d__law_draw.b (da_cons (de_var 0) (da_cons (de_var 2) da_nil)))) sc.nd) (dss_cons (ds_set 4 (de_op op_addA den_add (de_lst (da_cons de_int da_nil)) (de_lc [("s", 7)] rfl sc.nd (di_range1 T.z_range (da_cons (de_op op_sub den_sub (de_var 3) de_int) da_nil)) (blkOk_by (N := ["box", "letters", "most", "size", "phases", "few", "rows", "s", "row", "z", "phase", "fit", "to", "t"]) (sc := defScope s__law_pair_machine) (by decide +kernel)) (by decide) (fun _ _ _ _ _ => dg_name 7 sc.nd) (fun _ _ _ _ _ => pts_nilD) (fun _ _ _ _ _ => de_call G__law_draw (hr.mono (by decide)) gd takes0 T.d__law_draw.g T.d__law_draw.F.kp T.d__law_draw.b (da_cons (de_var 0) (da_cons de_int da_nil))))) sc.nd) (dss_cons (ds_set 5 (de_op op_addA den_add de_int (de_call G__law_draw (hr.mono (by decide)) gd tk T.d__law_draw.g T.d__law_draw.F.kp T.d__law_draw.b (da_cons (de_var 0) (da_cons de_int da_nil)))) sc.nd) (dss_cons (ds_set 6 (de_lst da_nil) sc.nd) (dss_cons (ds_for po rfl (di_range1 T.z_range (da_cons (de_var 3) da_nil)) (dg_name 7 sc.nd) (dss_cons (ds_set 8 (de_lst da_nil) sc.nd) (dss_cons (ds_for po rfl (di_range1 T.z_range (da_cons (de_op op_sub den_sub (de_op op_mulA den_mulA (de_op op_addA den_add (de_var 1) de_int) (de_op op_addA den_add (de_var 1) de_int)) de_int) da_nil)) (dg_name 9 sc.nd) (dss_cons (ds_set 10 (de_call G__law_phase (hr.mono (by decide)) gd tk T.d__law_phase.g T.d__law_phase.F.kp T.d__law_phase.b (da_cons (de_var 1) (da_cons (de_var 9) da_nil))) sc.nd) (dss_cons (ds_setLc 11 [("t", 13)] rfl sc.nd (di_range1 T.z_range (da_cons (de_var 3) da_nil)) (blkOk_by (N := ["box", "letters", "most", "size", "phases", "few", "rows", "s", "row", "z", "phase", "fit", "to", "t"]) (sc := defScope s__law_pair_machine) (by decide +kernel)) (by decide) (fun _ _ _ _ _ => dg_name 13 sc.nd) (fun _ _ _ _ _ => pts_oneD (dt_cmp (op_eqA hr.u64) den_eqA (de_ix ix_seq den_ix (de_var 4) (de_var 13)) (de_var 10))) (fun _ _ _ _ _ => de_var 13) (sw_true rfl rfl rfl (by decide +kernel))) (dss_cons (ds_set 12 de_non sc.nd) (dss_cons (ds_if (dt_w (dw_and (dt_w (dw_or (dt_cmp (op_eqA hr.u64) den_eqA (de_ix ix_seq den_ix (de_var 4) (de_var 7)) de_int) (dw_or1 (dt_cmp (op_eqA hr.u64) den_eqA (de_ix ix_seq den_ix (de_var 4) (de_var 7)) (de_var 10))))) (dw_and (dt_cmp op_gt den_gtI (de_callB call_lenA den_len T.z_len PySem.boot_len (da_cons (de_var 11) da_nil)) de_int) (dw_and1 (dt_cmp op_gt den_gtI (de_call G__law_draw (hr.mono (by decide)) gd tk T.d__law_draw.g T.d__law_draw.F.kp T.d__law_draw.b (da_cons (de_var 0) (da_cons (de_op op_addA den_add (de_var 5) de_int) da_nil))) de_int))))) (dss_one (ds_set 12 (de_ix ix_seq den_ix (de_var 11) (de_call G__law_draw (hr.mono (by decide)) gd tk T.d__law_draw.g T.d__law_draw.F.kp T.d__law_draw.b (da_cons (de_var 0) (da_cons (de_callB call_lenA den_len T.z_len PySem.boot_len (da_cons (de_var 11) da_nil)) da_nil)))) sc.nd)) dss_nil) (dss_one (ds_expr (de_methL PySem.F.slot_list_append PySem.F.type_list_append mt_append den_append (de_var 8) (da_cons (de_var 12) da_nil))))))))) (dss_one (ds_expr (de_methL PySem.F.slot_list_append PySem.F.type_list_append mt_append den_append (de_var 6) (da_cons (de_callTy call_tuple_of den_tup T.z_tuple bt_tuple (da_cons (de_var 8) da_nil)) da_nil))))))) (dss_one (ds_ret (de_tup (da_cons (de_op op_sub den_sub (de_op op_mulA den_mulA (de_op op_addA den_add (de_var 1) de_int) (de_op op_addA den_add (de_var 1) de_int)) de_int) (da_cons (de_callTy call_tuple_of den_tup T.z_tuple bt_tuple (da_cons (de_var 6) da_nil)) (da_cons (de_callTy call_tuple_of den_tup T.z_tuple bt_tuple (da_cons (de_lc [("s", 7)] rfl sc.nd (di_range1 T.z_range (da_cons (de_var 3) da_nil)) (blkOk_by (N := ["box", "letters", "most", "size", "phases", "few", "rows", "s", "row", "z", "phase", "fit", "to", "t"]) (sc := defScope s__law_pair_machine) (by decide +kernel)) (by decide) (fun _ _ _ _ _ => dg_name 7 sc.nd) (fun _ _ _ _ _ => pts_nilD) (fun _ _ _ _ _ => de_callTy call_int1 den_int T.z_int bt_int (da_cons (de_cmp op_gt den_gtI (de_call G__law_draw (hr.mono (by decide)) gd takes0 T.d__law_draw.g T.d__law_draw.F.kp T.d__law_draw.b (da_cons (de_var 0) (da_cons de_int da_nil))) de_int) da_nil))) da_nil)) da_nil))))))))))
theorem ok__law_sides (T : TX P w K mg base a_is_whole fd_is_whole a_is_number fd_is_number a_is_sequence fd_is_sequence a_first_fault fd_first_fault a_is_word fd_is_word a__is_row fd__is_row a__table_fault fd__table_fault a__ends_fault fd__ends_fault a_pair_letter fd_pair_letter a__endings fd__endings a__longer_ways fd__longer_ways a__led fd__led a_first_led fd_first_led a_second_led fd_second_led a__law_box fd__law_box a__law_draw fd__law_draw a__law_word fd__law_word a_Machine___init__ fd_Machine___init__ a__law_made fd__law_made a__law_is fd__law_is a__law_phase fd__law_phase a__law_pair_machine fd__law_pair_machine a__law_sides fd__law_sides a__law_left fd__law_left a__law_of_length fd__law_of_length a__law_leds fd__law_leds a__law_asked fd__law_asked a__law_all fd__law_all a_law fd_law a_InvalidMachine i_InvalidMachine fd_InvalidMachine a_InvalidWord i_InvalidWord fd_InvalidWord a_Machine) : FnG P w K mg base 2 a__law_sides fd__law_sides ["letters", "at", "length"] (spD K 3 F__law_sides) := by
  have sc := sc__law_sides
  refine fnG_mk' ["letters", "at", "length", "y"] ["letters", "at", "length"] 1 3 4 g__law_sides rfl rfl P w mg base T.d__law_sides.F sc (fun cdv A outer s H E hr gd => ?_)
  have tk := takes_of (X := cxOf (L2.CX P w) P w K mg base ["letters", "at", "length", "y"] "_law_sides" (defScope s__law_sides) a__law_sides cdv A outer s H E) rfl rfl rfl rfl
  have po := passes_of (X := cxOf (L2.CX P w) P w K mg base ["letters", "at", "length", "y"] "_law_sides" (defScope s__law_sides) a__law_sides cdv A outer s H E) rfl
  exact dss_cons (ds_if (dt_cmp (op_ltA hr.u64) den_ltA (de_var 1) (de_var 2)) (dss_one (ds_ret (de_lc [("y", 3)] rfl sc.nd (di_range1 T.z_range (da_cons (de_var 0) da_nil)) (blkOk_by (N := ["letters", "at", "length", "y"]) (sc := defScope s__law_sides) (by decide +kernel)) (by decide) (fun _ _ _ _ _ => dg_name 3 sc.nd) (fun _ _ _ _ _ => pts_nilD) (fun _ _ _ _ _ => de_var 3)))) dss_nil) (dss_one (ds_ret (de_lst (da_cons (de_var 0) da_nil))))
theorem ok__law_left (T : TX P w K mg base a_is_whole fd_is_whole a_is_number fd_is_number a_is_sequence fd_is_sequence a_first_fault fd_first_fault a_is_word fd_is_word a__is_row fd__is_row a__table_fault fd__table_fault a__ends_fault fd__ends_fault a_pair_letter fd_pair_letter a__endings fd__endings a__longer_ways fd__longer_ways a__led fd__led a_first_led fd_first_led a_second_led fd_second_led a__law_box fd__law_box a__law_draw fd__law_draw a__law_word fd__law_word a_Machine___init__ fd_Machine___init__ a__law_made fd__law_made a__law_is fd__law_is a__law_phase fd__law_phase a__law_pair_machine fd__law_pair_machine a__law_sides fd__law_sides a__law_left fd__law_left a__law_of_length fd__law_of_length a__law_leds fd__law_leds a__law_asked fd__law_asked a__law_all fd__law_all a_law fd_law a_InvalidMachine i_InvalidMachine fd_InvalidMachine a_InvalidWord i_InvalidWord fd_InvalidWord a_Machine) : FnG P w K mg base 2 a__law_left fd__law_left ["letters", "word", "at"] (spD K 3 F__law_left) := by
  have sc := sc__law_left
  refine fnG_mk' ["letters", "word", "at"] ["letters", "word", "at"] 1 3 3 g__law_left rfl rfl P w mg base T.d__law_left.F sc (fun cdv A outer s H E hr gd => ?_)
  have tk := takes_of (X := cxOf (L2.CX P w) P w K mg base ["letters", "word", "at"] "_law_left" (defScope s__law_left) a__law_left cdv A outer s H E) rfl rfl rfl rfl
  have po := passes_of (X := cxOf (L2.CX P w) P w K mg base ["letters", "word", "at"] "_law_left" (defScope s__law_left) a__law_left cdv A outer s H E) rfl
  exact dss_cons (ds_if (dt_cmp (op_ltA hr.u64) den_ltA (de_var 2) (de_callB call_lenA den_len T.z_len PySem.boot_len (da_cons (de_var 1) da_nil))) (dss_one (ds_ret (de_ix ix_seq den_ix (de_var 1) (de_var 2)))) dss_nil) (dss_one (ds_ret (de_var 0)))
theorem ok__law_of_length (T : TX P w K mg base a_is_whole fd_is_whole a_is_number fd_is_number a_is_sequence fd_is_sequence a_first_fault fd_first_fault a_is_word fd_is_word a__is_row fd__is_row a__table_fault fd__table_fault a__ends_fault fd__ends_fault a_pair_letter fd_pair_letter a__endings fd__endings a__longer_ways fd__longer_ways a__led fd__led a_first_led fd_first_led a_second_led fd_second_led a__law_box fd__law_box a__law_draw fd__law_draw a__law_word fd__law_word a_Machine___init__ fd_Machine___init__ a__law_made fd__law_made a__law_is fd__law_is a__law_phase fd__law_phase a__law_pair_machine fd__law_pair_machine a__law_sides fd__law_sides a__law_left fd__law_left a__law_of_length fd__law_of_length a__law_leds fd__law_leds a__law_asked fd__law_asked a__law_all fd__law_all a_law fd_law a_InvalidMachine i_InvalidMachine fd_InvalidMachine a_InvalidWord i_InvalidWord fd_InvalidWord a_Machine) : FnG P w K mg base 3 a__law_of_length fd__law_of_length ["one", "letters", "word", "length"] (spD K 4 F__law_of_length) := by
  have G__law_sides := ok__law_sides T
  have G__law_left := ok__law_left T
  have sc := sc__law_of_length
  refine fnG_mk' ["one", "letters", "word", "length", "size", "good", "k", "at", "states", "s", "y", "to", "parts", "longer", "part"] ["one", "letters", "word", "length"] 2 4 15 g__law_of_length rfl rfl P w mg base T.d__law_of_length.F sc (fun cdv A outer s H E hr gd => ?_)
  have tk := takes_of (X := cxOf (L2.CX P w) P w K mg base ["one", "letters", "word", "length", "size", "good", "k", "at", "states", "s", "y", "to", "parts", "longer", "part"] "_law_of_length" (defScope s__law_of_length) a__law_of_length cdv A outer s H E) rfl rfl rfl rfl
  have po := passes_of (X := cxOf (L2.CX P w) P w K mg base ["one", "letters", "word", "length", "size", "good", "k", "at", "states", "s", "y", "to", "parts", "longer", "part"] "_law_of_length" (defScope s__law_of_length) a__law_of_length cdv A outer s H E) rfl
  exact dss_cons (ds_set 4 (de_callB (call_max2 rfl) den_mx T.z_max bt_max (da_cons (de_callB call_lenA den_len T.z_len PySem.boot_len (da_cons (de_var 2) da_nil)) (da_cons (de_var 3) da_nil))) sc.nd) (dss_cons (ds_set 5 (de_lst (da_cons (de_lc [("s", 9)] rfl sc.nd (di_range1 T.z_range (da_cons (de_callB call_lenA den_len T.z_len PySem.boot_len (da_cons (de_ix ix_seq den_ix (de_var 0) de_int) da_nil)) da_nil)) (blkOk_by (N := ["one", "letters", "word", "length", "size", "good", "k", "at", "states", "s", "y", "to", "parts", "longer", "part"]) (sc := defScope s__law_of_length) (by decide +kernel)) (by decide) (fun _ _ _ _ _ => dg_name 9 sc.nd) (fun _ _ _ _ _ => pts_oneD (dt_cmp (op_eqA hr.u64) den_eqA (de_ix ix_seq den_ix (de_ix ix_seq den_ix (de_var 0) de_int) (de_var 9)) de_int)) (fun _ _ _ _ _ => de_var 9)) da_nil)) sc.nd) (dss_cons (ds_for po rfl (di_range1 T.z_range (da_cons (de_var 4) da_nil)) (dg_name 6 sc.nd) (dss_cons (ds_set 7 (de_op op_sub den_sub (de_op op_sub den_sub (de_var 4) de_int) (de_var 6)) sc.nd) (dss_cons (ds_set 8 (de_lst da_nil) sc.nd) (dss_cons (ds_for po rfl (di_range1 T.z_range (da_cons (de_callB call_lenA den_len T.z_len PySem.boot_len (da_cons (de_ix ix_seq den_ix (de_var 0) de_int) da_nil)) da_nil)) (dg_name 9 sc.nd) (dss_one (ds_for po rfl (di_seq (de_call G__law_sides (hr.mono (by decide)) gd tk T.d__law_sides.g T.d__law_sides.F.kp T.d__law_sides.b (da_cons (de_var 1) (da_cons (de_var 7) (da_cons (de_var 3) da_nil))))) (dg_name 10 sc.nd) (dss_cons (ds_set 11 (de_ix ix_seq den_ix (de_ix ix_seq den_ix (de_ix ix_seq den_ix (de_var 0) de_int) (de_var 9)) (de_op op_addA den_add (de_op op_mulA den_mulA (de_call G__law_left (hr.mono (by decide)) gd tk T.d__law_left.g T.d__law_left.F.kp T.d__law_left.b (da_cons (de_var 1) (da_cons (de_var 2) (da_cons (de_var 7) da_nil)))) (de_op op_addA den_add (de_var 1) de_int)) (de_var 10))) sc.nd) (dss_one (ds_if (dt_w (dw_and (dt_cmp op_notA den_not (de_var 11) de_non) (dw_and (dt_cmp (op_inD hr.u65) den_in (de_var 11) (de_ix ix_seq den_ix (de_var 5) de_int) (by rfl)) (dw_and1 (dt_cmp (op_notInD hr.u65) den_notin (de_var 9) (de_var 8) (by rfl)))))) (dss_one (ds_expr (de_methL PySem.F.slot_list_append PySem.F.type_list_append mt_append den_append (de_var 8) (da_cons (de_var 9) da_nil)))) dss_nil)))))) (dss_one (ds_set 5 (de_op op_addA den_add (de_lst (da_cons (de_var 8) da_nil)) (de_var 5)) sc.nd)))))) (dss_cons (ds_set 12 (de_lst da_nil) sc.nd) (dss_cons (ds_if (dt_cmp (op_inD hr.u65) den_in de_int (de_ix ix_seq den_ix (de_var 5) de_int) (by rfl)) (dss_one (ds_set 12 (de_lst (da_cons (de_tup (da_cons (de_tup da_nil) (da_cons de_int da_nil))) da_nil)) sc.nd)) dss_nil) (dss_cons (ds_for po rfl (di_range1 T.z_range (da_cons (de_var 4) da_nil)) (dg_name 7 sc.nd) (dss_cons (ds_set 13 (de_lst da_nil) sc.nd) (dss_cons (ds_for po rfl (di_seq (de_var 12)) (dg_tup rfl (dgs_cons (dg_name 14 sc.nd) (dgs_cons (dg_name 9 sc.nd) dgs_nil))) (dss_one (ds_for po rfl (di_seq (de_call G__law_sides (hr.mono (by decide)) gd tk T.d__law_sides.g T.d__law_sides.F.kp T.d__law_sides.b (da_cons (de_var 1) (da_cons (de_var 7) (da_cons (de_var 3) da_nil))))) (dg_name 10 sc.nd) (dss_cons (ds_set 11 (de_ix ix_seq den_ix (de_ix ix_seq den_ix (de_ix ix_seq den_ix (de_var 0) de_int) (de_var 9)) (de_op op_addA den_add (de_op op_mulA den_mulA (de_call G__law_left (hr.mono (by decide)) gd tk T.d__law_left.g T.d__law_left.F.kp T.d__law_left.b (da_cons (de_var 1) (da_cons (de_var 2) (da_cons (de_var 7) da_nil)))) (de_op op_addA den_add (de_var 1) de_int)) (de_var 10))) sc.nd) (dss_one (ds_if (dt_w (dw_and (dt_cmp op_notA den_not (de_var 11) de_non) (dw_and1 (dt_cmp (op_inD hr.u65) den_in (de_var 11) (de_ix ix_seq den_ix (de_var 5) (de_op op_addA den_add (de_var 7) de_int)) (by rfl))))) (dss_one (ds_expr (de_methL PySem.F.slot_list_append PySem.F.type_list_append mt_append den_append (de_var 13) (da_cons (de_tup (da_cons (de_op op_addA den_add (de_var 14) (de_op op_mulA den_mulA (de_tup (da_cons (de_var 10) da_nil)) (de_callTy call_int1 den_int T.z_int bt_int (da_cons (de_cmp (op_ltA hr.u64) den_ltA (de_var 10) (de_var 1)) da_nil)))) (da_cons (de_var 11) da_nil))) da_nil)))) dss_nil)))))) (dss_one (ds_set 12 (de_slice sl_all den_slice (de_var 13) do_none (do_some de_int)) sc.nd))))) (dss_one (ds_ret (de_lc [("part", 14), ("s", 9)] rfl sc.nd (di_seq (de_var 12)) (blkOk_by (N := ["one", "letters", "word", "length", "size", "good", "k", "at", "states", "s", "y", "to", "parts", "longer", "part"]) (sc := defScope s__law_of_length) (by decide +kernel)) (by decide) (fun _ _ _ _ _ => dg_tup rfl (dgs_cons (dg_name 14 sc.nd) (dgs_cons (dg_name 9 sc.nd) dgs_nil))) (fun _ _ _ _ _ => pts_nilD) (fun _ _ _ _ _ => de_var 14)))))))))
theorem ok__law_leds (T : TX P w K mg base a_is_whole fd_is_whole a_is_number fd_is_number a_is_sequence fd_is_sequence a_first_fault fd_first_fault a_is_word fd_is_word a__is_row fd__is_row a__table_fault fd__table_fault a__ends_fault fd__ends_fault a_pair_letter fd_pair_letter a__endings fd__endings a__longer_ways fd__longer_ways a__led fd__led a_first_led fd_first_led a_second_led fd_second_led a__law_box fd__law_box a__law_draw fd__law_draw a__law_word fd__law_word a_Machine___init__ fd_Machine___init__ a__law_made fd__law_made a__law_is fd__law_is a__law_phase fd__law_phase a__law_pair_machine fd__law_pair_machine a__law_sides fd__law_sides a__law_left fd__law_left a__law_of_length fd__law_of_length a__law_leds fd__law_leds a__law_asked fd__law_asked a__law_all fd__law_all a_law fd_law a_InvalidMachine i_InvalidMachine fd_InvalidMachine a_InvalidWord i_InvalidWord fd_InvalidWord a_Machine) : FnG P w K mg base 4 a__law_leds fd__law_leds ["one", "letters", "word"] (spD K 3 F__law_leds) := by
  have G__law_of_length := ok__law_of_length T
  have sc := sc__law_leds
  refine fnG_mk' ["one", "letters", "word", "found", "most", "length"] ["one", "letters", "word"] 3 3 6 g__law_leds rfl rfl P w mg base T.d__law_leds.F sc (fun cdv A outer s H E hr gd => ?_)
  have tk := takes_of (X := cxOf (L2.CX P w) P w K mg base ["one", "letters", "word", "found", "most", "length"] "_law_leds" (defScope s__law_leds) a__law_leds cdv A outer s H E) rfl rfl rfl rfl
  have po := passes_of (X := cxOf (L2.CX P w) P w K mg base ["one", "letters", "word", "found", "most", "length"] "_law_leds" (defScope s__law_leds) a__law_leds cdv A outer s H E) rfl
  exact dss_cons (ds_set 3 (de_lst da_nil) sc.nd) (dss_cons (ds_set 4 (de_op op_addA den_add (de_callB call_lenA den_len T.z_len PySem.boot_len (da_cons (de_var 2) da_nil)) (de_callB call_lenA den_len T.z_len PySem.boot_len (da_cons (de_ix ix_seq den_ix (de_var 0) de_int) da_nil))) sc.nd) (dss_cons (ds_for po rfl (di_range1 T.z_range (da_cons (de_op op_addA den_add (de_op op_addA den_add (de_var 4) (de_callB call_lenA den_len T.z_len PySem.boot_len (da_cons (de_ix ix_seq den_ix (de_var 0) de_int) da_nil))) de_int) da_nil)) (dg_name 5 sc.nd) (dss_one (ds_if (dt_w (dw_and (dt_cmp (op_ltA hr.u64) den_ltA (de_callB call_lenA den_len T.z_len PySem.boot_len (da_cons (de_var 3) da_nil)) de_int) (dw_and1 (dt_w (dw_or (dt_cmp (op_eqA hr.u64) den_eqA (de_callB call_lenA den_len T.z_len PySem.boot_len (da_cons (de_var 3) da_nil)) de_int) (dw_or1 (dt_cmp op_le den_leI (de_var 5) (de_op op_addA den_add (de_var 4) de_int)))))))) (dss_one (ds_set 3 (de_op op_addA den_add (de_var 3) (de_call G__law_of_length (hr.mono (by decide)) gd tk T.d__law_of_length.g T.d__law_of_length.F.kp T.d__law_of_length.b (da_cons (de_var 0) (da_cons (de_var 1) (da_cons (de_var 2) (da_cons (de_var 5) da_nil)))))) sc.nd)) dss_nil))) (dss_one (ds_ret (de_slice sl_all den_slice (de_op op_addA den_add (de_var 3) (de_lst (da_cons de_non (da_cons de_non da_nil)))) do_none (do_some de_int))))))
theorem ok__law_asked (T : TX P w K mg base a_is_whole fd_is_whole a_is_number fd_is_number a_is_sequence fd_is_sequence a_first_fault fd_first_fault a_is_word fd_is_word a__is_row fd__is_row a__table_fault fd__table_fault a__ends_fault fd__ends_fault a_pair_letter fd_pair_letter a__endings fd__endings a__longer_ways fd__longer_ways a__led fd__led a_first_led fd_first_led a_second_led fd_second_led a__law_box fd__law_box a__law_draw fd__law_draw a__law_word fd__law_word a_Machine___init__ fd_Machine___init__ a__law_made fd__law_made a__law_is fd__law_is a__law_phase fd__law_phase a__law_pair_machine fd__law_pair_machine a__law_sides fd__law_sides a__law_left fd__law_left a__law_of_length fd__law_of_length a__law_leds fd__law_leds a__law_asked fd__law_asked a__law_all fd__law_all a_law fd_law a_InvalidMachine i_InvalidMachine fd_InvalidMachine a_InvalidWord i_InvalidWord fd_InvalidWord a_Machine) : FnG P w K mg base 9 a__law_asked fd__law_asked ["box", "one", "letters"] (spD K 3 F__law_asked) := by
  have G_first_led := ok_first_led T
  have G_second_led := ok_second_led T
  have G__law_word := ok__law_word T
  have G__law_made := ok__law_made T
  have G__law_is := ok__law_is T
  have G__law_leds := ok__law_leds T
  have sc := sc__law_asked
  refine fnG_mk' ["box", "one", "letters", "machine", "k", "word", "due"] ["box", "one", "letters"] 8 3 7 g__law_asked rfl rfl P w mg base T.d__law_asked.F sc (fun cdv A outer s H E hr gd => ?_)
  have tk := takes_of (X := cxOf (L2.CX P w) P w K mg base ["box", "one", "letters", "machine", "k", "word", "due"] "_law_asked" (defScope s__law_asked) a__law_asked cdv A outer s H E) rfl rfl rfl rfl
  have po := passes_of (X := cxOf (L2.CX P w) P w K mg base ["box", "one", "letters", "machine", "k", "word", "due"] "_law_asked" (defScope s__law_asked) a__law_asked cdv A outer s H E) rfl
  exact dss_cons (ds_set 3 (de_call G__law_made (hr.mono (by decide)) gd tk T.d__law_made.g T.d__law_made.F.kp T.d__law_made.b (da_cons (de_var 1) da_nil)) sc.nd) (dss_cons (ds_for po rfl (di_range1 T.z_range (da_cons de_int da_nil)) (dg_name 4 sc.nd) (dss_cons (ds_set 5 (de_call G__law_word (hr.mono (by decide)) gd tk T.d__law_word.g T.d__law_word.F.kp T.d__law_word.b (da_cons (de_var 0) (da_cons (de_var 2) (da_cons de_int da_nil)))) sc.nd) (dss_cons (ds_set 6 (de_call G__law_leds (hr.mono (by decide)) gd tk T.d__law_leds.g T.d__law_leds.F.kp T.d__law_leds.b (da_cons (de_var 1) (da_cons (de_var 2) (da_cons (de_var 5) da_nil)))) sc.nd) (dss_cons (ds_if (dt_w (dw_or (dt_cmp (op_neA hr.u64) den_neA (de_callB (call_repr gd hr.u65) den_repr T.z_repr bt_repr (da_cons (de_call G_first_led (hr.mono (by decide)) gd tk T.d_first_led.g T.d_first_led.F.kp T.d_first_led.b (da_cons (de_var 3) (da_cons (de_var 2) (da_cons (de_var 5) da_nil)))) da_nil)) (de_callB (call_repr gd hr.u65) den_repr T.z_repr bt_repr (da_cons (de_ix ix_seq den_ix (de_var 6) de_int) da_nil))) (dw_or1 (dt_cmp (op_neA hr.u64) den_neA (de_callB (call_repr gd hr.u65) den_repr T.z_repr bt_repr (da_cons (de_call G_second_led (hr.mono (by decide)) gd tk T.d_second_led.g T.d_second_led.F.kp T.d_second_led.b (da_cons (de_var 3) (da_cons (de_var 2) (da_cons (de_var 5) da_nil)))) da_nil)) (de_callB (call_repr gd hr.u65) den_repr T.z_repr bt_repr (da_cons (de_ix ix_seq den_ix (de_var 6) de_int) da_nil)))))) (dss_one (ds_ret de_bl)) dss_nil) (dss_cons (ds_if (dt_cmp (op_neA hr.u64) den_neA (de_callB (call_repr gd hr.u65) den_repr T.z_repr bt_repr (da_cons (de_callK ["word", "letters", "machine"] [2, 1, 0] G_first_led (hr.mono (by decide)) gd tk T.d_first_led.g T.d_first_led.F.kp T.k_first_led_word_letters_machine (dk_cons (de_var 5) (dk_cons (de_var 2) (dk_cons (de_var 3) dk_nil)))) da_nil)) (de_callB (call_repr gd hr.u65) den_repr T.z_repr bt_repr (da_cons (de_ix ix_seq den_ix (de_var 6) de_int) da_nil))) (dss_one (ds_ret de_bl)) dss_nil) (dss_one (ds_if (dt_cmp (op_neA hr.u64) den_neA (de_callB (call_repr gd hr.u65) den_repr T.z_repr bt_repr (da_cons (de_callK ["word", "letters", "machine"] [2, 1, 0] G_second_led (hr.mono (by decide)) gd tk T.d_second_led.g T.d_second_led.F.kp T.k_second_led_word_letters_machine (dk_cons (de_var 5) (dk_cons (de_var 2) (dk_cons (de_var 3) dk_nil)))) da_nil)) (de_callB (call_repr gd hr.u65) den_repr T.z_repr bt_repr (da_cons (de_ix ix_seq den_ix (de_var 6) de_int) da_nil))) (dss_one (ds_ret de_bl)) dss_nil))))))) (dss_one (ds_ret (de_call G__law_is (hr.mono (by decide)) gd tk T.d__law_is.g T.d__law_is.F.kp T.d__law_is.b (da_cons (de_var 3) (da_cons (de_var 1) da_nil))))))
theorem ok__law_all (T : TX P w K mg base a_is_whole fd_is_whole a_is_number fd_is_number a_is_sequence fd_is_sequence a_first_fault fd_first_fault a_is_word fd_is_word a__is_row fd__is_row a__table_fault fd__table_fault a__ends_fault fd__ends_fault a_pair_letter fd_pair_letter a__endings fd__endings a__longer_ways fd__longer_ways a__led fd__led a_first_led fd_first_led a_second_led fd_second_led a__law_box fd__law_box a__law_draw fd__law_draw a__law_word fd__law_word a_Machine___init__ fd_Machine___init__ a__law_made fd__law_made a__law_is fd__law_is a__law_phase fd__law_phase a__law_pair_machine fd__law_pair_machine a__law_sides fd__law_sides a__law_left fd__law_left a__law_of_length fd__law_of_length a__law_leds fd__law_leds a__law_asked fd__law_asked a__law_all fd__law_all a_law fd_law a_InvalidMachine i_InvalidMachine fd_InvalidMachine a_InvalidWord i_InvalidWord fd_InvalidWord a_Machine) : FnG P w K mg base 10 a__law_all fd__law_all ["script"] (spD K 1 F__law_all) := by
  have G__law_box := ok__law_box T
  have G__law_draw := ok__law_draw T
  have G__law_pair_machine := ok__law_pair_machine T
  have G__law_asked := ok__law_asked T
  have sc := sc__law_all
  refine fnG_mk' ["script", "box", "letters"] ["script"] 9 1 3 g__law_all rfl rfl P w mg base T.d__law_all.F sc (fun cdv A outer s H E hr gd => ?_)
  have tk := takes_of (X := cxOf (L2.CX P w) P w K mg base ["script", "box", "letters"] "_law_all" (defScope s__law_all) a__law_all cdv A outer s H E) rfl rfl rfl rfl
  have po := passes_of (X := cxOf (L2.CX P w) P w K mg base ["script", "box", "letters"] "_law_all" (defScope s__law_all) a__law_all cdv A outer s H E) rfl
  exact dss_cons (ds_set 1 (de_call G__law_box (hr.mono (by decide)) gd tk T.d__law_box.g T.d__law_box.F.kp T.d__law_box.b (da_cons (de_var 0) da_nil)) sc.nd) (dss_cons (ds_for po rfl (di_seq (de_lst (da_cons de_int (da_cons de_int (da_cons de_int (da_cons de_int da_nil)))))) (dg_name 2 sc.nd) (dss_one (ds_if (dt_not (dt_val (de_call G__law_asked (hr.mono (by decide)) gd tk T.d__law_asked.g T.d__law_asked.F.kp T.d__law_asked.b (da_cons (de_var 1) (da_cons (de_call G__law_pair_machine (hr.mono (by decide)) gd tk T.d__law_pair_machine.g T.d__law_pair_machine.F.kp T.d__law_pair_machine.b (da_cons (de_var 1) (da_cons (de_var 2) (da_cons (de_ix ix_seq den_ix (de_lst (da_cons de_int (da_cons de_int da_nil))) (de_call G__law_draw (hr.mono (by decide)) gd tk T.d__law_draw.g T.d__law_draw.F.kp T.d__law_draw.b (da_cons (de_var 1) (da_cons de_int da_nil)))) da_nil)))) (da_cons (de_var 2) da_nil)))))) (dss_one (ds_ret de_bl)) dss_nil))) (dss_one (ds_ret de_bl)))
theorem ok_law (T : TX P w K mg base a_is_whole fd_is_whole a_is_number fd_is_number a_is_sequence fd_is_sequence a_first_fault fd_first_fault a_is_word fd_is_word a__is_row fd__is_row a__table_fault fd__table_fault a__ends_fault fd__ends_fault a_pair_letter fd_pair_letter a__endings fd__endings a__longer_ways fd__longer_ways a__led fd__led a_first_led fd_first_led a_second_led fd_second_led a__law_box fd__law_box a__law_draw fd__law_draw a__law_word fd__law_word a_Machine___init__ fd_Machine___init__ a__law_made fd__law_made a__law_is fd__law_is a__law_phase fd__law_phase a__law_pair_machine fd__law_pair_machine a__law_sides fd__law_sides a__law_left fd__law_left a__law_of_length fd__law_of_length a__law_leds fd__law_leds a__law_asked fd__law_asked a__law_all fd__law_all a_law fd_law a_InvalidMachine i_InvalidMachine fd_InvalidMachine a_InvalidWord i_InvalidWord fd_InvalidWord a_Machine) : FnG P w K mg base 11 a_law fd_law ["script"] (spD K 1 F_law) := by
  have G__law_all := ok__law_all T
  have sc := sc_law
  refine fnG_mk' ["script"] ["script"] 10 1 1 g_law rfl rfl P w mg base T.d_law.F sc (fun cdv A outer s H E hr gd => ?_)
  have tk := takes_of (X := cxOf (L2.CX P w) P w K mg base ["script"] "law" (defScope s_law) a_law cdv A outer s H E) rfl rfl rfl rfl
  have po := passes_of (X := cxOf (L2.CX P w) P w K mg base ["script"] "law" (defScope s_law) a_law cdv A outer s H E) rfl
  exact dss_one (ds_tryThru (dss_one (ds_ret (de_call G__law_all (hr.mono (by decide)) gd takes0 T.d__law_all.g T.d__law_all.F.kp T.d__law_all.b (da_cons (de_var 0) da_nil)))))
end
end KK

namespace KK
open PySem PySem.Spec PyProof.Rows L2 DL
open Classical
theorem atI0 {β : Type} {a : β} {l : List β} : L2.atI (a :: l) 0 = some a := by rw [atI_pos (by decide)]; rfl
theorem atI1 {β : Type} {a b : β} {l : List β} : L2.atI (a :: b :: l) 1 = some b := by rw [atI_pos (by decide)]; rfl
theorem atI2 {β : Type} {a b c : β} {l : List β} : L2.atI (a :: b :: c :: l) 2 = some c := by rw [atI_pos (by decide)]; rfl
theorem atI3 {β : Type} {a b c d : β} {l : List β} : L2.atI (a :: b :: c :: d :: l) 3 = some d := by rw [atI_pos (by decide)]; rfl
theorem ix41 : L2.ixN 4 1 = some 1 := rfl
theorem ix42 : L2.ixN 4 2 = some 2 := rfl
theorem ix43 : L2.ixN 4 3 = some 3 := rfl
local macro_rules | `(tactic| walk_at "dw") => `(tactic| simp only [ws_seq, ws_nil, ws_retN, ws_bk, ws_ct, ws_expr, ws_ret, ws_set, ws_if, ws_asg, ws_sub, ws_aug, ws_for, ws_thru, wv_var, wv_lit, wv_bin, wv_un, wv_nil, wv_cons, wv_args, wv_test, wv_asB, wv_and, wv_or, wv_not, wv_andV, wv_orV, wv_notV, wv_if, wv_chain,
  wv_noPart, wv_part, wv_asI, wv_slice, wv_mkTup, wv_mkLst, wv_methL, wsr_args, wsr_range1, wsr_range2, wsr_seq, wsr_tup, wv_lc, wpx_ret, wpx_optM,
  vv_add_int, vv_add_tup, vv_sub, vv_mul, vv_mulA_int, vv_div, vv_mod, vv_pow, vv_neg, vv_gt, vv_ge, vv_le, vv_lt, vv_eq_int, vv_ne_int, eqA_int, neA_int, eqA_bl, neA_bl, eqA_tup, neA_tup, eqA_cell, neA_cell, eqA_non, neA_non, vv_eqA_str, vv_neA_str, vv_eq_bl, vv_ne_bl, vv_ix_tup, vv_ix_cell, vv_set, vv_len_tup, vv_len_cell, vv_abs, vv_int_int, vv_int_bl, vv_tup_tup, vv_tup_cell, vv_lst_tup, vv_lst_cell, vv_slice_tup,
  and_true, true_and, and_self, Cell.lst.injEq, items_lst, items_rls, vv_append, vv_isL, Option.some.injEq, exists_eq_left', exists_eq_left, List.map_cons, List.map_nil, List.length_cons, List.length_nil, List.length_map, List.replicate, List.cons_append, List.nil_append, List.getElem?_cons_zero, List.getElem?_cons_succ, List.set_cons_zero, List.set_cons_succ, bindT, atI0, atI1, atI2, atI3, ix41, ix42, ix43, Nat.reduceAdd, Nat.reduceSub, List.set_set, decide_true, decide_false, if_true, if_false, Bool.false_eq_true, decide_eq_true_eq, *])
/-! ### the box of draws: cell 2, its numbers in cell 1 -/
def box (i1 i2 i3 : Int) : Cell := .lst [.cell 1, .int i1, .int i2, .int i3]
structure Bx (ns : List Int) (S : Store) : Prop where
  few : ns.length ≤ 63
  c1 : S[1]? = some (.lst (ns.map PV.int))
  c2 : ∃ i1 i2 i3, 0 ≤ i3 ∧ S[2]? = some (box i1 i2 i3)
/-- all but the box stands; there may be more -/
structure Frm (S S' : Store) : Prop where
  len : S.length ≤ S'.length
  stay : ∀ (n : Nat), n ≠ 2 → n < S.length → S'[n]? = S[n]?
theorem Frm.refl (S : Store) : Frm S S := ⟨Nat.le_refl _, fun _ _ _ => rfl⟩
theorem Frm.trans {S S1 S2 : Store} (a : Frm S S1) (b : Frm S1 S2) : Frm S S2 := ⟨Nat.le_trans a.len b.len, fun n h1 h2 => (b.stay n h1 (Nat.lt_of_lt_of_le h2 a.len)).trans (a.stay n h1 h2)⟩
theorem Frm.get {S S' : Store} (a : Frm S S') {n : Nat} {c : Cell} (h : n ≠ 2) (e : S[n]? = some c) : S'[n]? = some c := (a.stay n h (List.getElem?_eq_some_iff.mp e).1).trans e
theorem Frm.snoc (S : Store) (c : Cell) : Frm S (S ++ [c]) := ⟨by simp, fun n _ h => List.getElem?_append_left h⟩
theorem Frm.box (S : Store) (c : Cell) : Frm S (S.set 2 c) := ⟨by simp, fun n h _ => List.getElem?_set_ne (Ne.symm h)⟩
theorem Bx.snoc {ns : List Int} {S : Store} (b : Bx ns S) (c : Cell) : Bx ns (S ++ [c]) := by
  obtain ⟨f, h1, i1, i2, i3, h3, h2⟩ := b
  refine ⟨f, ?_, i1, i2, i3, h3, ?_⟩
  · rw [List.getElem?_append_left (List.getElem?_eq_some_iff.mp h1).1]; exact h1
  · rw [List.getElem?_append_left (List.getElem?_eq_some_iff.mp h2).1]; exact h2
theorem Bx.put {ns : List Int} {S : Store} (b : Bx ns S) {n : Nat} (h : 3 ≤ n) (c : Cell) : Bx ns (S.set n c) := by
  obtain ⟨f, h1, i1, i2, i3, h3, h2⟩ := b
  exact ⟨f, by rw [List.getElem?_set_ne (by omega)]; exact h1, i1, i2, i3, h3, by rw [List.getElem?_set_ne (by omega)]; exact h2⟩
theorem digit {a l : Int} (h : 0 < l) : 0 ≤ a % l ∧ a % l < l := ⟨Int.emod_nonneg _ (by omega), Int.emod_lt_of_pos _ h⟩
theorem atI_map {ns : List Int} {i : Int} (h0 : 0 ≤ i) (h1 : i < ns.length) : ∃ z, L2.atI (ns.map PV.int) i = some (.int z) := by
  rw [atI_pos h0]
  have h2 : i.toNat < ns.length := by omega
  exact ⟨ns[i.toNat], by rw [List.getElem?_map, List.getElem?_eq_getElem h2]; rfl⟩
theorem cm_r {i j : Int} (h : -(2 ^ 64) < j ∧ j < 2 ^ 64) : CMul i j := .inr h
theorem cm_mod {x y m : Int} (h : 0 < m) (h2 : m < 2 ^ 64) : CMul (x % m) y := by
  have := digit (a := x) h
  exact .inl (by omega)
section
variable {ns : List Int} {S : Store} {i1 i2 i3 l : Int}
def DrawEnd (l : Int) (S : Store) (r : Fl × PEnv) (S' : Store) : Prop := ∃ v j1 j2 j3, r.1 = .rt (.int v) ∧ 0 ≤ v ∧ v < l ∧ 0 ≤ j3 ∧ S' = S.set 2 (box j1 j2 j3)
theorem draw_R3 {x3 x4 x6 : Option PV} {c : Int} (h2 : S[2]? = some (box i1 i2 i3)) (hi : 0 ≤ i3) (hl : 0 < l) : wps (g__law_draw_R3 [some (.cell 2), some (.int l), some (.cell 1), x3, x4, some (.int c), x6]) S fun r S' => ∃ v, r.1 = .rt (.int v) ∧ 0 ≤ v ∧ v < l ∧ S' = S := by
  unfold box at h2
  unfold g__law_draw_R3
  walk_at "dw"
  refine ⟨cm_r (by decide), cm_r (by decide), by decide, cm_mod (by decide) (by decide), cm_r (by decide), by decide, cm_mod (by decide) (by decide), cm_r (by decide), ⟨by decide, by decide⟩, by decide, ⟨by decide, by decide⟩, _, rfl, (digit hl).1, (digit hl).2⟩
theorem draw_R5 {x3 x4 x5 x6 : Option PV} (h1 : S[1]? = some (.lst (ns.map PV.int))) (h2 : S[2]? = some (box i1 i2 i3)) (hi : 0 ≤ i3) (hl : 0 < l) (hl2 : l < 1073741824) : wps (g__law_draw_R5 [some (.cell 2), some (.int l), some (.cell 1), x3, x4, x5, x6]) S (DrawEnd l S) := by
  have h2' := h2
  unfold box at h2
  have hd : ∀ a : Int, 0 ≤ a % l ∧ a % l < l := fun a => digit hl
  unfold g__law_draw_R5 g__law_draw_R4
  walk_at "dw"
  by_cases p1 : 0 < i2
  · simp only [p1, if_true]
    exact ⟨⟨hl, hl2⟩, _, i1, _, i3, rfl, (hd _).1, (hd _).2, hi, rfl⟩
  · simp only [p1, if_false]
    have fin : ∀ r S', (∃ v, r.1 = Fl.rt (.int v) ∧ 0 ≤ v ∧ v < l ∧ S' = S) → DrawEnd l S r S' := by
      rintro r S' ⟨v, e1, e2, e3, rfl⟩
      refine ⟨v, i1, i2, i3, e1, e2, e3, hi, ?_⟩
      apply List.ext_getElem?
      intro n
      by_cases z : n = 2
      · subst z
        rw [List.getElem?_set_self (List.getElem?_eq_some_iff.mp h2).1]; exact h2'
      · rw [List.getElem?_set_ne (Ne.symm z)]
    by_cases p2 : 0 < (ns.length : Int)
    · simp only [p2, if_true]
      have q := digit (a := i1) p2
      obtain ⟨z, hz⟩ := atI_map q.1 q.2
      simp only [hz, Option.some.injEq, exists_eq_left', vv_abs, true_and]
      exact wps_mono (draw_R3 h2' hi hl) fin
    · simp only [p2, if_false]
      exact wps_mono (draw_R3 h2' hi hl) fin
theorem draw_all {Q : PV → Store → Prop} {E : Exn → Store → Prop} (b : Bx ns S) (hl : 0 < l) (hl2 : l < 1073741824) (q : ∀ r S', 0 ≤ r → r < l → Bx ns S' → Frm S S' → S'.length = S.length → Q (.int r) S') : wpx (F__law_draw [.cell 2, .int l]) S Q E := by
  obtain ⟨few, h1, i1, i2, i3, hi, h2⟩ := b
  have hS : 2 < S.length := (List.getElem?_eq_some_iff.mp h2).1
  have g1 : ∀ c, (S.set 2 c)[1]? = some (.lst (ns.map PV.int)) := fun c => by rw [List.getElem?_set_ne (by decide)]; exact h1
  have g2 : ∀ c, (S.set 2 c)[2]? = some c := fun c => List.getElem?_set_self hS
  unfold box at h2
  unfold F__law_draw
  refine wp_run ?_
  unfold g__law_draw
  have lo : -(2 ^ 62) ≤ (ns.length : Int) ∧ (ns.length : Int) < 2 ^ 62 := by omega
  have lt : ((ns.length : Int)).toNat = ns.length := by omega
  walk_at "dw"
  have post : ∀ x j2 j3, 0 ≤ j3 → wps (g__law_draw_R5 [some (.cell 2), some (.int l), some (.cell 1), x, none, none, none]) (S.set 2 (.lst [.cell 1, .int (i1 + 1), .int j2, .int j3])) fun r S' => match r.1 with
      | .nx => Q .non S'
      | .rt d => Q d S'
      | .ex c => E c S'
      | _ => False := fun x j2 j3 h3 => by
    refine wps_mono (draw_R5 (g1 _) (g2 _) h3 hl hl2) fun r S' h => ?_
    obtain ⟨v, a1, a2, a3, e1, e2, e3, e4, e5⟩ := h
    obtain ⟨fl, ρ'⟩ := r
    simp only at e1
    subst e1
    rw [List.set_set] at e5
    subst e5
    exact q v _ e2 e3 ⟨few, g1 _, a1, a2, a3, e4, g2 _⟩ (Frm.box S _) (by simp)
  refine for_inv (fun xs ρ S' => ∃ x j2 j3, 0 ≤ j3 ∧ S' = S.set 2 (.lst [.cell 1, .int (i1 + 1), .int j2, .int j3]) ∧ ρ = [some (.cell 2), some (.int l), some (.cell 1), x, none, none, none]) _ _ _ ⟨none, i2, i3, hi, rfl, rfl⟩ (fun _ _ _ _ => trivial) ?_ ?_
  · rintro ρ S' ⟨x, j2, j3, h3, rfl, rfl⟩
    exact post x j2 j3 h3
  · rintro y xs ρ S' ⟨x, j2, j3, h3, rfl, rfl⟩
    refine ⟨_, rfl, ?_⟩
    unfold g__law_draw_B2 g__law_draw_R1
    walk_at "dw"
    have pw : CPow 10 18 := ⟨by decide, by decide, by decide⟩
    by_cases p1 : j2 = 0
    · simp only [p1, if_true]
      by_cases p2 : j3 < ns.length
      · simp only [p2, if_true]
        obtain ⟨z, hz⟩ := atI_map h3 p2
        simp only [hz, Option.some.injEq, exists_eq_left', vv_abs, vv_ge, wv_asB]
        refine ⟨pw, ?_⟩
        generalize (if z < 0 then -z else z) = az
        simp only [decide_eq_true_eq]
        by_cases p3 : (10 : Int) ^ Int.toNat 18 ≤ az
        all_goals simp only [p3, if_true, if_false]
        · walk_at "dw"
          exact ⟨_, _, _, by omega, rfl, rfl⟩
        · walk_at "dw"
          exact ⟨_, _, _, by omega, rfl, rfl⟩
      · simp only [p2, if_false]
        first | done | exact post _ _ _ h3
    · simp only [p1, if_false]
      first | done | exact post _ _ _ h3
end
end KK

namespace KK
open PySem PySem.Spec PyProof.Rows L2 DL PySem.W
open Classical
local macro_rules | `(tactic| walk_at "dw") => `(tactic| try simp only [ws_seq, ws_nil, ws_retN, ws_bk, ws_ct, ws_expr, ws_ret, ws_set, ws_if, ws_asg, ws_sub, ws_aug, ws_for, ws_thru, ws_no, wv_var, wv_lit, wv_bin, wv_un, wv_nil, wv_cons, wv_args, wv_test, wv_asB, wv_and, wv_or, wv_not, wv_andV, wv_orV, wv_notV, wv_if, wv_chain,
  wv_noPart, wv_part, wv_asI, wv_slice, wv_mkTup, wv_mkLst, wv_methL, wsr_args, wsr_range1, wsr_range2, wsr_seq, wsr_tup, wsr_rev, vv_rev_tup, wv_lc, wpx_ret, wpx_optM, tTrue, chkL1, chkL2, chkL3, chkL4,
  vv_add_int, vv_add_tup, vv_sub, vv_mul, vv_div, vv_mod, vv_pow, vv_neg, vv_gt, vv_ge, vv_le, vv_lt, vv_eq_int, vv_ne_int, vv_eq_bl, vv_ne_bl, eqA_int, neA_int, eqA_bl, neA_bl, eqA_tup, neA_tup, eqA_cell, neA_cell, eqA_non, neA_non, vv_eqA_str, vv_neA_str, vv_ix_tup, vv_ix_cell, vv_set, vv_len_tup, vv_len_cell, vv_abs, vv_int_int, vv_int_bl, vv_tup_tup, vv_tup_cell, vv_lst_tup, vv_lst_cell, vv_slice_tup, vv_dm, vv_mx, vv_mn,
  isi_int_int, isi_int_bool, isi_int_tuple, isi_int_str, isi_int_list, isi_bool_int, isi_bool_bool, isi_bool_tuple, isi_bool_str, isi_bool_list, isi_str_int, isi_str_bool, isi_str_tuple, isi_str_str, isi_str_list, isi_none_int, isi_none_bool, isi_none_tuple, isi_none_str, isi_none_list, isi_tuple_int, isi_tuple_bool, isi_tuple_tuple, isi_tuple_str, isi_tuple_list,
  and_true, true_and, and_self, Cell.lst.injEq, items_lst, items_rls, vv_append, vv_isL, Option.some.injEq, exists_eq_left', exists_eq_left, List.map_cons, List.map_nil, List.length_cons, List.length_nil, List.length_map, List.replicate, List.cons_append, List.nil_append, List.getElem?_cons_zero, List.getElem?_cons_succ, List.set_cons_zero, List.set_cons_succ, bindT, atI0, atI1, atI2, atI3, ix41, ix42, ix43, Nat.reduceAdd, Nat.reduceSub, List.set_set, decide_true, decide_false, if_true, if_false, Bool.false_eq_true, decide_eq_true_eq, Bool.not_true, Bool.not_false, wipeP, *])
theorem line_ok {n : Nat} (h : n ≤ 1000000) : n ≤ sizeLine := by rw [sizeLine_eq]; omega
theorem line_lt {n : Nat} (h : n ≤ 1000000) : n < sizeLine := by rw [sizeLine_eq]; omega
theorem Bx.ext {ns : List Int} {S S' : Store} (b : Bx ns S) (e : Ext S S') : Bx ns S' := by
  obtain ⟨f, h1, i1, i2, i3, h3, h2⟩ := b
  exact ⟨f, e.get h1, i1, i2, i3, h3, e.get h2⟩
theorem Ext.frm {S S' : Store} (e : Ext S S') : Frm S S' := ⟨e.len, fun n _ h => by obtain ⟨T, rfl⟩ := e; rw [List.getElem?_append_left h]⟩
theorem Okv.frm {S S' : Store} {x : PV} (h : Okv S x) (f : Frm S S') (hx : x ≠ .cell 2) : Okv S' x := by
  cases x with
  | cell n => obtain ⟨xs, h⟩ := h; exact ⟨xs, f.get (fun e => hx (by rw [e])) h⟩
  | con v => exact h.elim
  | _ => trivial
/-! ### what is a word -/
def isNum : PV → Bool
  | .int _ => true
  | _ => false
theorem whole_is {S : Store} {Q : PV → Store → Prop} {E : Exn → Store → Prop} {x : PV} (h : Okv S x) (q : Q (.bl (isNum x)) S) : wpx (F_is_whole [x]) S Q E := by
  unfold F_is_whole
  refine wp_run ?_
  unfold g_is_whole
  cases x with
  | cell n =>
    walk_at "dw"
    rw [isi_cell h kb_list_int]
    walk_at "dw"
    exact q
  | con v => exact h.elim
  | _ => walk_at "dw"; exact q
def isPos : PV → Bool
  | .int i => decide (0 ≤ i)
  | _ => false
theorem pos_is {S : Store} {Q : PV → Store → Prop} {E : Exn → Store → Prop} {x : PV} (h : Okv S x) (q : Q (.bl (isPos x)) S) : wpx (F_is_number [x]) S Q E := by
  unfold F_is_number
  refine wp_run ?_
  unfold g_is_number
  walk_at "dw"
  refine whole_is h ?_
  cases x <;> simp only [isNum] <;> walk_at "dw" <;> exact q
def isLet (l : Int) : PV → Bool
  | .int i => decide (0 ≤ i) && decide (i < l)
  | _ => false
/-- what is a word over l letters -/
def isWd (l : Int) : PV → Bool
  | .tup xs => xs.all (isLet l)
  | _ => false
/-- a value whose parts may be asked too -/
def Okw (S : Store) : PV → Prop
  | .tup xs => xs.length ≤ 1000 ∧ ∀ x ∈ xs, Okv S x
  | x => Okv S x
theorem map_all {l : Int} (xs : List PV) : (xs.map (isLet l)).all id = xs.all (isLet l) := by
  induction xs with
  | nil => rfl
  | cons x xs ih => simp [ih]
theorem word_is {S : Store} {Q : PV → Store → Prop} {E : Exn → Store → Prop} {v : PV} {l : Int} (h : Okw S v) (q : ∀ S', Ext S S' → Q (.bl (isWd l v)) S') : wpx (F_is_word [v, .int l]) S Q E := by
  unfold F_is_word
  refine wp_run ?_
  unfold g_is_word
  cases v with
  | cell n =>
    walk_at "dw"
    rw [isi_cell h kb_list_tuple]
    walk_at "dw"
    exact q _ (.refl _)
  | con v => exact h.elim
  | tup xs =>
    obtain ⟨hl, hx⟩ := h
    walk_at "dw"
    refine lc_pure (fun x => .bl (isLet l x)) (line_ok (by omega)) (fun _ _ => trivial) (fun x hm S' e => ?_) fun S' e h1 => ?_
    · refine ⟨_, rfl, ?_⟩
      walk_at "dw"
      refine pos_is ((hx x hm).ext e) ?_
      cases x <;> simp only [isPos] <;> walk_at "dw"
      all_goals first
        | exact ⟨rfl, .refl _⟩
        | (split <;> refine ⟨?_, .refl _⟩ <;> rename_i i hi <;> simp [isLet, hi])
    · have h2 : S'[S.length]? = some (.lst ((xs.map (isLet l)).map PV.bl)) := by rw [h1, List.map_map]; rfl
      rw [vv_all h2, map_all]
      exact q S' e
  | _ => walk_at "dw"; exact q _ (.refl _)
/-! ### what is an undo -/
theorem range_items (n : Nat) : (srcRange 0 n).items = (List.range n).map fun k : Nat => PV.int (k : Int) := by
  unfold srcRange
  simp
theorem all_map_id {β : Type} (f : β → Bool) (l : List β) : (l.map f).all id = l.all f := by
  induction l with
  | nil => rfl
  | cons x l ih => simp [ih]
end KK

namespace KK
open PySem PySem.Spec PyProof.Rows L2 DL PySem.W
open Classical
local macro_rules | `(tactic| walk_at "dw") => `(tactic| try simp only [ws_seq, ws_nil, ws_retN, ws_bk, ws_ct, ws_expr, ws_ret, ws_set, ws_if, ws_asg, ws_sub, ws_aug, ws_for, ws_thru, ws_no, wv_var, wv_lit, wv_bin, wv_un, wv_nil, wv_cons, wv_args, wv_test, wv_asB, wv_and, wv_or, wv_not, wv_andV, wv_orV, wv_notV, wv_if, wv_chain,
  wv_noPart, wv_part, wv_asI, wv_slice, wv_mkTup, wv_mkLst, wv_methL, wsr_args, wsr_range1, wsr_range2, wsr_seq, wsr_tup, wsr_rev, vv_rev_tup, wv_lc, wpx_ret, wpx_optM, tTrue, chkL1, chkL2, chkL3, chkL4,
  vv_add_int, vv_add_tup, vv_sub, vv_mul, vv_div, vv_mod, vv_pow, vv_neg, vv_gt, vv_ge, vv_le, vv_lt, vv_eq_int, vv_ne_int, vv_eq_bl, vv_ne_bl, eqA_int, neA_int, eqA_bl, neA_bl, eqA_tup, neA_tup, eqA_cell, neA_cell, eqA_non, neA_non, vv_eqA_str, vv_neA_str, vv_ix_tup, vv_ix_cell, vv_set, vv_len_tup, vv_len_cell, vv_abs, vv_int_int, vv_int_bl, vv_tup_tup, vv_tup_cell, vv_lst_tup, vv_lst_cell, vv_slice_tup, vv_dm, vv_mx, vv_mn,
  isi_int_int, isi_int_bool, isi_int_tuple, isi_int_str, isi_int_list, isi_bool_int, isi_bool_bool, isi_bool_tuple, isi_bool_str, isi_bool_list, isi_str_int, isi_str_bool, isi_str_tuple, isi_str_str, isi_str_list, isi_none_int, isi_none_bool, isi_none_tuple, isi_none_str, isi_none_list, isi_tuple_int, isi_tuple_bool, isi_tuple_tuple, isi_tuple_str, isi_tuple_list,
  and_true, true_and, and_self, Cell.lst.injEq, items_lst, items_rls, vv_append, vv_isL, Option.some.injEq, exists_eq_left', exists_eq_left, List.map_cons, List.map_nil, List.length_cons, List.length_nil, List.length_map, List.replicate, List.cons_append, List.nil_append, List.getElem?_cons_zero, List.getElem?_cons_succ, List.set_cons_zero, List.set_cons_succ, bindT, atI0, atI1, atI2, atI3, ix41, ix42, ix43, Nat.reduceAdd, Nat.reduceSub, List.set_set, decide_true, decide_false, if_true, if_false, Bool.false_eq_true, decide_eq_true_eq, Bool.not_true, Bool.not_false, wipeP, *])
theorem box_spec {ns : List Int} {Q : PV → Store → Prop} {E : Exn → Store → Prop} (hn : ns.length ≤ 63) (q : ∀ S', S'.length = 3 → Bx ns S' → Q (.cell 2) S') : wpx (F__law_box [.cell 0]) [.rls (ns.map PV.int)] Q E := by
  unfold F__law_box
  refine wp_run ?_
  unfold g__law_box
  rw [ws_ret, wv_args, wv_cons, wv_lc, wsr_seq]
  simp only [List.map_cons, List.map_nil, List.cons_append, List.nil_append, wv_var, List.getElem?_cons_zero, Option.some.injEq, exists_eq_left']
  rw [wsr_cell (c := .rls (ns.map PV.int)) (xs := ns.map PV.int) rfl rfl]
  refine lc_inv (fun xs acc S => ∃ pre post : List Int, acc = pre.map PV.int ∧ xs = post.map PV.int ∧ pre ++ post = ns ∧ S = [.rls (ns.map PV.int), .lst (pre.map PV.int)]) _ [] _ ⟨[], ns, rfl, rfl, rfl, rfl⟩ ?_ ?_ ?_
  · rintro xs acc S ⟨pre, post, rfl, rfl, h, rfl⟩
    exact ⟨rfl, rfl⟩
  · rintro acc S ⟨pre, post, rfl, h2, h, rfl⟩
    have hp : post = [] := by simpa using h2.symm
    subst hp
    rw [List.append_nil] at h
    subst h
    clear h2
    walk_at "dw"
    refine ⟨line_ok (by omega), ?_⟩
    exact q _ rfl ⟨hn, rfl, 0, 0, 0, Int.le_refl 0, rfl⟩
  · rintro x xs acc S ⟨pre, post, rfl, h2, h, rfl⟩
    cases post with
    | nil => cases h2
    | cons z post =>
      rw [List.map_cons] at h2
      injection h2 with h3 h4
      subst h3; subst h4
      refine ⟨_, rfl, ?_⟩
      walk_at "dw"
      refine ⟨?_, pre ++ [z], post, by simp, rfl, by simp [← h], by simp⟩
      have : pre.length ≤ ns.length := by rw [← h]; simp
      exact line_lt (by omega)
theorem word_spec {ns : List Int} {S : Store} {Q : PV → Store → Prop} {E : Exn → Store → Prop} {l m : Int} (b : Bx ns S) (hl : 0 < l) (hl2 : l < 1073741824) (hm : 0 ≤ m) (hm2 : m < 1000000)
    (q : ∀ (ws : List Int) S', (∀ x ∈ ws, 0 ≤ x ∧ x < l) → ws.length ≤ m.toNat → Bx ns S' → Frm S S' → Q (tupI ws) S') : wpx (F__law_word [.cell 2, .int l, .int m]) S Q E := by
  unfold F__law_word
  refine wp_run ?_
  unfold g__law_word
  walk_at "dw"
  refine draw_all b (by omega) (by omega) fun r S1 hr0 hr1 b1 f1 e1 => ?_
  clear e1
  walk_at "dw"
  refine ⟨⟨by omega, by omega⟩, ?_⟩
  have h3 : 3 ≤ S1.length := by
    obtain ⟨_, _, _, _, h2⟩ := b1.c2
    have := (List.getElem?_eq_some_iff.mp h2).1
    omega
  refine lc_inv (fun xs acc S' => ∃ ws : List Int, acc = ws.map PV.int ∧ (∀ x ∈ ws, 0 ≤ x ∧ x < l) ∧ ws.length + xs.length = r.toNat ∧ Bx ns S' ∧ Frm S S' ∧ S'[S1.length]? = some (.lst (ws.map PV.int))) _ [] _ ⟨[], rfl, by simp, by simp [srcRange], b1.snoc _, f1.trans (Frm.snoc _ _), by simp⟩ ?_ ?_ ?_
  · rintro xs acc S' ⟨ws, rfl, _, _, _, _, h⟩
    exact ⟨trivial, h⟩
  · rintro acc S' ⟨ws, rfl, h1, h2, b2, f2, h⟩
    walk_at "dw"
    exact q ws S' h1 (by simp at h2; omega) b2 f2
  · rintro x xs acc S' ⟨ws, rfl, h1, h2, b2, f2, h⟩
    refine ⟨_, rfl, ?_⟩
    walk_at "dw"
    refine draw_all b2 hl hl2 fun z S2 hz0 hz1 b3 f3 e3 => ?_
    clear e3
    have hS : S1.length < S'.length := (List.getElem?_eq_some_iff.mp h).1
    refine ⟨f3.get (by omega) h, line_lt ?_, ws ++ [z], by simp, ?_, by simp at h2 ⊢; omega, b3.put h3 _, ?_, ?_⟩
    · simp at h2 ⊢; omega
    · intro y hy
      rcases List.mem_append.mp hy with hy | hy
      · exact h1 y hy
      · simp at hy; subst hy; exact ⟨hz0, hz1⟩
    · refine ⟨by rw [List.length_set]; have := f2.len; have := f3.len; omega, fun n hn hl => ?_⟩
      have : S.length ≤ S1.length := f1.len
      rw [List.getElem?_set_ne (by omega)]
      exact (f2.trans f3).stay n hn hl
    · rw [List.getElem?_set_self (by have := f3.len; omega)]; simp
/-! ### ahead -/
def ahead (a b : List Int) : Bool := if (a.length : Int) = b.length then listLt a b else decide ((a.length : Int) < b.length)
theorem Okv.frm2 {ns : List Int} {S S' : Store} {x : PV} (h : Okv S x) (f : Frm S S') (b : Bx ns S') : Okv S' x := by
  cases x with
  | cell n =>
    obtain ⟨xs, h⟩ := h
    by_cases e : n = 2
    · subst e
      obtain ⟨i1, i2, i3, _, h2⟩ := b.c2
      exact ⟨_, h2⟩
    · exact ⟨xs, f.get e h⟩
  | con v => exact h.elim
  | _ => trivial
theorem Okw.frm2 {ns : List Int} {S S' : Store} {x : PV} (h : Okw S x) (f : Frm S S') (b : Bx ns S') : Okw S' x := by
  cases x with
  | tup xs => exact ⟨h.1, fun y hy => Okv.frm2 (h.2 y hy) f b⟩
  | cell n => exact Okv.frm2 (x := .cell n) h f b
  | con v => exact h.elim
  | _ => trivial
theorem Okw.okv {S : Store} {x : PV} (h : Okw S x) : Okv S x := by
  cases x with
  | tup xs => trivial
  | _ => exact h
theorem mem_at {β : Type} {xs : List β} {i : Int} (h0 : 0 ≤ i) (h1 : i < xs.length) : ∃ x, L2.atI xs i = some x ∧ x ∈ xs := by
  have hk : i.toNat < xs.length := by omega
  rw [atI_pos h0]
  exact ⟨xs[i.toNat], List.getElem?_eq_getElem hk, List.getElem_mem hk⟩
/-! ### the drawn undo -/
/-! ### spoilt ones -/
theorem atI_mem {β : Type} {xs : List β} {i : Int} {x : β} (h : L2.atI xs i = some x) : x ∈ xs := by
  unfold L2.atI at h
  cases q : L2.ixN xs.length i with
  | none => rw [q] at h; cases h
  | some k => rw [q] at h; exact List.mem_of_getElem? h
end KK

namespace KK
open PySem PySem.Spec PyProof.Rows L2 DL PySem.W
open Classical
local macro_rules | `(tactic| walk_at "dw") => `(tactic| try simp only [ws_seq, ws_nil, ws_retN, ws_bk, ws_ct, ws_expr, ws_ret, ws_set, ws_if, ws_asg, ws_sub, ws_aug, ws_for, ws_thru, ws_no, ws_raise, wv_mkX, wv_var, wv_lit, wv_bin, wv_un, wv_nil, wv_cons, wv_args, wv_test, wv_asB, wv_and, wv_or, wv_not, wv_andV, wv_orV, wv_notV, wv_if, wv_chain,
  wv_noPart, wv_part, wv_asI, wv_slice, wv_mkTup, wv_mkLst, wv_methL, wsr_args, wsr_range1, wsr_range2, wsr_seq, wsr_tup, wsr_rev, wsr_zip, vv_rev_tup, wv_lc, wpx_ret, wpx_optM, tTrue, chkL1, chkL2, chkL3, chkL4,
  vv_add_int, vv_add_tup, vv_sub, vv_mul, vv_mulA_int, vv_div, vv_mod, vv_pow, vv_neg, vv_gt, vv_ge, vv_le, vv_lt, vv_eq_int, vv_ne_int, vv_eq_bl, vv_ne_bl, eqA_int, neA_int, eqA_bl, neA_bl, eqA_tup, neA_tup, eqA_cell, neA_cell, eqA_non, neA_non, vv_eqA_str, vv_neA_str, vv_ix_tup, vv_ix_cell, vv_set, vv_len_tup, vv_len_cell, vv_abs, vv_int_int, vv_int_bl, vv_tup_tup, vv_tup_cell, vv_lst_tup, vv_lst_cell, vv_slice_tup, vv_dm, vv_mx, vv_mn,
  isi_int_int, isi_int_bool, isi_int_tuple, isi_int_str, isi_int_list, isi_bool_int, isi_bool_bool, isi_bool_tuple, isi_bool_str, isi_bool_list, isi_str_int, isi_str_bool, isi_str_tuple, isi_str_str, isi_str_list, isi_none_int, isi_none_bool, isi_none_tuple, isi_none_str, isi_none_list, isi_tuple_int, isi_tuple_bool, isi_tuple_tuple, isi_tuple_str, isi_tuple_list,
  and_true, true_and, and_self, Cell.lst.injEq, items_lst, items_rls, vv_append, vv_isL, Option.some.injEq, exists_eq_left', exists_eq_left, List.map_cons, List.map_nil, List.length_cons, List.length_nil, List.length_map, List.replicate, List.cons_append, List.nil_append, List.getElem?_cons_zero, List.getElem?_cons_succ, List.set_cons_zero, List.set_cons_succ, bindT, atI0, atI1, atI2, atI3, ix41, ix42, ix43, Nat.reduceAdd, Nat.reduceSub, List.set_set, decide_true, decide_false, if_true, if_false, Bool.false_eq_true, decide_eq_true_eq, Bool.not_true, Bool.not_false, wpx_ite, eq_self, wipeP, *])


/-! sequences -/
def isSeq : PV → Bool
  | .tup _ => true
  | .cell _ => true
  | _ => false
/-- the value stands for these -/
def Holds (S : Store) (v : PV) (xs : List PV) : Prop := v = .tup xs ∨ ∃ n, v = .cell n ∧ n ≠ 2 ∧ S[n]? = some (.lst xs)
def SeqD (S : Store) (v : PV) : Option (List PV) → Prop
  | some xs => Holds S v xs
  | none => isSeq v = false ∧ Okv S v
theorem Holds.ext {S S' : Store} {v : PV} {xs : List PV} (h : Holds S v xs) (e : Ext S S') : Holds S' v xs := by
  rcases h with rfl | ⟨n, rfl, n2, hn⟩
  · exact .inl rfl
  · exact .inr ⟨n, rfl, n2, e.get hn⟩
theorem Holds.okv {S : Store} {v : PV} {xs : List PV} (h : Holds S v xs) : Okv S v := by
  rcases h with rfl | ⟨n, rfl, n2, hn⟩
  · trivial
  · exact ⟨xs, hn⟩
theorem Holds.seq {S : Store} {v : PV} {xs : List PV} (h : Holds S v xs) : isSeq v = true := by
  rcases h with rfl | ⟨n, rfl, n2, hn⟩ <;> rfl
theorem SeqD.ext {S S' : Store} {v : PV} {o : Option (List PV)} (h : SeqD S v o) (e : Ext S S') : SeqD S' v o := by
  cases o with
  | some xs => exact Holds.ext h e
  | none => exact ⟨h.1, Okv.ext h.2 e⟩
theorem SeqD.okv {S : Store} {v : PV} {o : Option (List PV)} (h : SeqD S v o) : Okv S v := by
  cases o with
  | some xs => exact Holds.okv h
  | none => exact h.2
theorem SeqD.seq {S : Store} {v : PV} {o : Option (List PV)} (h : SeqD S v o) : isSeq v = o.isSome := by
  cases o with
  | some xs => exact Holds.seq h
  | none => exact h.1
theorem okw_ext {S S' : Store} {v : PV} (o : Okw S v) (e : Ext S S') : Okw S' v := by
  cases v with
  | tup xs => exact ⟨o.1, fun x hx => (o.2 x hx).ext e⟩
  | non => trivial
  | bl b => trivial
  | int i => trivial
  | str y => trivial
  | cell n => exact Okv.ext (x := .cell n) o e
  | con u => exact o.elim
section
variable {S : Store} {Q : PV → Store → Prop} {QL : Src → Store → Prop} {E : Exn → Store → Prop} {v : PV} {xs : List PV}
theorem vv_isi2 {x : PV} {t T T2 : String} {b b2 : Bool} (ht : ∀ {β : Type} (k : String → M β), tyM x k = k t) (h1 : kitB t T = some b) (h2 : kitB t T2 = some b2) (q : Q (.bl (b || b2)) S) : wpx (isi2F [x, .tup [.con (.ty T), .con (.ty T2)]]) S Q E := by
  show wpx (tyM x fun t => (optM (kitB t T)).bind fun b => (optM (kitB t T2)).bind fun b2 => M.ret (.bl (b || b2))) S Q E
  rw [ht, wpx_bind, h1, wpx_optM]
  refine ⟨_, rfl, ?_⟩
  rw [wpx_bind, h2, wpx_optM]
  exact ⟨_, rfl, q⟩
theorem vv_isi2L {n : Nat} {c : Cell} {ys : List PV} {T T2 : String} {b b2 : Bool} (h : S[n]? = some c) (hy : c.items? = some ys) (h1 : kitB "list" T = some b) (h2 : kitB "list" T2 = some b2) (q : Q (.bl (b || b2)) S) : wpx (isi2F [.cell n, .tup [.con (.ty T), .con (.ty T2)]]) S Q E := by
  show wpx (getC n _) S Q E
  rw [wpx_getC]
  refine ⟨c, h, ?_⟩
  rw [hy]
  show wpx (M.bind _ _) S Q E
  rw [wpx_bind, h1, wpx_optM]
  refine ⟨_, rfl, ?_⟩
  rw [wpx_bind, h2, wpx_optM]
  exact ⟨_, rfl, q⟩
theorem isi_seq (h : Okv S v) (q : Q (.bl (isSeq v)) S) : wpx (isi2F [v, .tup [.con (.ty "list"), .con (.ty "tuple")]]) S Q E := by
  cases v with
  | cell n => obtain ⟨xs, h⟩ := h; exact vv_isi2L h rfl (b := true) (b2 := false) (by decide +kernel) (by decide +kernel) q
  | con v => exact h.elim
  | tup xs => exact vv_isi2 (t := "tuple") (fun k => rfl) (b := false) (b2 := true) (by decide +kernel) (by decide +kernel) q
  | non => exact vv_isi2 (t := "NoneType") (fun k => rfl) (b := false) (b2 := false) (by decide +kernel) (by decide +kernel) q
  | bl b => exact vv_isi2 (t := "bool") (fun k => rfl) (b := false) (b2 := false) (by decide +kernel) (by decide +kernel) q
  | int i => exact vv_isi2 (t := "int") (fun k => rfl) (b := false) (b2 := false) (by decide +kernel) (by decide +kernel) q
  | str x => exact vv_isi2 (t := "str") (fun k => rfl) (b := false) (b2 := false) (by decide +kernel) (by decide +kernel) q
theorem seq_is (h : Okv S v) (q : Q (.bl (isSeq v)) S) : wpx (F_is_sequence [v]) S Q E := by
  unfold F_is_sequence
  refine wp_run ?_
  unfold g_is_sequence
  simp only [ws_ret, wv_args, wv_cons, wv_nil, wv_var, wv_lit, wv_mkTup, List.getElem?_cons_zero, List.map_cons, List.map_nil, List.cons_append, List.nil_append, Option.some.injEq, exists_eq_left']
  exact ⟨line_ok (by decide), isi_seq h q⟩
theorem holds_len (hv : Holds S v xs) (q : Q (.int xs.length) S) : wpx (lenV [v]) S Q E := by
  rcases hv with rfl | ⟨n, rfl, _, hn⟩
  · rw [vv_len_tup]; exact q
  · rw [vv_len_cell]; exact ⟨_, hn, _, rfl, q⟩
theorem holds_ix {i : Int} {d : PV} (hv : Holds S v xs) (h : L2.atI xs i = some d) (q : Q d S) : wpx (ixV v (.int i)) S Q E := by
  rcases hv with rfl | ⟨n, rfl, _, hn⟩
  · rw [vv_ix_tup]; exact ⟨_, h, q⟩
  · rw [vv_ix_cell]; exact ⟨_, hn, _, rfl, _, h, q⟩
theorem holds_tup (hv : Holds S v xs) (q : Q (.tup xs) S) : wpx (tupF [v]) S Q E := by
  rcases hv with rfl | ⟨n, rfl, _, hn⟩
  · rw [vv_tup_tup]; exact q
  · rw [vv_tup_cell]; exact ⟨_, hn, _, rfl, q⟩
theorem holds_src (hv : Holds S v xs) (q : ∀ chk : Store → Prop, (∀ S', Ext S S' → chk S') → QL ⟨xs, chk⟩ S) : wpx (seqM v) S QL E := by
  rcases hv with rfl | ⟨n, rfl, _, hn⟩
  · rw [wsr_tup]; exact q _ fun _ _ => trivial
  · rw [wsr_cell hn rfl]; exact q _ fun S' e => e.get hn
end
/-! the first fault -/
/-- r: the place of the first that is False among many; the lesser number, if there are not many -/
def FF (bs : List Bool) (m : Nat) : Option Nat → Prop
  | some k => (k < min bs.length m ∧ bs[k]? = some false ∧ ∀ i, i < k → bs[i]? = some true) ∨ (k = min bs.length m ∧ bs.length ≠ m ∧ ∀ i, i < k → bs[i]? = some true)
  | none => bs.length = m ∧ ∀ i, i < m → bs[i]? = some true
theorem FF.one {bs : List Bool} {m : Nat} {r r' : Option Nat} (h : FF bs m r) (h' : FF bs m r') : r = r' := by
  cases r with
  | none =>
    cases r' with
    | none => rfl
    | some k =>
      obtain ⟨h1, h2⟩ := h
      rcases h' with ⟨a, b, c⟩ | ⟨a, b, c⟩
      · have := h2 k (by omega); rw [b] at this; cases this
      · exact absurd h1 b
  | some k =>
    cases r' with
    | none =>
      obtain ⟨h1, h2⟩ := h'
      rcases h with ⟨a, b, c⟩ | ⟨a, b, c⟩
      · have := h2 k (by omega); rw [b] at this; cases this
      · exact absurd h1 b
    | some j =>
      rcases h with ⟨a, b, c⟩ | ⟨a, b, c⟩ <;> rcases h' with ⟨a', b', c'⟩ | ⟨a', b', c'⟩
      · rcases Nat.lt_trichotomy k j with q | q | q
        · have := c' k q; rw [b] at this; cases this
        · rw [q]
        · have := c j q; rw [b'] at this; cases this
      · have := c' k (by omega); rw [b] at this; cases this
      · have := c j (by omega); rw [b'] at this; cases this
      · rw [a, a']
def optN : Option Nat → PV
  | none => .non
  | some k => .int k
section
variable {S : Store} {Q : PV → Store → Prop} {QS : Fl × PEnv → Store → Prop} {E : Exn → Store → Prop} {bs : List Bool} {n m : Nat}
theorem range_from (j n : Nat) : (List.range' j (n + 1)).map (fun k : Nat => PV.int (k : Int)) = .int (j : Int) :: (List.range' (j + 1) n).map fun k : Nat => PV.int (k : Int) := by
  rw [List.range'_succ, List.map_cons]
theorem range_all (n : Nat) : (srcRange 0 n).items = (List.range' 0 n).map fun k : Nat => PV.int (k : Int) := by
  rw [range_items, List.range_eq_range']
theorem bs_at {k : Nat} (h : k < bs.length) : ∃ b, bs[k]? = some b ∧ L2.atI (bs.map PV.bl) (k : Int) = some (.bl b) := by
  refine ⟨bs[k], List.getElem?_eq_getElem h, ?_⟩
  rw [atI_pos (by omega), Int.toNat_natCast, List.getElem?_map, List.getElem?_eq_getElem h]; rfl
theorem fault_is (hn : S[n]? = some (.lst (bs.map PV.bl))) (hb : bs.length ≤ 1000) (hm : m ≤ 1000) (q : ∀ r, FF bs m r → Q (optN r) S) : wpx (F_first_fault [.cell n, .int m]) S Q E := by
  unfold F_first_fault
  refine wp_run ?_
  unfold g_first_fault
  simp only [ws_seq, ws_set, wv_args, wv_cons, wv_nil, wv_var, List.map_cons, List.map_nil, List.cons_append, List.nil_append, List.length_cons, List.length_nil, Nat.reduceAdd, Nat.reduceSub, List.replicate, List.set_cons_zero, List.set_cons_succ, List.getElem?_cons_zero, List.getElem?_cons_succ, Option.some.injEq, exists_eq_left', vv_len_cell, hn, items_lst, vv_mn, List.length_map]
  have e : (if (m : Int) < bs.length then (m : Int) else bs.length) = ((min bs.length m : Nat) : Int) := by
    split <;> omega
  rw [e]
  simp only [ws_for, wsr_args, wv_args, wv_cons, wv_nil, wv_var, List.set_cons_zero, List.set_cons_succ, List.getElem?_cons_zero, List.getElem?_cons_succ, Option.some.injEq, exists_eq_left']
  rw [wsr_range1]
  refine ⟨⟨by omega, by omega⟩, ?_⟩
  rw [Int.toNat_natCast, range_all]
  refine for_inv (fun zs ρ S' => S' = S ∧ ∃ j k, j + k = min bs.length m ∧ zs = (List.range' j k).map (fun k : Nat => PV.int (k : Int)) ∧ (∀ i, i < j → bs[i]? = some true) ∧ ∃ y3, ρ = [some (.cell n), some (.int m), some (.int (min bs.length m : Nat)), y3]) _ _ _
    ⟨rfl, 0, min bs.length m, by omega, rfl, fun i h => by omega, _, rfl⟩ (fun _ _ _ _ => trivial) ?_ ?_
  · rintro ρ S' ⟨rfl, j, k, hk, hz, ht, y3, rfl⟩
    have h0 : k = 0 := by cases k with | zero => rfl | succ k => rw [range_from] at hz; cases hz
    subst h0
    unfold g_first_fault_R3 g_first_fault_R2
    simp only [ws_seq, ws_if, wv_test, wv_bin, wv_args, wv_cons, wv_nil, wv_var, List.getElem?_cons_zero, List.getElem?_cons_succ, Option.some.injEq, exists_eq_left', vv_len_cell, hn, items_lst, List.length_map, neA_int, vv_ne_int, wv_asB, ws_ret, wv_lit]
    by_cases p : bs.length = m
    · have p' : ((bs.length : Int) = m) := by omega
      simp only [decide_eq_true p', Bool.not_true, Bool.false_eq_true, if_false, ws_nil]
      exact q none ⟨p, fun i hi => ht i (by omega)⟩
    · have p' : ¬ ((bs.length : Int) = m) := by omega
      simp only [decide_eq_false p', Bool.not_false, if_true]
      exact q (some (min bs.length m)) (.inr ⟨rfl, p, fun i hi => ht i (by omega)⟩)
  · rintro z zs ρ S' ⟨rfl, j, k, hk, hz, ht, y3, rfl⟩
    cases k with
    | zero => cases hz
    | succ k =>
      rw [range_from] at hz
      injection hz with h1 h2
      subst h1; subst h2
      refine ⟨_, rfl, ?_⟩
      unfold g_first_fault_B1
      obtain ⟨b, hb1, hb2⟩ := bs_at (bs := bs) (k := j) (by omega)
      simp only [ws_if, wv_not, wv_test, wv_bin, wv_var, List.set_cons_zero, List.set_cons_succ, List.getElem?_cons_zero, List.getElem?_cons_succ, Option.some.injEq, exists_eq_left', vv_ix_cell, hn, items_lst, hb2, wv_asB, ws_ret]
      cases b with
      | true =>
        simp only [Bool.not_true, Bool.false_eq_true, if_false, ws_nil]
        refine ⟨trivial, j + 1, k, by omega, rfl, fun i hi => ?_, _, rfl⟩
        by_cases z : i = j
        · rw [z]; exact hb1
        · exact ht i (by omega)
      | false =>
        simp only [Bool.not_false, if_true]
        exact q (some j) (.inl ⟨by omega, hb1, ht⟩)
end
/-! rows and ends -/
def isTo (m : Int) : PV → Bool
  | .non => true
  | .int i => decide (0 ≤ i) && decide (i < m)
  | _ => false
def isRow (l m : Int) : PV → Bool
  | .tup xs => decide ((xs.length : Int) = l) && xs.all (isTo m)
  | _ => false
def isBit : PV → Bool
  | .int i => decide (0 ≤ i) && decide (i ≤ 1)
  | _ => false
def okL : PV → Bool
  | .int l => decide (1 ≤ l) && decide (l ≤ 48)
  | _ => false
section
variable {S : Store} {Q : PV → Store → Prop} {E : Exn → Store → Prop} {l m : Int} {x : PV}
theorem row_is (ow : Okw S x) (q : ∀ S', Ext S S' → Q (.bl (isRow l m x)) S') : wpx (F__is_row [x, .int l, .int m]) S Q E := by
  unfold F__is_row
  refine wp_run ?_
  unfold g__is_row
  cases x with
  | cell n =>
    walk_at "dw"
    rw [isi_cell ow kb_list_tuple]
    walk_at "dw"
    exact q _ (.refl _)
  | con v => exact ow.elim
  | tup xs =>
    obtain ⟨ol, ox⟩ := ow
    simp only [ws_seq, ws_if, wv_or, wv_not, wv_test, wv_bin, wv_args, wv_cons, wv_nil, wv_var, wv_lit, List.map_cons, List.map_nil, List.cons_append, List.nil_append, List.length_cons, List.length_nil, Nat.reduceAdd, Nat.reduceSub, List.replicate, List.getElem?_cons_zero, List.getElem?_cons_succ, Option.some.injEq, exists_eq_left', isi_tuple_tuple, wv_asB, Bool.not_true, Bool.false_eq_true, if_false, vv_len_tup, neA_int, vv_ne_int, ws_ret]
    by_cases p : (xs.length : Int) = l
    · simp only [decide_eq_true p, Bool.not_true, Bool.false_eq_true, if_false, ws_nil]
      unfold g__is_row_R1
      simp only [ws_ret, wv_args, wv_cons, wv_nil, wv_lc, wsr_seq, wv_var, List.getElem?_cons_zero, List.getElem?_cons_succ, Option.some.injEq, exists_eq_left', wsr_tup, List.map_cons, List.map_nil, wipeP, List.set_cons_zero, List.set_cons_succ]
      refine lc_pure (fun x => .bl (isTo m x)) (line_ok (by omega)) (fun _ _ => trivial) (fun y hy S' e => ?_) fun S3 e3 h1 => ?_
      · refine ⟨_, rfl, ?_⟩
        have oy := (ox y hy).ext e
        simp only [wv_orV, wv_andV, wv_bin, wv_args, wv_cons, wv_nil, wv_var, wv_lit, List.getElem?_cons_zero, List.getElem?_cons_succ, List.set_cons_zero, List.set_cons_succ, Option.some.injEq, exists_eq_left', chkL1]
        rw [vv_isnon oy, wv_asB]
        by_cases z : isNonB y = true
        · rw [if_pos z]
          cases y with
          | non => exact ⟨rfl, .refl _⟩
          | _ => cases z
        · rw [if_neg z]
          refine pos_is oy ?_
          rw [wv_asB]
          cases y with
          | int i =>
            by_cases z2 : (0 : Int) ≤ i
            · simp only [isPos, decide_eq_true z2, if_true, vv_lt]
              exact ⟨by simp [isTo, z2], .refl _⟩
            · simp only [isPos, decide_eq_false z2, Bool.false_eq_true, if_false]
              exact ⟨by simp [isTo, z2], .refl _⟩
          | non => exact absurd rfl z
          | _ => exact ⟨rfl, .refl _⟩
      · have h2 : S3[S.length]? = some (.lst ((xs.map (isTo m)).map PV.bl)) := by rw [h1, List.map_map]; rfl
        rw [vv_all h2]
        have e8 : (xs.map (isTo m)).all id = xs.all (isTo m) := by simp [List.all_map]
        rw [e8]
        have := q S3 e3
        rw [show isRow l m (.tup xs) = (decide ((xs.length : Int) = l) && xs.all (isTo m)) from rfl, decide_eq_true p, Bool.true_and] at this
        exact this
    · simp only [decide_eq_false p, Bool.not_false, if_true]
      have := q S (.refl S)
      rw [show isRow l m (.tup xs) = (decide ((xs.length : Int) = l) && xs.all (isTo m)) from rfl, decide_eq_false p, Bool.false_and] at this
      exact this
  | _ => walk_at "dw"; exact q _ (.refl _)
end
end KK

namespace KK
open PySem PySem.Spec PyProof.Rows L2 DL PySem.W
open Classical
local macro_rules | `(tactic| walk_at "dw") => `(tactic| try simp only [ws_seq, ws_nil, ws_retN, ws_bk, ws_ct, ws_expr, ws_ret, ws_set, ws_if, ws_asg, ws_sub, ws_aug, ws_for, ws_thru, ws_no, ws_raise, wv_mkX, wv_var, wv_lit, wv_bin, wv_un, wv_nil, wv_cons, wv_args, wv_test, wv_asB, wv_and, wv_or, wv_not, wv_andV, wv_orV, wv_notV, wv_if, wv_chain,
  wv_noPart, wv_part, wv_asI, wv_slice, wv_mkTup, wv_mkLst, wv_methL, wsr_args, wsr_range1, wsr_range2, wsr_seq, wsr_tup, wsr_rev, wsr_zip, vv_rev_tup, wv_lc, wpx_ret, wpx_optM, tTrue, chkL1, chkL2, chkL3, chkL4,
  vv_add_int, vv_add_tup, vv_sub, vv_mul, vv_mulA_int, vv_div, vv_mod, vv_pow, vv_neg, vv_gt, vv_ge, vv_le, vv_lt, vv_eq_int, vv_ne_int, vv_eq_bl, vv_ne_bl, eqA_int, neA_int, eqA_bl, neA_bl, eqA_tup, neA_tup, eqA_cell, neA_cell, eqA_non, neA_non, vv_eqA_str, vv_neA_str, vv_ix_tup, vv_ix_cell, vv_set, vv_len_tup, vv_len_cell, vv_abs, vv_int_int, vv_int_bl, vv_tup_tup, vv_tup_cell, vv_lst_tup, vv_lst_cell, vv_slice_tup, vv_dm, vv_mx, vv_mn,
  isi_int_int, isi_int_bool, isi_int_tuple, isi_int_str, isi_int_list, isi_bool_int, isi_bool_bool, isi_bool_tuple, isi_bool_str, isi_bool_list, isi_str_int, isi_str_bool, isi_str_tuple, isi_str_str, isi_str_list, isi_none_int, isi_none_bool, isi_none_tuple, isi_none_str, isi_none_list, isi_tuple_int, isi_tuple_bool, isi_tuple_tuple, isi_tuple_str, isi_tuple_list,
  and_true, true_and, and_self, Cell.lst.injEq, items_lst, items_rls, vv_append, vv_isL, Option.some.injEq, exists_eq_left', exists_eq_left, List.map_cons, List.map_nil, List.length_cons, List.length_nil, List.length_map, List.replicate, List.cons_append, List.nil_append, List.getElem?_cons_zero, List.getElem?_cons_succ, List.set_cons_zero, List.set_cons_succ, bindT, atI0, atI1, atI2, atI3, ix41, ix42, ix43, Nat.reduceAdd, Nat.reduceSub, List.set_set, decide_true, decide_false, if_true, if_false, Bool.false_eq_true, decide_eq_true_eq, Bool.not_true, Bool.not_false, wpx_ite, eq_self, wipeP, *])


/-- the first fault of letters, table, ends -/
inductive Flt (L : PV) (to eo : Option (List PV)) : Option (Str × Nat) → Prop
  | letters (h : okL L = false) : Flt L to eo (some ("letters", 0))
  | seq (h : okL L = true) (ht : to = none ∨ to = some []) : Flt L to eo (some ("table", 0))
  | row {l : Int} {rows : List PV} {k : Nat} (h : okL L = true) (hl : L = .int l) (ht : to = some rows) (h0 : rows ≠ []) (f : FF (rows.map (isRow l rows.length)) rows.length (some k)) : Flt L to eo (some ("table", k))
  | eseq {l : Int} {rows : List PV} (h : okL L = true) (hl : L = .int l) (ht : to = some rows) (h0 : rows ≠ []) (f : FF (rows.map (isRow l rows.length)) rows.length none) (he : eo = none) : Flt L to eo (some ("ends", 0))
  | bit {l : Int} {rows es : List PV} {k : Nat} (h : okL L = true) (hl : L = .int l) (ht : to = some rows) (h0 : rows ≠ []) (f : FF (rows.map (isRow l rows.length)) rows.length none) (he : eo = some es) (g : FF (es.map isBit) rows.length (some k)) : Flt L to eo (some ("ends", k))
  | ok {l : Int} {rows es : List PV} (h : okL L = true) (hl : L = .int l) (ht : to = some rows) (h0 : rows ≠ []) (f : FF (rows.map (isRow l rows.length)) rows.length none) (he : eo = some es) (g : FF (es.map isBit) rows.length none) : Flt L to eo none
theorem Flt.one {L : PV} {to eo : Option (List PV)} {r r' : Option (Str × Nat)} (h : Flt L to eo r) (h' : Flt L to eo r') : r = r' := by
  have no : ∀ {l : Int} {rows : List PV}, L = .int l → to = some rows → FF (rows.map (isRow l rows.length)) rows.length none → ∀ {l2 : Int} {rows2 : List PV} {k : Nat}, L = .int l2 → to = some rows2 → FF (rows2.map (isRow l2 rows2.length)) rows2.length (some k) → False := by
    intro l rows h1 h2 f l2 rows2 k h3 h4 g
    rw [h1] at h3; cases h3
    rw [h2] at h4; cases h4
    cases f.one g
  have no2 : ∀ {rows es : List PV}, to = some rows → eo = some es → FF (es.map isBit) rows.length none → ∀ {rows2 es2 : List PV} {k : Nat}, to = some rows2 → eo = some es2 → FF (es2.map isBit) rows2.length (some k) → False := by
    intro rows es h1 h2 f rows2 es2 k h3 h4 g
    rw [h1] at h3; cases h3
    rw [h2] at h4; cases h4
    cases f.one g
  cases h with
  | letters h =>
    cases h' with
    | letters => rfl
    | seq h2 => rw [h] at h2; cases h2
    | row h2 => rw [h] at h2; cases h2
    | eseq h2 => rw [h] at h2; cases h2
    | bit h2 => rw [h] at h2; cases h2
    | ok h2 => rw [h] at h2; cases h2
  | seq h ht =>
    have z : ∀ {rows : List PV}, to = some rows → rows ≠ [] → False := fun e n => by
      rcases ht with ht | ht
      · rw [ht] at e; cases e
      · rw [ht] at e; cases e; exact n rfl
    cases h' with
    | letters h2 => rw [h] at h2; cases h2
    | seq => rfl
    | row _ _ e n => exact (z e n).elim
    | eseq _ _ e n => exact (z e n).elim
    | bit _ _ e n => exact (z e n).elim
    | ok _ _ e n => exact (z e n).elim
  | row h hl ht h0 f =>
    cases h' with
    | letters h2 => rw [h] at h2; cases h2
    | seq h2 ht2 =>
      rcases ht2 with ht2 | ht2
      · rw [ht] at ht2; cases ht2
      · rw [ht] at ht2; cases ht2; exact absurd rfl h0
    | row h2 hl2 ht2 _ f2 =>
      rw [hl] at hl2; cases hl2
      rw [ht] at ht2; cases ht2
      cases f.one f2; rfl
    | eseq _ a b _ f2 => exact (no a b f2 hl ht f).elim
    | bit _ a b _ f2 => exact (no a b f2 hl ht f).elim
    | ok _ a b _ f2 => exact (no a b f2 hl ht f).elim
  | eseq h hl ht h0 f he =>
    cases h' with
    | letters h2 => rw [h] at h2; cases h2
    | seq h2 ht2 =>
      rcases ht2 with ht2 | ht2
      · rw [ht] at ht2; cases ht2
      · rw [ht] at ht2; cases ht2; exact absurd rfl h0
    | row h2 hl2 ht2 _ f2 => exact (no hl ht f hl2 ht2 f2).elim
    | eseq => rfl
    | bit _ _ _ _ _ he2 => rw [he] at he2; cases he2
    | ok _ _ _ _ _ he2 => rw [he] at he2; cases he2
  | bit h hl ht h0 f he g =>
    cases h' with
    | letters h2 => rw [h] at h2; cases h2
    | seq h2 ht2 =>
      rcases ht2 with ht2 | ht2
      · rw [ht] at ht2; cases ht2
      · rw [ht] at ht2; cases ht2; exact absurd rfl h0
    | row h2 hl2 ht2 _ f2 => exact (no hl ht f hl2 ht2 f2).elim
    | eseq _ _ _ _ _ he2 => rw [he] at he2; cases he2
    | bit _ _ ht2 _ _ he2 g2 =>
      rw [he] at he2; cases he2
      rw [ht] at ht2; cases ht2
      cases g.one g2; rfl
    | ok _ _ ht2 _ _ he2 g2 => exact (no2 ht2 he2 g2 ht he g).elim
  | ok h hl ht h0 f he g =>
    cases h' with
    | letters h2 => rw [h] at h2; cases h2
    | seq h2 ht2 =>
      rcases ht2 with ht2 | ht2
      · rw [ht] at ht2; cases ht2
      · rw [ht] at ht2; cases ht2; exact absurd rfl h0
    | row h2 hl2 ht2 _ f2 => exact (no hl ht f hl2 ht2 f2).elim
    | eseq _ _ _ _ _ he2 => rw [he] at he2; cases he2
    | bit _ _ ht2 _ _ he2 g2 => exact (no2 ht he g ht2 he2 g2).elim
    | ok => rfl
/-- rows that may be asked -/
def RowsOk (S : Store) : Option (List PV) → Prop
  | none => True
  | some xs => xs.length ≤ 1000 ∧ ∀ x ∈ xs, Okw S x
def EndsOk (S : Store) : Option (List PV) → Prop
  | none => True
  | some xs => xs.length ≤ 1000 ∧ ∀ x ∈ xs, Okv S x
theorem RowsOk.ext {S S' : Store} {o : Option (List PV)} (h : RowsOk S o) (e : Ext S S') : RowsOk S' o := by
  cases o with
  | none => trivial
  | some xs => exact ⟨h.1, fun x hx => okw_ext (h.2 x hx) e⟩
theorem EndsOk.ext {S S' : Store} {o : Option (List PV)} (h : EndsOk S o) (e : Ext S S') : EndsOk S' o := by
  cases o with
  | none => trivial
  | some xs => exact ⟨h.1, fun x hx => (h.2 x hx).ext e⟩
section
variable {S : Store} {Q : PV → Store → Prop} {QS : Fl × PEnv → Store → Prop} {E : Exn → Store → Prop} {l : Int} {m : Nat} {T En : PV} {to eo : Option (List PV)}
/-- what _table_fault tells -/
def TF (l : Int) : Option (List PV) → Option Nat → Prop
  | none, r => r = some 0
  | some rows, r => (rows = [] ∧ r = some 0) ∨ (rows ≠ [] ∧ FF (rows.map (isRow l rows.length)) rows.length r)
def EF (m : Nat) : Option (List PV) → Option Nat → Prop
  | none, r => r = some 0
  | some es, r => FF (es.map isBit) m r
theorem table_is (hT : SeqD S T to) (hr : RowsOk S to) (q : ∀ r S', TF l to r → Ext S S' → Q (optN r) S') : wpx (F__table_fault [.int l, T]) S Q E := by
  unfold F__table_fault
  refine wp_run ?_
  unfold g__table_fault
  simp only [ws_seq, ws_if, wv_or, wv_not, wv_test, wv_bin, wv_args, wv_cons, wv_nil, wv_var, wv_lit, List.map_cons, List.map_nil, List.cons_append, List.nil_append, List.length_cons, List.length_nil, Nat.reduceAdd, Nat.reduceSub, List.replicate, List.getElem?_cons_zero, List.getElem?_cons_succ, Option.some.injEq, exists_eq_left', chkL1, ws_ret]
  refine seq_is hT.okv ?_
  rw [hT.seq, wv_asB]
  cases to with
  | none =>
    simp only [Option.isSome_none, Bool.not_false, if_true]
    exact q (some 0) S rfl (.refl S)
  | some rows =>
    obtain ⟨hl, hx⟩ := hr
    have hT' : Holds S T rows := hT
    simp only [Option.isSome_some, Bool.not_true, Bool.false_eq_true, if_false]
    refine holds_len hT' ?_
    rw [eqA_int, vv_eq_int, wv_asB]
    by_cases p : rows = []
    · subst p
      have p0 : (([] : List PV).length : Int) = 0 := rfl
      simp only [decide_eq_true p0, if_true]
      exact q (some 0) S (.inl ⟨rfl, rfl⟩) (.refl S)
    · have p' : ¬ ((rows.length : Int) = 0) := fun z => p (List.eq_nil_of_length_eq_zero (by omega))
      simp only [decide_eq_false p', Bool.false_eq_true, if_false, ws_nil]
      unfold g__table_fault_R1
      simp only [ws_ret, wv_args, wv_cons, wv_nil, wv_lc, wsr_seq, wv_var, List.getElem?_cons_zero, List.getElem?_cons_succ, Option.some.injEq, exists_eq_left', List.map_cons, List.map_nil, wipeP, List.set_cons_zero, List.set_cons_succ, chkL2]
      refine holds_src hT' fun chk hchk => ?_
      refine lc_pure (fun x => .bl (isRow l rows.length x)) (line_ok (by show rows.length ≤ _; omega)) hchk (fun y hy S' e => ?_) fun S3 e3 h1 => ?_
      · refine ⟨_, rfl, ?_⟩
        simp only [wv_args, wv_cons, wv_nil, wv_var, List.getElem?_cons_zero, List.getElem?_cons_succ, List.set_cons_zero, List.set_cons_succ, Option.some.injEq, exists_eq_left', chkL3]
        refine holds_len (hT'.ext e) ?_
        exact row_is (okw_ext (hx y hy) e) fun S4 e4 => ⟨rfl, e4⟩
      · have h2 : S3[S.length]? = some (.lst ((rows.map (isRow l rows.length)).map PV.bl)) := by rw [h1, List.map_map]; rfl
        refine holds_len (hT'.ext e3) ?_
        refine fault_is h2 (by rw [List.length_map]; exact hl) hl fun r hr => ?_
        exact q r S3 (.inr ⟨p, hr⟩) e3
theorem bit_is {y : PV} {S' : Store} {ρ : PEnv} {i : Nat} (oy : Okv S' y) (hi : ρ[i]? = some (some y)) (q : Q (.bl (isBit y)) S') : wpx (eAndV (eArgs (chkL 1 F_is_whole) (eCons (eVar i) eNil)) (eChain leI leI (eLit (.int 0)) (eVar i) (eLit (.int 1))) ρ) S' Q E := by
  simp only [wv_andV, wv_chain, wv_args, wv_cons, wv_nil, wv_var, wv_lit, hi, Option.some.injEq, exists_eq_left', chkL1]
  refine whole_is oy ?_
  rw [wv_asB]
  cases y with
  | int i =>
    simp only [isNum, if_true, vv_le, wv_asB]
    by_cases z2 : (0 : Int) ≤ i
    · simp only [decide_eq_true z2, if_true]
      have : isBit (.int i) = decide (i ≤ 1) := by simp [isBit, z2]
      rw [this] at q
      exact q
    · simp only [decide_eq_false z2, Bool.false_eq_true, if_false]
      have : isBit (.int i) = false := by simp [isBit, z2]
      rw [this] at q
      exact q
  | _ => exact q
theorem ends_is (hm : m ≤ 1000) (hT : SeqD S En eo) (hr : EndsOk S eo) (q : ∀ r S', EF m eo r → Ext S S' → Q (optN r) S') : wpx (F__ends_fault [.int m, En]) S Q E := by
  unfold F__ends_fault
  refine wp_run ?_
  unfold g__ends_fault
  simp only [ws_seq, ws_if, wv_not, wv_test, wv_args, wv_cons, wv_nil, wv_var, wv_lit, List.map_cons, List.map_nil, List.cons_append, List.nil_append, List.length_cons, List.length_nil, Nat.reduceAdd, Nat.reduceSub, List.replicate, List.getElem?_cons_zero, List.getElem?_cons_succ, Option.some.injEq, exists_eq_left', chkL1, ws_ret]
  refine seq_is hT.okv ?_
  rw [hT.seq, wv_asB]
  cases eo with
  | none =>
    simp only [Option.isSome_none, Bool.not_false, if_true]
    exact q (some 0) S rfl (.refl S)
  | some rows =>
    obtain ⟨hl, hx⟩ := hr
    have hT' : Holds S En rows := hT
    simp only [Option.isSome_some, Bool.not_true, Bool.false_eq_true, if_false, ws_nil]
    unfold g__ends_fault_R1
    simp only [ws_ret, wv_args, wv_cons, wv_nil, wv_lc, wsr_seq, wv_var, List.getElem?_cons_zero, List.getElem?_cons_succ, Option.some.injEq, exists_eq_left', List.map_cons, List.map_nil, wipeP, List.set_cons_zero, List.set_cons_succ, chkL2]
    refine holds_src hT' fun chk hchk => ?_
    refine lc_pure (fun x => .bl (isBit x)) (line_ok (by show rows.length ≤ _; omega)) hchk (fun y hy S' e => ?_) fun S3 e3 h1 => ?_
    · refine ⟨_, rfl, ?_⟩
      exact bit_is ((hx y hy).ext e) rfl ⟨rfl, .refl _⟩
    · have h2 : S3[S.length]? = some (.lst ((rows.map isBit).map PV.bl)) := by rw [h1, List.map_map]; rfl
      refine fault_is h2 (by rw [List.length_map]; exact hl) hm fun r hr => ?_
      exact q r S3 hr e3
/-- what _law_fault tells -/
def dueP : Option (Str × Nat) → PV
  | none => .non
  | some (p, k) => .tup [.str p, .int k]
end
end KK

namespace KK
open PySem PySem.Spec PyProof.Rows L2 DL PySem.W
open Classical
local macro_rules | `(tactic| walk_at "dw") => `(tactic| try simp only [ws_seq, ws_nil, ws_retN, ws_bk, ws_ct, ws_expr, ws_ret, ws_set, ws_if, ws_asg, ws_sub, ws_aug, ws_for, ws_thru, ws_no, ws_raise, wv_mkX, wv_var, wv_lit, wv_bin, wv_un, wv_nil, wv_cons, wv_args, wv_test, wv_asB, wv_and, wv_or, wv_not, wv_andV, wv_orV, wv_notV, wv_if, wv_chain,
  wv_noPart, wv_part, wv_asI, wv_slice, wv_mkTup, wv_mkLst, wv_methL, wsr_args, wsr_range1, wsr_range2, wsr_seq, wsr_tup, wsr_rev, wsr_zip, vv_rev_tup, wv_lc, wpx_ret, wpx_optM, tTrue, chkL1, chkL2, chkL3, chkL4,
  vv_add_int, vv_add_tup, vv_sub, vv_mul, vv_mulA_int, vv_div, vv_mod, vv_pow, vv_neg, vv_gt, vv_ge, vv_le, vv_lt, vv_eq_int, vv_ne_int, vv_eq_bl, vv_ne_bl, eqA_int, neA_int, eqA_bl, neA_bl, eqA_tup, neA_tup, eqA_cell, neA_cell, eqA_non, neA_non, vv_eqA_str, vv_neA_str, vv_ix_tup, vv_ix_cell, vv_set, vv_len_tup, vv_len_cell, vv_abs, vv_int_int, vv_int_bl, vv_tup_tup, vv_tup_cell, vv_lst_tup, vv_lst_cell, vv_slice_tup, vv_dm, vv_mx, vv_mn,
  isi_int_int, isi_int_bool, isi_int_tuple, isi_int_str, isi_int_list, isi_bool_int, isi_bool_bool, isi_bool_tuple, isi_bool_str, isi_bool_list, isi_str_int, isi_str_bool, isi_str_tuple, isi_str_str, isi_str_list, isi_none_int, isi_none_bool, isi_none_tuple, isi_none_str, isi_none_list, isi_tuple_int, isi_tuple_bool, isi_tuple_tuple, isi_tuple_str, isi_tuple_list,
  and_true, true_and, and_self, Cell.lst.injEq, items_lst, items_rls, vv_append, vv_isL, Option.some.injEq, exists_eq_left', exists_eq_left, List.map_cons, List.map_nil, List.length_cons, List.length_nil, List.length_map, List.replicate, List.cons_append, List.nil_append, List.getElem?_cons_zero, List.getElem?_cons_succ, List.set_cons_zero, List.set_cons_succ, bindT, atI0, atI1, atI2, atI3, ix41, ix42, ix43, Nat.reduceAdd, Nat.reduceSub, List.set_set, decide_true, decide_false, if_true, if_false, Bool.false_eq_true, decide_eq_true_eq, Bool.not_true, Bool.not_false, wpx_ite, eq_self, wipeP, *])


/-- the exception of a fault -/
def xm (p : Str) (j : Nat) : Exn := ⟨"InvalidMachine", [("place", .int j), ("part", .str p)]⟩
def xw (v : PV) : Exn := ⟨"InvalidWord", [("value", v)]⟩
def mFs (L T En : PV) : List (Str × PV) := [("letters", L), ("table", T), ("ends", En)]
theorem put3 (L T En : PV) : putP "ends" En (putP "table" T (putP "letters" L [])) = mFs L T En := by
  unfold mFs
  have h1 : ¬ (("letters" : Str) = "table") := by decide +kernel
  have h2 : ¬ (("letters" : Str) = "ends") := by decide +kernel
  have h3 : ¬ (("table" : Str) = "ends") := by decide +kernel
  simp only [putP, if_neg h1, if_neg h2, if_neg h3]
section
variable {S : Store} {Q : PV → Store → Prop} {QS : Fl × PEnv → Store → Prop} {E : Exn → Store → Prop} {L T En : PV} {to eo : Option (List PV)} {k : Nat}
theorem okv_optN {r : Option Nat} : Okv S (optN r) := by cases r <;> trivial
theorem isNon_optN {r : Option Nat} : isNonB (optN r) = r.isNone := by cases r <;> rfl
theorem init_is (hk : S[k]? = some (.ins "Machine" [])) (hL : Okv S L) (hT : SeqD S T to) (hr : RowsOk S to) (hE : SeqD S En eo) (he : EndsOk S eo)
    (qok : Flt L to eo none → ∀ xs es, to = some xs → eo = some es → ∀ S', Ext S S' → Q .non (S'.set k (.ins "Machine" (mFs L (.tup xs) (.tup es)))))
    (qbad : ∀ p j, Flt L to eo (some (p, j)) → ∀ S', Ext S S' → E (xm p j) S') : wpx (F_Machine___init__ [.cell k, L, T, En]) S Q E := by
  unfold F_Machine___init__
  refine wp_run ?_
  unfold g_Machine___init__
  simp only [ws_seq, ws_if, wv_or, wv_not, wv_test, wv_chain, wv_args, wv_cons, wv_nil, wv_var, wv_lit, List.map_cons, List.map_nil, List.cons_append, List.nil_append, List.length_cons, List.length_nil, Nat.reduceAdd, Nat.reduceSub, List.replicate, List.getElem?_cons_zero, List.getElem?_cons_succ, Option.some.injEq, exists_eq_left', chkL1, ws_raise, wv_mkX]
  refine whole_is hL ?_
  rw [wv_asB]
  have short : ∀ (p : Str) (j : Nat), p.length ≤ 100 → j ≤ 1000 → xp_S [.str p, .int j] := fun p j hp hj d hd => by
    simp only [List.mem_cons, List.not_mem_nil, or_false] at hd
    rcases hd with rfl | rfl
    · exact .inl ⟨p, rfl, by omega⟩
    · exact .inr ⟨j, rfl, by omega⟩
  have badL : okL L = false → (True ∧ 2 ≤ 900 ∧ xp_S [.str "letters", .int 0]) ∧ E (xm "letters" 0) S := fun h =>
    ⟨⟨trivial, by decide, short "letters" 0 (by decide +kernel) (by omega)⟩, qbad "letters" 0 (.letters h) S (.refl S)⟩
  cases L with
  | int l =>
    simp only [isNum, Bool.not_true, Bool.false_eq_true, if_false, vv_le, wv_asB]
    have two : (decide ((1 : Int) ≤ l) && decide (l ≤ 48)) = true → wps (g_Machine___init___R3 [some (.cell k), some (.int l), some T, some En, none]) S fun r S' => match r.1 with
        | .nx => Q .non S'
        | .rt d => Q d S'
        | .ex c => E c S'
        | _ => False := fun hb => by
      have okl : okL (.int l) = true := hb
      unfold g_Machine___init___R3
      simp only [ws_seq, ws_set, ws_if, wv_test, wv_bin, wv_args, wv_cons, wv_nil, wv_var, wv_lit, List.set_cons_zero, List.set_cons_succ, List.getElem?_cons_zero, List.getElem?_cons_succ, Option.some.injEq, exists_eq_left', chkL2, ws_raise, wv_mkX]
      refine table_is hT hr fun r S1 hr1 e1 => ?_
      rw [vv_notnon okv_optN, isNon_optN, wv_asB]
      cases r with
      | some j =>
        simp only [Option.isNone_some, Bool.not_false, if_true]
        have fl : Flt (.int l) to eo (some ("table", j)) ∧ j ≤ 1000 := by
          cases to with
          | none => cases hr1; exact ⟨.seq okl (.inl rfl), by omega⟩
          | some rows =>
            rcases hr1 with ⟨a, b⟩ | ⟨a, b⟩
            · cases b; exact ⟨.seq okl (.inr (by rw [a])), by omega⟩
            · refine ⟨.row okl rfl rfl a b, ?_⟩
              have := hr.1
              rcases b with ⟨c, _⟩ | ⟨c, _⟩ <;> (rw [List.length_map] at c; omega)
        exact ⟨⟨rfl, by simp, short "table" j (by decide +kernel) fl.2⟩, qbad "table" j fl.1 S1 e1⟩
      | none =>
        simp only [Option.isNone_none, Bool.not_true, Bool.false_eq_true, if_false, ws_nil]
        cases to with
        | none => cases hr1
        | some rows =>
          have h0 : rows ≠ [] ∧ FF (rows.map (isRow l rows.length)) rows.length none := by
            rcases hr1 with ⟨a, b⟩ | h
            · cases b
            · exact h
          have hT' : Holds S T rows := hT
          have rl := hr.1
          unfold g_Machine___init___R2
          simp only [ws_seq, ws_set, ws_if, wv_test, wv_bin, wv_args, wv_cons, wv_nil, wv_var, wv_lit, List.set_cons_zero, List.set_cons_succ, List.getElem?_cons_zero, List.getElem?_cons_succ, Option.some.injEq, exists_eq_left', chkL2, ws_raise, wv_mkX]
          refine holds_len (hT'.ext e1) ?_
          refine ends_is rl (hE.ext e1) (he.ext e1) fun r S2 hr2 e2 => ?_
          rw [vv_notnon okv_optN, isNon_optN, wv_asB]
          have e := e1.trans e2
          cases r with
          | some j =>
            simp only [Option.isNone_some, Bool.not_false, if_true]
            have fl : Flt (.int l) (some rows) eo (some ("ends", j)) ∧ j ≤ 1000 := by
              cases eo with
              | none => cases hr2; exact ⟨.eseq okl rfl rfl h0.1 h0.2 rfl, by omega⟩
              | some es =>
                refine ⟨.bit okl rfl rfl h0.1 h0.2 rfl hr2, ?_⟩
                rcases hr2 with ⟨c, _⟩ | ⟨c, _⟩ <;> (rw [List.length_map] at c; omega)
            exact ⟨⟨rfl, by simp, short "ends" j (by decide +kernel) fl.2⟩, qbad "ends" j fl.1 S2 e⟩
          | none =>
            simp only [Option.isNone_none, Bool.not_true, Bool.false_eq_true, if_false, ws_nil]
            cases eo with
            | none => cases hr2
            | some es =>
              have hE' : Holds S En es := hE
              have hk2 := e.get hk
              have kl := (List.getElem?_eq_some_iff.mp hk2).1
              have fin := qok (.ok okl rfl rfl h0.1 h0.2 rfl hr2) rows es rfl rfl S2 e
              have keepH : ∀ {v : PV} {zs : List PV} {c : Cell}, Holds S v zs → Holds (S2.set k c) v zs := fun {v zs c} h => by
                rcases h with rfl | ⟨n, rfl, n2, hn⟩
                · exact .inl rfl
                · refine .inr ⟨n, rfl, n2, ?_⟩
                  have hn2 := e.get hn
                  by_cases z : k = n
                  · subst z; rw [hk] at hn; cases hn
                  · rw [List.getElem?_set_ne z]; exact hn2
              unfold g_Machine___init___R1
              simp only [ws_seq, ws_fld, wv_args, wv_cons, wv_nil, wv_var, List.getElem?_cons_zero, List.getElem?_cons_succ, Option.some.injEq, exists_eq_left']
              rw [vv_setF hk2 (by simp)]
              refine holds_tup (keepH hT') ?_
              rw [vv_setF (List.getElem?_set_self kl) (by simp [putP])]
              rw [List.set_set]
              refine holds_tup (keepH hE') ?_
              have l2 : k < (S2.set k (.ins "Machine" (putP "table" (.tup rows) (putP "letters" (.int l) [])))).length := by rw [List.length_set]; exact kl
              rw [vv_setF (List.getElem?_set_self kl) (by
                have h1 : ¬ (("letters" : Str) = "table") := by decide +kernel
                simp only [putP, if_neg h1, List.length_cons, List.length_nil]; omega)]
              rw [List.set_set, put3]
              exact fin
    by_cases z1 : (1 : Int) ≤ l
    · simp only [decide_eq_true z1, if_true]
      by_cases z2 : l ≤ 48
      · simp only [decide_eq_true z2, Bool.not_true, Bool.false_eq_true, if_false, ws_nil]
        exact two (by simp [z1, z2])
      · simp only [decide_eq_false z2, Bool.not_false, if_true]
        exact badL (by simp [okL, z2])
    · simp only [decide_eq_false z1, Bool.false_eq_true, if_false, wv_asB, Bool.not_false, if_true]
      exact badL (by simp [okL, z1])
  | _ =>
    simp only [isNum, Bool.not_false, if_true]
    exact badL rfl
theorem make_is (hL : Okv S L) (hT : SeqD S T to) (hr : RowsOk S to) (hE : SeqD S En eo) (he : EndsOk S eo)
    (qok : Flt L to eo none → ∀ xs es, to = some xs → eo = some es → ∀ S', Ext S S' → S'[S.length]? = some (.ins "Machine" (mFs L (.tup xs) (.tup es))) → Q (.cell S.length) S')
    (qbad : ∀ p j, Flt L to eo (some (p, j)) → ∀ S', Ext S S' → E (xm p j) S') : wpx (mkI 3 "Machine" F_Machine___init__ [L, T, En]) S Q E := by
  refine (wv_mkI (np := 3) rfl).mpr ?_
  have e0 : Ext S (S ++ [.ins "Machine" []]) := .snoc _ _
  refine init_is (by simp) (hL.ext e0) (hT.ext e0) (hr.ext e0) (hE.ext e0) (he.ext e0) (fun fl xs es h1 h2 S' e => ⟨rfl, ?_⟩) fun p j fl S' e => qbad p j fl S' (e0.trans e)
  refine qok fl xs es h1 h2 _ ((e0.trans e).put (Nat.le_refl _) _) ?_
  have h3 : S'[S.length]? = some (.ins "Machine" []) := e.get (by simp)
  exact List.getElem?_set_self (List.getElem?_eq_some_iff.mp h3).1
end
end KK

namespace KK
open PySem PySem.Spec PyProof.Rows L2 DL PySem.W
open Classical
local macro_rules | `(tactic| walk_at "dw") => `(tactic| try simp only [ws_seq, ws_nil, ws_retN, ws_bk, ws_ct, ws_expr, ws_ret, ws_set, ws_if, ws_asg, ws_sub, ws_aug, ws_for, ws_thru, ws_no, ws_raise, wv_mkX, wv_var, wv_lit, wv_bin, wv_un, wv_nil, wv_cons, wv_args, wv_test, wv_asB, wv_and, wv_or, wv_not, wv_andV, wv_orV, wv_notV, wv_if, wv_chain,
  wv_noPart, wv_part, wv_asI, wv_slice, wv_mkTup, wv_mkLst, wv_methL, wsr_args, wsr_range1, wsr_range2, wsr_seq, wsr_tup, wsr_rev, wsr_zip, vv_rev_tup, wv_lc, wpx_ret, wpx_optM, tTrue, chkL1, chkL2, chkL3, chkL4,
  vv_add_int, vv_add_tup, vv_sub, vv_mul, vv_mulA_int, vv_div, vv_mod, vv_pow, vv_neg, vv_gt, vv_ge, vv_le, vv_lt, vv_eq_int, vv_ne_int, vv_eq_bl, vv_ne_bl, eqA_int, neA_int, eqA_bl, neA_bl, eqA_tup, neA_tup, eqA_cell, neA_cell, eqA_non, neA_non, vv_eqA_str, vv_neA_str, vv_ix_tup, vv_ix_cell, vv_set, vv_len_tup, vv_len_cell, vv_abs, vv_int_int, vv_int_bl, vv_tup_tup, vv_tup_cell, vv_lst_tup, vv_lst_cell, vv_slice_tup, vv_dm, vv_mx, vv_mn,
  isi_int_int, isi_int_bool, isi_int_tuple, isi_int_str, isi_int_list, isi_bool_int, isi_bool_bool, isi_bool_tuple, isi_bool_str, isi_bool_list, isi_str_int, isi_str_bool, isi_str_tuple, isi_str_str, isi_str_list, isi_none_int, isi_none_bool, isi_none_tuple, isi_none_str, isi_none_list, isi_tuple_int, isi_tuple_bool, isi_tuple_tuple, isi_tuple_str, isi_tuple_list,
  and_true, true_and, and_self, Cell.lst.injEq, items_lst, items_rls, vv_append, vv_isL, Option.some.injEq, exists_eq_left', exists_eq_left, List.map_cons, List.map_nil, List.length_cons, List.length_nil, List.length_map, List.replicate, List.cons_append, List.nil_append, List.getElem?_cons_zero, List.getElem?_cons_succ, List.set_cons_zero, List.set_cons_succ, bindT, atI0, atI1, atI2, atI3, ix41, ix42, ix43, Nat.reduceAdd, Nat.reduceSub, List.set_set, decide_true, decide_false, if_true, if_false, Bool.false_eq_true, decide_eq_true_eq, Bool.not_true, Bool.not_false, wpx_ite, eq_self, wipeP, *])


open PVal (pv)
theorem ex_of_wpx {β : Type} {m : M β} {S : Store} {P : β → Store → Prop} (h : wpx m S P fun _ _ => False) : ∃ b S', m S = .ok b S' ∧ P b S' := by
  unfold wpx at h
  cases q : m S with
  | ok c S' => rw [q] at h; exact ⟨c, S', rfl, h⟩
  | ex c S' => rw [q] at h; exact h.elim
  | bad => rw [q] at h; exact h.elim
section
variable {S : Store} {Q : PV → Store → Prop} {QT : (String ⊕ Str) → Store → Prop} {E : Exn → Store → Prop} {y : PV} {n k : Nat} {cn : Str} {fs : List (Str × PV)} {F : FD}
theorem wv_tyC_ins (h : S[n]? = some (.ins cn fs)) (q : QT (.inr cn) S) : wpx (tyC (.cell n)) S QT E := by
  have e : tyC (.cell n) S = .ok (.inr cn) S := by
    show getC n _ S = _
    simp only [getC, h]
    rfl
  exact (wpx_eq e).mpr q
theorem wv_tyC (h : Okv S y) (q : ∀ t, QT (.inl t) S) : wpx (tyC y) S QT E := by
  cases y with
  | con u => exact h.elim
  | cell n =>
    obtain ⟨xs, hn⟩ := h
    have e : tyC (.cell n) S = .ok (.inl "list") S := by
      show getC n _ S = _
      simp only [getC, hn, tyM, items_lst]
      rw [if_pos (by decide +kernel)]; rfl
    exact (wpx_eq e).mpr (q _)
  | tup xs =>
    have e : tyC (.tup xs) S = .ok (.inl "tuple") S := by
      show (if "tuple" ∈ sixT then M.ret (Sum.inl "tuple") else M.bad) S = _
      rw [if_pos (by decide +kernel)]; rfl
    exact (wpx_eq e).mpr (q _)
  | non =>
    have e : tyC .non S = .ok (.inl "NoneType") S := by
      show (if "NoneType" ∈ sixT then M.ret (Sum.inl "NoneType") else M.bad) S = _
      rw [if_pos (by decide +kernel)]; rfl
    exact (wpx_eq e).mpr (q _)
  | bl b =>
    have e : tyC (.bl b) S = .ok (.inl "bool") S := by
      show (if "bool" ∈ sixT then M.ret (Sum.inl "bool") else M.bad) S = _
      rw [if_pos (by decide +kernel)]; rfl
    exact (wpx_eq e).mpr (q _)
  | int b =>
    have e : tyC (.int b) S = .ok (.inl "int") S := by
      show (if "int" ∈ sixT then M.ret (Sum.inl "int") else M.bad) S = _
      rw [if_pos (by decide +kernel)]; rfl
    exact (wpx_eq e).mpr (q _)
  | str b =>
    have e : tyC (.str b) S = .ok (.inl "str") S := by
      show (if "str" ∈ sixT then M.ret (Sum.inl "str") else M.bad) S = _
      rw [if_pos (by decide +kernel)]; rfl
    exact (wpx_eq e).mpr (q _)
theorem vv_isC_yes {ds : List Str} (h : S[n]? = some (.ins cn fs)) (q : Q (.bl true) S) : wpx (isIC cn ds (.cell n)) S Q E := by
  unfold isIC
  rw [wpx_bind]
  refine wv_tyC_ins h ?_
  simp only [if_true]
  exact q
theorem vv_isC_no {ds : List Str} (h : Okv S y) (q : Q (.bl false) S) : wpx (isIC cn ds y) S Q E := by
  unfold isIC
  rw [wpx_bind]
  exact wv_tyC h fun t => q
theorem vv_lenC (h : S[n]? = some (.ins cn fs)) (z : wpx (F [.cell n]) S (fun v S' => ∃ i : Int, v = .int i ∧ 0 ≤ i ∧ i < 2 ^ 63 ∧ Q (.int i) S') fun _ _ => False) : wpx (lenIC cn F (.cell n)) S Q E := by
  obtain ⟨v, S', e, i, rfl, i0, i1, q⟩ := ex_of_wpx z
  have e2 : lenIC cn F (.cell n) S = .ok (.int i) S' := by
    show getC n _ S = _
    simp only [getC, h, if_true, e, noEx, Out.bind]
    rw [if_pos ⟨i0, i1⟩]; rfl
  exact (wpx_eq e2).mpr q
theorem vv_eqC (h : S[n]? = some (.ins cn fs)) (hy : Okv S y ∨ ∃ k gs, y = .cell k ∧ S[k]? = some (.ins cn gs)) (z : wpx (F [.cell n, y]) S (fun v S' => ∃ b, v = .bl b ∧ Q (.bl b) S') fun _ _ => False) : wpx (eqIC cn [] F (.cell n) y) S Q E := by
  obtain ⟨v, S', e, b, rfl, q⟩ := ex_of_wpx z
  have t : ∃ t, tyC y S = .ok t S ∧ (∀ D, t = .inr D → D = cn) := by
    rcases hy with hy | ⟨k, gs, rfl, hk⟩
    · obtain ⟨t, S1, e1, rfl, h1⟩ := ex_of_wpx (wv_tyC (QT := fun t S' => S' = S ∧ ∀ D, t = .inr D → D = cn) (E := fun _ _ => False) hy fun t => ⟨rfl, fun D h => nomatch h⟩)
      exact ⟨t, e1, h1⟩
    · obtain ⟨t, S1, e1, rfl, h1⟩ := ex_of_wpx (wv_tyC_ins (QT := fun t S' => S' = S ∧ ∀ D, t = .inr D → D = cn) (E := fun _ _ => False) hk ⟨rfl, fun D h => by cases h; rfl⟩)
      exact ⟨t, e1, h1⟩
  obtain ⟨t, et, ht⟩ := t
  have e2 : eqIC cn [] F (.cell n) y S = .ok (.bl b) S' := by
    show getC n _ S = _
    simp only [getC, h, if_true]
    show (tyC y S).bind _ = _
    rw [et]
    cases t with
    | inl T => simp only [Out.bind, e, noEx]; rfl
    | inr D =>
      have hD := ht D rfl
      subst hD
      simp only [Out.bind, true_or, if_true, e, noEx]; rfl
  exact (wpx_eq e2).mpr q
end
/-! machines as data -/
def rowP (r : List (Option Int)) : PV := .tup (r.map pv)
def tabP (rows : List (List (Option Int))) : PV := .tup (rows.map rowP)
structure Wf (l : Int) (rows : List (List (Option Int))) (es : List Int) : Prop where
  l1 : 1 ≤ l
  l2 : l ≤ 8
  n1 : 1 ≤ rows.length
  n2 : rows.length ≤ 12
  row : ∀ r ∈ rows, (r.length : Int) = l ∧ ∀ o ∈ r, ∀ i, o = some i → 0 ≤ i ∧ i < rows.length
  el : es.length = rows.length
  bit : ∀ e ∈ es, e = 0 ∨ e = 1
def stepM (rows : List (List (Option Int))) (o : Option Int) (x : Int) : Option Int := match o with
  | none => none
  | some s => (rows.getD s.toNat []).getD x.toNat none
def afterM (rows : List (List (Option Int))) (ws : List Int) : Option Int := ws.foldl (stepM rows) (some 0)
def takesM (rows : List (List (Option Int))) (es ws : List Int) : Bool := match afterM rows ws with
  | none => false
  | some s => decide (es.getD s.toNat 0 = 1)
def Let (l : Int) (ws : List Int) : Prop := ∀ x ∈ ws, 0 ≤ x ∧ x < l
/-- a state of it, or None -/
def InM (rows : List (List (Option Int))) (o : Option Int) : Prop := ∀ i, o = some i → 0 ≤ i ∧ i < rows.length
section
variable {S : Store} {Q : PV → Store → Prop} {QS : Fl × PEnv → Store → Prop} {E : Exn → Store → Prop} {l : Int} {rows : List (List (Option Int))} {es ws : List Int} {k : Nat} {v : PV}
theorem pv_none : (pv (none : Option Int)) = PV.non := rfl
theorem pv_some {i : Int} : (pv (some i : Option Int)) = PV.int i := rfl
theorem okv_opt {o : Option Int} : Okv S (pv o) := by cases o <;> trivial
theorem isNon_opt {o : Option Int} : isNonB (pv o) = o.isNone := by cases o <;> rfl
theorem row_at {s : Int} (h0 : 0 ≤ s) (h1 : s < rows.length) : L2.atI (rows.map rowP) s = some (rowP (rows.getD s.toNat [])) ∧ rows.getD s.toNat [] ∈ rows := by
  have hl : s.toNat < rows.length := by omega
  have e : rows.getD s.toNat [] = rows[s.toNat] := by rw [List.getD_eq_getElem?_getD, List.getElem?_eq_getElem hl]; rfl
  rw [e, atI_pos h0, List.getElem?_map, List.getElem?_eq_getElem hl]
  exact ⟨rfl, List.getElem_mem _⟩
theorem opt_at {r : List (Option Int)} {x : Int} (h0 : 0 ≤ x) (h1 : x < r.length) : L2.atI (r.map (pv (α := Option Int))) x = some (pv (r.getD x.toNat none)) ∧ r.getD x.toNat none ∈ r := by
  have hl : x.toNat < r.length := by omega
  have e : r.getD x.toNat none = r[x.toNat] := by rw [List.getD_eq_getElem?_getD, List.getElem?_eq_getElem hl]; rfl
  rw [e, atI_pos h0, List.getElem?_map, List.getElem?_eq_getElem hl]
  exact ⟨rfl, List.getElem_mem _⟩
theorem end_at {s : Int} (h0 : 0 ≤ s) (h1 : s < es.length) : L2.atI (es.map PV.int) s = some (.int (es.getD s.toNat 0)) ∧ es.getD s.toNat 0 ∈ es := by
  have hl : s.toNat < es.length := by omega
  have e : es.getD s.toNat 0 = es[s.toNat] := by rw [List.getD_eq_getElem?_getD, List.getElem?_eq_getElem hl]; rfl
  rw [e, atI_pos h0, List.getElem?_map, List.getElem?_eq_getElem hl]
  exact ⟨rfl, List.getElem_mem _⟩
theorem Wf.step (W : Wf l rows es) {s x : Int} (hs : 0 ≤ s ∧ s < rows.length) (hx : 0 ≤ x ∧ x < l) :
    L2.atI (rows.map rowP) s = some (rowP (rows.getD s.toNat [])) ∧ L2.atI ((rows.getD s.toNat []).map (pv (α := Option Int))) x = some (pv (stepM rows (some s) x)) ∧ InM rows (stepM rows (some s) x) := by
  obtain ⟨h1, h2⟩ := row_at hs.1 hs.2
  obtain ⟨h3, h4⟩ := W.row _ h2
  obtain ⟨h5, h6⟩ := opt_at (r := rows.getD s.toNat []) hx.1 (by omega)
  exact ⟨h1, h5, h4 _ h6⟩
theorem step_none (rows : List (List (Option Int))) : ∀ ws : List Int, ws.foldl (stepM rows) none = none
  | [] => rfl
  | _ :: ws => step_none rows ws
theorem isWd_let (h : Let l ws) : isWd l (tupI ws) = true := by
  show (ws.map PV.int).all (isLet l) = true
  rw [List.all_map, List.all_eq_true]
  intro x hx
  obtain ⟨h0, h1⟩ := h x hx
  show (decide (0 ≤ x) && decide (x < l)) = true
  rw [decide_eq_true h0, decide_eq_true h1]; rfl
theorem okw_tupI (h : ws.length ≤ 1000) : Okw S (tupI ws) := ⟨by rw [List.length_map]; exact h, fun x hx => by
  obtain ⟨n, _, rfl⟩ := List.mem_map.mp hx; trivial⟩
theorem look_letters {L T En : PV} : (mFs L T En).lookup ("letters" : Str) = some L := by unfold mFs; simp only [List.lookup_cons, beq_self_eq_true]
theorem look_table {L T En : PV} : (mFs L T En).lookup ("table" : Str) = some T := by
  unfold mFs
  rw [List.lookup_cons, show (("table" : Str) == "letters") = false from by decide +kernel]
  simp only [List.lookup_cons, beq_self_eq_true]
theorem look_ends {L T En : PV} : (mFs L T En).lookup ("ends" : Str) = some En := by
  unfold mFs
  rw [List.lookup_cons, show (("ends" : Str) == "letters") = false from by decide +kernel]
  simp only [List.lookup_cons]
  rw [show (("ends" : Str) == "table") = false from by decide +kernel]
  simp only [beq_self_eq_true]
theorem look_after {L T En : PV} : (mFs L T En).lookup ("state_after" : Str) = none := by
  unfold mFs
  simp only [List.lookup_cons, show (("state_after" : Str) == "letters") = false from by decide +kernel, show (("state_after" : Str) == "table") = false from by decide +kernel, show (("state_after" : Str) == "ends") = false from by decide +kernel, List.lookup_nil]
theorem look_takes {L T En : PV} : (mFs L T En).lookup ("takes" : Str) = none := by
  unfold mFs
  simp only [List.lookup_cons, show (("takes" : Str) == "letters") = false from by decide +kernel, show (("takes" : Str) == "table") = false from by decide +kernel, show (("takes" : Str) == "ends") = false from by decide +kernel, List.lookup_nil]
/-- the machine at k -/
def MaAt (S : Store) (k : Nat) (l : Int) (rows : List (List (Option Int))) (es : List Int) : Prop := S[k]? = some (.ins "Machine" (mFs (.int l) (tabP rows) (tupI es)))
theorem after_in (W : Wf l rows es) (hw : Let l ws) : InM rows (afterM rows ws) := by
  have key : ∀ (ws : List Int) (o : Option Int), Let l ws → InM rows o → InM rows (ws.foldl (stepM rows) o) := by
    intro ws
    induction ws with
    | nil => exact fun o _ h => h
    | cons x ws ih =>
      intro o hw ho
      refine ih _ (fun y hy => hw y (List.mem_cons_of_mem _ hy)) ?_
      cases o with
      | none => exact fun i h => nomatch h
      | some s => exact (W.step (ho s rfl) (hw x List.mem_cons_self)).2.2
  exact key ws (some 0) hw fun i h => by cases h; have := W.n1; exact ⟨by omega, by omega⟩
/-! the law's own walk -/
end
end KK

/-! words in order, and the first ones of a kind -/
namespace KK
/-- lesser, of words as long -/
def lx : List Int → List Int → Prop
  | a :: as, b :: bs => a < b ∨ (a = b ∧ lx as bs)
  | _, _ => False
/-- shorter, or as long and lesser -/
def sl (a b : List Int) : Prop := a.length < b.length ∨ (a.length = b.length ∧ lx a b)
theorem lx_irr : ∀ a, ¬ lx a a
  | [], h => h
  | x :: a, h => by
    rcases h with h | ⟨_, h⟩
    · omega
    · exact lx_irr a h
theorem lx_trans : ∀ {a b c : List Int}, lx a b → lx b c → lx a c
  | x :: a, y :: b, z :: c, h1, h2 => by
    rcases h1 with h1 | ⟨e1, h1⟩ <;> rcases h2 with h2 | ⟨e2, h2⟩
    · exact .inl (by omega)
    · exact .inl (by omega)
    · exact .inl (by omega)
    · exact .inr ⟨by omega, lx_trans h1 h2⟩
  | [], _, _, h1, _ => h1.elim
  | _ :: _, [], _, h1, _ => h1.elim
  | _ :: _, _ :: _, [], _, h2 => h2.elim
theorem lx_tri : ∀ {a b : List Int}, a.length = b.length → lx a b ∨ a = b ∨ lx b a
  | [], [], _ => .inr (.inl rfl)
  | x :: a, y :: b, h => by
    rw [List.length_cons, List.length_cons] at h
    rcases Int.lt_trichotomy x y with q | q | q
    · exact .inl (.inl q)
    · rcases lx_tri (a := a) (b := b) (by omega) with r | r | r
      · exact .inl (.inr ⟨q, r⟩)
      · exact .inr (.inl (by rw [q, r]))
      · exact .inr (.inr (.inr ⟨q.symm, r⟩))
    · exact .inr (.inr (.inl q))
  | [], _ :: _, h => by cases h
  | _ :: _, [], h => by cases h
theorem lx_snoc : ∀ {a b : List Int} (x y : Int), a.length = b.length → lx a b → lx (a ++ [x]) (b ++ [y])
  | p :: a, q :: b, x, y, h, hl => by
    rcases hl with r | ⟨e, r⟩
    · exact .inl r
    · exact .inr ⟨e, lx_snoc x y (by simpa using h) r⟩
  | [], _, _, _, _, h => h.elim
  | _ :: _, [], _, _, _, h => h.elim
theorem lx_last : ∀ (a : List Int) {x y : Int}, x < y → lx (a ++ [x]) (a ++ [y])
  | [], _, _, h => .inl h
  | _ :: a, _, _, h => .inr ⟨rfl, lx_last a h⟩
theorem sl_irr (a : List Int) : ¬ sl a a := fun h => by
  rcases h with h | ⟨_, h⟩
  · omega
  · exact lx_irr a h
theorem sl_trans {a b c : List Int} (h1 : sl a b) (h2 : sl b c) : sl a c := by
  rcases h1 with h1 | ⟨e1, h1⟩ <;> rcases h2 with h2 | ⟨e2, h2⟩
  · exact .inl (by omega)
  · exact .inl (by omega)
  · exact .inl (by omega)
  · exact .inr ⟨by omega, lx_trans h1 h2⟩
theorem sl_tri (a b : List Int) : sl a b ∨ a = b ∨ sl b a := by
  rcases Nat.lt_trichotomy a.length b.length with q | q | q
  · exact .inl (.inl q)
  · rcases lx_tri q with r | r | r
    · exact .inl (.inr ⟨q, r⟩)
    · exact .inr (.inl r)
    · exact .inr (.inr (.inr ⟨q.symm, r⟩))
  · exact .inr (.inr (.inl q))
theorem sl_snoc {a b : List Int} (x : Int) (h : sl a b) : sl (a ++ [x]) (b ++ [x]) := by
  rcases h with h | ⟨e, h⟩
  · exact .inl (by simp; omega)
  · exact .inr ⟨by simp [e], lx_snoc x x e h⟩
theorem sl_len {a b : List Int} (h : sl a b) : a.length ≤ b.length := by
  rcases h with h | ⟨h, _⟩ <;> omega
/-! lists -/
theorem nodup_sub {β : Type} : ∀ {es xs : List β}, es.Nodup → (∀ e ∈ es, e ∈ xs) → es.length ≤ xs.length
  | [], _, _, _ => Nat.zero_le _
  | e :: es, xs, hn, hs => by
    obtain ⟨l1, l2, rfl⟩ := List.append_of_mem (hs e List.mem_cons_self)
    rw [List.nodup_cons] at hn
    have h := nodup_sub (es := es) (xs := l1 ++ l2) hn.2 fun d hd => by
      rcases List.mem_append.mp (hs d (List.mem_cons_of_mem _ hd)) with h | h
      · exact List.mem_append_left _ h
      · rcases List.mem_cons.mp h with rfl | h
        · exact absurd hd hn.1
        · exact List.mem_append_right _ h
    rw [List.length_append] at h ⊢
    rw [List.length_cons, List.length_cons]; omega
abbrev Srt (R : List (List Int)) : Prop := R.Pairwise sl
theorem srt_nodup {R : List (List Int)} (h : Srt R) : R.Nodup := h.imp fun {a b} q e => by subst e; exact sl_irr a q
theorem srt_eq : ∀ {R R' : List (List Int)}, Srt R → Srt R' → (∀ v, v ∈ R ↔ v ∈ R') → R = R'
  | [], [], _, _, _ => rfl
  | [], b :: R', _, _, h => by have := (h b).mpr List.mem_cons_self; cases this
  | a :: R, [], _, _, h => by have := (h a).mp List.mem_cons_self; cases this
  | a :: R, b :: R', h1, h2, h => by
    rw [Srt, List.pairwise_cons] at h1 h2
    have e : a = b := by
      rcases List.mem_cons.mp ((h a).mp List.mem_cons_self) with q | q
      · exact q
      · rcases List.mem_cons.mp ((h b).mpr List.mem_cons_self) with r | r
        · exact r.symm
        · exact absurd (sl_trans (h1.1 b r) (h2.1 a q)) (sl_irr a)
    subst e
    rw [srt_eq h1.2 h2.2 fun v => ⟨fun hv => by
      rcases List.mem_cons.mp ((h v).mp (List.mem_cons_of_mem _ hv)) with q | q
      · subst q; exact absurd (h1.1 v hv) (sl_irr v)
      · exact q, fun hv => by
      rcases List.mem_cons.mp ((h v).mpr (List.mem_cons_of_mem _ hv)) with q | q
      · subst q; exact absurd (h2.1 v hv) (sl_irr v)
      · exact q⟩]
/-- R: the first ones of a kind, at most so many -/
structure Fst (P : List Int → Prop) (m : Nat) (R : List (List Int)) : Prop where
  srt : Srt R
  all : ∀ v ∈ R, P v
  len : R.length ≤ m
  out : ∀ u, P u → u ∉ R → R.length = m ∧ ∀ v ∈ R, sl v u
theorem Fst.sub {P : List Int → Prop} {m : Nat} {R R' : List (List Int)} (h : Fst P m R) (h' : Fst P m R') : ∀ v ∈ R, v ∈ R' := fun u hu => by
  apply Classical.byContradiction
  intro no
  obtain ⟨l', a'⟩ := h'.out u (h.all u hu) no
  have sub : ∀ v ∈ R', v ∈ R := fun v hv => by
    apply Classical.byContradiction
    intro n2
    exact sl_irr u (sl_trans ((h.out v (h'.all v hv) n2).2 u hu) (a' v hv))
  have := nodup_sub (es := u :: R') (xs := R) (List.nodup_cons.mpr ⟨no, srt_nodup h'.srt⟩) fun v hv => by
    rcases List.mem_cons.mp hv with rfl | hv
    · exact hu
    · exact sub v hv
  have := h.len
  simp at *; omega
theorem Fst.one {P : List Int → Prop} {m : Nat} {R R' : List (List Int)} (h : Fst P m R) (h' : Fst P m R') : R = R' := srt_eq h.srt h'.srt fun v => ⟨h.sub h' v, h'.sub h v⟩
theorem Fst.take {P : List Int → Prop} {m j : Nat} {R : List (List Int)} (h : Fst P m R) (hj : j ≤ m) : Fst P j (R.take j) := by
  refine ⟨h.srt.sublist (List.take_sublist _ _), fun v hv => h.all v (List.mem_of_mem_take hv), by rw [List.length_take]; omega, fun u hu no => ?_⟩
  by_cases hm : u ∈ R
  · obtain ⟨i, hi, e⟩ := List.getElem_of_mem hm
    have ji : j ≤ i := by
      apply Classical.byContradiction
      intro z
      exact no (by rw [← e]; exact List.mem_take_iff_getElem.mpr ⟨i, by omega, rfl⟩)
    refine ⟨by rw [List.length_take]; omega, fun v hv => ?_⟩
    obtain ⟨i', hi', e'⟩ := List.mem_take_iff_getElem.mp hv
    have := List.pairwise_iff_getElem.mp h.srt i' i (by omega) hi (by omega)
    rw [e, e'] at this; exact this
  · obtain ⟨a, b⟩ := h.out u hu hm
    exact ⟨by rw [List.length_take]; omega, fun v hv => b v (List.mem_of_mem_take hv)⟩
end KK

/-! what a machine takes beside a word; the words that a search by lengths keeps -/
namespace KK
structure Mc where
  rows : List (List (Option Int))
  es : List Int
  l : Int
  ws : List Int
namespace Mc
variable (A : Mc)
def lft (i : Nat) : Int := (A.ws[i]?).getD A.l
def stp (s : Int) (i : Nat) (y : Int) : Option Int := stepM A.rows (some s) (A.lft i * (A.l + 1) + y)
def stw : Int → Nat → List Int → Option Int
  | s, _, [] => some s
  | s, i, y :: v => (A.stp s i y).bind fun t => stw t (i + 1) v
def finN : Nat → Int → Nat → Bool
  | 0, s, _ => decide (A.es.getD s.toNat 0 = 1)
  | k + 1, s, i => match A.stp s i A.l with
    | none => false
    | some t => finN k t (i + 1)
def fin (s : Int) (i : Nat) : Bool := A.finN (A.ws.length - i) s i
def acc (v : List Int) : Bool := match A.stw 0 0 v with
  | none => false
  | some s => A.fin s v.length
def Acc (v : List Int) : Prop := Let A.l v ∧ A.acc v = true
def pl (i : Nat) : Nat := min i A.ws.length
variable {A}
theorem lft_pl {i j : Nat} (h : A.pl i = A.pl j) : A.lft i = A.lft j := by
  unfold pl at h
  by_cases p : i < A.ws.length
  · have : i = j := by omega
    rw [this]
  · unfold lft
    rw [List.getElem?_eq_none (by omega), List.getElem?_eq_none (by omega)]
theorem stp_pl {s y : Int} {i j : Nat} (h : A.pl i = A.pl j) : A.stp s i y = A.stp s j y := by unfold stp; rw [lft_pl h]
theorem fin_pl {s : Int} {i j : Nat} (h : A.pl i = A.pl j) : A.fin s i = A.fin s j := by
  unfold pl at h
  by_cases p : i < A.ws.length
  · have : i = j := by omega
    rw [this]
  · unfold fin
    rw [show A.ws.length - i = 0 by omega, show A.ws.length - j = 0 by omega]; rfl
theorem stw_app : ∀ (u : List Int) {v : List Int} {s : Int} {i : Nat}, A.stw s i (u ++ v) = (A.stw s i u).bind fun t => A.stw t (i + u.length) v
  | [], v, s, i => rfl
  | x :: u, v, s, i => by
    show (A.stp s i x).bind _ = ((A.stp s i x).bind _).bind _
    cases A.stp s i x with
    | none => rfl
    | some t =>
      show A.stw t (i + 1) (u ++ v) = (A.stw t (i + 1) u).bind _
      rw [stw_app u, List.length_cons, show i + 1 + u.length = i + (u.length + 1) by omega]
theorem stw_snoc {u : List Int} {y s : Int} {i : Nat} : A.stw s i (u ++ [y]) = (A.stw s i u).bind fun t => A.stp t (i + u.length) y := by
  rw [stw_app]
  cases A.stw s i u with
  | none => rfl
  | some t =>
    show (A.stp t (i + u.length) y).bind (fun t => some t) = A.stp t (i + u.length) y
    cases A.stp t (i + u.length) y <;> rfl
end Mc
theorem snoc_cases : ∀ u : List Int, u = [] ∨ ∃ v y, u = v ++ [y]
  | [] => .inl rfl
  | x :: u => by
    rcases snoc_cases u with rfl | ⟨v, y, rfl⟩
    · exact .inr ⟨[], x, rfl⟩
    · exact .inr ⟨x :: v, y, rfl⟩
abbrev En := List Int × Int
/-- so many kept ones ahead of u, of its place and state -/
def Many (A : Mc) (m : Nat) (K : List En) (u : List Int) (t : Int) : Prop := ∃ es : List En, es.length = m ∧ es.Nodup ∧ ∀ e ∈ es, e ∈ K ∧ e.2 = t ∧ A.pl e.1.length = A.pl u.length ∧ sl e.1 u
theorem Many.mono {A : Mc} {m : Nat} {K K' : List En} {u : List Int} {t : Int} (h : Many A m K u t) (s : ∀ e ∈ K, e ∈ K') : Many A m K' u t := let ⟨es, h1, h2, h3⟩ := h; ⟨es, h1, h2, fun e he => ⟨s e (h3 e he).1, (h3 e he).2⟩⟩
def Step (A : Mc) (m : Nat) (K : List En) (e : En) (y : Int) : Prop := ∀ t, A.stp e.2 e.1.length y = some t → (e.1 ++ [y], t) ∈ K ∨ Many A m K (e.1 ++ [y]) t
def Done (A : Mc) (m : Nat) (K : List En) (e : En) : Prop := ∀ y, 0 ≤ y → y < A.l → Step A m K e y
theorem Step.mono {A : Mc} {m : Nat} {K K' : List En} {e : En} {y : Int} (h : Step A m K e y) (s : ∀ e ∈ K, e ∈ K') : Step A m K' e y := fun t ht => (h t ht).imp (s _) fun q => q.mono s
theorem Done.mono {A : Mc} {m : Nat} {K K' : List En} {e : En} (h : Done A m K e) (s : ∀ e ∈ K, e ∈ K') : Done A m K' e := fun y a b => (h y a b).mono s
structure Kp (A : Mc) (K : List En) : Prop where
  st : ∀ e ∈ K, Let A.l e.1 ∧ A.stw 0 0 e.1 = some e.2
  srt : K.Pairwise fun a b => sl a.1 b.1
  base : ([], 0) ∈ K
theorem Kp.fst_inj {A : Mc} {K : List En} (h : Kp A K) {a b : En} (ha : a ∈ K) (hb : b ∈ K) (e : a.1 = b.1) : a = b := by
  have h1 := (h.st a ha).2
  have h2 := (h.st b hb).2
  rw [e, h2] at h1
  exact Prod.ext e (Option.some.inj h1).symm
theorem pl_succ {A : Mc} {i j : Nat} (h : A.pl i = A.pl j) : A.pl (i + 1) = A.pl (j + 1) := by unfold Mc.pl at *; omega
/-- each word is kept, or so many ahead of it are -/
theorem kept_all {A : Mc} {m k : Nat} {K : List En} (hK : Kp A K) (hD : ∀ e ∈ K, e.1.length < k → Done A m K e) : ∀ (n : Nat) (u : List Int), u.length = n → Let A.l u → n ≤ k → ∀ t, A.stw 0 0 u = some t → (u, t) ∈ K ∨ Many A m K u t := by
  intro n
  induction n with
  | zero =>
    intro u hu _ _ t ht
    have : u = [] := List.eq_nil_of_length_eq_zero hu
    subst this
    cases ht
    exact .inl hK.base
  | succ n ih =>
    intro u hu hL hk t ht
    rcases snoc_cases u with rfl | ⟨v, y, rfl⟩
    · cases hu
    · rw [List.length_append, List.length_singleton] at hu
      rw [Mc.stw_snoc] at ht
      cases hs : A.stw 0 0 v with
      | none => rw [hs] at ht; cases ht
      | some s =>
        rw [hs] at ht
        have ht' : A.stp s v.length y = some t := by simpa using ht
        have hy := hL y (by simp)
        rcases ih v (by omega) (fun x hx => hL x (List.mem_append_left _ hx)) (by omega) s hs with h | ⟨es, e1, e2, e3⟩
        · exact hD _ h (show v.length < k by omega) y hy.1 hy.2 t ht'
        · by_cases all : ∀ e ∈ es, (e.1 ++ [y], t) ∈ K
          · refine .inr ⟨es.map fun e => (e.1 ++ [y], t), by rw [List.length_map]; exact e1, ?_, fun e he => ?_⟩
            · rw [List.Nodup, List.pairwise_map]
              refine List.Pairwise.imp_of_mem (fun {a b} ha hb ne e => ne ?_) e2
              have e4 := (Prod.mk.inj e).1
              have e5 : a.1 = b.1 := by simpa using e4
              exact Prod.ext e5 ((e3 a ha).2.1.trans (e3 b hb).2.1.symm)
            · obtain ⟨d, hd, rfl⟩ := List.mem_map.mp he
              obtain ⟨_, _, p3, p4⟩ := e3 d hd
              refine ⟨all d hd, rfl, ?_, sl_snoc y p4⟩
              rw [List.length_append, List.length_append]
              exact pl_succ p3
          · obtain ⟨e, he⟩ := Classical.not_forall.mp all
            obtain ⟨he, no⟩ := Classical.not_imp.mp he
            obtain ⟨p1, p2, p3, p4⟩ := e3 e he
            have le := sl_len p4
            rcases hD e p1 (by omega) y hy.1 hy.2 t (by rw [p2, Mc.stp_pl p3]; exact ht') with q | ⟨fs, f1, f2, f3⟩
            · exact absurd q no
            · refine .inr ⟨fs, f1, f2, fun d hd => ?_⟩
              obtain ⟨q1, q2, q3, q4⟩ := f3 d hd
              refine ⟨q1, q2, q3.trans ?_, sl_trans q4 (sl_snoc y p4)⟩
              rw [List.length_append, List.length_append]
              exact pl_succ p3
/-- what was found, of less than so many letters -/
def found (A : Mc) (K : List En) (k : Nat) : List (List Int) := (K.filter fun e => decide (e.1.length < k) && A.fin e.2 e.1.length).map (·.1)
theorem found_mem {A : Mc} {K : List En} {k : Nat} {v : List Int} : v ∈ found A K k ↔ ∃ t, (v, t) ∈ K ∧ v.length < k ∧ A.fin t v.length = true := by
  unfold found
  rw [List.mem_map]
  constructor
  · rintro ⟨e, he, rfl⟩
    rw [List.mem_filter, Bool.and_eq_true, decide_eq_true_eq] at he
    exact ⟨e.2, he.1, he.2.1, he.2.2⟩
  · rintro ⟨t, h1, h2, h3⟩
    refine ⟨(v, t), ?_, rfl⟩
    rw [List.mem_filter, Bool.and_eq_true, decide_eq_true_eq]
    exact ⟨h1, h2, h3⟩
theorem found_srt {A : Mc} {K : List En} {k : Nat} (hK : Kp A K) : Srt (found A K k) := by
  unfold found Srt
  rw [List.pairwise_map]
  exact hK.srt.sublist List.filter_sublist
theorem found_fst {A : Mc} {m k : Nat} {K : List En} (hK : Kp A K) (hD : ∀ e ∈ K, e.1.length < k → Done A m K e) (hend : m ≤ (found A K k).length ∨ ∀ e ∈ K, e.1.length < k) : Fst A.Acc m ((found A K k).take m) := by
  have srt := found_srt (k := k) hK
  have accOf : ∀ {v : List Int} {t : Int}, (v, t) ∈ K → A.fin t v.length = true → A.Acc v := fun {v t} h1 h2 => by
    obtain ⟨h3, h4⟩ := hK.st _ h1
    refine ⟨h3, ?_⟩
    unfold Mc.acc
    have h4' : A.stw 0 0 v = some t := h4
    rw [h4']; exact h2
  refine ⟨srt.sublist (List.take_sublist _ _), fun v hv => ?_, by rw [List.length_take]; omega, fun u hu no => ?_⟩
  · obtain ⟨t, h1, _, h3⟩ := found_mem.mp (List.mem_of_mem_take hv)
    exact accOf h1 h3
  · obtain ⟨hL, ha⟩ := hu
    unfold Mc.acc at ha
    cases hs : A.stw 0 0 u with
    | none => rw [hs] at ha; cases ha
    | some t =>
      rw [hs] at ha
      have manyIn : ∀ {k' : Nat}, (∀ e ∈ K, e.1.length ≤ u.length → e.1.length < k') → Many A m K u t → ∃ xs : List (List Int), xs.length = m ∧ xs.Nodup ∧ ∀ v ∈ xs, v ∈ found A K k' ∧ sl v u := fun {k'} hlt ⟨es, e1, e2, e3⟩ => by
        refine ⟨es.map (·.1), by rw [List.length_map]; exact e1, ?_, fun v hv => ?_⟩
        · rw [List.Nodup, List.pairwise_map]
          exact List.Pairwise.imp_of_mem (fun {a b} ha hb ne e => ne (hK.fst_inj (e3 a ha).1 (e3 b hb).1 e)) e2
        · obtain ⟨e, he, rfl⟩ := List.mem_map.mp hv
          obtain ⟨q1, q2, q3, q4⟩ := e3 e he
          refine ⟨found_mem.mpr ⟨e.2, q1, hlt e q1 (sl_len q4), ?_⟩, q4⟩
          rw [q2, Mc.fin_pl q3]; exact ha
      by_cases hm : m ≤ (found A K k).length
      · refine ⟨by rw [List.length_take]; omega, fun v hv => ?_⟩
        obtain ⟨j, hj, ej⟩ := List.mem_take_iff_getElem.mp hv
        have vf : v ∈ found A K k := List.mem_of_mem_take hv
        by_cases hk : k ≤ u.length
        · obtain ⟨_, _, h2, _⟩ := found_mem.mp vf
          exact .inl (by omega)
        · rcases kept_all hK hD u.length u rfl hL (by omega) t hs with h | h
          · have uf : u ∈ found A K k := found_mem.mpr ⟨t, h, by omega, ha⟩
            obtain ⟨i, hi, ei⟩ := List.getElem_of_mem uf
            have mi : m ≤ i := by
              apply Classical.byContradiction
              intro z
              exact no (by rw [← ei]; exact List.mem_take_iff_getElem.mpr ⟨i, by omega, rfl⟩)
            have := List.pairwise_iff_getElem.mp srt j i (by omega) hi (by omega)
            rw [ej, ei] at this; exact this
          · obtain ⟨xs, x1, x2, x3⟩ := manyIn (k' := k) (fun e _ h => by omega) h
            apply Classical.byContradiction
            intro nv
            have hv' : ∀ x ∈ xs, x ∈ (found A K k).take j := fun x hx => by
              obtain ⟨xf, xu⟩ := x3 x hx
              obtain ⟨i, hi, ei⟩ := List.getElem_of_mem xf
              refine List.mem_take_iff_getElem.mpr ⟨i, ?_, ei⟩
              have : i < j := by
                apply Classical.byContradiction
                intro z
                have xv : x = v ∨ sl v x := by
                  by_cases q : i = j
                  · subst q; rw [← ei, ← ej]; exact .inl rfl
                  · have := List.pairwise_iff_getElem.mp srt j i (by omega) hi (by omega)
                    rw [ej, ei] at this; exact .inr this
                rcases xv with rfl | q
                · exact nv xu
                · exact nv (sl_trans q xu)
              omega
            have := nodup_sub x2 hv'
            rw [List.length_take] at this
            omega
      · exfalso
        have hall := hend.resolve_left hm
        have tk : (found A K k).take m = found A K k := List.take_of_length_le (by omega)
        rw [tk] at no
        rcases kept_all (k := u.length) hK (fun e he _ => hD e he (hall e he)) u.length u rfl hL (Nat.le_refl _) t hs with h | h
        · exact no (found_mem.mpr ⟨t, h, hall _ h, ha⟩)
        · obtain ⟨xs, x1, x2, x3⟩ := manyIn (k' := k) (fun e he _ => hall e he) h
          have := nodup_sub x2 fun v hv => (x3 v hv).1
          omega
end KK

/-! loops taken out; the lengths that are enough -/
namespace KK
theorem srt_take {X : List (List Int)} {m : Nat} {u : List Int} (h : Srt X) (hu : u ∈ X) (no : u ∉ X.take m) : (X.take m).length = m ∧ ∀ v ∈ X.take m, sl v u := by
  obtain ⟨i, hi, e⟩ := List.getElem_of_mem hu
  have mi : m ≤ i := by
    apply Classical.byContradiction
    intro z
    exact no (by rw [← e]; exact List.mem_take_iff_getElem.mpr ⟨i, by omega, rfl⟩)
  refine ⟨by rw [List.length_take]; omega, fun v hv => ?_⟩
  obtain ⟨j, hj, ej⟩ := List.mem_take_iff_getElem.mp hv
  have := List.pairwise_iff_getElem.mp h j i (by omega) hi (by omega)
  rw [ej, e] at this; exact this
theorem hole {n : Nat} (f : Nat → Nat) (h : ∀ j, j ≤ n → f j < n) : ∃ i j, i < j ∧ j ≤ n ∧ f i = f j := by
  apply Classical.byContradiction
  intro no
  have hn : ((List.range (n + 1)).map f).Nodup := by
    rw [List.Nodup, List.pairwise_map]
    refine List.Pairwise.imp_of_mem (fun {a b} ha hb (ab : a < b) e => no ⟨a, b, ab, by have := List.mem_range.mp hb; omega, e⟩) List.pairwise_lt_range
  have := nodup_sub (xs := List.range n) hn fun x hx => by
    obtain ⟨j, hj, rfl⟩ := List.mem_map.mp hx
    exact List.mem_range.mpr (h j (by have := List.mem_range.mp hj; omega))
  rw [List.length_map, List.length_range, List.length_range] at this
  omega
section
variable {A : Mc}
/-- all is as it should be -/
structure Mc.Ok (A : Mc) : Prop where
  W : Wf ((A.l + 1) * (A.l + 1) - 1) A.rows A.es
  l1 : 1 ≤ A.l
  l2 : A.l ≤ 2
  hw : Let A.l A.ws
theorem Mc.Ok.lft_le (O : A.Ok) (i : Nat) : 0 ≤ A.lft i ∧ A.lft i ≤ A.l ∧ (i < A.ws.length → A.lft i < A.l) := by
  have l1 := O.l1
  unfold Mc.lft
  by_cases p : i < A.ws.length
  · rw [List.getElem?_eq_getElem p]
    have := O.hw _ (List.getElem_mem p)
    show 0 ≤ A.ws[i] ∧ A.ws[i] ≤ A.l ∧ (i < A.ws.length → A.ws[i] < A.l)
    omega
  · rw [List.getElem?_eq_none (by omega)]
    show 0 ≤ A.l ∧ A.l ≤ A.l ∧ (i < A.ws.length → A.l < A.l)
    omega
theorem pair_ok {l a b : Int} (l1 : 1 ≤ l) (l2 : l ≤ 2) (a0 : 0 ≤ a) (a1 : a ≤ l) (b0 : 0 ≤ b) (b1 : b ≤ l) (ab : ¬ (a = l ∧ b = l)) : 0 ≤ a * (l + 1) + b ∧ a * (l + 1) + b < (l + 1) * (l + 1) - 1 := by
  obtain rfl | rfl : l = 1 ∨ l = 2 := by omega
  all_goals omega
theorem Mc.Ok.stp_in (O : A.Ok) {s y t : Int} {i : Nat} (s0 : 0 ≤ s ∧ s < A.rows.length) (y0 : 0 ≤ y ∧ y < A.l) (h : A.stp s i y = some t) : 0 ≤ t ∧ t < A.rows.length := by
  obtain ⟨a0, a1, _⟩ := O.lft_le i
  exact (O.W.step s0 (pair_ok O.l1 O.l2 a0 a1 y0.1 (by omega) (by omega))).2.2 t h
theorem Mc.Ok.stw_in (O : A.Ok) : ∀ (u : List Int) {s t : Int} {i : Nat}, 0 ≤ s ∧ s < A.rows.length → Let A.l u → A.stw s i u = some t → 0 ≤ t ∧ t < A.rows.length
  | [], s, t, i, hs, _, h => by cases h; exact hs
  | x :: u, s, t, i, hs, hL, h => by
    cases q : A.stp s i x with
    | none => rw [show A.stw s i (x :: u) = (A.stp s i x).bind _ from rfl, q] at h; cases h
    | some r =>
      rw [show A.stw s i (x :: u) = (A.stp s i x).bind _ from rfl, q] at h
      exact O.stw_in u (O.stp_in hs (hL x List.mem_cons_self) q) (fun y hy => hL y (List.mem_cons_of_mem _ hy)) h
theorem Mc.Ok.zero (O : A.Ok) : 0 ≤ (0 : Int) ∧ (0 : Int) < A.rows.length := ⟨Int.le_refl _, by have := O.W.n1; omega⟩
theorem stw_past {s : Int} : ∀ (u : List Int) {s : Int} {i j : Nat}, A.ws.length ≤ i → A.ws.length ≤ j → A.stw s i u = A.stw s j u
  | [], _, _, _, _, _ => rfl
  | x :: u, s, i, j, hi, hj => by
    show (A.stp s i x).bind _ = (A.stp s j x).bind _
    rw [Mc.stp_pl (i := i) (j := j) (by unfold Mc.pl; omega)]
    cases A.stp s j x with
    | none => rfl
    | some t => exact stw_past (s := s) u (by omega) (by omega)
theorem pump (O : A.Ok) {v : List Int} (hv : A.Acc v) (h : A.ws.length + A.rows.length ≤ v.length) : ∃ v', A.Acc v' ∧ v'.length < v.length ∧ v.length ≤ v'.length + A.rows.length := by
  obtain ⟨hL, ha⟩ := hv
  unfold Mc.acc at ha
  cases hs : A.stw 0 0 v with
  | none => rw [hs] at ha; cases ha
  | some t =>
    rw [hs] at ha
    have pre : ∀ j, ∃ r, A.stw 0 0 (v.take j) = some r ∧ A.stw r (v.take j).length (v.drop j) = some t := fun j => by
      have := hs
      rw [← List.take_append_drop j v, Mc.stw_app] at this
      cases q : A.stw 0 0 (v.take j) with
      | none => rw [q] at this; cases this
      | some r =>
        rw [q, Nat.zero_add] at this
        exact ⟨r, rfl, this⟩
    let f : Nat → Nat := fun j => (((A.stw 0 0 (v.take (A.ws.length + j))).getD 0)).toNat
    have fr : ∀ j, ∃ r, A.stw 0 0 (v.take (A.ws.length + j)) = some r ∧ 0 ≤ r ∧ r < A.rows.length := fun j => by
      obtain ⟨r, h1, _⟩ := pre (A.ws.length + j)
      exact ⟨r, h1, O.stw_in _ O.zero (fun x hx => hL x (List.mem_of_mem_take hx)) h1⟩
    obtain ⟨i, j, ij, jn, e⟩ := hole (n := A.rows.length) f fun j _ => by
      obtain ⟨r, h1, h2, h3⟩ := fr j
      show ((A.stw 0 0 (v.take (A.ws.length + j))).getD 0).toNat < _
      rw [h1]
      show r.toNat < _
      omega
    obtain ⟨r, h1, h2, h3⟩ := fr i
    obtain ⟨r', h1', h2', h3'⟩ := fr j
    have er : r = r' := by
      have e' : ((A.stw 0 0 (v.take (A.ws.length + i))).getD 0).toNat = ((A.stw 0 0 (v.take (A.ws.length + j))).getD 0).toNat := e
      rw [h1, h1'] at e'
      have e2 : r.toNat = r'.toNat := e'
      omega
    subst er
    obtain ⟨r2, g1, g2⟩ := pre (A.ws.length + j)
    have : r2 = r := by rw [h1'] at g1; exact (Option.some.inj g1).symm
    subst this
    have li : (v.take (A.ws.length + i)).length = A.ws.length + i := by rw [List.length_take]; omega
    have lj : (v.take (A.ws.length + j)).length = A.ws.length + j := by rw [List.length_take]; omega
    have ld : (v.drop (A.ws.length + j)).length = v.length - (A.ws.length + j) := List.length_drop
    refine ⟨v.take (A.ws.length + i) ++ v.drop (A.ws.length + j), ⟨fun x hx => ?_, ?_⟩, ?_, ?_⟩
    · rcases List.mem_append.mp hx with hx | hx
      · exact hL x (List.mem_of_mem_take hx)
      · exact hL x (List.mem_of_mem_drop hx)
    · unfold Mc.acc
      have : A.stw 0 0 (v.take (A.ws.length + i) ++ v.drop (A.ws.length + j)) = some t := by
        rw [Mc.stw_app, h1]
        show A.stw r2 (0 + _) _ = _
        rw [stw_past (s := r2) (i := 0 + (v.take (A.ws.length + i)).length) (j := (v.take (A.ws.length + j)).length) _ (by omega) (by omega)]
        exact g2
      rw [this]
      show A.fin t _ = true
      rw [Mc.fin_pl (j := v.length) (by unfold Mc.pl; rw [List.length_append, li, ld]; omega)]
      exact ha
    · rw [List.length_append, li, ld]; omega
    · rw [List.length_append, li, ld]; omega
theorem short_one (O : A.Ok) : ∀ (k : Nat) (v : List Int), v.length = k → A.Acc v → ∃ u, A.Acc u ∧ u.length < A.ws.length + A.rows.length := by
  intro k
  induction k using Nat.strongRecOn with
  | ind k ih =>
    intro v hv ha
    by_cases p : v.length < A.ws.length + A.rows.length
    · exact ⟨v, ha, p⟩
    · obtain ⟨v', a', l', _⟩ := pump O ha (by omega)
      exact ih _ (by omega) v' rfl a'
theorem short_other (O : A.Ok) {v1 : List Int} (h1 : v1.length ≤ A.ws.length + A.rows.length + 1) : ∀ (k : Nat) (u : List Int), u.length = k → A.Acc u → u ≠ v1 → ∃ u', A.Acc u' ∧ u' ≠ v1 ∧ u'.length ≤ A.ws.length + 2 * A.rows.length + 1 := by
  intro k
  induction k using Nat.strongRecOn with
  | ind k ih =>
    intro u hu ha ne
    by_cases p : u.length ≤ A.ws.length + 2 * A.rows.length + 1
    · exact ⟨u, ha, ne, p⟩
    · obtain ⟨u', a', l', l2⟩ := pump O ha (by omega)
      exact ih _ (by omega) u' rfl a' fun e => by rw [e] at l2; omega
/-- those of less than so many letters -/
def Lt (A : Mc) (k : Nat) (v : List Int) : Prop := A.Acc v ∧ v.length < k
def Eqn (A : Mc) (k : Nat) (v : List Int) : Prop := A.Acc v ∧ v.length = k
theorem fst_zero : Fst (Lt A 0) 2 [] := ⟨List.Pairwise.nil, (fun _ h => by cases h), by simp, fun u hu _ => by cases hu.2⟩
theorem fst_two {k : Nat} {R : List (List Int)} (h : Fst (Lt A k) 2 R) (hl : R.length = 2) : Fst (Lt A (k + 1)) 2 R := by
  refine ⟨h.srt, fun v hv => ⟨(h.all v hv).1, by have := (h.all v hv).2; omega⟩, h.len, fun u hu no => ?_⟩
  by_cases p : u.length < k
  · exact h.out u ⟨hu.1, p⟩ no
  · exact ⟨hl, fun v hv => .inl (by have := (h.all v hv).2; omega)⟩
theorem fst_none {k : Nat} (O : A.Ok) (h : Fst (Lt A k) 2 []) (hk : A.ws.length + A.rows.length ≤ k) : ∀ u, ¬ A.Acc u := fun u hu => by
  obtain ⟨v, hv, hl⟩ := short_one O u.length u rfl hu
  have := (h.out v ⟨hv, by omega⟩ (by simp)).1
  simp at this
theorem fst_add {k : Nat} {R X : List (List Int)} (h : Fst (Lt A k) 2 R) (hl : R.length ≤ 1) (hX : Fst (Eqn A k) 2 X) : Fst (Lt A (k + 1)) 2 ((R ++ X).take 2) := by
  have srt : Srt (R ++ X) := List.pairwise_append.mpr ⟨h.srt, hX.srt, fun a ha b hb => .inl (by have := (h.all a ha).2; have := (hX.all b hb).2; omega)⟩
  refine ⟨srt.sublist (List.take_sublist _ _), fun v hv => ?_, by rw [List.length_take]; omega, fun u hu no => ?_⟩
  · rcases List.mem_append.mp (List.mem_of_mem_take hv) with hv | hv
    · exact ⟨(h.all v hv).1, by have := (h.all v hv).2; omega⟩
    · exact ⟨(hX.all v hv).1, by have := (hX.all v hv).2; omega⟩
  · by_cases hm : u ∈ R ++ X
    · exact srt_take srt hm no
    · by_cases p : u.length < k
      · have := (h.out u ⟨hu.1, p⟩ fun z => hm (List.mem_append_left _ z)).1
        omega
      · obtain ⟨x1, x2⟩ := hX.out u ⟨hu.1, by have := hu.2; omega⟩ fun z => hm (List.mem_append_right _ z)
        refine ⟨by rw [List.length_take, List.length_append]; omega, fun v hv => ?_⟩
        rcases List.mem_append.mp (List.mem_of_mem_take hv) with hv | hv
        · exact .inl (by have := (h.all v hv).2; omega)
        · exact x2 v hv
theorem fst_end (O : A.Ok) {R : List (List Int)} (h : Fst (Lt A (A.ws.length + 2 * A.rows.length + 2)) 2 R) : Fst A.Acc 2 R := by
  have key : ∀ u, A.Acc u → R.length < 2 → u ∈ R := fun u hu hl => by
    apply Classical.byContradiction
    intro no
    obtain ⟨v0, a0, l0⟩ := short_one O u.length u rfl hu
    have m0 : v0 ∈ R := by
      apply Classical.byContradiction
      intro n0
      have := (h.out v0 ⟨a0, by omega⟩ n0).1
      omega
    have hR : R = [v0] := by
      cases R with
      | nil => cases m0
      | cons a R =>
        cases R with
        | nil => rw [List.mem_singleton.mp m0]
        | cons b R => exfalso; simp at hl; omega
    have ne : u ≠ v0 := fun e => no (by rw [e]; exact m0)
    obtain ⟨u', a', n', l'⟩ := short_other O (v1 := v0) (by omega) u.length u rfl hu ne
    have := (h.out u' ⟨a', by omega⟩ (by rw [hR]; simp [n'])).1
    omega
  refine ⟨h.srt, fun v hv => (h.all v hv).1, h.len, fun u hu no => ?_⟩
  by_cases p : u.length < A.ws.length + 2 * A.rows.length + 2
  · exact h.out u ⟨hu, p⟩ no
  · by_cases q : R.length < 2
    · exact absurd (key u hu q) no
    · exact ⟨by have := h.len; omega, fun v hv => .inl (by have := (h.all v hv).2; omega)⟩
end
end KK

/-! the first two of a length -/
namespace KK
open Classical
section
variable {A : Mc} {n i : Nat} {s t y : Int} {e : En} {ps : List En}
/-- from the state, at the place, all can be ended, with so many letters in all -/
def Gd1 (A : Mc) (n i : Nat) (s : Int) : Prop := if n ≤ i then A.fin s i = true else ∃ u : List Int, u.length = n - i ∧ Let A.l u ∧ ∃ t, A.stw s i u = some t ∧ A.fin t n = true
theorem gd_ge (h : n ≤ i) : Gd1 A n i s ↔ A.fin s i = true := by unfold Gd1; rw [if_pos h]
theorem gd_end (h : n ≤ i) (h2 : A.ws.length ≤ i) : Gd1 A n i s ↔ A.es.getD s.toNat 0 = 1 := by
  rw [gd_ge h]
  unfold Mc.fin
  rw [show A.ws.length - i = 0 by omega]
  show decide _ = true ↔ _
  rw [decide_eq_true_eq]
theorem gd_blank (h : n ≤ i) (h2 : i < A.ws.length) : Gd1 A n i s ↔ ∃ t, A.stp s i A.l = some t ∧ Gd1 A n (i + 1) t := by
  rw [gd_ge h]
  unfold Mc.fin
  rw [show A.ws.length - i = (A.ws.length - (i + 1)) + 1 by omega]
  show (match A.stp s i A.l with | none => false | some t => A.finN _ t (i + 1)) = true ↔ _
  cases A.stp s i A.l with
  | none => simp
  | some t =>
    constructor
    · intro q; exact ⟨t, rfl, (gd_ge (by omega)).mpr q⟩
    · rintro ⟨t', e, q⟩; cases e; exact (gd_ge (A := A) (n := n) (i := i + 1) (by omega)).mp q
theorem gd_lt (h : i < n) : Gd1 A n i s ↔ ∃ y, 0 ≤ y ∧ y < A.l ∧ ∃ t, A.stp s i y = some t ∧ Gd1 A n (i + 1) t := by
  constructor
  · intro q
    unfold Gd1 at q
    rw [if_neg (by omega)] at q
    obtain ⟨u, hu, hL, t, ht, hf⟩ := q
    cases u with
    | nil => simp at hu; omega
    | cons y u =>
      obtain ⟨y0, y1⟩ := hL y List.mem_cons_self
      rw [show A.stw s i (y :: u) = (A.stp s i y).bind _ from rfl] at ht
      cases hs : A.stp s i y with
      | none => rw [hs] at ht; cases ht
      | some r =>
        rw [hs] at ht
        have ht' : A.stw r (i + 1) u = some t := ht
        refine ⟨y, y0, y1, r, hs, ?_⟩
        rw [List.length_cons] at hu
        unfold Gd1
        by_cases p : n ≤ i + 1
        · rw [if_pos p]
          have : u = [] := List.eq_nil_of_length_eq_zero (by omega)
          subst this
          cases ht'
          rw [show i + 1 = n by omega]; exact hf
        · rw [if_neg p]
          exact ⟨u, by omega, fun x hx => hL x (List.mem_cons_of_mem _ hx), t, ht', hf⟩
  · rintro ⟨y, y0, y1, r, hs, q⟩
    unfold Gd1 at q ⊢
    rw [if_neg (by omega)]
    have cons : ∀ (u : List Int), Let A.l u → Let A.l (y :: u) := fun u hu x hx => by
      rcases List.mem_cons.mp hx with rfl | hx
      · exact ⟨y0, y1⟩
      · exact hu x hx
    by_cases p : n ≤ i + 1
    · rw [if_pos p] at q
      refine ⟨[y], by rw [List.length_singleton]; omega, cons [] (fun x hx => by cases hx), r, ?_, by rw [show n = i + 1 by omega]; exact q⟩
      show (A.stp s i y).bind _ = _
      rw [hs]; rfl
    · rw [if_neg p] at q
      obtain ⟨u, hu, hL, t, ht, hf⟩ := q
      refine ⟨y :: u, by rw [List.length_cons]; omega, cons u hL, t, ?_, hf⟩
      show (A.stp s i y).bind _ = _
      rw [hs]; exact ht
def ysOf (l : Int) : List Int := (List.range l.toNat).map fun k : Nat => (k : Int)
theorem ysOf_mem {l : Int} : y ∈ ysOf l ↔ 0 ≤ y ∧ y < l := by
  unfold ysOf
  rw [List.mem_map]
  constructor
  · rintro ⟨k, hk, rfl⟩; have := List.mem_range.mp hk; omega
  · rintro ⟨a, b⟩; exact ⟨y.toNat, List.mem_range.mpr (by omega), by omega⟩
theorem ysOf_srt (l : Int) : (ysOf l).Pairwise (· < ·) := by
  unfold ysOf
  rw [List.pairwise_map]
  exact List.pairwise_lt_range.imp fun h => by omega
noncomputable def one (A : Mc) (n i : Nat) (e : En) (y : Int) : Option En := match A.stp e.2 i y with
  | some t => if Gd1 A n (i + 1) t then some (e.1 ++ [y], t) else none
  | none => none
theorem one_some {x : En} : one A n i e y = some x ↔ ∃ t, A.stp e.2 i y = some t ∧ Gd1 A n (i + 1) t ∧ x = (e.1 ++ [y], t) := by
  unfold one
  cases A.stp e.2 i y with
  | none => simp
  | some t =>
    by_cases p : Gd1 A n (i + 1) t
    · simp [p, eq_comm]
    · simp [p]
noncomputable def exts (A : Mc) (n i : Nat) (e : En) : List En := (ysOf A.l).filterMap (one A n i e)
theorem exts_mem {x : En} : x ∈ exts A n i e ↔ ∃ y t, 0 ≤ y ∧ y < A.l ∧ A.stp e.2 i y = some t ∧ Gd1 A n (i + 1) t ∧ x = (e.1 ++ [y], t) := by
  unfold exts
  rw [List.mem_filterMap]
  constructor
  · rintro ⟨y, hy, h⟩
    obtain ⟨a, b⟩ := ysOf_mem.mp hy
    obtain ⟨t, h1, h2, h3⟩ := one_some.mp h
    exact ⟨y, t, a, b, h1, h2, h3⟩
  · rintro ⟨y, t, a, b, h1, h2, h3⟩
    exact ⟨y, ysOf_mem.mpr ⟨a, b⟩, one_some.mpr ⟨t, h1, h2, h3⟩⟩
theorem exts_srt : Srt ((exts A n i e).map (·.1)) := by
  unfold exts
  have key : ∀ ys : List Int, ys.Pairwise (· < ·) → Srt ((ys.filterMap (one A n i e)).map (·.1)) := by
    intro ys
    induction ys with
    | nil => exact fun _ => List.Pairwise.nil
    | cons y ys ih =>
      intro h
      rw [List.pairwise_cons] at h
      rw [List.filterMap_cons]
      cases q : one A n i e y with
      | none => exact ih h.2
      | some x =>
        refine List.pairwise_cons.mpr ⟨fun v hv => ?_, ih h.2⟩
        obtain ⟨x', hx', rfl⟩ := List.mem_map.mp hv
        obtain ⟨y', hy', h'⟩ := List.mem_filterMap.mp hx'
        obtain ⟨_, _, _, rfl⟩ := one_some.mp q
        obtain ⟨_, _, _, rfl⟩ := one_some.mp h'
        exact .inr ⟨by simp, lx_last _ (h.1 y' hy')⟩
  exact key _ (ysOf_srt _)
/-- what has so many letters, and can be ended -/
def Pre (A : Mc) (n i : Nat) (v : List Int) : Prop := Let A.l v ∧ v.length = i ∧ ∃ s, A.stw 0 0 v = some s ∧ Gd1 A n i s
structure Pts (A : Mc) (n i : Nat) (ps : List En) : Prop where
  st : ∀ e ∈ ps, e.1.length = i ∧ A.stw 0 0 e.1 = some e.2 ∧ Gd1 A n i e.2
  fs : Fst (Pre A n i) 2 (ps.map (·.1))
theorem pts_step (h : Pts A n i ps) (hi : i < n) : Pts A n (i + 1) ((ps.flatMap (exts A n i)).take 2) := by
  have lm : ∀ e ∈ ps.flatMap (exts A n i), ∃ d y, d ∈ ps ∧ 0 ≤ y ∧ y < A.l ∧ A.stp d.2 i y = some e.2 ∧ Gd1 A n (i + 1) e.2 ∧ e.1 = d.1 ++ [y] := fun e he => by
    obtain ⟨d, hd, he⟩ := List.mem_flatMap.mp he
    obtain ⟨y, t, a, b, h1, h2, rfl⟩ := exts_mem.mp he
    exact ⟨d, y, hd, a, b, h1, h2, rfl⟩
  have srt : Srt ((ps.flatMap (exts A n i)).map (·.1)) := by
    have key : ∀ qs : List En, (∀ e ∈ qs, e ∈ ps) → Srt (qs.map (·.1)) → Srt ((qs.flatMap (exts A n i)).map (·.1)) := by
      intro qs
      induction qs with
      | nil => exact fun _ _ => List.Pairwise.nil
      | cons d qs ih =>
        intro hq hs
        rw [List.map_cons, Srt, List.pairwise_cons] at hs
        rw [List.flatMap_cons, List.map_append]
        refine List.pairwise_append.mpr ⟨exts_srt, ih (fun e he => hq e (List.mem_cons_of_mem _ he)) hs.2, fun a ha b hb => ?_⟩
        obtain ⟨x, hx, rfl⟩ := List.mem_map.mp ha
        obtain ⟨x', hx', rfl⟩ := List.mem_map.mp hb
        obtain ⟨d', hd', hx'⟩ := List.mem_flatMap.mp hx'
        obtain ⟨y, t, _, _, _, _, rfl⟩ := exts_mem.mp hx
        obtain ⟨y', t', _, _, _, _, rfl⟩ := exts_mem.mp hx'
        have l1 := (h.st d (hq d List.mem_cons_self)).1
        have l2 := (h.st d' (hq d' (List.mem_cons_of_mem _ hd'))).1
        rcases hs.1 d'.1 (List.mem_map.mpr ⟨d', hd', rfl⟩) with q | ⟨q1, q2⟩
        · omega
        · exact .inr ⟨by simp [q1], lx_snoc y y' q1 q2⟩
    exact key ps (fun _ h => h) h.fs.srt
  have ofm : ∀ e ∈ ps.flatMap (exts A n i), e.1.length = i + 1 ∧ A.stw 0 0 e.1 = some e.2 ∧ Gd1 A n (i + 1) e.2 ∧ Let A.l e.1 := fun e he => by
    obtain ⟨d, y, hd, a, b, h1, h2, h3⟩ := lm e he
    obtain ⟨g1, g2, g3⟩ := h.st d hd
    have gL := (h.fs.all d.1 (List.mem_map.mpr ⟨d, hd, rfl⟩)).1
    refine ⟨by rw [h3, List.length_append, g1]; rfl, ?_, h2, fun x hx => ?_⟩
    · rw [h3, Mc.stw_snoc, g2, g1]
      show A.stp d.2 (0 + i) y = _
      rw [Nat.zero_add]; exact h1
    · rw [h3] at hx
      rcases List.mem_append.mp hx with hx | hx
      · exact gL x hx
      · rw [List.mem_singleton.mp hx]; exact ⟨a, b⟩
  refine ⟨fun e he => let ⟨a, b, c, _⟩ := ofm e (List.mem_of_mem_take he); ⟨a, b, c⟩, ?_⟩
  rw [List.map_take]
  refine ⟨srt.sublist (List.take_sublist _ _), fun v hv => ?_, by rw [List.length_take]; omega, fun u hu no => ?_⟩
  · obtain ⟨e, he, rfl⟩ := List.mem_map.mp (List.mem_of_mem_take hv)
    obtain ⟨a, b, c, d⟩ := ofm e he
    exact ⟨d, a, _, b, c⟩
  · by_cases hm : u ∈ (ps.flatMap (exts A n i)).map (·.1)
    · exact srt_take srt hm no
    · obtain ⟨hL, hl, t, ht, hg⟩ := hu
      rcases snoc_cases u with rfl | ⟨v, y, rfl⟩
      · cases hl
      · rw [List.length_append, List.length_singleton] at hl
        rw [Mc.stw_snoc] at ht
        cases hs : A.stw 0 0 v with
        | none => rw [hs] at ht; cases ht
        | some s =>
          rw [hs] at ht
          have ht' : A.stp s i y = some t := by
            have : A.stp s (0 + v.length) y = some t := ht
            rw [Nat.zero_add, show v.length = i by omega] at this; exact this
          have hy := hL y (by simp)
          have pv : Pre A n i v := ⟨fun x hx => hL x (List.mem_append_left _ hx), by omega, s, hs, (gd_lt hi).mpr ⟨y, hy.1, hy.2, t, ht', hg⟩⟩
          have nv : v ∉ ps.map (·.1) := fun hv => by
            obtain ⟨e, he, rfl⟩ := List.mem_map.mp hv
            have es := (h.st e he).2.1
            rw [hs] at es
            have es := Option.some.inj es
            refine hm (List.mem_map.mpr ⟨(e.1 ++ [y], t), List.mem_flatMap.mpr ⟨e, he, exts_mem.mpr ⟨y, t, hy.1, hy.2, by rw [← es]; exact ht', hg, rfl⟩⟩, rfl⟩)
          obtain ⟨p2, ps2⟩ := h.fs.out v pv nv
          rw [List.length_map] at p2
          have two : 2 ≤ (ps.flatMap (exts A n i)).length := by
            have pos : ∀ e ∈ ps, 0 < (exts A n i e).length := fun e he => by
              obtain ⟨y, y0, y1, t, h1, h2⟩ := (gd_lt hi).mp (h.st e he).2.2
              exact List.length_pos_of_mem (exts_mem.mpr ⟨y, t, y0, y1, h1, h2, rfl⟩)
            obtain ⟨a, b, rfl⟩ : ∃ a b, ps = [a, b] := by
              match ps, p2 with
              | [a, b], _ => exact ⟨a, b, rfl⟩
            have := pos a (by simp)
            have := pos b (by simp)
            simp only [List.flatMap_cons, List.flatMap_nil, List.append_nil, List.length_append]
            omega
          refine ⟨by rw [List.length_take, List.length_map]; omega, fun x hx => ?_⟩
          obtain ⟨e, he, rfl⟩ := List.mem_map.mp (List.mem_of_mem_take hx)
          obtain ⟨d, y', hd, _, _, _, _, h3⟩ := lm e he
          have ld := (h.st d hd).1
          rcases ps2 d.1 (List.mem_map.mpr ⟨d, hd, rfl⟩) with q | ⟨q1, q2⟩
          · omega
          · rw [h3]; exact .inr ⟨by simp [q1], lx_snoc y' y q1 q2⟩
theorem pts_zero : Pts A n 0 (if Gd1 A n 0 0 then [([], 0)] else []) := by
  by_cases p : Gd1 A n 0 0
  · rw [if_pos p]
    refine ⟨fun e he => by rw [List.mem_singleton.mp he]; exact ⟨rfl, rfl, p⟩, ⟨List.pairwise_singleton _ _, fun v hv => ?_, by simp, fun u hu no => ?_⟩⟩
    · rw [List.mem_singleton.mp hv]; exact ⟨(fun x hx => by cases hx), rfl, 0, rfl, p⟩
    · exact absurd (by rw [List.eq_nil_of_length_eq_zero hu.2.1]; simp) no
  · rw [if_neg p]
    refine ⟨(fun e he => by cases he), ⟨List.Pairwise.nil, (fun v hv => by cases hv), by simp, fun u hu no => ?_⟩⟩
    obtain ⟨_, hl, s, hs, hg⟩ := hu
    rw [List.eq_nil_of_length_eq_zero hl] at hs
    cases hs
    exact absurd hg p
/-- the first two of so many letters, with states from which the rest ends -/
structure Pt2 (A : Mc) (n i : Nat) (ps : List En) : Prop where
  st : ∀ e ∈ ps, A.fin e.2 i = true
  fs : Fst (Eqn A n) 2 (ps.map (·.1))
theorem pts_full (h : Pts A n n ps) : Pt2 A n n ps := by
  have eqv : ∀ v, Pre A n n v ↔ Eqn A n v := fun v => by
    constructor
    · rintro ⟨a, b, s, c, d⟩
      refine ⟨⟨a, ?_⟩, b⟩
      unfold Mc.acc
      rw [c]
      show A.fin s v.length = true
      rw [b]; exact (gd_ge (Nat.le_refl _)).mp d
    · rintro ⟨⟨a, b⟩, c⟩
      unfold Mc.acc at b
      cases hs : A.stw 0 0 v with
      | none => rw [hs] at b; cases b
      | some s =>
        rw [hs] at b
        refine ⟨a, c, s, hs, (gd_ge (Nat.le_refl _)).mpr ?_⟩
        rw [← c]; exact b
  refine ⟨fun e he => (gd_ge (Nat.le_refl _)).mp (h.st e he).2.2, ⟨h.fs.srt, fun v hv => (eqv v).mp (h.fs.all v hv), h.fs.len, fun u hu no => h.fs.out u ((eqv u).mpr hu) no⟩⟩
theorem pt2_step (h : Pt2 A n i ps) (hn : n ≤ i) (hi : i < A.ws.length) : (∀ e ∈ ps, ∃ t, A.stp e.2 i A.l = some t ∧ A.fin t (i + 1) = true) := fun e he => by
  have := (gd_blank (n := n) hn hi).mp ((gd_ge hn).mpr (h.st e he))
  obtain ⟨t, h1, h2⟩ := this
  exact ⟨t, h1, (gd_ge (by omega)).mp h2⟩
end
end KK

namespace KK
open PySem PySem.Spec PyProof.Rows L2 DL PySem.W
open Classical
local macro_rules | `(tactic| walk_at "dw") => `(tactic| try simp only [ws_seq, ws_nil, ws_retN, ws_bk, ws_ct, ws_expr, ws_ret, ws_set, ws_if, ws_asg, ws_sub, ws_aug, ws_for, ws_thru, ws_no, ws_raise, wv_mkX, wv_var, wv_lit, wv_bin, wv_un, wv_nil, wv_cons, wv_args, wv_test, wv_asB, wv_and, wv_or, wv_not, wv_andV, wv_orV, wv_notV, wv_if, wv_chain,
  wv_noPart, wv_part, wv_asI, wv_slice, wv_mkTup, wv_mkLst, wv_methL, wsr_args, wsr_range1, wsr_range2, wsr_seq, wsr_tup, wsr_rev, wsr_zip, vv_rev_tup, wv_lc, wpx_ret, wpx_optM, tTrue, chkL1, chkL2, chkL3, chkL4,
  vv_add_int, vv_add_tup, vv_sub, vv_mul, vv_mulA_int, vv_div, vv_mod, vv_pow, vv_neg, vv_gt, vv_ge, vv_le, vv_lt, vv_eq_int, vv_ne_int, vv_eq_bl, vv_ne_bl, eqA_int, neA_int, eqA_bl, neA_bl, eqA_tup, neA_tup, eqA_cell, neA_cell, eqA_non, neA_non, vv_eqA_str, vv_neA_str, vv_ix_tup, vv_ix_cell, vv_set, vv_len_tup, vv_len_cell, vv_abs, vv_int_int, vv_int_bl, vv_tup_tup, vv_tup_cell, vv_lst_tup, vv_lst_cell, vv_slice_tup, vv_dm, vv_mx, vv_mn,
  isi_int_int, isi_int_bool, isi_int_tuple, isi_int_str, isi_int_list, isi_bool_int, isi_bool_bool, isi_bool_tuple, isi_bool_str, isi_bool_list, isi_str_int, isi_str_bool, isi_str_tuple, isi_str_str, isi_str_list, isi_none_int, isi_none_bool, isi_none_tuple, isi_none_str, isi_none_list, isi_tuple_int, isi_tuple_bool, isi_tuple_tuple, isi_tuple_str, isi_tuple_list,
  and_true, true_and, and_self, Cell.lst.injEq, items_lst, items_rls, vv_append, vv_isL, Option.some.injEq, exists_eq_left', exists_eq_left, List.map_cons, List.map_nil, List.length_cons, List.length_nil, List.length_map, List.replicate, List.cons_append, List.nil_append, List.getElem?_cons_zero, List.getElem?_cons_succ, List.set_cons_zero, List.set_cons_succ, bindT, atI0, atI1, atI2, atI3, ix41, ix42, ix43, Nat.reduceAdd, Nat.reduceSub, List.set_set, decide_true, decide_false, if_true, if_false, Bool.false_eq_true, decide_eq_true_eq, Bool.not_true, Bool.not_false, wpx_ite, eq_self, wipeP, *])

open PVal (pv)
section
variable {ns : List Int} {S S0 S' : Store} {Q : PV → Store → Prop} {QS : Fl × PEnv → Store → Prop} {E : Exn → Store → Prop} {l m x : Int} {rows : List (List (Option Int))} {es ws us vs : List Int} {k n c3 c d : Nat} {u v T En : PV} {cs : List Nat}
theorem sn0 {S : Store} {c : Cell} : (S ++ [c])[S.length]? = some c := by simp
theorem letter_is {S : Store} {Q : PV → Store → Prop} {E : Exn → Store → Prop} {l x y : Int} (h0 : 0 ≤ l) (h1 : l ≤ 100) (q : Q (.int (x * (l + 1) + y)) S) : wpx (F_pair_letter [.int l, .int x, .int y]) S Q E := by
  unfold F_pair_letter
  refine wp_run ?_
  unfold g_pair_letter
  walk_at "dw"
  first | exact cm_r ⟨by omega, by omega⟩ | exact ⟨cm_r ⟨by omega, by omega⟩, q⟩
theorem Wf.flt (W : Wf l rows es) : Flt (.int l) (some (rows.map rowP)) (some (es.map PV.int)) none := by
  have l1 := W.l1
  have l2 := W.l2
  have n1 := W.n1
  refine .ok (l := l) (rows := rows.map rowP) (es := es.map PV.int) ?_ rfl rfl ?_ ⟨by simp, fun i hi => ?_⟩ rfl ⟨by simp [W.el], fun i hi => ?_⟩
  · show (decide (1 ≤ l) && decide (l ≤ 48)) = true
    rw [decide_eq_true l1, decide_eq_true (show l ≤ 48 by omega)]; rfl
  · intro h
    rw [List.map_eq_nil_iff] at h
    rw [h] at n1
    exact absurd n1 (by decide)
  · rw [List.length_map] at hi
    rw [List.getElem?_map, List.getElem?_map, List.getElem?_eq_getElem hi]
    obtain ⟨h1, h2⟩ := W.row _ (List.getElem_mem hi)
    show some (isRow l ((rows.map rowP).length : Nat) (.tup (rows[i].map (pv (α := Option Int))))) = some true
    have a : isRow l ((rows.map rowP).length : Nat) (.tup (rows[i].map (pv (α := Option Int)))) = true := by
      show (decide (((rows[i].map (pv (α := Option Int))).length : Int) = l) && (rows[i].map (pv (α := Option Int))).all (isTo ((rows.map rowP).length : Nat))) = true
      rw [List.length_map, decide_eq_true h1, Bool.true_and, List.all_map, List.all_eq_true]
      intro o ho
      cases o with
      | none => rfl
      | some j =>
        obtain ⟨b1, b2⟩ := h2 _ ho j rfl
        show (decide (0 ≤ j) && decide (j < ((rows.map rowP).length : Nat))) = true
        rw [List.length_map, decide_eq_true b1, decide_eq_true b2]; rfl
    rw [a]
  · rw [List.length_map] at hi
    have hi2 : i < es.length := by rw [W.el]; exact hi
    rw [List.getElem?_map, List.getElem?_map, List.getElem?_eq_getElem hi2]
    have := W.bit _ (List.getElem_mem hi2)
    show some (isBit (.int es[i])) = some true
    rcases this with h | h <;> rw [h] <;> rfl
theorem Wf.rowsOk (W : Wf l rows es) : RowsOk S (some (rows.map rowP)) := ⟨by rw [List.length_map]; have := W.n2; omega, fun x hx => by
  obtain ⟨r, hr, rfl⟩ := List.mem_map.mp hx
  have h1 := (W.row r hr).1
  have l2 := W.l2
  refine ⟨by rw [List.length_map]; omega, fun y hy => ?_⟩
  obtain ⟨o, _, rfl⟩ := List.mem_map.mp hy
  exact okv_opt⟩
theorem Wf.endsOk (W : Wf l rows es) : EndsOk S (some (es.map PV.int)) := ⟨by rw [List.length_map, W.el]; have := W.n2; omega, fun x hx => by
  obtain ⟨i, _, rfl⟩ := List.mem_map.mp hx; trivial⟩
theorem made_is (W : Wf l rows es) (hT : Holds S T (rows.map rowP)) (hE : Holds S En (es.map PV.int)) (q : ∀ S', Ext S S' → MaAt S' S.length l rows es → Q (.cell S.length) S') : wpx (mkI 3 "Machine" F_Machine___init__ [.int l, T, En]) S Q E := by
  refine make_is (to := some _) (eo := some _) trivial hT W.rowsOk hE W.endsOk (fun _ xs ys h1 h2 S' e h => ?_) fun p j f => nomatch (f.one W.flt)
  cases h1; cases h2
  exact q S' e h

theorem vv_rev {n : Nat} {zs : List PV} (h : S[n]? = some (.lst zs)) (q : Q (.cell S.length) (S ++ [.lst zs.reverse])) : wpx (revL (.cell n)) S Q E := by
  have e : revL (.cell n) S = .ok (.cell S.length) (S ++ [.lst zs.reverse]) := by
    show getC n _ S = _
    simp only [getC, h, items_lst]
  exact (wpx_eq e).mpr q
theorem wv_revL {f fz : PEnv → M PV} {ρ : PEnv} : wpx (eRevL f fz ρ) S Q E ↔ wpx (f ρ) S (fun x S1 => wpx (fz ρ) S1 (fun z S2 => wpx (match z with | .int i => if i = -1 then revL x else M.bad | _ => M.bad) S2 Q E) E) E := by
  unfold eRevL; rw [wpx_bind]; simp only [wpx_bind]; all_goals rfl
end
section
variable {S S0 S' : Store} {Q : PV → Store → Prop} {QS : Fl × PEnv → Store → Prop} {E : Exn → Store → Prop} {A : Mc} {k c3 c d p : Nat} {cs : List Nat}
/-- the machine at k, with what is asked of it -/
abbrev At (A : Mc) (S : Store) (k : Nat) : Prop := MaAt S k ((A.l + 1) * (A.l + 1) - 1) A.rows A.es
/-- of each state, whether the rest from the place ends -/
def Row (A : Mc) (S : Store) (p c : Nat) : Prop := ∃ xs : List Int, S[c]? = some (.lst (xs.map PV.int)) ∧ xs.length = A.rows.length ∧ ∀ s : Int, 0 ≤ s → s < A.rows.length → (xs.getD s.toNat 0 = 1 ↔ A.fin s p = true)
theorem Row.ext (h : Row A S p c) (e : Ext S S') : Row A S' p c := let ⟨xs, a, b⟩ := h; ⟨xs, e.get a, b⟩
/-- from the word's end on backwards -/
structure Tol (A : Mc) (S : Store) (c3 : Nat) (cs : List Nat) : Prop where
  hc : S[c3]? = some (.lst (cs.map PV.cell))
  mem : ∀ j (h : j < cs.length), cs[j] ≠ c3 ∧ Row A S (A.ws.length - j) cs[j]
theorem Tol.ext (h : Tol A S c3 cs) (e : Ext S S') : Tol A S' c3 cs := ⟨e.get h.hc, fun j hj => ⟨(h.mem j hj).1, (h.mem j hj).2.ext e⟩⟩
theorem Row.put {z : Cell} (h : Row A S p c) (ne : c ≠ c3) : Row A (S.set c3 z) p c := let ⟨xs, a, b⟩ := h; ⟨xs, by rw [List.getElem?_set_ne (Ne.symm ne)]; exact a, b⟩
theorem Tol.add (h : Tol A S c3 cs) (hd : d ≠ c3) (hr : Row A S (A.ws.length - cs.length) d) : Tol A (S.set c3 (.lst ((cs ++ [d]).map PV.cell))) c3 (cs ++ [d]) := by
  refine ⟨List.getElem?_set_self (List.getElem?_eq_some_iff.mp h.hc).1, fun j hj => ?_⟩
  by_cases q : j < cs.length
  · rw [List.getElem_append_left q]
    exact ⟨(h.mem j q).1, (h.mem j q).2.put (h.mem j q).1⟩
  · have : j = cs.length := by rw [List.length_append, List.length_singleton] at hj; omega
    subst this
    rw [List.getElem_append_right (Nat.le_refl _)]
    simp only [Nat.sub_self, List.getElem_singleton]
    exact ⟨hd, hr.put hd⟩
def colF (col : Int) : PV → PV
  | .tup ys => (ys[col.toNat]?).getD .non
  | y => y
theorem colF_row {r : List (Option Int)} {col : Int} (h : col.toNat < r.length) : colF col (rowP r) = pv (r.getD col.toNat none) := by
  show ((r.map (pv (α := Option Int)))[col.toNat]?).getD .non = _
  rw [List.getElem?_map, List.getD_eq_getElem?_getD, List.getElem?_eq_getElem h]; rfl
def nxF (xs : List Int) : PV → PV
  | .int t => .int (xs.getD t.toNat 0)
  | _ => .int 0
theorem en_B1 {x2 x5 x6 x7 x8 : Option PV} (O : A.Ok) (hk : At A S k) (hp : p < A.ws.length) (h : Tol A S c3 (cs ++ [c])) (hcs : cs.length + 1 + p = A.ws.length) (hl : cs.length ≤ 2000)
    (q : ∀ y5 y6 S2 d, Ext S S2 → Tol A (S2.set c3 (.lst ((cs ++ [c] ++ [d]).map PV.cell))) c3 (cs ++ [c] ++ [d]) → QS (.nx, [some (.cell k), some (.int A.l), x2, some (.cell c3), some (.int (A.lft p)), y5, y6, x7, x8]) (S2.set c3 (.lst ((cs ++ [c] ++ [d]).map PV.cell)))) :
    wps (g__endings_B1 [some (.cell k), some (.int A.l), x2, some (.cell c3), some (.int (A.lft p)), x5, x6, x7, x8]) S QS := by
  unfold g__endings_B1
  have W := O.W
  have l1 := O.l1
  have l2 := O.l2
  obtain ⟨x0, _, x1⟩ := O.lft_le p
  have x1 := x1 hp
  have hk' : S[k]? = some (.ins "Machine" (mFs (.int ((A.l + 1) * (A.l + 1) - 1)) (tabP A.rows) (tupI A.es))) := hk
  obtain ⟨c0, c1⟩ := pair_ok l1 l2 x0 (by omega) (b := A.l) (by omega) (by omega) (by omega)
  have n1 := W.n1
  have n2 := W.n2
  have hstp : ∀ s : Int, A.stp s p A.l = stepM A.rows (some s) (A.lft p * (A.l + 1) + A.l) := fun s => rfl
  simp only [ws_seq, ws_set, wv_args, wv_cons, wv_nil, wv_var, List.set_cons_zero, List.set_cons_succ, List.getElem?_cons_zero, List.getElem?_cons_succ, Option.some.injEq, exists_eq_left', chkL3]
  refine letter_is (by omega) (by omega) ?_
  generalize A.lft p * (A.l + 1) + A.l = col at c0 c1 hstp
  simp only [wv_lc, wsr_seq, wv_un, wv_var, List.set_cons_zero, List.set_cons_succ, List.getElem?_cons_zero, List.getElem?_cons_succ, Option.some.injEq, exists_eq_left', List.map_cons, List.map_nil, wipeP]
  rw [vv_fld hk']
  refine ⟨_, look_table, ?_⟩
  unfold tabP
  rw [wsr_tup]
  refine lc_pure (colF col) (line_ok (by rw [List.length_map]; omega)) (fun _ _ => trivial) (fun y hy S1 e1 => ?_) fun S2 e2 h2 => ?_
  · obtain ⟨r, hr, rfl⟩ := List.mem_map.mp hy
    refine ⟨_, rfl, ?_⟩
    obtain ⟨rl, _⟩ := W.row r hr
    simp only [wv_bin, wv_var, List.set_cons_zero, List.set_cons_succ, List.getElem?_cons_zero, List.getElem?_cons_succ, Option.some.injEq, exists_eq_left']
    have hcl : col.toNat < r.length := by omega
    rw [colF_row hcl]
    unfold rowP
    rw [vv_ix_tup]
    exact ⟨_, (opt_at c0 (by omega)).1, rfl, .refl _⟩
  · have em : (A.rows.map rowP).map (colF col) = (A.rows.map fun r => r.getD col.toNat none).map (pv (α := Option Int)) := by
      rw [List.map_map, List.map_map]
      refine List.map_congr_left fun r hr => ?_
      obtain ⟨rl, _⟩ := W.row r hr
      exact colF_row (by omega)
    rw [em] at h2
    have nin : ∀ o ∈ A.rows.map fun r => r.getD col.toNat none, InM A.rows o := fun o ho => by
      obtain ⟨r, hr, rfl⟩ := List.mem_map.mp ho
      obtain ⟨rl, rin⟩ := W.row r hr
      have hcl : col.toNat < r.length := by omega
      rw [List.getD_eq_getElem?_getD, List.getElem?_eq_getElem hcl]
      exact rin _ (List.getElem_mem hcl)
    have nl : (A.rows.map fun r => r.getD col.toNat none).length = A.rows.length := List.length_map ..
    have nst : ∀ s : Int, 0 ≤ s → s < A.rows.length → (A.rows.map fun r => r.getD col.toNat none)[s.toNat]? = some (A.stp s p A.l) := fun s s0 s1 => by
      have sl : s.toNat < A.rows.length := by omega
      rw [hstp, List.getElem?_map, List.getElem?_eq_getElem sl]
      show some (A.rows[s.toNat].getD col.toNat none) = some ((A.rows.getD s.toNat []).getD col.toNat none)
      rw [List.getD_eq_getElem?_getD (l := A.rows), List.getElem?_eq_getElem sl]; rfl
    generalize (A.rows.map fun r => r.getD col.toNat none) = nx at h2 nin nl nst
    clear em
    have h3 := h.ext e2
    have cc := h3.mem cs.length (by simp)
    rw [show (cs ++ [c])[cs.length]'(by simp) = c by simp] at cc
    obtain ⟨cne, xs, cx, cl, csp⟩ := cc
    rw [show A.ws.length - cs.length = p + 1 by omega] at csp
    simp only [ws_expr, wv_methL, wv_cons, wv_nil, wv_var, List.set_cons_zero, List.set_cons_succ, List.getElem?_cons_zero, List.getElem?_cons_succ, Option.some.injEq, exists_eq_left']
    rw [vv_isL]
    refine ⟨_, h3.hc, _, rfl, ?_⟩
    simp only [wv_lc, wsr_seq, wv_var, List.set_cons_zero, List.set_cons_succ, List.getElem?_cons_zero, List.getElem?_cons_succ, Option.some.injEq, exists_eq_left', List.map_cons, List.map_nil, wipeP]
    rw [wsr_cell h2 rfl]
    refine lc_pure (nxF xs) (line_ok (by rw [List.length_map]; omega)) (fun S' e => e.get h2) (fun y hy S3 e3 => ?_) fun S4 e4 h4 => ?_
    · obtain ⟨o, ho, rfl⟩ := List.mem_map.mp hy
      refine ⟨_, rfl, ?_⟩
      simp only [wv_if, wv_test, wv_bin, wv_un, wv_var, wv_lit, List.set_cons_zero, List.set_cons_succ, List.getElem?_cons_zero, List.getElem?_cons_succ, Option.some.injEq, exists_eq_left']
      rw [vv_isnon okv_opt, isNon_opt, wv_asB]
      cases o with
      | none =>
        simp only [Option.isNone_none, if_true]
        exact ⟨rfl, .refl _⟩
      | some t =>
        obtain ⟨t0, t1⟩ := nin _ ho t rfl
        simp only [Option.isNone_some, Bool.false_eq_true, if_false]
        rw [vv_neg, vv_ix_cell]
        refine ⟨_, e3.get h3.hc, _, rfl, .cell c, by rw [List.map_append]; exact atI_end, ?_⟩
        rw [pv_some, vv_ix_cell]
        exact ⟨_, e3.get cx, _, rfl, _, (end_at t0 (by omega)).1, rfl, .refl _⟩
    · have em2 : (nx.map (pv (α := Option Int))).map (nxF xs) = (nx.map fun o => match o with | some t => xs.getD t.toNat 0 | none => 0).map PV.int := by
        rw [List.map_map, List.map_map]
        refine List.map_congr_left fun o _ => ?_
        cases o <;> rfl
      rw [em2] at h4
      have h5 := h3.ext e4
      have el4 := e4.len
      have cl3 := (List.getElem?_eq_some_iff.mp h3.hc).1
      rw [vv_append_eq h5.hc (line_lt (by rw [List.length_map, List.length_append, List.length_singleton]; omega))]
      have em3 : (cs ++ [c]).map PV.cell ++ [.cell S2.length] = (cs ++ [c] ++ [S2.length]).map PV.cell := by rw [List.map_append (l₁ := cs ++ [c])]; rfl
      rw [em3]
      refine q _ _ S4 S2.length (e2.trans e4) (h5.add (by omega) ⟨_, h4, by rw [List.length_map]; exact nl, fun s s0 s1 => ?_⟩)
      have e9 : (nx.map fun o => match o with | some t => xs.getD t.toNat 0 | none => 0).getD s.toNat 0 = match A.stp s p A.l with | some t => xs.getD t.toNat 0 | none => 0 := by
        rw [List.getD_eq_getElem?_getD, List.getElem?_map, nst s s0 s1]; rfl
      rw [e9, show A.ws.length - (cs ++ [c]).length = p by rw [List.length_append, List.length_singleton]; omega]
      unfold Mc.fin
      rw [show A.ws.length - p = (A.ws.length - (p + 1)) + 1 by omega]
      show _ ↔ (match A.stp s p A.l with | none => false | some t => A.finN _ t (p + 1)) = true
      cases hs : A.stp s p A.l with
      | none => simp
      | some t =>
        have ti : 0 ≤ t ∧ t < A.rows.length := nin (some t) (by
          have := nst s s0 s1
          rw [hs] at this
          exact List.mem_of_getElem? this) t rfl
        exact csp t ti.1 ti.2
/-- the rows of all places -/
def Ends (A : Mc) (S : Store) (d : Nat) (cs : List Nat) : Prop := S[d]? = some (.lst (cs.map PV.cell)) ∧ cs.length = A.ws.length + 1 ∧ ∀ p (h : p < cs.length), cs[p] < d ∧ Row A S p cs[p]
theorem endings_is (O : A.Ok) (hk : At A S k) (lw : A.ws.length ≤ 1000) (q : ∀ S' d cs, Ext S S' → S.length ≤ d → Ends A S' d cs → Q (.cell d) S') : wpx (F__endings [.cell k, .int A.l, tupI A.ws]) S Q E := by
  unfold F__endings
  refine wp_run ?_
  unfold g__endings
  have hk' : S[k]? = some (.ins "Machine" (mFs (.int ((A.l + 1) * (A.l + 1) - 1)) (tabP A.rows) (tupI A.es))) := hk
  have el := O.W.el
  simp only [ws_seq, ws_set, wv_un, wv_args, wv_cons, wv_nil, wv_var, List.map_cons, List.map_nil, List.cons_append, List.nil_append, List.length_cons, List.length_nil, Nat.reduceAdd, Nat.reduceSub, List.replicate, List.set_cons_zero, List.set_cons_succ, List.getElem?_cons_zero, List.getElem?_cons_succ, Option.some.injEq, exists_eq_left']
  rw [vv_fld hk']
  refine ⟨_, look_ends, ?_⟩
  rw [vv_lst_tup, wv_mkLst]
  refine ⟨line_ok (by simp), ?_⟩
  have g1 := (Ext.snoc (S ++ [Cell.lst (A.es.map PV.int)]) (.lst [.cell S.length])).get (sn0 (S := S) (c := .lst (A.es.map PV.int)))
  have t0 : Tol A (S ++ [Cell.lst (A.es.map PV.int)] ++ [.lst [.cell S.length]]) (S ++ [Cell.lst (A.es.map PV.int)]).length ([] ++ [S.length]) := ⟨sn0, fun j hj => by
    have : j = 0 := by simpa using hj
    subst this
    refine ⟨by simp, A.es, g1, el, fun s s0 s1 => ?_⟩
    unfold Mc.fin
    rw [show A.ws.length - (A.ws.length - 0) = 0 by omega]
    show _ ↔ decide _ = true
    rw [decide_eq_true_eq]⟩
  have e2 := (Ext.snoc S (.lst (A.es.map PV.int))).trans (Ext.snoc _ (.lst [.cell S.length]))
  have lc : S.length ≤ (S ++ [Cell.lst (A.es.map PV.int)]).length := by simp
  generalize (S ++ [Cell.lst (A.es.map PV.int)]).length = c3 at *
  generalize S ++ [Cell.lst (A.es.map PV.int)] ++ [Cell.lst [PV.cell S.length]] = S1 at *
  simp only [ws_for, wsr_rev, wv_var, List.set_cons_zero, List.set_cons_succ, List.getElem?_cons_zero, List.getElem?_cons_succ, Option.some.injEq, exists_eq_left', vv_rev_tup]
  rw [← List.map_reverse]
  refine for_inv (fun zs ρ S' => ∃ (p : Nat) (cs : List Nat) (c : Nat), zs = ((A.ws.take p).reverse).map PV.int ∧ p ≤ A.ws.length ∧ cs.length + p = A.ws.length ∧ Ext S S' ∧ Tol A S' c3 (cs ++ [c]) ∧ ∃ y4 y5 y6, ρ = [some (.cell k), some (.int A.l), some (tupI A.ws), some (.cell c3), y4, y5, y6, none, none]) _ _ _
    ⟨A.ws.length, [], S.length, by rw [List.take_length], Nat.le_refl _, by simp, e2, t0, _, _, _, rfl⟩ (fun _ _ _ _ => trivial) ?_ ?_
  · rintro ρ S' ⟨p, cs, c, hz, hp, hl, e, h, y4, y5, y6, rfl⟩
    have p0 : p = 0 := by
      have := congrArg List.length hz
      rw [List.length_map, List.length_reverse, List.length_take] at this
      simp at this
      omega
    subst p0
    unfold g__endings_R2
    simp only [ws_ret, wv_revL, wv_un, wv_lit, wv_var, vv_neg, List.getElem?_cons_zero, List.getElem?_cons_succ, Option.some.injEq, exists_eq_left']
    show wpx (if (-1 : Int) = -1 then revL (.cell c3) else M.bad) _ _ _
    rw [if_pos rfl]
    refine vv_rev h.hc ?_
    rw [← List.map_reverse]
    have h5 := h.ext (Ext.snoc S' (.lst ((cs ++ [c]).reverse.map PV.cell)))
    have lc2 : (cs ++ [c]).length = A.ws.length + 1 := by rw [List.length_append, List.length_singleton]; omega
    refine q _ S'.length (cs ++ [c]).reverse (e.trans (Ext.snoc _ _)) e.len ⟨sn0, by rw [List.length_reverse, lc2], fun p hp => ?_⟩
    rw [List.length_reverse] at hp
    rw [List.getElem_reverse]
    obtain ⟨_, r⟩ := h.mem ((cs ++ [c]).length - 1 - p) (by omega)
    rw [show A.ws.length - ((cs ++ [c]).length - 1 - p) = p by omega] at r
    obtain ⟨xs, b1, b2⟩ := id r
    exact ⟨(List.getElem?_eq_some_iff.mp b1).1, r.ext (Ext.snoc _ _)⟩
  · rintro z zs ρ S' ⟨p, cs, c, hz, hp, hl, e, h, y4, y5, y6, rfl⟩
    cases p with
    | zero => cases hz
    | succ p =>
      have hpl : p < A.ws.length := by omega
      have e7 : ((A.ws.take (p + 1)).reverse).map PV.int = .int (A.lft p) :: ((A.ws.take p).reverse).map PV.int := by
        rw [List.take_succ, List.getElem?_eq_getElem hpl]
        simp only [Option.toList_some, List.reverse_append, List.reverse_cons, List.reverse_nil, List.nil_append, List.cons_append, List.map_cons]
        unfold Mc.lft
        rw [List.getElem?_eq_getElem hpl]; rfl
      rw [e7] at hz
      injection hz with h1 h2
      subst h1; subst h2
      refine ⟨_, rfl, ?_⟩
      simp only [List.set_cons_zero, List.set_cons_succ]
      refine en_B1 O (e.get hk') hpl h (by omega) (by omega) fun y5 y6 S2 d e3 h3 => ?_
      exact ⟨p, cs ++ [c], d, rfl, by omega, by rw [List.length_append, List.length_singleton]; omega, (e.trans e3).put lc _, h3, _, _, _, rfl⟩
end
end KK

namespace KK
open PySem PySem.Spec PyProof.Rows L2 DL PySem.W
open Classical
local macro_rules | `(tactic| walk_at "dw") => `(tactic| try simp only [ws_seq, ws_nil, ws_retN, ws_bk, ws_ct, ws_expr, ws_ret, ws_set, ws_if, ws_asg, ws_sub, ws_aug, ws_for, ws_thru, ws_no, ws_raise, wv_mkX, wv_var, wv_lit, wv_bin, wv_un, wv_nil, wv_cons, wv_args, wv_test, wv_asB, wv_and, wv_or, wv_not, wv_andV, wv_orV, wv_notV, wv_if, wv_chain,
  wv_noPart, wv_part, wv_asI, wv_slice, wv_mkTup, wv_mkLst, wv_methL, wsr_args, wsr_range1, wsr_range2, wsr_seq, wsr_tup, wsr_rev, wsr_zip, vv_rev_tup, wv_lc, wpx_ret, wpx_optM, tTrue, chkL1, chkL2, chkL3, chkL4,
  vv_add_int, vv_add_tup, vv_sub, vv_mul, vv_mulA_int, vv_div, vv_mod, vv_pow, vv_neg, vv_gt, vv_ge, vv_le, vv_lt, vv_eq_int, vv_ne_int, vv_eq_bl, vv_ne_bl, eqA_int, neA_int, eqA_bl, neA_bl, eqA_tup, neA_tup, eqA_cell, neA_cell, eqA_non, neA_non, vv_eqA_str, vv_neA_str, vv_ix_tup, vv_ix_cell, vv_set, vv_len_tup, vv_len_cell, vv_abs, vv_int_int, vv_int_bl, vv_tup_tup, vv_tup_cell, vv_lst_tup, vv_lst_cell, vv_slice_tup, vv_dm, vv_mx, vv_mn,
  isi_int_int, isi_int_bool, isi_int_tuple, isi_int_str, isi_int_list, isi_bool_int, isi_bool_bool, isi_bool_tuple, isi_bool_str, isi_bool_list, isi_str_int, isi_str_bool, isi_str_tuple, isi_str_str, isi_str_list, isi_none_int, isi_none_bool, isi_none_tuple, isi_none_str, isi_none_list, isi_tuple_int, isi_tuple_bool, isi_tuple_tuple, isi_tuple_str, isi_tuple_list,
  and_true, true_and, and_self, Cell.lst.injEq, items_lst, items_rls, vv_append, vv_isL, Option.some.injEq, exists_eq_left', exists_eq_left, List.map_cons, List.map_nil, List.length_cons, List.length_nil, List.length_map, List.replicate, List.cons_append, List.nil_append, List.getElem?_cons_zero, List.getElem?_cons_succ, List.set_cons_zero, List.set_cons_succ, bindT, atI0, atI1, atI2, atI3, ix41, ix42, ix43, Nat.reduceAdd, Nat.reduceSub, List.set_set, decide_true, decide_false, if_true, if_false, Bool.false_eq_true, decide_eq_true_eq, Bool.not_true, Bool.not_false, wpx_ite, eq_self, wipeP, *])

open PVal (pv)
/-- how often a key has been met -/
def cnt (kvs : List (List Key × PV)) (k : List Key) : Nat := match valD kvs k with
  | some (.int i) => i.toNat
  | _ => 0
def kk (p t : Int) : List Key := [.inl p, .inl t]
def grid (a n : Nat) : List (List Key) := (List.range (a + 1)).flatMap fun p : Nat => (List.range n).map fun t : Nat => kk (p : Int) (t : Int)
def rem (m : Nat) (G : List (List Key)) (kvs : List (List Key × PV)) : Nat := (G.map fun k => m - cnt kvs k).sum
theorem grid_mem {a n : Nat} {p t : Int} (p0 : 0 ≤ p) (p1 : p ≤ a) (t0 : 0 ≤ t) (t1 : t < n) : kk p t ∈ grid a n := by
  unfold grid
  rw [List.mem_flatMap]
  have hp : p.toNat < a + 1 := by omega
  have ht : t.toNat < n := by omega
  refine ⟨p.toNat, List.mem_range.mpr hp, List.mem_map.mpr ⟨t.toNat, List.mem_range.mpr ht, ?_⟩⟩
  rw [show ((p.toNat : Nat) : Int) = p by omega, show ((t.toNat : Nat) : Int) = t by omega]
theorem sum_le' {β : Type} {f g : β → Nat} : ∀ {xs : List β}, (∀ x ∈ xs, f x ≤ g x) → (xs.map f).sum ≤ (xs.map g).sum
  | [], _ => Nat.le_refl _
  | x :: xs, h => by
    have h1 := h x List.mem_cons_self
    have h2 := sum_le' (xs := xs) fun y hy => h y (List.mem_cons_of_mem _ hy)
    rw [List.map_cons, List.map_cons, List.sum_cons, List.sum_cons]; omega
theorem sum_lt' {β : Type} {f g : β → Nat} {y : β} (hy : f y + 1 ≤ g y) : ∀ {xs : List β}, (∀ x ∈ xs, f x ≤ g x) → y ∈ xs → (xs.map f).sum + 1 ≤ (xs.map g).sum
  | x :: xs, h, hm => by
    rw [List.map_cons, List.map_cons, List.sum_cons, List.sum_cons]
    have h1 := h x List.mem_cons_self
    have h3 : ∀ y ∈ xs, f y ≤ g y := fun y hy => h y (List.mem_cons_of_mem _ hy)
    rcases List.mem_cons.mp hm with rfl | hm
    · have h2 := sum_le' h3; omega
    · have h2 := sum_lt' hy h3 hm; omega
theorem cnt_put {kvs : List (List Key × PV)} {k j : List Key} {i : Nat} : cnt (putD kvs k (.int i)) j = if j = k then i else cnt kvs j := by
  unfold cnt
  rw [valD_put]
  by_cases e : j = k
  · rw [if_pos e, if_pos e]; exact Int.toNat_natCast i
  · rw [if_neg e, if_neg e]
theorem rem_put {m : Nat} {G : List (List Key)} {kvs : List (List Key × PV)} {k : List Key} (hk : k ∈ G) (h : cnt kvs k < m) : rem m G (putD kvs k (.int ((cnt kvs k + 1 : Nat) : Int))) + 1 ≤ rem m G kvs := by
  unfold rem
  refine sum_lt' (y := k) ?_ (fun j _ => ?_) hk
  · rw [cnt_put, if_pos rfl]; omega
  · rw [cnt_put]
    by_cases e : j = k
    · rw [if_pos e, e]; omega
    · rw [if_neg e]; exact Nat.le_refl _
theorem sum_bd {β : Type} {f : β → Nat} {b : Nat} : ∀ {xs : List β}, (∀ x ∈ xs, f x ≤ b) → (xs.map f).sum ≤ b * xs.length
  | [], _ => Nat.zero_le _
  | x :: xs, h => by
    have h1 := h x List.mem_cons_self
    have h2 := sum_bd (xs := xs) fun y hy => h y (List.mem_cons_of_mem _ hy)
    rw [List.map_cons, List.sum_cons, List.length_cons, Nat.mul_succ]; omega
theorem grid_len (a n : Nat) : (grid a n).length = (a + 1) * n := by
  unfold grid
  rw [List.length_flatMap]
  simp only [List.length_map, List.length_range]
  rw [List.map_const', List.sum_replicate_nat, List.length_range]
/-- all but the cell at m stands; there may be more -/
structure Fr (m : Nat) (S S' : Store) : Prop where
  len : S.length ≤ S'.length
  stay : ∀ j, j ≠ m → j < S.length → S'[j]? = S[j]?
theorem Fr.refl (m : Nat) (S : Store) : Fr m S S := ⟨Nat.le_refl _, fun _ _ _ => rfl⟩
theorem Fr.trans {m : Nat} {S S1 S2 : Store} (a : Fr m S S1) (b : Fr m S1 S2) : Fr m S S2 := ⟨Nat.le_trans a.len b.len, fun j h1 h2 => (b.stay j h1 (Nat.lt_of_lt_of_le h2 a.len)).trans (a.stay j h1 h2)⟩
theorem Fr.get {m : Nat} {S S' : Store} (a : Fr m S S') {n : Nat} {c : Cell} (h : n ≠ m) (e : S[n]? = some c) : S'[n]? = some c := (a.stay n h (List.getElem?_eq_some_iff.mp e).1).trans e
theorem Fr.ext {m : Nat} {S S' S2 : Store} (a : Fr m S S') (e : Ext S' S2) : Fr m S S2 := a.trans ⟨e.len, fun j _ h => by
  obtain ⟨T, rfl⟩ := e
  exact List.getElem?_append_left h⟩
theorem Fr.put {m n : Nat} {S S' : Store} (a : Fr m S S') (h : S.length ≤ n) (c : Cell) : Fr m S (S'.set n c) := ⟨by rw [List.length_set]; exact a.len, fun j h1 h2 => by rw [List.getElem?_set_ne (by omega)]; exact a.stay j h1 h2⟩
theorem Fr.putm {m : Nat} {S S' : Store} (a : Fr m S S') (c : Cell) : Fr m S (S'.set m c) := ⟨by rw [List.length_set]; exact a.len, fun j h1 h2 => by rw [List.getElem?_set_ne (Ne.symm h1)]; exact a.stay j h1 h2⟩
theorem ext_of {S S' : Store} (hl : S.length ≤ S'.length) (h : ∀ j, j < S.length → S'[j]? = S[j]?) : Ext S S' := by
  refine ⟨S'.drop S.length, ?_⟩
  apply List.ext_getElem?
  intro i
  by_cases hi : i < S.length
  · rw [List.getElem?_append_left hi]; exact h i hi
  · rw [List.getElem?_append_right (by omega), List.getElem?_drop]; congr 1; omega
theorem Ext.fr {m : Nat} {S0 S S' : Store} (e : Ext S0 S) (f : Fr m S S') (h : S0.length ≤ m) : Ext S0 S' := by
  have el := e.len
  refine ext_of (Nat.le_trans el f.len) fun j hj => ?_
  rw [f.stay j (by omega) (by omega)]
  obtain ⟨T, rfl⟩ := e
  exact List.getElem?_append_left hj
/-- a way: what was written, where it leads -/
def wayP (w : List Int × Int) : PV := .tup [tupI w.1, .int w.2]
section
variable {ns : List Int} {S S0 S1 S' : Store} {Q : PV → Store → Prop} {QS : Fl × PEnv → Store → Prop} {E : Exn → Store → Prop} {A : Mc} {x y : Int} {vs : List Int} {k n c4 cm cl sz m R R1 : Nat} {G : List (List Key)} {kvs : List (List Key × PV)} {K0 ls wl td : List En}
/-- the dict of what was met -/
structure Dic (S : Store) (cm m R : Nat) (G : List (List Key)) (kvs : List (List Key × PV)) : Prop where
  hd : S[cm]? = some (.dT kvs)
  hi : ∀ k d, valD kvs k = some d → ∃ i : Nat, d = .int i
  hf : kvs.length + rem m G kvs ≤ R
theorem Dic.val (h : Dic S cm m R G kvs) (k : List Key) : (valD kvs k).getD (.int 0) = .int (cnt kvs k) := by
  unfold cnt
  cases q : valD kvs k with
  | none => rfl
  | some d =>
    obtain ⟨i, rfl⟩ := h.hi k d q
    show PV.int i = .int ((i : Int).toNat : Nat)
    rw [Int.toNat_natCast]
/-- how many kept ones are at a place, in a state -/
def cntK (A : Mc) (K : List En) (p : Nat) (t : Int) : Nat := (K.filter fun e => decide (A.pl e.1.length = p) && decide (e.2 = t)).length
theorem cntK_snoc {K : List En} {e : En} {p : Nat} {t : Int} : cntK A (K ++ [e]) p t = cntK A K p t + if A.pl e.1.length = p ∧ e.2 = t then 1 else 0 := by
  unfold cntK
  rw [List.filter_append, List.length_append]
  by_cases q : A.pl e.1.length = p ∧ e.2 = t
  · rw [if_pos q]; simp [List.filter_cons, q.1, q.2]
  · rw [if_neg q]
    have : (decide (A.pl e.1.length = p) && decide (e.2 = t)) = false := by
      apply Bool.eq_false_iff.mpr
      intro h
      rw [Bool.and_eq_true, decide_eq_true_eq, decide_eq_true_eq] at h
      exact q h
    simp [List.filter_cons, this]
theorem kk_inj {p p' : Nat} {t t' : Int} : kk (p : Int) t = kk (p' : Int) t' ↔ p = p' ∧ t = t' := by
  unfold kk
  constructor
  · intro h
    injection h with h1 h2
    injection h2 with h2 _
    injection h1 with h1
    injection h2 with h2
    exact ⟨by omega, h2⟩
  · rintro ⟨rfl, rfl⟩; rfl
theorem many_of {K : List En} {u : List Int} {t : Int} (hK : Kp A K) (h : m ≤ cntK A K (A.pl u.length) t) (b : ∀ e ∈ K, sl e.1 u) : Many A m K u t := by
  refine ⟨(K.filter fun e => decide (A.pl e.1.length = A.pl u.length) && decide (e.2 = t)).take m, by rw [List.length_take]; unfold cntK at h; omega, ?_, fun e he => ?_⟩
  · have : K.Nodup := hK.srt.imp fun {a b} q e => by subst e; exact sl_irr _ q
    exact (this.sublist List.filter_sublist).sublist (List.take_sublist _ _)
  · have := List.mem_of_mem_take he
    rw [List.mem_filter, Bool.and_eq_true, decide_eq_true_eq, decide_eq_true_eq] at this
    exact ⟨this.1, this.2.2, this.2.1, b e this.1⟩
structure Lo (A : Mc) (S1 S : Store) (cm cl m R R1 sz : Nat) (G : List (List Key)) (K0 : List En) (kvs : List (List Key × PV)) (ls : List En) : Prop where
  d : Dic S cm m R G kvs
  fr : Fr cm S1 S
  hl : S[cl]? = some (.lst (ls.map wayP))
  ll : ls.length + rem m G kvs ≤ R1
  lr : ∀ w ∈ ls, w.1.length = sz + 1 ∧ 0 ≤ w.2 ∧ w.2 < A.rows.length
  ne : cm ≠ cl
  c0 : S1.length ≤ cl
  kp : Kp A (K0 ++ ls)
  ct : ∀ (p : Nat) (t : Int), cnt kvs (kk (p : Int) t) = cntK A (K0 ++ ls) p t
theorem lo_B1 {st : Int} {x2 x4 x13 : Option PV} (O : A.Ok) (hk : At A S1 k) (km : k ≠ cm) (hR : R ≤ 100000) (hR1 : R1 ≤ 100000) (hsz : sz ≤ 100000) (hG : ∀ t : Int, 0 ≤ t → t < A.rows.length → kk (A.pl (sz + 1) : Int) t ∈ G)
    (h : Lo A S1 S cm cl m R R1 sz G K0 kvs ls) (hk0 : ∀ e ∈ K0, e.1.length ≤ sz) (y0 : 0 ≤ y) (y1 : y < A.l) (s0 : 0 ≤ st ∧ st < A.rows.length) (hv : vs.length = sz) (hvL : Let A.l vs) (hvs : A.stw 0 0 vs = some st) (hb : ∀ e ∈ ls, sl e.1 (vs ++ [y]))
    (q : ∀ y13 kvs' ls' S', Lo A S1 S' cm cl m R R1 sz G K0 kvs' ls' → (ls' = ls ∨ ∃ t, ls' = ls ++ [(vs ++ [y], t)]) → Step A m (K0 ++ ls') (vs, st) y → QS (.nx, [some (.cell k), some (.int A.l), x2, some (.int (m : Int)), x4, some (.cell cm), some (.int (sz : Int)), some (.int (A.lft sz)), some (.int (A.pl (sz + 1) : Int)), some (.cell cl), some (tupI vs), some (.int st), some (.int y), y13]) S') :
    wps (g__longer_ways_B1 [some (.cell k), some (.int A.l), x2, some (.int (m : Int)), x4, some (.cell cm), some (.int (sz : Int)), some (.int (A.lft sz)), some (.int (A.pl (sz + 1) : Int)), some (.cell cl), some (tupI vs), some (.int st), some (.int y), x13]) S QS := by
  unfold g__longer_ways_B1
  have W := O.W
  have l1 := O.l1
  have l2 := O.l2
  have hk' : S[k]? = some (.ins "Machine" (mFs (.int ((A.l + 1) * (A.l + 1) - 1)) (tabP A.rows) (tupI A.es))) := h.fr.get km hk
  obtain ⟨x0, x1, _⟩ := O.lft_le sz
  obtain ⟨c0, c1⟩ := pair_ok l1 l2 x0 x1 y0 (by omega) (by omega)
  obtain ⟨a1, a2, a3⟩ := W.step s0 ⟨c0, c1⟩
  have below : ∀ e ∈ K0 ++ ls, sl e.1 (vs ++ [y]) := fun e he => by
    rcases List.mem_append.mp he with he | he
    · have := hk0 e he
      exact .inl (by rw [List.length_append, List.length_singleton, hv]; omega)
    · exact hb e he
  have lvy : (vs ++ [y]).length = sz + 1 := by rw [List.length_append, List.length_singleton, hv]
  have hstp : A.stp st sz y = stepM A.rows (some st) (A.lft sz * (A.l + 1) + y) := rfl
  simp only [ws_seq, ws_set, wv_bin, wv_un, wv_args, wv_cons, wv_nil, wv_var, List.getElem?_cons_zero, List.getElem?_cons_succ, Option.some.injEq, exists_eq_left', chkL3]
  rw [vv_fld hk']
  refine ⟨_, look_table, ?_⟩
  unfold tabP
  rw [vv_ix_tup]
  refine ⟨_, a1, ?_⟩
  refine letter_is (by omega) (by omega) ?_
  unfold rowP
  rw [vv_ix_tup]
  refine ⟨_, a2, ?_⟩
  simp only [ws_if, wv_and, wv_test, wv_bin, wv_var, wv_lit, List.set_cons_zero, List.set_cons_succ, List.getElem?_cons_zero, List.getElem?_cons_succ, Option.some.injEq, exists_eq_left']
  rw [vv_notnon okv_opt, isNon_opt, wv_asB]
  cases hs : stepM A.rows (some st) (A.lft sz * (A.l + 1) + y) with
  | none =>
    simp only [Option.isNone_none, Bool.not_true, Bool.false_eq_true, if_false, ws_nil]
    refine q _ _ _ S h (.inl rfl) fun t ht => ?_
    have ht' : A.stp st vs.length y = some t := ht
    rw [hv, hstp, hs] at ht'; cases ht'
  | some t =>
    obtain ⟨t0, t1⟩ := a3 t hs
    have only : ∀ t', A.stp st vs.length y = some t' → t' = t := fun t' ht => by
      rw [hv, hstp, hs] at ht; exact (Option.some.inj ht).symm
    simp only [Option.isNone_some, Bool.not_false, if_true, wv_getT, wv_cons, wv_nil, wv_var, wv_lit, List.set_cons_zero, List.set_cons_succ, List.getElem?_cons_zero, List.getElem?_cons_succ, Option.some.injEq, exists_eq_left']
    rw [wv_getDT h.d.hd, wpx_ret, wv_few (by simp)]
    refine vv_getT (k := kk (A.pl (sz + 1) : Int) t) h.d.hd rfl ?_
    rw [h.d.val, vv_lt, wv_asB]
    have hct := h.ct (A.pl (sz + 1)) t
    by_cases p : (cnt kvs (kk (A.pl (sz + 1) : Int) t) : Int) < m
    · rw [decide_eq_true p]
      simp only [if_true, ws_seq, ws_putT, wv_getT, wv_bin, wv_cons, wv_nil, wv_var, wv_lit, List.set_cons_zero, List.set_cons_succ, List.getElem?_cons_zero, List.getElem?_cons_succ, Option.some.injEq, exists_eq_left']
      rw [wv_getDT h.d.hd, wpx_ret, wv_few (by simp)]
      refine vv_getT (k := kk (A.pl (sz + 1) : Int) t) h.d.hd rfl ?_
      rw [h.d.val, vv_add_int, wv_few (by simp)]
      have hg := hG t t0 t1
      have hrem := rem_put (kvs := kvs) hg (show cnt kvs (kk (A.pl (sz + 1) : Int) t) < m by omega)
      have hlen := length_putD kvs (kk (A.pl (sz + 1) : Int) t) (.int ((cnt kvs (kk (A.pl (sz + 1) : Int) t) + 1 : Nat) : Int))
      have hf := h.d.hf
      have hll := h.ll
      refine vv_putT (k := kk (A.pl (sz + 1) : Int) t) h.d.hd rfl (by omega) ?_
      rw [show ((cnt kvs (kk (A.pl (sz + 1) : Int) t) : Int) + 1) = ((cnt kvs (kk (A.pl (sz + 1) : Int) t) + 1 : Nat) : Int) by omega]
      have dl := (List.getElem?_eq_some_iff.mp h.d.hd).1
      have hcl := h.hl
      have ll := (List.getElem?_eq_some_iff.mp hcl).1
      have hcl2 : (S.set cm (.dT (putD kvs (kk (A.pl (sz + 1) : Int) t) (.int ((cnt kvs (kk (A.pl (sz + 1) : Int) t) + 1 : Nat) : Int)))))[cl]? = some (.lst (ls.map wayP)) := by rw [List.getElem?_set_ne h.ne]; exact hcl
      simp only [ws_expr, wv_methL, wv_args, wv_bin, wv_cons, wv_nil, wv_var, List.set_cons_zero, List.set_cons_succ, List.getElem?_cons_zero, List.getElem?_cons_succ, Option.some.injEq, exists_eq_left']
      rw [vv_isL]
      refine ⟨_, hcl2, _, rfl, ?_⟩
      rw [wv_mkTup]
      refine ⟨line_ok (by simp), ?_⟩
      rw [vv_add_tup]
      refine ⟨line_ok (by rw [List.length_map, List.length_singleton]; omega), ?_⟩
      rw [wv_mkTup]
      refine ⟨line_ok (by simp), ?_⟩
      have e1 : PV.tup [.tup (vs.map PV.int ++ [.int y]), pv (some t : Option Int)] = wayP (vs ++ [y], t) := by
        show _ = PV.tup [.tup ((vs ++ [y]).map PV.int), .int t]
        rw [List.map_append]; rfl
      rw [e1, vv_append_eq hcl2 (line_lt (by rw [List.length_map]; omega))]
      have e2 : ls.map wayP ++ [wayP (vs ++ [y], t)] = (ls ++ [(vs ++ [y], t)]).map wayP := by rw [List.map_append]; rfl
      rw [e2]
      have kp2 : Kp A (K0 ++ (ls ++ [(vs ++ [y], t)])) := by
        rw [← List.append_assoc]
        refine ⟨fun e he => ?_, List.pairwise_append.mpr ⟨h.kp.srt, List.pairwise_singleton _ _, fun a ha b hb => ?_⟩, List.mem_append_left _ h.kp.base⟩
        · rcases List.mem_append.mp he with he | he
          · exact h.kp.st e he
          · rw [List.mem_singleton.mp he]
            refine ⟨fun x hx => ?_, ?_⟩
            · rcases List.mem_append.mp hx with hx | hx
              · exact hvL x hx
              · rw [List.mem_singleton.mp hx]; exact ⟨y0, y1⟩
            · show A.stw 0 0 (vs ++ [y]) = some t
              rw [Mc.stw_snoc, hvs]
              show A.stp st (0 + vs.length) y = some t
              rw [Nat.zero_add, hv, hstp]; exact hs
        · rw [List.mem_singleton.mp hb]; exact below a ha
      refine q _ (putD kvs (kk (A.pl (sz + 1) : Int) t) (.int ((cnt kvs (kk (A.pl (sz + 1) : Int) t) + 1 : Nat) : Int))) (ls ++ [(vs ++ [y], t)]) _ ⟨⟨?_, fun k' d' hd' => ?_, by omega⟩, (h.fr.putm _).put h.c0 _, List.getElem?_set_self (by rw [List.length_set]; exact ll), by rw [List.length_append, List.length_singleton]; omega, fun w hw => ?_, h.ne, h.c0, kp2, fun p' t' => ?_⟩ (.inr ⟨t, rfl⟩) fun t' ht => .inl ?_
      · rw [List.getElem?_set_ne (Ne.symm h.ne)]; exact List.getElem?_set_self dl
      · rw [valD_put] at hd'
        by_cases z : k' = kk (A.pl (sz + 1) : Int) t
        · rw [if_pos z] at hd'; cases hd'; exact ⟨_, rfl⟩
        · rw [if_neg z] at hd'; exact h.d.hi k' d' hd'
      · rcases List.mem_append.mp hw with hw | hw
        · exact h.lr w hw
        · rw [List.mem_singleton.mp hw]
          exact ⟨lvy, t0, t1⟩
      · rw [← List.append_assoc, cntK_snoc, cnt_put, lvy]
        by_cases z : kk (p' : Int) t' = kk (A.pl (sz + 1) : Int) t
        · obtain ⟨z1, z2⟩ := kk_inj.mp z
          rw [if_pos z, if_pos ⟨z1.symm, z2.symm⟩, z1, z2, hct]
        · rw [if_neg z, if_neg (fun w => z (kk_inj.mpr ⟨w.1.symm, w.2.symm⟩)), h.ct]; rfl
      · rw [only t' ht]
        exact List.mem_append_right _ (List.mem_append_right _ (List.mem_singleton.mpr rfl))
    · rw [decide_eq_false p]
      simp only [Bool.false_eq_true, if_false, ws_nil]
      refine q _ _ _ S h (.inl rfl) fun t' ht => .inr ?_
      rw [only t' ht]
      refine many_of h.kp ?_ below
      have : A.pl (vs ++ [y]).length = A.pl (sz + 1) := by rw [lvy]
      rw [show A.pl ((vs, st).1 ++ [y]).length = A.pl (sz + 1) from this, ← hct]
      omega
end
end KK

namespace KK
open PySem PySem.Spec PyProof.Rows L2 DL PySem.W
open Classical
local macro_rules | `(tactic| walk_at "dw") => `(tactic| try simp only [ws_seq, ws_nil, ws_retN, ws_bk, ws_ct, ws_expr, ws_ret, ws_set, ws_if, ws_asg, ws_sub, ws_aug, ws_for, ws_thru, ws_no, ws_raise, wv_mkX, wv_var, wv_lit, wv_bin, wv_un, wv_nil, wv_cons, wv_args, wv_test, wv_asB, wv_and, wv_or, wv_not, wv_andV, wv_orV, wv_notV, wv_if, wv_chain,
  wv_noPart, wv_part, wv_asI, wv_slice, wv_mkTup, wv_mkLst, wv_methL, wsr_args, wsr_range1, wsr_range2, wsr_seq, wsr_tup, wsr_rev, wsr_zip, vv_rev_tup, wv_lc, wpx_ret, wpx_optM, tTrue, chkL1, chkL2, chkL3, chkL4,
  vv_add_int, vv_add_tup, vv_sub, vv_mul, vv_mulA_int, vv_div, vv_mod, vv_pow, vv_neg, vv_gt, vv_ge, vv_le, vv_lt, vv_eq_int, vv_ne_int, vv_eq_bl, vv_ne_bl, eqA_int, neA_int, eqA_bl, neA_bl, eqA_tup, neA_tup, eqA_cell, neA_cell, eqA_non, neA_non, vv_eqA_str, vv_neA_str, vv_ix_tup, vv_ix_cell, vv_set, vv_len_tup, vv_len_cell, vv_abs, vv_int_int, vv_int_bl, vv_tup_tup, vv_tup_cell, vv_lst_tup, vv_lst_cell, vv_slice_tup, vv_dm, vv_mx, vv_mn,
  isi_int_int, isi_int_bool, isi_int_tuple, isi_int_str, isi_int_list, isi_bool_int, isi_bool_bool, isi_bool_tuple, isi_bool_str, isi_bool_list, isi_str_int, isi_str_bool, isi_str_tuple, isi_str_str, isi_str_list, isi_none_int, isi_none_bool, isi_none_tuple, isi_none_str, isi_none_list, isi_tuple_int, isi_tuple_bool, isi_tuple_tuple, isi_tuple_str, isi_tuple_list,
  and_true, true_and, and_self, Cell.lst.injEq, items_lst, items_rls, vv_append, vv_isL, Option.some.injEq, exists_eq_left', exists_eq_left, List.map_cons, List.map_nil, List.length_cons, List.length_nil, List.length_map, List.replicate, List.cons_append, List.nil_append, List.getElem?_cons_zero, List.getElem?_cons_succ, List.set_cons_zero, List.set_cons_succ, bindT, atI0, atI1, atI2, atI3, ix41, ix42, ix43, Nat.reduceAdd, Nat.reduceSub, List.set_set, decide_true, decide_false, if_true, if_false, Bool.false_eq_true, decide_eq_true_eq, Bool.not_true, Bool.not_false, wpx_ite, eq_self, wipeP, *])

open PVal (pv)
section
variable {ns : List Int} {S S0 S1 S' : Store} {Q : PV → Store → Prop} {QS : Fl × PEnv → Store → Prop} {E : Exn → Store → Prop} {A : Mc} {x y : Int} {vs : List Int} {k n c4 cm cl sz m R R1 : Nat} {G : List (List Key)} {kvs : List (List Key × PV)} {K0 ls wl td : List En}
theorem lo_B2 {st : Int} {x2 x4 x12 x13 : Option PV} (O : A.Ok) (hk : At A S1 k) (km : k ≠ cm) (hR : R ≤ 100000) (hR1 : R1 ≤ 100000) (hsz : sz ≤ 100000) (hG : ∀ t : Int, 0 ≤ t → t < A.rows.length → kk (A.pl (sz + 1) : Int) t ∈ G)
    (h : Lo A S1 S cm cl m R R1 sz G K0 kvs ls) (hk0 : ∀ e ∈ K0, e.1.length ≤ sz) (s0 : 0 ≤ st ∧ st < A.rows.length) (hv : vs.length = sz) (hvL : Let A.l vs) (hvs : A.stw 0 0 vs = some st) (hb : ∀ e ∈ ls, ∀ y, sl e.1 (vs ++ [y])) (ht : ∀ w ∈ td, w.1.length = sz ∧ sl vs w.1) (hb2 : ∀ e ∈ ls, ∀ w ∈ td, ∀ y, sl e.1 (w.1 ++ [y]))
    (q : ∀ y12 y13 kvs' ls' S', Lo A S1 S' cm cl m R R1 sz G K0 kvs' ls' → (∀ e ∈ ls', ∀ w ∈ td, ∀ y, sl e.1 (w.1 ++ [y])) → Done A m (K0 ++ ls') (vs, st) → (∀ e ∈ K0 ++ ls, e ∈ K0 ++ ls') → QS (.nx, [some (.cell k), some (.int A.l), x2, some (.int (m : Int)), x4, some (.cell cm), some (.int (sz : Int)), some (.int (A.lft sz)), some (.int (A.pl (sz + 1) : Int)), some (.cell cl), some (tupI vs), some (.int st), y12, y13]) S') :
    wps (g__longer_ways_B2 [some (.cell k), some (.int A.l), x2, some (.int (m : Int)), x4, some (.cell cm), some (.int (sz : Int)), some (.int (A.lft sz)), some (.int (A.pl (sz + 1) : Int)), some (.cell cl), some (tupI vs), some (.int st), x12, x13]) S QS := by
  unfold g__longer_ways_B2
  have l1 := O.l1
  have l2 := O.l2
  simp only [ws_for, wsr_args, wv_args, wv_cons, wv_nil, wv_var, List.getElem?_cons_zero, List.getElem?_cons_succ, Option.some.injEq, exists_eq_left']
  rw [wsr_range1]
  refine ⟨⟨by omega, by omega⟩, ?_⟩
  rw [range_all]
  refine for_inv (fun zs ρ S' => ∃ (j c : Nat) (kvs' : List (List Key × PV)) (ls' : List En), j + c = A.l.toNat ∧ zs = (List.range' j c).map (fun k : Nat => PV.int (k : Int)) ∧ Lo A S1 S' cm cl m R R1 sz G K0 kvs' ls' ∧ (∀ e ∈ ls', ∀ y : Int, (j : Int) ≤ y → sl e.1 (vs ++ [y])) ∧ (∀ e ∈ ls', ∀ w ∈ td, ∀ y, sl e.1 (w.1 ++ [y])) ∧ (∀ y : Int, 0 ≤ y → y < j → Step A m (K0 ++ ls') (vs, st) y) ∧ (∀ e ∈ K0 ++ ls, e ∈ K0 ++ ls') ∧ ∃ y12 y13, ρ = [some (.cell k), some (.int A.l), x2, some (.int (m : Int)), x4, some (.cell cm), some (.int (sz : Int)), some (.int (A.lft sz)), some (.int (A.pl (sz + 1) : Int)), some (.cell cl), some (tupI vs), some (.int st), y12, y13]) _ _ _
    ⟨0, A.l.toNat, kvs, ls, by omega, rfl, h, fun e he y _ => hb e he y, hb2, fun y a b => by omega, fun _ h => h, _, _, rfl⟩ (fun _ _ _ _ => trivial) ?_ ?_
  · rintro ρ S' ⟨j, c, kvs', ls', hj, hz, h', _, g2, g3, g4, y12, y13, rfl⟩
    have h0 : c = 0 := by cases c with | zero => rfl | succ c => rw [range_from] at hz; cases hz
    subst h0
    exact q _ _ _ _ S' h' g2 (fun y a b => g3 y a (by omega)) g4
  · rintro z zs ρ S' ⟨j, c, kvs', ls', hj, hz, h', g1, g2, g3, g4, y12, y13, rfl⟩
    cases c with
    | zero => cases hz
    | succ c =>
      rw [range_from] at hz
      injection hz with h1 h2
      subst h1; subst h2
      refine ⟨_, rfl, ?_⟩
      simp only [List.set_cons_zero, List.set_cons_succ]
      refine lo_B1 O hk km hR hR1 hsz hG h' hk0 (by omega) (by omega) s0 hv hvL hvs (fun e he => g1 e he j (Int.le_refl _)) fun y13 kvs2 ls2 S2 h2 hls hst => ?_
      have sub : ∀ e ∈ K0 ++ ls', e ∈ K0 ++ ls2 := fun e he => by
        rcases hls with rfl | ⟨t, rfl⟩
        · exact he
        · rw [← List.append_assoc]; exact List.mem_append_left _ he
      have mem2 : ∀ e ∈ ls2, e ∈ ls' ∨ e.1 = vs ++ [(j : Int)] := fun e he => by
        rcases hls with rfl | ⟨t, rfl⟩
        · exact .inl he
        · rcases List.mem_append.mp he with he | he
          · exact .inl he
          · rw [List.mem_singleton.mp he]; exact .inr rfl
      refine ⟨j + 1, c, kvs2, ls2, by omega, rfl, h2, fun e he y hy => ?_, fun e he w hw y => ?_, fun y a b => ?_, fun e he => sub e (g4 e he), _, _, rfl⟩
      · rcases mem2 e he with h | h
        · exact g1 e h y (by omega)
        · rw [h]; exact .inr ⟨by simp, lx_last _ (by omega)⟩
      · rcases mem2 e he with h | h
        · exact g2 e h w hw y
        · obtain ⟨t1, t2⟩ := ht w hw
          rw [h]
          rcases t2 with t2 | ⟨t2, t3⟩
          · omega
          · exact .inr ⟨by simp [t2], lx_snoc _ _ t2 t3⟩
      · by_cases yj : y = j
        · subst yj; exact hst
        · exact (g3 y a (by omega)).mono sub
theorem longer_is (O : A.Ok) (hk : At A S k) (km : k ≠ cm) (lw : A.ws.length ≤ 1000) (hR : R ≤ 100000) (hsz : sz ≤ 100000) (c4m : c4 ≠ cm) (h4 : S[c4]? = some (.lst (wl.map wayP))) (h0 : wl ≠ [])
    (hwl : ∀ w ∈ wl, w.1.length = sz ∧ 0 ≤ w.2 ∧ w.2 < A.rows.length) (hws : wl.Pairwise fun a b => sl a.1 b.1) (hwk : ∀ w ∈ wl, w ∈ K0) (hk0 : ∀ e ∈ K0, e.1.length ≤ sz) (kp : Kp A K0) (ct : ∀ (p : Nat) (t : Int), cnt kvs (kk (p : Int) t) = cntK A K0 p t) (d : Dic S cm m R (grid A.ws.length A.rows.length) kvs)
    (q : ∀ (kvs' : List (List Key × PV)) (ls : List En) (S' : Store) (cl : Nat), Dic S' cm m R (grid A.ws.length A.rows.length) kvs' → Fr cm S S' → S.length ≤ cl → S'[cl]? = some (.lst (ls.map wayP)) → ls.length + rem m (grid A.ws.length A.rows.length) kvs' ≤ rem m (grid A.ws.length A.rows.length) kvs → (∀ w ∈ ls, w.1.length = sz + 1 ∧ 0 ≤ w.2 ∧ w.2 < A.rows.length) → Kp A (K0 ++ ls) → (∀ (p : Nat) (t : Int), cnt kvs' (kk (p : Int) t) = cntK A (K0 ++ ls) p t) → (∀ w ∈ wl, Done A m (K0 ++ ls) w) → Q (.cell cl) S') :
    wpx (F__longer_ways [.cell k, .int A.l, tupI A.ws, .int (m : Int), .cell c4, .cell cm]) S Q E := by
  unfold F__longer_ways
  refine wp_run ?_
  unfold g__longer_ways
  have hf := d.hf
  have hw := O.hw
  have hwl' := hwl
  cases hwe : wl with
  | nil => exact absurd hwe h0
  | cons w wl2 =>
    have w0 := (hwl w (by rw [hwe]; exact List.mem_cons_self)).1
    simp only [ws_seq, ws_set, wv_args, wv_bin, wv_cons, wv_nil, wv_var, wv_lit, List.map_nil, List.cons_append, List.nil_append, List.length_cons, List.length_nil, Nat.reduceAdd, Nat.reduceSub, List.replicate, List.set_cons_zero, List.set_cons_succ, List.getElem?_cons_zero, List.getElem?_cons_succ, Option.some.injEq, exists_eq_left', List.map_cons]
    have h4' := h4
    rw [hwe, List.map_cons] at h4'
    rw [vv_ix_cell]
    refine ⟨_, h4', _, rfl, wayP w, atI0, ?_⟩
    unfold wayP
    rw [vv_ix_tup]
    refine ⟨_, atI0, ?_⟩
    rw [vv_len_tup, List.length_map, w0]
    have hx : ∀ {Q : PV → Store → Prop} {E : Exn → Store → Prop}, Q (.int (A.lft sz)) S → wpx (eIf (eTest (eBin ltA (eVar 6) (eArgs lenV (eCons (eVar 2) eNil)))) (eBin ixV (eVar 2) (eVar 6)) (eVar 1) [some (.cell k), some (.int A.l), some (tupI A.ws), some (.int (m : Int)), some (.cell c4), some (.cell cm), some (.int (sz : Int)), none, none, none, none, none, none, none]) S Q E := by
      intro Q E z
      unfold Mc.lft at z
      by_cases p : (sz : Int) < A.ws.length
      · have hs : sz < A.ws.length := by omega
        rw [List.getElem?_eq_getElem hs] at z
        simp only [wv_if, wv_test, wv_bin, wv_args, wv_cons, wv_nil, wv_var, List.getElem?_cons_zero, List.getElem?_cons_succ, Option.some.injEq, exists_eq_left']
        rw [vv_len_tup, List.length_map, vv_lt, wv_asB, decide_eq_true p, if_pos rfl, vv_ix_tup]
        refine ⟨.int A.ws[sz], ?_, z⟩
        rw [atI_pos (by omega), Int.toNat_natCast, List.getElem?_map, List.getElem?_eq_getElem hs]; rfl
      · rw [List.getElem?_eq_none (by omega)] at z
        simp only [wv_if, wv_test, wv_bin, wv_args, wv_cons, wv_nil, wv_var, List.getElem?_cons_zero, List.getElem?_cons_succ, Option.some.injEq, exists_eq_left']
        rw [vv_len_tup, List.length_map, vv_lt, wv_asB, decide_eq_false p, if_neg (by decide)]
        exact z
    refine hx ?_
    clear hx
    rw [vv_add_int, vv_len_tup, List.length_map, vv_mn]
    have em : (if (A.ws.length : Int) < (sz : Int) + 1 then (A.ws.length : Int) else (sz : Int) + 1) = ((A.pl (sz + 1) : Nat) : Int) := by
      unfold Mc.pl
      split <;> omega
    rw [em, wv_mkLst]
    refine ⟨line_ok (by simp), ?_⟩
    have hG : ∀ t : Int, 0 ≤ t → t < A.rows.length → kk (A.pl (sz + 1) : Int) t ∈ grid A.ws.length A.rows.length := fun t t0 t1 => grid_mem (by omega) (by unfold Mc.pl; omega) t0 t1
    simp only [ws_for, wsr_seq, wv_var, List.set_cons_zero, List.set_cons_succ, List.getElem?_cons_zero, List.getElem?_cons_succ, Option.some.injEq, exists_eq_left']
    have h4s := (List.getElem?_eq_some_iff.mp h4).1
    rw [wsr_cell ((Ext.snoc S (.lst [])).get h4) rfl]
    have dl := (List.getElem?_eq_some_iff.mp d.hd).1
    refine for_inv (fun zs ρ S' => ∃ (dn td : List En), zs = td.map wayP ∧ wl = dn ++ td ∧ ∃ (kvs' : List (List Key × PV)) (ls' : List En), ∃ y10 y11 y12 y13, Lo A S S' cm S.length m R (rem m (grid A.ws.length A.rows.length) kvs) sz (grid A.ws.length A.rows.length) K0 kvs' ls' ∧ (∀ e ∈ ls', ∀ w ∈ td, ∀ y, sl e.1 (w.1 ++ [y])) ∧ (∀ w ∈ dn, Done A m (K0 ++ ls') w) ∧ ρ = [some (.cell k), some (.int A.l), some (tupI A.ws), some (.int (m : Int)), some (.cell c4), some (.cell cm), some (.int (sz : Int)), some (.int (A.lft sz)), some (.int (A.pl (sz + 1) : Int)), some (.cell S.length), y10, y11, y12, y13]) _ _ _
      ⟨[], wl, rfl, rfl, kvs, [], _, _, _, _, ⟨⟨(Ext.snoc _ _).get d.hd, d.hi, d.hf⟩, (Fr.refl _ _).ext (Ext.snoc _ _), sn0, by simp, (fun _ h => by cases h), by omega, Nat.le_refl _, by rw [List.append_nil]; exact kp, by rw [List.append_nil]; exact ct⟩, (fun _ h => by cases h), (fun _ h => by cases h), rfl⟩ (fun _ _ S' g => by
        obtain ⟨_, _, _, _, kvs', ls', _, _, _, _, g, _⟩ := g
        exact g.fr.get c4m h4) ?_ ?_
    · rintro ρ S' ⟨dn, td, hz, hd, kvs', ls', y10, y11, y12, y13, h', _, g2, rfl⟩
      have td0 : td = [] := by cases td with | nil => rfl | cons a b => cases hz
      subst td0
      rw [List.append_nil] at hd
      unfold g__longer_ways_R3
      simp only [ws_ret, wv_var, List.getElem?_cons_zero, List.getElem?_cons_succ, Option.some.injEq, exists_eq_left']
      exact q kvs' ls' S' S.length h'.d h'.fr (Nat.le_refl _) h'.hl h'.ll h'.lr h'.kp h'.ct (by rw [hd]; exact g2)
    · rintro z zs ρ S' ⟨dn, td, hz, hd, kvs', ls', y10, y11, y12, y13, h', g1, g2, rfl⟩
      cases td with
      | nil => cases hz
      | cons w td =>
        injection hz with h1 h2
        subst h1; subst h2
        have wm : w ∈ wl := by rw [hd]; simp
        obtain ⟨a1, a2, a3⟩ := hwl' w wm
        obtain ⟨b1, b2⟩ := kp.st w (hwk w wm)
        have hp := hws
        rw [hd] at hp
        have hp2 := (List.pairwise_append.mp hp).2.1
        rw [List.pairwise_cons] at hp2
        refine ⟨[some (.cell k), some (.int A.l), some (tupI A.ws), some (.int (m : Int)), some (.cell c4), some (.cell cm), some (.int (sz : Int)), some (.int (A.lft sz)), some (.int (A.pl (sz + 1) : Int)), some (.cell S.length), some (tupI w.1), some (.int w.2), y12, y13], rfl, ?_⟩
        refine lo_B2 (td := td) O hk km hR (by omega) hsz hG h' hk0 ⟨a2, a3⟩ a1 b1 b2 (fun e he y => g1 e he w List.mem_cons_self y) (fun w' hw' => ⟨(hwl' w' (by rw [hd]; simp [hw'])).1, hp2.1 w' hw'⟩) (fun e he w' hw' y => g1 e he w' (List.mem_cons_of_mem _ hw') y) fun y12 y13 kvs2 ls2 S2 h2 g3 g4 g5 => ?_
        refine ⟨dn ++ [w], td, rfl, by rw [hd]; simp, kvs2, ls2, _, _, _, _, h2, g3, fun w' hw' => ?_, rfl⟩
        rcases List.mem_append.mp hw' with hw' | hw'
        · exact (g2 w' hw').mono g5
        · rw [List.mem_singleton.mp hw']; exact g4
end
end KK

namespace KK
open PySem PySem.Spec PyProof.Rows L2 DL PySem.W
open Classical
local macro_rules | `(tactic| walk_at "dw") => `(tactic| try simp only [ws_seq, ws_nil, ws_retN, ws_bk, ws_ct, ws_expr, ws_ret, ws_set, ws_if, ws_asg, ws_sub, ws_aug, ws_for, ws_thru, ws_no, ws_raise, wv_mkX, wv_var, wv_lit, wv_bin, wv_un, wv_nil, wv_cons, wv_args, wv_test, wv_asB, wv_and, wv_or, wv_not, wv_andV, wv_orV, wv_notV, wv_if, wv_chain,
  wv_noPart, wv_part, wv_asI, wv_slice, wv_mkTup, wv_mkLst, wv_methL, wsr_args, wsr_range1, wsr_range2, wsr_seq, wsr_tup, wsr_rev, wsr_zip, vv_rev_tup, wv_lc, wpx_ret, wpx_optM, tTrue, chkL1, chkL2, chkL3, chkL4,
  vv_add_int, vv_add_tup, vv_sub, vv_mul, vv_mulA_int, vv_div, vv_mod, vv_pow, vv_neg, vv_gt, vv_ge, vv_le, vv_lt, vv_eq_int, vv_ne_int, vv_eq_bl, vv_ne_bl, eqA_int, neA_int, eqA_bl, neA_bl, eqA_tup, neA_tup, eqA_cell, neA_cell, eqA_non, neA_non, vv_eqA_str, vv_neA_str, vv_ix_tup, vv_ix_cell, vv_set, vv_len_tup, vv_len_cell, vv_abs, vv_int_int, vv_int_bl, vv_tup_tup, vv_tup_cell, vv_lst_tup, vv_lst_cell, vv_slice_tup, vv_dm, vv_mx, vv_mn,
  isi_int_int, isi_int_bool, isi_int_tuple, isi_int_str, isi_int_list, isi_bool_int, isi_bool_bool, isi_bool_tuple, isi_bool_str, isi_bool_list, isi_str_int, isi_str_bool, isi_str_tuple, isi_str_str, isi_str_list, isi_none_int, isi_none_bool, isi_none_tuple, isi_none_str, isi_none_list, isi_tuple_int, isi_tuple_bool, isi_tuple_tuple, isi_tuple_str, isi_tuple_list,
  and_true, true_and, and_self, Cell.lst.injEq, items_lst, items_rls, vv_append, vv_isL, Option.some.injEq, exists_eq_left', exists_eq_left, List.map_cons, List.map_nil, List.length_cons, List.length_nil, List.length_map, List.replicate, List.cons_append, List.nil_append, List.getElem?_cons_zero, List.getElem?_cons_succ, List.set_cons_zero, List.set_cons_succ, bindT, atI0, atI1, atI2, atI3, ix41, ix42, ix43, Nat.reduceAdd, Nat.reduceSub, List.set_set, decide_true, decide_false, if_true, if_false, Bool.false_eq_true, decide_eq_true_eq, Bool.not_true, Bool.not_false, wpx_ite, eq_self, wipeP, *])

open PVal (pv)
theorem vv_extend {S : Store} {Q : PV → Store → Prop} {E : Exn → Store → Prop} {n m : Nat} {xs zs : List PV} (h1 : S[n]? = some (.lst xs)) (h2 : S[m]? = some (.lst zs)) (hl : xs.length + zs.length ≤ sizeLine) (q : Q .non (S.set n (.lst (xs ++ zs)))) : wpx (extendV (.cell n) [.cell m]) S Q E := by
  have e : extendV (.cell n) [.cell m] S = .ok .non (S.set n (.lst (xs ++ zs))) := by
    simp only [extendV, wlM, getC, h1, h2, if_pos hl, DL.putL]
  exact (wpx_eq e).mpr q
theorem lc_filt {S : Store} {Q : PV → Store → Prop} {E : Exn → Store → Prop} {ρ : PEnv} {chk : Store → Prop} {t : Tgt} {test : PEnv → M Bool} {elt : PEnv → M PV} {xs : List PV} (f : PV → PV) (p : PV → Bool) (hl : xs.length ≤ sizeLine) (hk : ∀ S', Ext S S' → chk S')
    (h : ∀ x ∈ xs, ∀ S', Ext S S' → ∃ ρ1, bindT t x ρ = some ρ1 ∧ wpx (test ρ1) S' (fun b S1 => b = p x ∧ Ext S' S1 ∧ (p x = true → wpx (elt ρ1) S1 (fun y S2 => y = f x ∧ Ext S1 S2) (fun _ _ => False))) (fun _ _ => False))
    (q : ∀ S', Ext S S' → S'[S.length]? = some (.lst ((xs.filter p).map f)) → Q (.cell S.length) S') : wpx (lcGo chk t test elt ρ S.length xs) (S ++ [.lst []]) Q E := by
  refine lc_inv (fun ys acc S' => ∃ zs, zs ++ ys = xs ∧ acc = (zs.filter p).map f ∧ Ext S S' ∧ S'[S.length]? = some (.lst acc)) xs [] _ ⟨[], rfl, rfl, .snoc _ _, by simp⟩ ?_ ?_ ?_
  · rintro ys acc S' ⟨zs, _, _, e, h1⟩
    exact ⟨hk _ e, h1⟩
  · rintro acc S' ⟨zs, h1, rfl, e, h2⟩
    rw [List.append_nil] at h1
    subst h1
    exact q S' e h2
  · rintro x ys acc S' ⟨zs, h1, rfl, e, h2⟩
    obtain ⟨ρ1, hb, hx⟩ := h x (by rw [← h1]; simp) S' e
    refine ⟨ρ1, hb, wpx_imp hx fun b S1 ⟨hb2, e1, hy⟩ => ?_⟩
    subst hb2
    cases hp : p x with
    | false =>
      rw [if_neg (by decide)]
      exact ⟨zs ++ [x], by rw [← h1]; simp, by rw [List.filter_append]; simp [hp], e.trans e1, e1.get h2⟩
    | true =>
      rw [if_pos rfl]
      refine wpx_imp (hy hp) fun y S2 ⟨hy2, e2⟩ => ?_
      subst hy2
      have h3 := e2.get (e1.get h2)
      refine ⟨h3, ?_, zs ++ [x], by rw [← h1]; simp, by rw [List.filter_append]; simp [hp], ((e.trans e1).trans e2).put (Nat.le_refl _) _, ?_⟩
      · rw [List.length_map]
        have h4 : (zs.filter p).length ≤ zs.length := List.length_filter_le _ _
        have : zs.length + (ys.length + 1) ≤ sizeLine := by rw [← h1] at hl; simpa using hl
        omega
      · rw [List.getElem?_set_self (List.getElem?_eq_some_iff.mp h3).1]
section
variable {ns : List Int} {S S0 S1 S' : Store} {Q : PV → Store → Prop} {QS : Fl × PEnv → Store → Prop} {E : Exn → Store → Prop} {A : Mc} {x y : Int} {vs : List Int} {k n c4 c5 c6 cm cl sz m R R1 p c : Nat} {G : List (List Key)} {kvs : List (List Key × PV)} {K1 ls wl td : List En} {cs : List Nat} {F : List (List Int)}
theorem vv_slice_cell {n : Nat} {c : Cell} {ys : List PV} {lo hi : Option Int} (h : S[n]? = some c) (hy : c.items? = some ys) (q : Q (.cell S.length) (S ++ [.lst (cutP ys lo hi)])) : wpx (sliceV (.cell n) lo hi) S Q E := by
  have e : sliceV (.cell n) lo hi S = .ok (.cell S.length) (S ++ [.lst (cutP ys lo hi)]) := by
    simp only [sliceV, getC, h, optM, hy]
    rfl
  exact (wpx_eq e).mpr q
theorem rem_bd {a n : Nat} {kvs : List (List Key × PV)} (hm : m ≤ 2) (ha : a ≤ 1000) (hn : n ≤ 12) : rem m (grid a n) kvs ≤ 30000 := by
  have h1 : rem m (grid a n) kvs ≤ m * (grid a n).length := sum_bd fun _ _ => Nat.sub_le _ _
  rw [grid_len] at h1
  have h2 : (a + 1) * n ≤ 1001 * 12 := Nat.mul_le_mul (by omega) hn
  have h3 : m * ((a + 1) * n) ≤ 2 * (1001 * 12) := Nat.mul_le_mul hm h2
  omega
theorem Ends.keep (h : Ends A S c4 cs) (e : ∀ c, c ≤ c4 → S'[c]? = S[c]?) : Ends A S' c4 cs := ⟨by rw [e c4 (Nat.le_refl _)]; exact h.1, h.2.1, fun p hp => by
  obtain ⟨a, xs, b1, b2⟩ := h.2.2 p hp
  exact ⟨a, xs, by rw [e _ (Nat.le_of_lt a)]; exact b1, b2⟩⟩
theorem Ends.lt (h : Ends A S c4 cs) : c4 < S.length := (List.getElem?_eq_some_iff.mp h.1).1
def accE (A : Mc) (e : En) : Bool := A.fin e.2 e.1.length
theorem found_split (h1 : ∀ e ∈ K1, e.1.length < k) (h2 : ∀ e ∈ wl, k ≤ e.1.length) : found A (K1 ++ wl) k = (K1.filter (accE A)).map (·.1) := by
  unfold found
  rw [List.filter_append]
  have a : (wl.filter fun e => decide (e.1.length < k) && A.fin e.2 e.1.length) = [] := by
    rw [List.filter_eq_nil_iff]
    intro e he
    rw [decide_eq_false (by have := h2 e he; omega)]; simp
  have b : (K1.filter fun e => decide (e.1.length < k) && A.fin e.2 e.1.length) = K1.filter (accE A) := by
    refine List.filter_congr fun e he => ?_
    rw [decide_eq_true (h1 e he), Bool.true_and]; rfl
  rw [a, b, List.append_nil]
/-- the loop of _led -/
structure Le (A : Mc) (S0 S : Store) (c4 c5 c6 cm m : Nat) (cs : List Nat) (F : List (List Int)) (kvs : List (List Key × PV)) (K1 wl : List En) (sz : Nat) : Prop where
  e : Ext S0 S
  t : Ends A S c4 cs
  h5 : S[c5]? = some (.lst (F.map tupI))
  h6 : S[c6]? = some (.lst (wl.map wayP))
  d : Dic S cm m 100000 (grid A.ws.length A.rows.length) kvs
  wr : ∀ w ∈ wl, w.1.length = sz ∧ 0 ≤ w.2 ∧ w.2 < A.rows.length
  wn : wl.length ≤ 100000
  fn : F.length ≤ 200000
  sr : wl ≠ [] → sz + rem m (grid A.ws.length A.rows.length) kvs ≤ 100000
  b5 : S0.length ≤ c5
  bm : S0.length ≤ cm
  m5 : c5 ≠ cm
  m6 : c6 ≠ cm
  x56 : c5 ≠ c6
  c45 : c4 < c5
  c4m : c4 < cm
  kp : Kp A (K1 ++ wl)
  ct : ∀ (p : Nat) (t : Int), cnt kvs (kk (p : Int) t) = cntK A (K1 ++ wl) p t
  k1 : ∀ e ∈ K1, e.1.length < sz
  dn : ∀ e ∈ K1, Done A m (K1 ++ wl) e
  ff : F = (K1.filter (accE A)).map (·.1)
theorem at_wl {w : En} : L2.atI ((w :: wl).map wayP) 0 = some (wayP w) := atI0
def wayW : PV → PV
  | .tup [a, _] => a
  | x => x
def wayT (xs : List Int) : PV → Bool
  | .tup [_, .int s] => decide (xs.getD s.toNat 0 = 1)
  | _ => false
theorem le_B1 {y8 : Option PV} (O : A.Ok) (hk : At A S0 k) (lw : A.ws.length ≤ 1000) (h0 : wl ≠ []) (hf : F.length ≤ 100)
    (h : Le A S0 S c4 c5 c6 cm m cs F kvs K1 wl sz)
    (q : ∀ y8 c6' F' kvs' K1' wl' sz' S', Le A S0 S' c4 c5 c6' cm m cs F' kvs' K1' wl' sz' → rem m (grid A.ws.length A.rows.length) kvs' ≤ rem m (grid A.ws.length A.rows.length) kvs → (wl' ≠ [] → rem m (grid A.ws.length A.rows.length) kvs' + 1 ≤ rem m (grid A.ws.length A.rows.length) kvs) →
      QS (.nx, [some (.cell k), some (.int A.l), some (tupI A.ws), some (.int (m : Int)), some (.cell c4), some (.cell c5), some (.cell c6'), some (.cell cm), y8, none, none]) S') :
    wps (g__led_B1 [some (.cell k), some (.int A.l), some (tupI A.ws), some (.int (m : Int)), some (.cell c4), some (.cell c5), some (.cell c6), some (.cell cm), y8, none, none]) S QS := by
  unfold g__led_B1
  have kl := (List.getElem?_eq_some_iff.mp hk).1
  have bm := h.bm
  have sr := h.sr h0
  have c45 := h.c45
  have c4m := h.c4m
  obtain ⟨w, wl2, hwe⟩ : ∃ w wl2, wl = w :: wl2 := by
    cases wl with
    | nil => exact absurd rfl h0
    | cons w wl2 => exact ⟨w, wl2, rfl⟩
  have w0 := (h.wr w (by rw [hwe]; exact List.mem_cons_self)).1
  have h6 := h.h6
  have at0 : L2.atI (wl.map wayP) 0 = some (wayP w) := by rw [hwe]; exact at_wl
  simp only [ws_seq, ws_set, wv_args, wv_bin, wv_cons, wv_nil, wv_var, wv_lit, List.set_cons_zero, List.set_cons_succ, List.getElem?_cons_zero, List.getElem?_cons_succ, Option.some.injEq, exists_eq_left']
  rw [vv_ix_cell]
  refine ⟨_, h6, _, rfl, wayP w, at0, ?_⟩
  have ew : wayP w = .tup [tupI w.1, .int w.2] := rfl
  rw [ew, vv_ix_tup]
  refine ⟨_, atI0, ?_⟩
  rw [vv_len_tup, vv_len_tup, List.length_map, List.length_map, w0, vv_mn]
  have em : (if (A.ws.length : Int) < (sz : Int) then (A.ws.length : Int) else (sz : Int)) = ((A.pl sz : Nat) : Int) := by
    unfold Mc.pl
    split <;> omega
  rw [em]
  simp only [ws_expr, wv_methL, wv_cons, wv_nil, wv_var, List.set_cons_zero, List.set_cons_succ, List.getElem?_cons_zero, List.getElem?_cons_succ, Option.some.injEq, exists_eq_left']
  rw [vv_isL]
  refine ⟨_, h.h5, _, rfl, ?_⟩
  simp only [wv_lc, wsr_seq, wv_var, List.set_cons_zero, List.set_cons_succ, List.getElem?_cons_zero, List.getElem?_cons_succ, Option.some.injEq, exists_eq_left', List.map_cons, List.map_nil, wipeP]
  have pc : A.pl sz < cs.length := by rw [h.t.2.1]; unfold Mc.pl; omega
  obtain ⟨_, xs, hx1, hx2, hx3⟩ := h.t.2.2 (A.pl sz) pc
  rw [wsr_cell h6 rfl]
  have wn := h.wn
  refine lc_filt wayW (wayT xs) (line_ok (by rw [List.length_map]; omega)) (fun S' e => e.get h6) (fun y hy S2 e2 => ?_) fun S2 e2 h2 => ?_
  · obtain ⟨w', hw', rfl⟩ := List.mem_map.mp hy
    obtain ⟨_, s0, s1⟩ := h.wr w' hw'
    refine ⟨[some (.cell k), some (.int A.l), some (tupI A.ws), some (.int (m : Int)), some (.cell c4), some (.cell c5), some (.cell c6), some (.cell cm), some (.int (A.pl sz : Int)), some (tupI w'.1), some (.int w'.2)], rfl, ?_⟩
    simp only [wv_test, wv_bin, wv_var, wv_lit, List.getElem?_cons_zero, List.getElem?_cons_succ, Option.some.injEq, exists_eq_left']
    rw [vv_ix_cell]
    refine ⟨_, e2.get h.t.1, _, rfl, .cell cs[A.pl sz], ?_, ?_⟩
    · rw [atI_pos (by omega), Int.toNat_natCast, List.getElem?_map, List.getElem?_eq_getElem pc]; rfl
    rw [vv_ix_cell]
    refine ⟨_, e2.get hx1, _, rfl, _, (end_at s0 (by omega)).1, ?_⟩
    rw [eqA_int, vv_eq_int, wv_asB]
    refine ⟨rfl, .refl _, fun _ => ?_⟩
    exact ⟨rfl, .refl _⟩
  · have ef : ((wl.map wayP).filter (wayT xs)).map wayW = ((wl.filter (accE A)).map (·.1)).map tupI := by
      rw [List.filter_map, List.map_map, List.map_map]
      have : wl.filter (wayT xs ∘ wayP) = wl.filter (accE A) := by
        refine List.filter_congr fun e he => ?_
        obtain ⟨l0, s0, s1⟩ := h.wr e he
        show decide (xs.getD e.2.toNat 0 = 1) = A.fin e.2 e.1.length
        have := hx3 e.2 s0 s1
        rw [l0, Mc.fin_pl (i := sz) (j := A.pl sz) (by unfold Mc.pl; omega)]
        cases hb : A.fin e.2 (A.pl sz) with
        | true => rw [hb] at this; exact decide_eq_true (this.mpr rfl)
        | false => rw [hb] at this; exact decide_eq_false fun z => by cases this.mp z
      rw [this]; rfl
    change S2[S.length]? = some (.lst (((wl.map wayP).filter (wayT xs)).map wayW)) at h2
    rw [ef] at h2
    have fl : (wl.filter (accE A)).length ≤ wl.length := List.length_filter_le _ _
    have l5 := (List.getElem?_eq_some_iff.mp h.h5).1
    refine vv_extend (e2.get h.h5) h2 (line_ok (by rw [List.length_map, List.length_map, List.length_map]; omega)) ?_
    rw [← List.map_append]
    have ff2 : F ++ (wl.filter (accE A)).map (·.1) = ((K1 ++ wl).filter (accE A)).map (·.1) := by rw [List.filter_append, List.map_append, ← h.ff]
    rw [ff2]
    have fs2l : (((K1 ++ wl).filter (accE A)).map (·.1)).length ≤ 200000 := by rw [← ff2, List.length_append, List.length_map]; omega
    generalize hF2 : ((K1 ++ wl).filter (accE A)).map (·.1) = F2 at fs2l
    generalize hS3 : S2.set c5 (.lst (F2.map tupI)) = S3
    have st : ∀ j, j ≠ c5 → j < S.length → S3[j]? = S[j]? := fun j h1 hj => by
      rw [← hS3, List.getElem?_set_ne (Ne.symm h1)]
      obtain ⟨T, rfl⟩ := e2
      exact List.getElem?_append_left hj
    have len3 : S.length ≤ S3.length := by rw [← hS3, List.length_set]; exact e2.len
    have g5 : S3[c5]? = some (.lst (F2.map tupI)) := by rw [← hS3]; exact List.getElem?_set_self (by have := e2.len; omega)
    have l6 := (List.getElem?_eq_some_iff.mp h6).1
    have lm := (List.getElem?_eq_some_iff.mp h.d.hd).1
    have g6 : S3[c6]? = some (.lst (wl.map wayP)) := (st c6 (Ne.symm h.x56) l6).trans h6
    have e3 : Ext S0 S3 := by rw [← hS3]; exact (h.e.trans e2).put h.b5 _
    have t3 : Ends A S3 c4 cs := h.t.keep fun c hc => st c (by omega) (by have := h.t.lt; omega)
    have d3 : Dic S3 cm m 100000 (grid A.ws.length A.rows.length) kvs := ⟨(st cm (Ne.symm h.m5) lm).trans h.d.hd, h.d.hi, h.d.hf⟩
    simp only [ws_set, wv_args, wv_cons, wv_nil, wv_var, List.set_cons_zero, List.set_cons_succ, List.getElem?_cons_zero, List.getElem?_cons_succ, Option.some.injEq, exists_eq_left', chkL6]
    have hrem := h.d.hf
    have k01 : ∀ e ∈ K1 ++ wl, e.1.length ≤ sz := fun e he => by
      rcases List.mem_append.mp he with he | he
      · have := h.k1 e he; omega
      · have := (h.wr e he).1; omega
    refine longer_is (K0 := K1 ++ wl) (R := 100000) O (e3.get hk) (by omega) lw (by omega) (by omega) h.m6 g6 h0 h.wr (List.pairwise_append.mp h.kp.srt).2.1 (fun w hw => List.mem_append_right _ hw) k01 h.kp h.ct d3 fun kvs' ls S4 cl d4 f4 b4 h4 r4 w4 kp4 ct4 dn4 => ?_
    have lt5 := (List.getElem?_eq_some_iff.mp g5).1
    refine q _ cl F2 kvs' (K1 ++ wl) ls (sz + 1) S4 ⟨Ext.fr e3 f4 bm, t3.keep fun c hc => f4.stay c (by omega) (by have := t3.lt; omega), f4.get h.m5 g5, h4, d4, w4, by omega, fs2l, fun hn => ?_, h.b5, bm, h.m5, by omega, by omega, c45, c4m, kp4, ct4, fun e he => by have := k01 e he; omega, fun e he => ?_, hF2.symm⟩ (by omega) fun hn => ?_
    · have : 0 < ls.length := List.length_pos_iff.mpr hn
      omega
    · rcases List.mem_append.mp he with he | he
      · exact (h.dn e he).mono fun x hx => List.mem_append_left _ hx
      · exact dn4 e he
    · have : 0 < ls.length := List.length_pos_iff.mpr hn
      omega
end
end KK

namespace KK
open PySem PySem.Spec PyProof.Rows L2 DL PySem.W
open Classical
local macro_rules | `(tactic| walk_at "dw") => `(tactic| try simp only [ws_seq, ws_nil, ws_retN, ws_bk, ws_ct, ws_expr, ws_ret, ws_set, ws_if, ws_asg, ws_sub, ws_aug, ws_for, ws_thru, ws_no, ws_raise, wv_mkX, wv_var, wv_lit, wv_bin, wv_un, wv_nil, wv_cons, wv_args, wv_test, wv_asB, wv_and, wv_or, wv_not, wv_andV, wv_orV, wv_notV, wv_if, wv_chain,
  wv_noPart, wv_part, wv_asI, wv_slice, wv_mkTup, wv_mkLst, wv_methL, wsr_args, wsr_range1, wsr_range2, wsr_seq, wsr_tup, wsr_rev, wsr_zip, vv_rev_tup, wv_lc, wpx_ret, wpx_optM, tTrue, chkL1, chkL2, chkL3, chkL4,
  vv_add_int, vv_add_tup, vv_sub, vv_mul, vv_mulA_int, vv_div, vv_mod, vv_pow, vv_neg, vv_gt, vv_ge, vv_le, vv_lt, vv_eq_int, vv_ne_int, vv_eq_bl, vv_ne_bl, eqA_int, neA_int, eqA_bl, neA_bl, eqA_tup, neA_tup, eqA_cell, neA_cell, eqA_non, neA_non, vv_eqA_str, vv_neA_str, vv_ix_tup, vv_ix_cell, vv_set, vv_len_tup, vv_len_cell, vv_abs, vv_int_int, vv_int_bl, vv_tup_tup, vv_tup_cell, vv_lst_tup, vv_lst_cell, vv_slice_tup, vv_dm, vv_mx, vv_mn,
  isi_int_int, isi_int_bool, isi_int_tuple, isi_int_str, isi_int_list, isi_bool_int, isi_bool_bool, isi_bool_tuple, isi_bool_str, isi_bool_list, isi_str_int, isi_str_bool, isi_str_tuple, isi_str_str, isi_str_list, isi_none_int, isi_none_bool, isi_none_tuple, isi_none_str, isi_none_list, isi_tuple_int, isi_tuple_bool, isi_tuple_tuple, isi_tuple_str, isi_tuple_list,
  and_true, true_and, and_self, Cell.lst.injEq, items_lst, items_rls, vv_append, vv_isL, Option.some.injEq, exists_eq_left', exists_eq_left, List.map_cons, List.map_nil, List.length_cons, List.length_nil, List.length_map, List.replicate, List.cons_append, List.nil_append, List.getElem?_cons_zero, List.getElem?_cons_succ, List.set_cons_zero, List.set_cons_succ, bindT, atI0, atI1, atI2, atI3, ix41, ix42, ix43, Nat.reduceAdd, Nat.reduceSub, List.set_set, decide_true, decide_false, if_true, if_false, Bool.false_eq_true, decide_eq_true_eq, Bool.not_true, Bool.not_false, wpx_ite, eq_self, wipeP, *])

open PVal (pv)
section
variable {ns : List Int} {S S0 S1 S' : Store} {Q : PV → Store → Prop} {QS : Fl × PEnv → Store → Prop} {E : Exn → Store → Prop} {A : Mc} {k m : Nat}
theorem cut_upto {β : Type} (xs : List β) (k : Nat) : cutP xs none (some (k : Int)) = xs.take k := by
  unfold cutP
  rw [show HT.sIx xs.length xs.length (some (k : Int)) = min k xs.length from HT.sIx_nat _ _ _, show HT.sIx xs.length 0 none = 0 from rfl, List.drop_zero, Nat.sub_zero]
  by_cases h : k ≤ xs.length
  · rw [Nat.min_eq_left h]
  · rw [Nat.min_eq_right (by omega), List.take_length, List.take_of_length_le (by omega)]
theorem led_is (O : A.Ok) (hm : m ≤ 2) (hk : At A S k) (lw : A.ws.length ≤ 1000) (q : ∀ S' d R, Ext S S' → Fst A.Acc m R → S'[d]? = some (.lst (R.map tupI)) → Q (.cell d) S') :
    wpx (F__led [.cell k, .int A.l, tupI A.ws, .int (m : Int)]) S Q E := by
  unfold F__led
  refine wp_run ?_
  unfold g__led
  have n2 := O.W.n2
  have n1 := O.W.n1
  simp only [ws_seq, ws_if, wv_not, wv_test, wv_args, wv_cons, wv_nil, wv_var, List.map_cons, List.map_nil, List.cons_append, List.nil_append, List.length_cons, List.length_nil, Nat.reduceAdd, Nat.reduceSub, List.replicate, List.getElem?_cons_zero, List.getElem?_cons_succ, Option.some.injEq, exists_eq_left', chkL2]
  refine word_is (okw_tupI lw) fun S1 e1 => ?_
  rw [isWd_let O.hw, wv_asB]
  simp only [Bool.not_true, Bool.false_eq_true, if_false, ws_nil]
  unfold g__led_R3
  simp only [ws_seq, ws_set, wv_args, wv_cons, wv_nil, wv_var, wv_lit, List.set_cons_zero, List.set_cons_succ, List.getElem?_cons_zero, List.getElem?_cons_succ, Option.some.injEq, exists_eq_left', chkL3]
  refine endings_is O (e1.get hk) lw fun S2 c4 cs e2 b4 t2 => ?_
  rw [wv_mkLst]
  refine ⟨line_ok (by simp), ?_⟩
  simp only [wv_mkTup, List.length_nil]
  refine ⟨line_ok (by simp), ⟨line_ok (by simp), ?_⟩⟩
  rw [wv_mkLst]
  refine ⟨line_ok (by simp), ?_⟩
  simp only [wv_newT, wv_cons, wv_nil, wv_lit]
  rw [wv_few (by simp)]
  have e12 := e1.trans e2
  have len2 := e12.len
  have c4l := t2.lt
  have lA : (S2 ++ [Cell.lst []]).length = S2.length + 1 := by simp
  have lB : (S2 ++ [Cell.lst []] ++ [Cell.lst [.tup [.tup [], .int 0]]]).length = S2.length + 2 := by simp
  have gA := (Ext.snoc (S2 ++ [Cell.lst []]) (.lst [.tup [.tup [], .int 0]])).get (sn0 (S := S2) (c := .lst []))
  have gB := sn0 (S := S2 ++ [Cell.lst []]) (c := .lst [.tup [.tup [], .int 0]])
  have eB := (Ext.snoc S2 (.lst [])).trans (Ext.snoc _ (.lst [.tup [.tup [], .int 0]]))
  rw [lA] at gB ⊢
  generalize S2 ++ [Cell.lst []] ++ [Cell.lst [.tup [.tup [], .int 0]]] = B at *
  refine vv_newT (k := kk 0 0) sn0 rfl ?_
  have e0 : Ext S ((B ++ [Cell.dT []]).set B.length (Cell.dT [(kk 0 0, PV.int 1)])) := ((e12.trans eB).trans (Ext.snoc _ _)).put (by omega) _
  have g5 : ((B ++ [Cell.dT []]).set B.length (Cell.dT [(kk 0 0, PV.int 1)]))[S2.length]? = some (.lst (([] : List (List Int)).map tupI)) := by
    rw [List.getElem?_set_ne (by omega)]; exact (Ext.snoc _ _).get gA
  have g6 : ((B ++ [Cell.dT []]).set B.length (Cell.dT [(kk 0 0, PV.int 1)]))[S2.length + 1]? = some (.lst ([(([] : List Int), (0 : Int))].map wayP)) := by
    rw [List.getElem?_set_ne (by omega)]; exact (Ext.snoc _ _).get gB
  have g7 : ((B ++ [Cell.dT []]).set B.length (Cell.dT [(kk 0 0, PV.int 1)]))[B.length]? = some (.dT [(kk 0 0, .int 1)]) := List.getElem?_set_self (by simp)
  have tB : Ends A ((B ++ [Cell.dT []]).set B.length (Cell.dT [(kk 0 0, PV.int 1)])) c4 cs := t2.keep fun c hc => by
    rw [List.getElem?_set_ne (by omega), List.getElem?_append_left (by omega)]
    obtain ⟨T, hT⟩ := eB
    rw [hT, List.getElem?_append_left (by omega)]
  have rb := rem_bd (m := m) (a := A.ws.length) (n := A.rows.length) (kvs := [(kk 0 0, .int 1)]) hm lw n2
  have hi0 : ∀ (k : List Key) (d : PV), valD [(kk 0 0, PV.int 1)] k = some d → ∃ i : Nat, d = .int i := fun k d hd => by
    by_cases z : kk 0 0 = k
    · rw [valD_pos (p := (kk 0 0, PV.int 1)) z] at hd; cases hd; exact ⟨1, rfl⟩
    · rw [valD_neg (p := (kk 0 0, PV.int 1)) z] at hd; cases hd
  have kp0 : Kp A ([] ++ [(([] : List Int), (0 : Int))]) := ⟨fun e he => by
    rw [List.nil_append, List.mem_singleton] at he
    rw [he]; exact ⟨(fun x hx => by cases hx), rfl⟩, List.pairwise_singleton _ _, by simp⟩
  have ct0 : ∀ (p : Nat) (t : Int), cnt [(kk 0 0, PV.int 1)] (kk (p : Int) t) = cntK A ([] ++ [(([] : List Int), (0 : Int))]) p t := fun p t => by
    rw [cntK_snoc]
    have h0 : cntK A [] p t = 0 := rfl
    rw [h0, Nat.zero_add]
    have p0 : A.pl (([] : List Int), (0 : Int)).1.length = 0 := by unfold Mc.pl; simp
    rw [p0]
    unfold cnt
    by_cases z : kk ((0 : Nat) : Int) 0 = kk (p : Int) t
    · rw [valD_pos (p := (kk 0 0, PV.int 1)) z]
      obtain ⟨z1, z2⟩ := kk_inj.mp z
      rw [if_pos ⟨z1, z2⟩]; rfl
    · rw [valD_neg (p := (kk 0 0, PV.int 1)) z, if_neg (fun w => z (kk_inj.mpr w))]; rfl
  have le0 : Le A S ((B ++ [Cell.dT []]).set B.length (Cell.dT [(kk 0 0, PV.int 1)])) c4 S2.length (S2.length + 1) B.length m cs [] [(kk 0 0, .int 1)] [] [([], 0)] 0 :=
    ⟨e0, tB, g5, g6, ⟨g7, hi0, by simp; omega⟩, fun w hw => by rw [List.mem_singleton.mp hw]; exact ⟨rfl, Int.le_refl _, by omega⟩, by simp, by simp, fun _ => by omega, by omega, by omega, by omega, by omega, by omega, by omega, by omega, kp0, ct0, (fun e he => by cases he), (fun e he => by cases he), rfl⟩
  generalize (B ++ [Cell.dT []]).set B.length (Cell.dT [(kk 0 0, PV.int 1)]) = C at *
  refine while_inv (fun i ρ S' => ∃ (y8 : Option PV) (c6 : Nat) (F : List (List Int)) (kvs : List (List Key × PV)) (K1 wl : List En) (sz : Nat), Le A S S' c4 S2.length c6 B.length m cs F kvs K1 wl sz ∧ i = 2 * rem m (grid A.ws.length A.rows.length) kvs + (if wl = [] then 0 else 1) ∧ ρ = [some (.cell k), some (.int A.l), some (tupI A.ws), some (.int (m : Int)), some (.cell c4), some (.cell S2.length), some (.cell c6), some (.cell B.length), y8, none, none]) _ _ _
    ⟨_, _, _, _, _, _, _, le0, rfl, rfl⟩ ?_
  rintro i ρ S' ⟨y8, c6, F, kvs, K1, wl, sz, h, rfl, rfl⟩
  simp only [wv_and, wv_test, wv_bin, wv_args, wv_cons, wv_nil, wv_var, wv_lit, List.getElem?_cons_zero, List.getElem?_cons_succ, Option.some.injEq, exists_eq_left']
  rw [vv_len_cell]
  refine ⟨_, h.h6, _, rfl, ?_⟩
  have fin : (wl = [] ∨ m ≤ F.length) → wps (g__led_R2 [some (.cell k), some (.int A.l), some (tupI A.ws), some (.int (m : Int)), some (.cell c4), some (.cell S2.length), some (.cell c6), some (.cell B.length), y8, none, none]) S' (fun r S' => match r.1 with
      | .nx => Q .non S'
      | .rt d => Q d S'
      | .ex c => E c S'
      | _ => False) := fun hend => by
    unfold g__led_R2
    simp only [ws_ret, wv_slice, wv_noPart, wv_part, wv_asI, wv_var, List.getElem?_cons_zero, List.getElem?_cons_succ, Option.some.injEq, exists_eq_left']
    refine vv_slice_cell h.h5 rfl ?_
    rw [cut_upto]
    have fe : F = found A (K1 ++ wl) sz := by
      rw [h.ff, found_split h.k1 fun e he => by rw [(h.wr e he).1]; exact Nat.le_refl _]
    have hF : Fst A.Acc m (F.take m) := by
      rw [fe]
      refine found_fst h.kp (fun e he hl => ?_) ?_
      · rcases List.mem_append.mp he with he | he
        · exact h.dn e he
        · have := (h.wr e he).1; omega
      · rcases hend with hend | hend
        · refine .inr fun e he => ?_
          rw [hend, List.append_nil] at he
          exact h.k1 e he
        · rw [← fe]; exact .inl hend
    rw [← List.map_take]
    exact q _ _ _ (h.e.trans (Ext.snoc _ _)) hF sn0
  rw [vv_gt, List.length_map, wv_asB]
  by_cases p : wl = []
  · have : wl.length = 0 := by rw [p]; rfl
    rw [decide_eq_false (by omega)]
    simp only [Bool.false_eq_true, if_false]
    exact fin (.inl p)
  · have wp : 0 < wl.length := List.length_pos_iff.mpr p
    rw [decide_eq_true (by omega)]
    simp only [if_true]
    rw [vv_len_cell]
    refine ⟨_, h.h5, _, rfl, ?_⟩
    rw [List.length_map, vv_lt, wv_asB]
    by_cases p2 : (F.length : Int) < m
    · rw [decide_eq_true p2]
      simp only [if_true]
      refine le_B1 O hk lw p (by omega) h fun y8 c6' F' kvs' K1' wl' sz' S3 h3 r1 r2 => ?_
      refine ⟨_, ?_, _, _, _, _, _, _, _, h3, rfl, rfl⟩
      by_cases p3 : wl' = []
      · rw [if_pos p3, if_neg p]; omega
      · rw [if_neg p3, if_neg p]; have := r2 p3; omega
    · rw [decide_eq_false p2]
      simp only [Bool.false_eq_true, if_false]
      exact fin (.inr (by omega))
/-- a word or None -/
def optP : Option (List Int) → PV
  | none => .non
  | some v => tupI v
theorem first_is (O : A.Ok) (hk : At A S k) (lw : A.ws.length ≤ 1000) {D : List (List Int)} (hD : Fst A.Acc 2 D) (q : ∀ S', Ext S S' → Q (optP D[0]?) S') : wpx (F_first_led [.cell k, .int A.l, tupI A.ws]) S Q E := by
  unfold F_first_led
  refine wp_run ?_
  unfold g_first_led
  simp only [ws_seq, ws_set, wv_args, wv_cons, wv_nil, wv_var, wv_lit, List.map_cons, List.map_nil, List.cons_append, List.nil_append, List.length_cons, List.length_nil, Nat.reduceAdd, Nat.reduceSub, List.replicate, List.getElem?_cons_zero, List.getElem?_cons_succ, Option.some.injEq, exists_eq_left', chkL4]
  refine led_is (m := 1) O (by omega) hk lw fun S1 d R e1 hR h1 => ?_
  have hR2 : R = D.take 1 := hR.one (hD.take (by omega))
  have e9 : D[0]? = R[0]? := by rw [hR2, List.getElem?_take, if_pos (by omega)]
  have qq := q S1 e1
  rw [e9] at qq
  simp only [ws_ret, wv_if, wv_test, wv_bin, wv_args, wv_cons, wv_nil, wv_var, wv_lit, List.set_cons_zero, List.set_cons_succ, List.getElem?_cons_zero, List.getElem?_cons_succ, Option.some.injEq, exists_eq_left']
  rw [vv_len_cell]
  refine ⟨_, h1, _, rfl, ?_⟩
  rw [vv_gt, List.length_map, wv_asB]
  by_cases p : (0 : Int) < R.length
  · rw [decide_eq_true p, if_pos rfl, vv_ix_cell]
    rw [List.getElem?_eq_getElem (by omega)] at qq
    refine ⟨_, h1, _, rfl, _, ?_, qq⟩
    rw [atI_pos (by omega), List.getElem?_map, List.getElem?_eq_getElem (by omega)]; rfl
  · rw [decide_eq_false p, if_neg (by decide)]
    rw [List.getElem?_eq_none (by omega)] at qq
    exact qq
theorem second_is (O : A.Ok) (hk : At A S k) (lw : A.ws.length ≤ 1000) {D : List (List Int)} (hD : Fst A.Acc 2 D) (q : ∀ S', Ext S S' → Q (optP D[1]?) S') : wpx (F_second_led [.cell k, .int A.l, tupI A.ws]) S Q E := by
  unfold F_second_led
  refine wp_run ?_
  unfold g_second_led
  simp only [ws_seq, ws_set, wv_args, wv_cons, wv_nil, wv_var, wv_lit, List.map_cons, List.map_nil, List.cons_append, List.nil_append, List.length_cons, List.length_nil, Nat.reduceAdd, Nat.reduceSub, List.replicate, List.getElem?_cons_zero, List.getElem?_cons_succ, Option.some.injEq, exists_eq_left', chkL4]
  refine led_is (m := 2) O (by omega) hk lw fun S1 d R e1 hR h1 => ?_
  have hR2 : R = D := hR.one hD
  have qq := q S1 e1
  rw [← hR2] at qq
  simp only [ws_ret, wv_if, wv_test, wv_bin, wv_args, wv_cons, wv_nil, wv_var, wv_lit, List.set_cons_zero, List.set_cons_succ, List.getElem?_cons_zero, List.getElem?_cons_succ, Option.some.injEq, exists_eq_left']
  rw [vv_len_cell]
  refine ⟨_, h1, _, rfl, ?_⟩
  rw [vv_gt, List.length_map, wv_asB]
  by_cases p : (1 : Int) < R.length
  · rw [decide_eq_true p, if_pos rfl, vv_ix_cell]
    rw [List.getElem?_eq_getElem (by omega)] at qq
    refine ⟨_, h1, _, rfl, _, ?_, qq⟩
    rw [atI_pos (by omega), List.getElem?_map]
    show (R[1]?).map tupI = _
    rw [List.getElem?_eq_getElem (by omega)]; rfl
  · rw [decide_eq_false p, if_neg (by decide)]
    rw [List.getElem?_eq_none (by omega)] at qq
    exact qq
end
end KK

namespace KK
open PySem PySem.Spec PyProof.Rows L2 DL PySem.W
open Classical
local macro_rules | `(tactic| walk_at "dw") => `(tactic| try simp only [ws_seq, ws_nil, ws_retN, ws_bk, ws_ct, ws_expr, ws_ret, ws_set, ws_if, ws_asg, ws_sub, ws_aug, ws_for, ws_thru, ws_no, ws_raise, wv_mkX, wv_var, wv_lit, wv_bin, wv_un, wv_nil, wv_cons, wv_args, wv_test, wv_asB, wv_and, wv_or, wv_not, wv_andV, wv_orV, wv_notV, wv_if, wv_chain,
  wv_noPart, wv_part, wv_asI, wv_slice, wv_mkTup, wv_mkLst, wv_methL, wsr_args, wsr_range1, wsr_range2, wsr_seq, wsr_tup, wsr_rev, wsr_zip, vv_rev_tup, wv_lc, wpx_ret, wpx_optM, tTrue, chkL1, chkL2, chkL3, chkL4,
  vv_add_int, vv_add_tup, vv_sub, vv_mul, vv_mulA_int, vv_div, vv_mod, vv_pow, vv_neg, vv_gt, vv_ge, vv_le, vv_lt, vv_eq_int, vv_ne_int, vv_eq_bl, vv_ne_bl, eqA_int, neA_int, eqA_bl, neA_bl, eqA_tup, neA_tup, eqA_cell, neA_cell, eqA_non, neA_non, vv_eqA_str, vv_neA_str, vv_ix_tup, vv_ix_cell, vv_set, vv_len_tup, vv_len_cell, vv_abs, vv_int_int, vv_int_bl, vv_tup_tup, vv_tup_cell, vv_lst_tup, vv_lst_cell, vv_slice_tup, vv_dm, vv_mx, vv_mn,
  isi_int_int, isi_int_bool, isi_int_tuple, isi_int_str, isi_int_list, isi_bool_int, isi_bool_bool, isi_bool_tuple, isi_bool_str, isi_bool_list, isi_str_int, isi_str_bool, isi_str_tuple, isi_str_str, isi_str_list, isi_none_int, isi_none_bool, isi_none_tuple, isi_none_str, isi_none_list, isi_tuple_int, isi_tuple_bool, isi_tuple_tuple, isi_tuple_str, isi_tuple_list,
  and_true, true_and, and_self, Cell.lst.injEq, items_lst, items_rls, vv_append, vv_isL, Option.some.injEq, exists_eq_left', exists_eq_left, List.map_cons, List.map_nil, List.length_cons, List.length_nil, List.length_map, List.replicate, List.cons_append, List.nil_append, List.getElem?_cons_zero, List.getElem?_cons_succ, List.set_cons_zero, List.set_cons_succ, bindT, atI0, atI1, atI2, atI3, ix41, ix42, ix43, Nat.reduceAdd, Nat.reduceSub, List.set_set, decide_true, decide_false, if_true, if_false, Bool.false_eq_true, decide_eq_true_eq, Bool.not_true, Bool.not_false, wpx_ite, eq_self, wipeP, *])

open PVal (pv)
section
variable {ns : List Int} {S S0 S1 S' : Store} {Q : PV → Store → Prop} {QS : Fl × PEnv → Store → Prop} {E : Exn → Store → Prop} {l x y z sz few s : Int} {rc wc pc : Nat} {ph : List Int}
theorem vv_addL {n m : Nat} {xs zs : List PV} (h1 : S[n]? = some (.lst xs)) (h2 : S[m]? = some (.lst zs)) (hl : (xs ++ zs).length ≤ sizeLine) (q : Q (.cell S.length) (S ++ [.lst (xs ++ zs)])) : wpx (addV (.cell n) (.cell m)) S Q E := by
  have e : addV (.cell n) (.cell m) S = .ok (.cell S.length) (S ++ [.lst (xs ++ zs)]) := by
    simp only [addV, getC, h1, h2, mkLst, if_pos hl]
  exact (wpx_eq e).mpr q
theorem bx_len (b : Bx ns S) : 3 ≤ S.length := by
  obtain ⟨_, _, _, _, h2⟩ := b.c2
  have := (List.getElem?_eq_some_iff.mp h2).1
  omega
theorem Frm.put {n : Nat} (f : Frm S0 S) (h : S0.length ≤ n) (c : Cell) : Frm S0 (S.set n c) := ⟨by rw [List.length_set]; exact f.len, fun k h2 hk => by rw [List.getElem?_set_ne (by omega)]; exact f.stay k h2 hk⟩
theorem phase_is (l1 : 1 ≤ l) (l2 : l ≤ 2) (z0 : 0 ≤ z) (z1 : z ≤ 100) (q : ∀ i : Int, Q (.int i) S) : wpx (F__law_phase [.int l, .int z]) S Q E := by
  unfold F__law_phase
  refine wp_run ?_
  unfold g__law_phase
  walk_at "dw"
  exact ⟨⟨by omega, by omega⟩, by omega, cm_r (by split <;> decide)⟩
def idP : PV → PV := fun x => x
def eqPh (ph : List Int) (p : Int) : PV → Bool
  | .int t => decide (ph.getD t.toNat 0 = p)
  | _ => false
theorem mp_R1 {x0 x1 x2 x3 x4 x5 x6 x7 x9 x10 x11 x13 : Option PV} {r : List (Option Int)} {o : Option Int} (hwc : S[wc]? = some (.lst (r.map pv))) (hr : r.length ≤ 50)
    (q : QS (.nx, [x0, x1, x2, x3, x4, x5, x6, x7, some (.cell wc), x9, x10, x11, some (pv o), x13]) (S.set wc (.lst ((r ++ [o]).map pv)))) :
    wps (g__law_pair_machine_R1 [x0, x1, x2, x3, x4, x5, x6, x7, some (.cell wc), x9, x10, x11, some (pv o), x13]) S QS := by
  unfold g__law_pair_machine_R1
  simp only [ws_expr, wv_methL, wv_cons, wv_nil, wv_var, List.getElem?_cons_zero, List.getElem?_cons_succ, Option.some.injEq, exists_eq_left']
  rw [vv_isL]
  refine ⟨_, hwc, _, rfl, ?_⟩
  rw [vv_append_eq hwc (line_lt (by rw [List.length_map]; omega))]
  have e : r.map (pv (α := Option Int)) ++ [pv o] = (r ++ [o]).map pv := by rw [List.map_append]; rfl
  rw [e]
  exact q
theorem mp_B2 {x2 x6 x10 x11 x12 : Option PV} {r : List (Option Int)} (l1 : 1 ≤ l) (l2 : l ≤ 2) (b : Bx ns S) (hsz : 0 < sz) (hsz2 : sz ≤ 12) (hf : 0 < few) (hf2 : few ≤ 4) (hp : S[pc]? = some (.lst (ph.map PV.int))) (p3 : 3 ≤ pc) (phl : (ph.length : Int) = sz) (s0 : 0 ≤ s) (s1 : s < sz) (z0 : 0 ≤ z) (z1 : z ≤ 100)
    (hwc : S[wc]? = some (.lst (r.map pv))) (w3 : 3 ≤ wc) (hr : r.length ≤ 50)
    (q : ∀ (o : Option Int) S', (∀ i, o = some i → 0 ≤ i ∧ i < sz) → Bx ns S' → Frm S S' → ∀ y10 y11 y12, QS (.nx, [some (.cell 2), some (.int l), x2, some (.int sz), some (.cell pc), some (.int few), x6, some (.int s), some (.cell wc), some (.int z), y10, y11, y12, none]) (S'.set wc (.lst ((r ++ [o]).map pv)))) :
    wps (g__law_pair_machine_B2 [some (.cell 2), some (.int l), x2, some (.int sz), some (.cell pc), some (.int few), x6, some (.int s), some (.cell wc), some (.int z), x10, x11, x12, none]) S QS := by
  unfold g__law_pair_machine_B2
  simp only [ws_seq, ws_set, wv_args, wv_cons, wv_nil, wv_var, List.set_cons_zero, List.set_cons_succ, List.getElem?_cons_zero, List.getElem?_cons_succ, Option.some.injEq, exists_eq_left', chkL2]
  refine phase_is l1 l2 z0 z1 fun phz => ?_
  simp only [wv_lc, wsr_args, wv_args, wv_cons, wv_nil, wv_var, List.set_cons_zero, List.set_cons_succ, List.getElem?_cons_zero, List.getElem?_cons_succ, Option.some.injEq, exists_eq_left', List.map_cons, List.map_nil, wipeP]
  rw [wsr_range1]
  refine ⟨⟨by omega, by omega⟩, ?_⟩
  have its : ∀ y ∈ (srcRange 0 sz.toNat).items, ∃ i : Int, y = .int i ∧ 0 ≤ i ∧ i < sz := fun y hy => by
    rw [range_items] at hy
    obtain ⟨i, hi, rfl⟩ := List.mem_map.mp hy
    have := List.mem_range.mp hi
    exact ⟨_, rfl, by omega, by omega⟩
  have itl : (srcRange 0 sz.toNat).items.length = sz.toNat := by simp [srcRange]
  refine lc_filt idP (eqPh ph phz) (line_ok (by rw [itl]; omega)) (fun _ _ => trivial) (fun y hy S2 e2 => ?_) fun S2 e2 h2 => ?_
  · obtain ⟨i, rfl, i0, i1⟩ := its y hy
    refine ⟨_, rfl, ?_⟩
    simp only [wv_test, wv_bin, wv_var, List.set_cons_zero, List.set_cons_succ, List.getElem?_cons_zero, List.getElem?_cons_succ, Option.some.injEq, exists_eq_left']
    rw [vv_ix_cell]
    refine ⟨_, e2.get hp, _, rfl, _, (end_at i0 (by omega)).1, ?_⟩
    rw [eqA_int, vv_eq_int, wv_asB]
    exact ⟨rfl, .refl _, fun _ => ⟨rfl, .refl _⟩⟩
  · have fit : ∀ y ∈ ((srcRange 0 sz.toNat).items.filter (eqPh ph phz)).map idP, ∃ i : Int, y = .int i ∧ 0 ≤ i ∧ i < sz := fun y hy => by
      obtain ⟨y', hy', rfl⟩ := List.mem_map.mp hy
      exact its y' (List.mem_filter.mp hy').1
    have fil : (((srcRange 0 sz.toNat).items.filter (eqPh ph phz)).map idP).length ≤ 12 := by
      rw [List.length_map]
      exact Nat.le_trans (List.length_filter_le _ _) (by rw [itl]; omega)
    have h2' : S2[S.length]? = some (.lst (((srcRange 0 sz.toNat).items.filter (eqPh ph phz)).map idP)) := h2
    generalize ((srcRange 0 sz.toNat).items.filter (eqPh ph phz)).map idP = fits at h2' fit fil
    clear h2 its itl
    have b2 := b.ext e2
    have hp2 := e2.get hp
    have hwc2 := e2.get hwc
    have sl3 : 3 ≤ S.length := by have := (List.getElem?_eq_some_iff.mp hp).1; omega
    have f02 : Frm S S2 := Ext.frm e2
    obtain ⟨_, q7⟩ := end_at (es := ph) s0 (by omega)
    have h7 := (end_at (es := ph) s0 (by omega)).1
    simp only [wv_lit, List.set_cons_zero, List.set_cons_succ]
    rw [ws_if, wv_and, wv_or]
    simp only [wv_test, wv_bin, wv_var, wv_lit, List.getElem?_cons_zero, List.getElem?_cons_succ, Option.some.injEq, exists_eq_left']
    have none_ : ∀ S3, Bx ns S3 → Frm S2 S3 → wps (g__law_pair_machine_R1 [some (.cell 2), some (.int l), x2, some (.int sz), some (.cell pc), some (.int few), x6, some (.int s), some (.cell wc), some (.int z), some (.int phz), some (.cell S.length), some .non, none]) S3 QS := fun S3 b3 f3 =>
      mp_R1 (o := none) (f3.get (by omega) hwc2) hr (q none S3 (fun i h => nomatch h) b3 (f02.trans f3) _ _ _)
    have inner : wpx (eAnd (eTest (eBin gtI (eArgs lenV (eCons (eVar 11) eNil)) (eLit (.int 0)))) (eTest (eBin gtI (eArgs (chkL 2 F__law_draw) (eCons (eVar 0) (eCons (eBin addV (eVar 5) (eLit (.int 1))) eNil))) (eLit (.int 0)))) [some (.cell 2), some (.int l), x2, some (.int sz), some (.cell pc), some (.int few), x6, some (.int s), some (.cell wc), some (.int z), some (.int phz), some (.cell S.length), some .non, none]) S2 (fun bb S3 => Bx ns S3 ∧ Frm S2 S3 ∧ (bb = true → fits ≠ [])) (fun _ _ => False) := by
      simp only [wv_and, wv_test, wv_bin, wv_args, wv_cons, wv_nil, wv_var, wv_lit, List.getElem?_cons_zero, List.getElem?_cons_succ, Option.some.injEq, exists_eq_left', chkL2]
      rw [vv_len_cell]
      refine ⟨_, h2', _, rfl, ?_⟩
      rw [vv_gt, wv_asB]
      by_cases p : (0 : Int) < fits.length
      · rw [decide_eq_true p]
        simp only [if_true]
        rw [vv_add_int]
        refine draw_all b2 (by omega) (by omega) fun d S3 _ _ b3 f3 _ => ?_
        rw [vv_gt, wv_asB]
        exact ⟨b3, f3, fun _ z => by rw [z] at p; exact absurd p (by decide)⟩
      · rw [decide_eq_false p]
        simp only [Bool.false_eq_true, if_false]
        exact ⟨b2, Frm.refl _, fun h => nomatch h⟩
    have whole : ∀ (bb : Bool) S3, (Bx ns S3 ∧ Frm S2 S3 ∧ (bb = true → fits ≠ [])) → (if bb = true then wps (sSet 12 (eBin ixV (eVar 11) (eArgs (chkL 2 F__law_draw) (eCons (eVar 0) (eCons (eArgs lenV (eCons (eVar 11) eNil)) eNil)))) [some (.cell 2), some (.int l), x2, some (.int sz), some (.cell pc), some (.int few), x6, some (.int s), some (.cell wc), some (.int z), some (.int phz), some (.cell S.length), some .non, none]) S3 (fun r S' => match r.1 with
        | .nx => wps (g__law_pair_machine_R1 r.2) S' QS
        | _ => QS r S') else wps (sNil [some (.cell 2), some (.int l), x2, some (.int sz), some (.cell pc), some (.int few), x6, some (.int s), some (.cell wc), some (.int z), some (.int phz), some (.cell S.length), some .non, none]) S3 (fun r S' => match r.1 with
        | .nx => wps (g__law_pair_machine_R1 r.2) S' QS
        | _ => QS r S')) := fun bb S3 ⟨b3, f3, hb⟩ => by
      cases bb with
      | false =>
        simp only [Bool.false_eq_true, if_false, ws_nil]
        exact none_ S3 b3 f3
      | true =>
        have fp : 0 < fits.length := List.length_pos_iff.mpr (hb rfl)
        simp only [if_true, ws_set, wv_bin, wv_args, wv_cons, wv_nil, wv_var, List.getElem?_cons_zero, List.getElem?_cons_succ, Option.some.injEq, exists_eq_left', chkL2, List.set_cons_zero, List.set_cons_succ]
        have h3 := f3.get (by omega) h2'
        rw [vv_len_cell]
        refine ⟨_, h3, _, rfl, ?_⟩
        refine draw_all b3 (by omega) (by omega) fun d S4 d0 d1 b4 f4 _ => ?_
        obtain ⟨y, hy, hm⟩ := mem_at (xs := fits) d0 d1
        rw [vv_ix_cell]
        refine ⟨_, f4.get (by omega) h3, _, rfl, y, hy, ?_⟩
        obtain ⟨i, rfl, i0, i1⟩ := fit y hm
        exact mp_R1 (o := some i) ((f3.trans f4).get (by omega) hwc2) hr (q (some i) S4 (fun j h => by cases h; exact ⟨i0, i1⟩) b4 (f02.trans (f3.trans f4)) _ _ _)
    rw [vv_ix_cell]
    refine ⟨_, hp2, _, rfl, _, h7, ?_⟩
    rw [eqA_int, vv_eq_int, wv_asB]
    have no : wps (g__law_pair_machine_R1 [some (.cell 2), some (.int l), x2, some (.int sz), some (.cell pc), some (.int few), x6, some (.int s), some (.cell wc), some (.int z), some (.int phz), some (.cell S.length), some .non, none]) S2 QS := none_ S2 b2 (Frm.refl _)
    by_cases p1 : ph.getD s.toNat 0 = 0
    · rw [decide_eq_true p1]
      simp only [if_true]
      exact wpx_mono inner whole fun _ _ h => h.elim
    · rw [decide_eq_false p1]
      simp only [Bool.false_eq_true, if_false]
      rw [vv_ix_cell]
      refine ⟨_, hp2, _, rfl, _, h7, ?_⟩
      rw [eqA_int, vv_eq_int, wv_asB]
      by_cases p2 : ph.getD s.toNat 0 = phz
      · rw [decide_eq_true p2]
        simp only [if_true]
        exact wpx_mono inner whole fun _ _ h => h.elim
      · rw [decide_eq_false p2]
        simp only [Bool.false_eq_true, if_false, ws_nil]
        exact no
end
end KK

namespace KK
open PySem PySem.Spec PyProof.Rows L2 DL PySem.W
open Classical
local macro_rules | `(tactic| walk_at "dw") => `(tactic| try simp only [ws_seq, ws_nil, ws_retN, ws_bk, ws_ct, ws_expr, ws_ret, ws_set, ws_if, ws_asg, ws_sub, ws_aug, ws_for, ws_thru, ws_no, ws_raise, wv_mkX, wv_var, wv_lit, wv_bin, wv_un, wv_nil, wv_cons, wv_args, wv_test, wv_asB, wv_and, wv_or, wv_not, wv_andV, wv_orV, wv_notV, wv_if, wv_chain,
  wv_noPart, wv_part, wv_asI, wv_slice, wv_mkTup, wv_mkLst, wv_methL, wsr_args, wsr_range1, wsr_range2, wsr_seq, wsr_tup, wsr_rev, wsr_zip, vv_rev_tup, wv_lc, wpx_ret, wpx_optM, tTrue, chkL1, chkL2, chkL3, chkL4,
  vv_add_int, vv_add_tup, vv_sub, vv_mul, vv_mulA_int, vv_div, vv_mod, vv_pow, vv_neg, vv_gt, vv_ge, vv_le, vv_lt, vv_eq_int, vv_ne_int, vv_eq_bl, vv_ne_bl, eqA_int, neA_int, eqA_bl, neA_bl, eqA_tup, neA_tup, eqA_cell, neA_cell, eqA_non, neA_non, vv_eqA_str, vv_neA_str, vv_ix_tup, vv_ix_cell, vv_set, vv_len_tup, vv_len_cell, vv_abs, vv_int_int, vv_int_bl, vv_tup_tup, vv_tup_cell, vv_lst_tup, vv_lst_cell, vv_slice_tup, vv_dm, vv_mx, vv_mn,
  isi_int_int, isi_int_bool, isi_int_tuple, isi_int_str, isi_int_list, isi_bool_int, isi_bool_bool, isi_bool_tuple, isi_bool_str, isi_bool_list, isi_str_int, isi_str_bool, isi_str_tuple, isi_str_str, isi_str_list, isi_none_int, isi_none_bool, isi_none_tuple, isi_none_str, isi_none_list, isi_tuple_int, isi_tuple_bool, isi_tuple_tuple, isi_tuple_str, isi_tuple_list,
  and_true, true_and, and_self, Cell.lst.injEq, items_lst, items_rls, vv_append, vv_isL, Option.some.injEq, exists_eq_left', exists_eq_left, List.map_cons, List.map_nil, List.length_cons, List.length_nil, List.length_map, List.replicate, List.cons_append, List.nil_append, List.getElem?_cons_zero, List.getElem?_cons_succ, List.set_cons_zero, List.set_cons_succ, bindT, atI0, atI1, atI2, atI3, ix41, ix42, ix43, Nat.reduceAdd, Nat.reduceSub, List.set_set, decide_true, decide_false, if_true, if_false, Bool.false_eq_true, decide_eq_true_eq, Bool.not_true, Bool.not_false, wpx_ite, eq_self, wipeP, *])

open PVal (pv)
section
variable {ns : List Int} {S S0 S1 S' : Store} {Q : PV → Store → Prop} {QS : Fl × PEnv → Store → Prop} {E : Exn → Store → Prop} {l x y z sz few s : Int} {rc wc pc : Nat} {ph : List Int}
theorem pl_bd (l1 : 1 ≤ l) (l2 : l ≤ 2) : 1 ≤ (l + 1) * (l + 1) - 1 ∧ (l + 1) * (l + 1) - 1 ≤ 8 := by
  obtain rfl | rfl : l = 1 ∨ l = 2 := by omega
  all_goals omega
theorem rng_mem {n : Int} : ∀ y ∈ (srcRange 0 n.toNat).items, ∃ i : Int, y = .int i ∧ 0 ≤ i ∧ i < n := fun y hy => by
  rw [range_items] at hy
  obtain ⟨i, hi, rfl⟩ := List.mem_map.mp hy
  have := List.mem_range.mp hi
  exact ⟨_, rfl, by omega, by omega⟩
theorem mp_B4 {x2 x8 x9 x10 x11 x12 : Option PV} {rows : List (List (Option Int))} (l1 : 1 ≤ l) (l2 : l ≤ 2) (b : Bx ns S) (hsz : 0 < sz) (hsz2 : sz ≤ 12) (hf : 0 < few) (hf2 : few ≤ 4) (hp : S[pc]? = some (.lst (ph.map PV.int))) (p3 : 3 ≤ pc) (phl : (ph.length : Int) = sz) (s0 : 0 ≤ s) (s1 : s < sz)
    (f0 : Frm S0 S) (h3 : 3 ≤ S0.length) (r3 : S0.length ≤ rc) (pr : pc ≠ rc) (hrc : S[rc]? = some (.lst (rows.map rowP))) (hr : rows.length ≤ 12)
    (q : ∀ (r : List (Option Int)) S', (r.length : Int) = (l + 1) * (l + 1) - 1 → (∀ o ∈ r, ∀ i, o = some i → 0 ≤ i ∧ i < sz) → Bx ns S' → Frm S0 S' → S'[pc]? = some (.lst (ph.map PV.int)) → S'[rc]? = some (.lst ((rows ++ [r]).map rowP)) → ∀ y8 y9 y10 y11 y12, QS (.nx, [some (.cell 2), some (.int l), x2, some (.int sz), some (.cell pc), some (.int few), some (.cell rc), some (.int s), y8, y9, y10, y11, y12, none]) S') :
    wps (g__law_pair_machine_B4 [some (.cell 2), some (.int l), x2, some (.int sz), some (.cell pc), some (.int few), some (.cell rc), some (.int s), x8, x9, x10, x11, x12, none]) S QS := by
  unfold g__law_pair_machine_B4
  have rl := (List.getElem?_eq_some_iff.mp hrc).1
  have pl := (List.getElem?_eq_some_iff.mp hp).1
  have sl := f0.len
  obtain ⟨L1, L2⟩ := pl_bd l1 l2
  simp only [ws_seq, ws_set, wv_args, wv_nil, wv_mkLst, List.set_cons_zero, List.set_cons_succ]
  refine ⟨line_ok (by simp), ?_⟩
  simp only [ws_for, wsr_args, wv_args, wv_bin, wv_cons, wv_nil, wv_var, wv_lit, List.getElem?_cons_zero, List.getElem?_cons_succ, Option.some.injEq, exists_eq_left']
  rw [vv_add_int, vv_add_int, vv_mulA_int]
  refine ⟨cm_r ⟨by omega, by omega⟩, ?_⟩
  rw [vv_sub, wsr_range1]
  generalize hL : (l + 1) * (l + 1) - 1 = L at *
  refine ⟨⟨by omega, by omega⟩, ?_⟩
  refine for_inv (fun zs ρ S' => (∀ z ∈ zs, ∃ i : Int, z = .int i ∧ 0 ≤ i ∧ i < L) ∧ ∃ r : List (Option Int), r.length + zs.length = L.toNat ∧ (∀ o ∈ r, ∀ i, o = some i → 0 ≤ i ∧ i < sz) ∧ Bx ns S' ∧ Frm S0 S' ∧ S'[pc]? = some (.lst (ph.map PV.int)) ∧ S'[S.length]? = some (.lst (r.map pv)) ∧ S'[rc]? = some (.lst (rows.map rowP)) ∧ ∃ y9 y10 y11 y12, ρ = [some (.cell 2), some (.int l), x2, some (.int sz), some (.cell pc), some (.int few), some (.cell rc), some (.int s), some (.cell S.length), y9, y10, y11, y12, none]) _ _ _
    ⟨rng_mem, [], by simp [srcRange], (fun _ h => by cases h), b.snoc _, f0.trans (Frm.snoc _ _), (Ext.snoc _ _).get hp, sn0, (Ext.snoc _ _).get hrc, _, _, _, _, rfl⟩ (fun _ _ _ _ => trivial) ?_ ?_
  · rintro ρ S' ⟨_, r, hl, ho, b', f', hp', hw, hr', y9, y10, y11, y12, rfl⟩
    unfold g__law_pair_machine_R3
    have e : (rows.map rowP) ++ [PV.tup (r.map pv)] = (rows ++ [r]).map rowP := by rw [List.map_append]; rfl
    simp only [ws_expr, wv_methL, wv_args, wv_var, wv_cons, wv_nil, List.getElem?_cons_zero, List.getElem?_cons_succ, Option.some.injEq, exists_eq_left']
    rw [vv_isL]
    refine ⟨_, hr', _, rfl, ?_⟩
    rw [vv_tup_cell]
    refine ⟨_, hw, _, rfl, ?_⟩
    rw [vv_append_eq hr' (line_lt (by rw [List.length_map]; omega)), e]
    have rl' := (List.getElem?_eq_some_iff.mp hr').1
    exact q r _ (by simp at hl; omega) ho (b'.put (by omega) _) (f'.put r3 _) (by rw [List.getElem?_set_ne (Ne.symm pr)]; exact hp') (List.getElem?_set_self rl') _ _ _ _ _
  · rintro z zs ρ S' ⟨hz, r, hl, ho, b', f', hp', hw, hr', y9, y10, y11, y12, rfl⟩
    obtain ⟨i, rfl, i0, i1⟩ := hz z List.mem_cons_self
    refine ⟨_, rfl, ?_⟩
    rw [List.length_cons] at hl
    have wl := (List.getElem?_eq_some_iff.mp hw).1
    simp only [List.set_cons_zero, List.set_cons_succ]
    refine mp_B2 l1 l2 b' hsz hsz2 hf hf2 hp' p3 phl s0 s1 i0 (by omega) hw (by omega) (by omega) fun o S2 ho2 b2 f2 y10 y11 y12 => ?_
    have wl2 := f2.len
    refine ⟨fun z' hz' => hz z' (List.mem_cons_of_mem _ hz'), r ++ [o], by rw [List.length_append, List.length_singleton]; omega, fun o' h' => ?_, b2.put (by omega) _, (f'.trans f2).put sl _, ?_, List.getElem?_set_self (by omega), ?_, _, _, _, _, rfl⟩
    · rcases List.mem_append.mp h' with h' | h'
      · exact ho o' h'
      · rw [List.mem_singleton.mp h']; exact ho2
    · rw [List.getElem?_set_ne (by omega)]; exact f2.get (by omega) hp'
    · rw [List.getElem?_set_ne (by omega)]; exact f2.get (by omega) hr'
/-- a tuple of three, as a machine -/
def machP (l : Int) (rows : List (List (Option Int))) (es : List Int) : PV := .tup [.int l, tabP rows, tupI es]
theorem pair_machine_is {mm : Int} (hm1 : 1 ≤ mm) (hm6 : mm ≤ 6) (b : Bx ns S) (l1 : 1 ≤ l) (l2 : l ≤ 2) (q : ∀ rows es S', Wf ((l + 1) * (l + 1) - 1) rows es → Bx ns S' → Frm S S' → Q (machP ((l + 1) * (l + 1) - 1) rows es) S') : wpx (F__law_pair_machine [.cell 2, .int l, .int mm]) S Q E := by
  unfold F__law_pair_machine
  refine wp_run ?_
  unfold g__law_pair_machine
  have bl := bx_len b
  obtain ⟨L1, L2⟩ := pl_bd l1 l2
  simp only [ws_seq, ws_set, wv_bin, wv_args, wv_cons, wv_nil, wv_var, wv_lit, List.map_cons, List.map_nil, List.cons_append, List.nil_append, List.length_cons, List.length_nil, Nat.reduceAdd, Nat.reduceSub, List.replicate, List.set_cons_zero, List.set_cons_succ, List.getElem?_cons_zero, List.getElem?_cons_succ, Option.some.injEq, exists_eq_left', chkL2]
  refine draw_all b (by omega) (by omega) fun sz0 S1 s0 s1 b1 f1 _ => ?_
  rw [vv_add_int, wv_mkLst]
  refine ⟨line_ok (by simp), ?_⟩
  have f1l := f1.len
  have gz := sn0 (S := S1) (c := .lst [.int 0])
  simp only [wv_lc, wsr_args, wv_bin, wv_args, wv_cons, wv_nil, wv_var, wv_lit, List.map_cons, List.map_nil, List.set_cons_zero, List.set_cons_succ, List.getElem?_cons_zero, List.getElem?_cons_succ, Option.some.injEq, exists_eq_left', wipeP]
  rw [vv_sub, wsr_range1]
  refine ⟨⟨by omega, by omega⟩, ?_⟩
  have lA : (S1 ++ [Cell.lst [PV.int 0]]).length = S1.length + 1 := by simp
  refine lc_inv (fun xs acc S4 => ∃ ps : List Int, acc = ps.map PV.int ∧ ps.length + xs.length = (1 + sz0 - 1).toNat ∧ Bx ns S4 ∧ Frm S S4 ∧ S4[(S1 ++ [Cell.lst [PV.int 0]]).length]? = some (.lst (ps.map PV.int)) ∧ S4[S1.length]? = some (.lst [.int 0])) _ [] _
    ⟨[], rfl, by simp [srcRange], (b1.snoc _).snoc _, (f1.trans (Frm.snoc _ _)).trans (Frm.snoc _ _), sn0, (Ext.snoc _ _).get gz⟩ ?_ ?_ ?_
  · rintro xs acc S4 ⟨ps, rfl, _, _, _, h, _⟩
    exact ⟨trivial, h⟩
  · rintro acc S4 ⟨ps, rfl, hel, b4, f4, h4, hz4⟩
    refine vv_addL hz4 h4 (line_ok (by simp at hel ⊢; omega)) ?_
    have ep : [PV.int 0] ++ ps.map PV.int = (0 :: ps).map PV.int := rfl
    rw [ep]
    have ppl : ((0 :: ps).length : Int) = 1 + sz0 := by simp at hel ⊢; omega
    have gp := sn0 (S := S4) (c := .lst ((0 :: ps).map PV.int))
    have b5 := b4.snoc (.lst ((0 :: ps).map PV.int))
    have f5 := f4.trans (Frm.snoc S4 (.lst ((0 :: ps).map PV.int)))
    have sl4 := f4.len
    generalize hS5 : S4 ++ [Cell.lst ((0 :: ps).map PV.int)] = S5 at gp b5 f5 ⊢
    generalize (0 :: ps) = ph at gp ppl
    have l5 : S4.length < S5.length := (List.getElem?_eq_some_iff.mp gp).1
    try simp only [ws_seq, ws_set, wv_bin, wv_args, wv_cons, wv_nil, wv_var, wv_lit, List.set_cons_zero, List.set_cons_succ, List.getElem?_cons_zero, List.getElem?_cons_succ, Option.some.injEq, exists_eq_left', chkL2]
    refine draw_all b5 (by decide) (by decide) fun few0 S6 w0 w1 b6 f6 _ => ?_
    rw [vv_add_int, wv_mkLst]
    refine ⟨line_ok (by simp), ?_⟩
    have f6l := f6.len
    have gp6 := f6.get (by omega) gp
    have f06 := f5.trans f6
    simp only [ws_for, wsr_args, wv_args, wv_cons, wv_nil, wv_var, List.set_cons_zero, List.set_cons_succ, List.getElem?_cons_zero, List.getElem?_cons_succ, Option.some.injEq, exists_eq_left']
    rw [wsr_range1]
    refine ⟨⟨by omega, by omega⟩, ?_⟩
    refine for_inv (fun zs ρ S' => (∀ z ∈ zs, ∃ i : Int, z = .int i ∧ 0 ≤ i ∧ i < 1 + sz0) ∧ ∃ rows : List (List (Option Int)), rows.length + zs.length = (1 + sz0).toNat ∧ (∀ r ∈ rows, (r.length : Int) = (l + 1) * (l + 1) - 1 ∧ ∀ o ∈ r, ∀ i, o = some i → 0 ≤ i ∧ i < 1 + sz0) ∧ Bx ns S' ∧ Frm S S' ∧ S'[S4.length]? = some (.lst (ph.map PV.int)) ∧ S'[S6.length]? = some (.lst (rows.map rowP)) ∧ ∃ y7 y8 y9 y10 y11 y12, ρ = [some (.cell 2), some (.int l), some (.int mm), some (.int (1 + sz0)), some (.cell S4.length), some (.int (1 + few0)), some (.cell S6.length), y7, y8, y9, y10, y11, y12, none]) _ _ _
      ⟨rng_mem, [], by simp [srcRange], (fun _ h => by cases h), b6.snoc _, f06.trans (Frm.snoc _ _), (Ext.snoc _ _).get gp6, sn0, _, _, _, _, _, _, rfl⟩ (fun _ _ _ _ => trivial) ?_ ?_
    · rintro ρ S' ⟨_, rows, hl, hr, b', f', hp', hc, y7, y8, y9, y10, y11, y12, rfl⟩
      have hn : (rows.length : Int) = 1 + sz0 := by simp at hl; omega
      have fl' := f'.len
      unfold g__law_pair_machine_R5
      simp only [ws_ret, wv_bin, wv_args, wv_cons, wv_nil, wv_var, wv_lit, List.getElem?_cons_zero, List.getElem?_cons_succ, Option.some.injEq, exists_eq_left']
      rw [vv_add_int, vv_add_int, vv_mulA_int]
      refine ⟨cm_r ⟨by omega, by omega⟩, ?_⟩
      rw [vv_sub, vv_tup_cell]
      refine ⟨_, hc, _, rfl, ?_⟩
      simp only [wv_lc, wsr_args, wv_args, wv_cons, wv_nil, wv_var, List.getElem?_cons_zero, List.getElem?_cons_succ, Option.some.injEq, exists_eq_left', List.map_cons, List.map_nil, wipeP]
      rw [wsr_range1]
      refine ⟨⟨by omega, by omega⟩, ?_⟩
      refine lc_inv (fun xs acc S4 => ∃ es : List Int, acc = es.map PV.int ∧ (∀ e ∈ es, e = 0 ∨ e = 1) ∧ es.length + xs.length = (1 + sz0).toNat ∧ Bx ns S4 ∧ Frm S S4 ∧ S4[S'.length]? = some (.lst (es.map PV.int))) _ [] _
        ⟨[], rfl, (fun _ h => by cases h), by simp [srcRange], b'.snoc _, f'.trans (Frm.snoc _ _), sn0⟩ ?_ ?_ ?_
      · rintro xs acc S4 ⟨es, rfl, _, _, _, _, h⟩
        exact ⟨trivial, h⟩
      · rintro acc S4 ⟨es, rfl, he, hel, b4, f4, h4⟩
        rw [vv_tup_cell]
        refine ⟨_, h4, _, rfl, ?_⟩
        rw [wv_mkTup]
        refine ⟨line_ok (by simp), ?_⟩
        refine q rows es S4 ⟨L1, L2, by omega, by omega, fun r h => ⟨(hr r h).1, fun o ho i hi => by have := (hr r h).2 o ho i hi; omega⟩, by simp at hel; omega, he⟩ b4 f4
      · rintro x xs acc S4 ⟨es, rfl, he, hel, b4, f4, h4⟩
        refine ⟨_, rfl, ?_⟩
        rw [List.length_cons] at hel
        have l4 := (List.getElem?_eq_some_iff.mp h4).1
        simp only [tTrue, wpx_ret, if_true, wv_args, wv_cons, wv_nil, wv_bin, wv_var, wv_lit, List.set_cons_zero, List.set_cons_succ, List.getElem?_cons_zero, List.getElem?_cons_succ, Option.some.injEq, exists_eq_left', chkL2]
        refine draw_all b4 (by decide) (by decide) fun d S5' d0 d1 b5' f5' _ => ?_
        rw [vv_gt, vv_int_bl]
        have h5 := f5'.get (by omega) h4
        have l5' := (List.getElem?_eq_some_iff.mp h5).1
        have e01 : (if decide ((0 : Int) < d) = true then (1 : Int) else 0) = 0 ∨ (if decide ((0 : Int) < d) = true then (1 : Int) else 0) = 1 := by
          split
          · exact .inr rfl
          · exact .inl rfl
        generalize (if decide ((0 : Int) < d) = true then (1 : Int) else 0) = ev at e01
        refine ⟨h5, line_lt (by rw [List.length_map]; omega), es ++ [ev], by simp, fun e' h' => ?_, by rw [List.length_append, List.length_singleton]; omega, b5'.put (by omega) _, (f4.trans f5').put (by omega) _, ?_⟩
        · rcases List.mem_append.mp h' with h' | h'
          · exact he e' h'
          · rw [List.mem_singleton.mp h']; exact e01
        · rw [List.getElem?_set_self l5']; simp
    · rintro z zs ρ S' ⟨hz, rows, hl, hr, b', f', hp', hc, y7, y8, y9, y10, y11, y12, rfl⟩
      obtain ⟨i, rfl, i0, i1⟩ := hz z List.mem_cons_self
      refine ⟨_, rfl, ?_⟩
      rw [List.length_cons] at hl
      simp only [List.set_cons_zero, List.set_cons_succ]
      refine mp_B4 l1 l2 b' (by omega) (by omega) (by omega) (by omega) hp' (by omega) ppl i0 i1 f' bl (by omega) (by omega) hc (by omega) fun r S5 h5 ho5 b5 f5 hp5 hc5 y8 y9 y10 y11 y12 => ?_
      refine ⟨fun z' hz' => hz z' (List.mem_cons_of_mem _ hz'), rows ++ [r], by rw [List.length_append, List.length_singleton]; omega, fun r' h' => ?_, b5, f5, hp5, hc5, _, _, _, _, _, _, rfl⟩
      rcases List.mem_append.mp h' with h' | h'
      · exact hr r' h'
      · rw [List.mem_singleton.mp h']; exact ⟨h5, ho5⟩
  · rintro x xs acc S4 ⟨ps, rfl, hel, b4, f4, h4, hz4⟩
    refine ⟨_, rfl, ?_⟩
    rw [List.length_cons] at hel
    simp only [tTrue, wpx_ret, if_true, wv_args, wv_cons, wv_nil, wv_var, wv_lit, List.set_cons_zero, List.set_cons_succ, List.getElem?_cons_zero, List.getElem?_cons_succ, Option.some.injEq, exists_eq_left', chkL2]
    refine draw_all b4 (by decide) (by decide) fun d S5 d0 d1 b5 f5 _ => ?_
    rw [lA] at h4 ⊢
    have h5 := f5.get (by omega) h4
    have l5 := (List.getElem?_eq_some_iff.mp h5).1
    refine ⟨h5, line_lt (by rw [List.length_map]; omega), ps ++ [d], by simp, by rw [List.length_append, List.length_singleton]; omega, b5.put (by omega) _, (f4.trans f5).put (by omega) _, ?_, ?_⟩
    · rw [List.getElem?_set_self l5]; simp
    · rw [List.getElem?_set_ne (by omega)]; exact f5.get (by omega) hz4
theorem made_m {rows : List (List (Option Int))} {es : List Int} (W : Wf l rows es) (q : ∀ S', Ext S S' → MaAt S' S.length l rows es → Q (.cell S.length) S') : wpx (F__law_made [machP l rows es]) S Q E := by
  unfold F__law_made
  refine wp_run ?_
  unfold g__law_made
  simp only [ws_ret, wv_bin, wv_args, wv_cons, wv_nil, wv_var, wv_lit, List.map_cons, List.map_nil, List.cons_append, List.nil_append, List.length_cons, List.length_nil, Nat.reduceAdd, Nat.reduceSub, List.replicate, List.getElem?_cons_zero, List.getElem?_cons_succ, Option.some.injEq, exists_eq_left']
  unfold machP
  rw [vv_ix_tup]
  refine ⟨_, atI0, ?_⟩
  rw [vv_ix_tup]
  refine ⟨_, atI1, ?_⟩
  rw [vv_ix_tup]
  refine ⟨_, atI2, ?_⟩
  exact made_is W (.inl rfl) (.inl rfl) q
end
end KK

namespace KK
open PySem PySem.Spec PyProof.Rows L2 DL PySem.W
open Classical
local macro_rules | `(tactic| walk_at "dw") => `(tactic| try simp only [ws_seq, ws_nil, ws_retN, ws_bk, ws_ct, ws_expr, ws_ret, ws_set, ws_if, ws_asg, ws_sub, ws_aug, ws_for, ws_thru, ws_no, ws_raise, wv_mkX, wv_var, wv_lit, wv_bin, wv_un, wv_nil, wv_cons, wv_args, wv_test, wv_asB, wv_and, wv_or, wv_not, wv_andV, wv_orV, wv_notV, wv_if, wv_chain,
  wv_noPart, wv_part, wv_asI, wv_slice, wv_mkTup, wv_mkLst, wv_methL, wsr_args, wsr_range1, wsr_range2, wsr_seq, wsr_tup, wsr_rev, wsr_zip, vv_rev_tup, wv_lc, wpx_ret, wpx_optM, tTrue, chkL1, chkL2, chkL3, chkL4,
  vv_add_int, vv_add_tup, vv_sub, vv_mul, vv_mulA_int, vv_div, vv_mod, vv_pow, vv_neg, vv_gt, vv_ge, vv_le, vv_lt, vv_eq_int, vv_ne_int, vv_eq_bl, vv_ne_bl, eqA_int, neA_int, eqA_bl, neA_bl, eqA_tup, neA_tup, eqA_cell, neA_cell, eqA_non, neA_non, vv_eqA_str, vv_neA_str, vv_ix_tup, vv_ix_cell, vv_set, vv_len_tup, vv_len_cell, vv_abs, vv_int_int, vv_int_bl, vv_tup_tup, vv_tup_cell, vv_lst_tup, vv_lst_cell, vv_slice_tup, vv_dm, vv_mx, vv_mn,
  isi_int_int, isi_int_bool, isi_int_tuple, isi_int_str, isi_int_list, isi_bool_int, isi_bool_bool, isi_bool_tuple, isi_bool_str, isi_bool_list, isi_str_int, isi_str_bool, isi_str_tuple, isi_str_str, isi_str_list, isi_none_int, isi_none_bool, isi_none_tuple, isi_none_str, isi_none_list, isi_tuple_int, isi_tuple_bool, isi_tuple_tuple, isi_tuple_str, isi_tuple_list,
  and_true, true_and, and_self, Cell.lst.injEq, items_lst, items_rls, vv_append, vv_isL, Option.some.injEq, exists_eq_left', exists_eq_left, List.map_cons, List.map_nil, List.length_cons, List.length_nil, List.length_map, List.replicate, List.cons_append, List.nil_append, List.getElem?_cons_zero, List.getElem?_cons_succ, List.set_cons_zero, List.set_cons_succ, bindT, atI0, atI1, atI2, atI3, ix41, ix42, ix43, Nat.reduceAdd, Nat.reduceSub, List.set_set, decide_true, decide_false, if_true, if_false, Bool.false_eq_true, decide_eq_true_eq, Bool.not_true, Bool.not_false, wpx_ite, eq_self, wipeP, *])

open PVal (pv)
section
variable {ns : List Int} {S S0 S1 S' : Store} {Q : PV → Store → Prop} {QS : Fl × PEnv → Store → Prop} {E : Exn → Store → Prop} {A : Mc} {s x y : Int} {n g c8 i p : Nat} {xs ys g0 : List Int}
theorem in_ints {i : Int} (h : S[n]? = some (.lst (xs.map PV.int))) : inM (.int i) (.cell n) S = .ok (decide (i ∈ xs)) S := by
  have mp : ∀ xs : List Int, mapO (toD S 63) (xs.map PV.int) = some (xs.map PyData.int) := by
    intro xs
    induction xs with
    | nil => rfl
    | cons a xs ih => rw [List.map_cons, mapO, ih]; rfl
  have e1 : toD S 64 (.cell n) = some (.list (xs.map PyData.int)) := by
    show (S[n]?.bind Cell.items?).bind _ = _
    rw [h]
    show (mapO (toD S 63) (xs.map PV.int)).map PyData.list = _
    rw [mp]; rfl
  have la : ∀ xs : List Int, PyData.canLayAll0 (xs.map PyData.int) = true := by
    intro xs
    induction xs with
    | nil => rfl
    | cons a xs ih => rw [List.map_cons, PyData.canLayAll0, PyData.canLay0, ih]; rfl
  have de : ∀ xs : List Int, PyData.depthAll (xs.map PyData.int) ≤ 1 := by
    intro xs
    induction xs with
    | nil => exact Nat.zero_le _
    | cons a xs ih => rw [List.map_cons, PyData.depthAll]; simp only [PyData.depth]; omega
  have sh : SeqAt.shaped (.list (xs.map PyData.int)) = true := by
    unfold SeqAt.shaped
    rw [PyData.canLay0, la xs, Bool.true_and, decide_eq_true_eq, PyData.depth]
    have := de xs
    omega
  have s1 : SeqAt.shaped (.int i) = true := rfl
  have any : ∀ xs : List Int, ((xs.map PyData.int).any fun z => PyData.eqv z (.int i)) = decide (i ∈ xs) := by
    intro xs
    induction xs with
    | nil => rfl
    | cons a xs ih =>
      rw [List.map_cons, List.any_cons, ih]
      by_cases q : i = a
      · subst q; simp [PyData.eqv]
      · have q' : ¬ a = i := fun z => q z.symm
        simp [PyData.eqv, q, q']
  unfold inM
  simp only [e1, show toD S 64 (.int i) = some (.int i) from rfl, s1, sh, and_self, if_true, any]
theorem vv_inI {i : Int} (h : S[n]? = some (.lst (xs.map PV.int))) : wpx (inV (.int i) (.cell n)) S Q E ↔ Q (.bl (decide (i ∈ xs))) S := by
  unfold DL.inV
  rw [wpx_bind, wpx_eq (in_ints h), wpx_ret]
theorem vv_notinI {i : Int} (h : S[n]? = some (.lst (xs.map PV.int))) : wpx (notInV (.int i) (.cell n)) S Q E ↔ Q (.bl (!decide (i ∈ xs))) S := by
  unfold DL.notInV
  rw [wpx_bind, wpx_eq (in_ints h), wpx_ret]
theorem left_is (q : Q (.int (A.lft i)) S) : wpx (F__law_left [.int A.l, tupI A.ws, .int (i : Int)]) S Q E := by
  unfold F__law_left
  refine wp_run ?_
  unfold g__law_left g__law_left_R1
  simp only [ws_seq, ws_if, ws_ret, wv_test, wv_bin, wv_args, wv_cons, wv_nil, wv_var, List.map_cons, List.map_nil, List.cons_append, List.nil_append, List.length_cons, List.length_nil, Nat.reduceAdd, Nat.reduceSub, List.replicate, List.getElem?_cons_zero, List.getElem?_cons_succ, Option.some.injEq, exists_eq_left', vv_len_tup, List.length_map, vv_lt, wv_asB]
  unfold Mc.lft at q
  by_cases p : (i : Int) < A.ws.length
  · have hs : i < A.ws.length := by omega
    rw [List.getElem?_eq_getElem hs] at q
    simp only [decide_eq_true p, if_true, ws_ret, wv_bin, wv_var, List.getElem?_cons_zero, List.getElem?_cons_succ, Option.some.injEq, exists_eq_left']
    rw [vv_ix_tup]
    refine ⟨.int A.ws[i], ?_, q⟩
    rw [atI_pos (by omega), Int.toNat_natCast, List.getElem?_map, List.getElem?_eq_getElem hs]; rfl
  · rw [List.getElem?_eq_none (by omega)] at q
    simp only [decide_eq_false p, Bool.false_eq_true, if_false, ws_nil, ws_ret, wv_var, List.getElem?_cons_zero, List.getElem?_cons_succ, Option.some.injEq, exists_eq_left']
    exact q
/-- the right sides at a place, for so many letters -/
def sid (A : Mc) (i n : Nat) : List Int := if i < n then ysOf A.l else [A.l]
theorem sides_is (O : A.Ok) (q : ∀ S', Ext S S' → S'[S.length]? = some (.lst ((sid A i n).map PV.int)) → Q (.cell S.length) S') : wpx (F__law_sides [.int A.l, .int (i : Int), .int (n : Int)]) S Q E := by
  unfold F__law_sides
  refine wp_run ?_
  unfold g__law_sides g__law_sides_R1
  have l1 := O.l1
  have l2 := O.l2
  simp only [ws_seq, ws_if, wv_test, wv_bin, wv_var, List.map_cons, List.map_nil, List.cons_append, List.nil_append, List.length_cons, List.length_nil, Nat.reduceAdd, Nat.reduceSub, List.replicate, List.getElem?_cons_zero, List.getElem?_cons_succ, Option.some.injEq, exists_eq_left', vv_lt, wv_asB]
  by_cases p : (i : Int) < n
  · simp only [decide_eq_true p, if_true, ws_ret, wv_lc, wsr_args, wv_args, wv_cons, wv_nil, wv_var, List.getElem?_cons_zero, List.getElem?_cons_succ, Option.some.injEq, exists_eq_left', List.map_cons, List.map_nil, wipeP]
    rw [wsr_range1]
    refine ⟨⟨by omega, by omega⟩, ?_⟩
    refine lc_pure (fun x => x) (line_ok (by simp [srcRange]; omega)) (fun _ _ => trivial) (fun y hy S2 e2 => ⟨_, rfl, ?_⟩) fun S2 e2 h2 => ?_
    · simp only [wv_var, List.set_cons_zero, List.set_cons_succ, List.getElem?_cons_zero, List.getElem?_cons_succ, Option.some.injEq, exists_eq_left']
      exact ⟨trivial, .refl _⟩
    · refine q S2 e2 ?_
      rw [h2, List.map_id', range_items]
      unfold sid ysOf
      rw [if_pos (by omega), List.map_map]; rfl
  · simp only [decide_eq_false p, Bool.false_eq_true, if_false, ws_nil, ws_ret, wv_args, wv_cons, wv_nil, wv_var, wv_mkLst, List.getElem?_cons_zero, List.getElem?_cons_succ, Option.some.injEq, exists_eq_left']
    refine ⟨line_ok (by simp), q _ (Ext.snoc _ _) ?_⟩
    rw [sn0]
    unfold sid
    rw [if_neg (by omega)]; rfl
theorem sid_ok (O : A.Ok) (hi : i < max A.ws.length n) (hy : y ∈ sid A i n) : 0 ≤ A.lft i * (A.l + 1) + y ∧ A.lft i * (A.l + 1) + y < (A.l + 1) * (A.l + 1) - 1 := by
  obtain ⟨a, b, c⟩ := O.lft_le i
  unfold sid at hy
  by_cases p : i < n
  · rw [if_pos p] at hy
    obtain ⟨y0, y1⟩ := ysOf_mem.mp hy
    exact pair_ok O.l1 O.l2 a b y0 (by omega) (by omega)
  · rw [if_neg p] at hy
    rw [List.mem_singleton.mp hy]
    have := c (by omega)
    have l1 := O.l1
    exact pair_ok O.l1 O.l2 a b (by omega) (Int.le_refl _) (by omega)
theorem gd_sid (hi : i < max A.ws.length n) : Gd1 A n i s ↔ ∃ y ∈ sid A i n, ∃ t, A.stp s i y = some t ∧ Gd1 A n (i + 1) t := by
  unfold sid
  by_cases p : i < n
  · rw [if_pos p, gd_lt p]
    exact ⟨fun ⟨y, a, b, h⟩ => ⟨y, ysOf_mem.mpr ⟨a, b⟩, h⟩, fun ⟨y, a, h⟩ => ⟨y, (ysOf_mem.mp a).1, (ysOf_mem.mp a).2, h⟩⟩
  · rw [if_neg p, gd_blank (by omega) (by omega)]
    exact ⟨fun ⟨t, h⟩ => ⟨A.l, List.mem_singleton.mpr rfl, t, h⟩, fun ⟨y, a, t, h⟩ => ⟨t, by rw [← List.mem_singleton.mp a]; exact h⟩⟩
/-- the states from which all ends, place by place from pos on -/
def Good (A : Mc) (S : Store) (n g pos : Nat) (gl : List Nat) : Prop := S[g]? = some (.lst (gl.map PV.cell)) ∧ ∀ j (h : j < gl.length), ∃ xs : List Int, S[gl[j]]? = some (.lst (xs.map PV.int)) ∧ ∀ s : Int, s ∈ xs ↔ 0 ≤ s ∧ s < A.rows.length ∧ Gd1 A n (pos + j) s
theorem Good.ext {pos : Nat} {gl : List Nat} (h : Good A S n g pos gl) (e : Ext S S') : Good A S' n g pos gl := ⟨e.get h.1, fun j hj => let ⟨xs, a, b⟩ := h.2 j hj; ⟨xs, e.get a, b⟩⟩
def mP (A : Mc) : PV := machP ((A.l + 1) * (A.l + 1) - 1) A.rows A.es
theorem lo_back1 {x4 x6 x11 x12 x13 x14 : Option PV} {gl : List Nat} {st : List Int} (O : A.Ok) (hi : i < max A.ws.length n) (hg : Good A S n g (i + 1) gl) (gl0 : 0 < gl.length) (h8 : S[c8]? = some (.lst (st.map PV.int))) (hl8 : st.length ≤ 100) (s0 : 0 ≤ s ∧ s < A.rows.length) (hy : y ∈ sid A i n)
    (q : ∀ x11 st', (∀ r, r ∈ st' ↔ r ∈ st ∨ (r = s ∧ ∃ t, A.stp s i y = some t ∧ Gd1 A n (i + 1) t)) → (st' = st ∨ (s ∉ st ∧ st' = st ++ [s])) → QS (.nx, [some (mP A), some (.int A.l), some (tupI A.ws), some (.int (n : Int)), x4, some (.cell g), x6, some (.int (i : Int)), some (.cell c8), some (.int s), some (.int y), x11, x12, x13, x14]) (S.set c8 (.lst (st'.map PV.int)))) :
    wps (g__law_of_length_B1 [some (mP A), some (.int A.l), some (tupI A.ws), some (.int (n : Int)), x4, some (.cell g), x6, some (.int (i : Int)), some (.cell c8), some (.int s), some (.int y), x11, x12, x13, x14]) S QS := by
  unfold g__law_of_length_B1
  have W := O.W
  have l1 := O.l1
  have l2 := O.l2
  obtain ⟨c0, c1⟩ := sid_ok O hi hy
  obtain ⟨a1, a2, a3⟩ := W.step s0 ⟨c0, c1⟩
  have y0 : 0 ≤ y ∧ y ≤ A.l := by
    unfold sid at hy
    split at hy
    · have := ysOf_mem.mp hy; omega
    · rw [List.mem_singleton.mp hy]; omega
  have same : S.set c8 (.lst (st.map PV.int)) = S := by
    apply List.ext_getElem?
    intro j
    by_cases z : j = c8
    · subst z; rw [List.getElem?_set_self (List.getElem?_eq_some_iff.mp h8).1]; exact h8.symm
    · rw [List.getElem?_set_ne (Ne.symm z)]
  have hstp : A.stp s i y = stepM A.rows (some s) (A.lft i * (A.l + 1) + y) := rfl
  simp only [ws_seq, ws_set, wv_bin, wv_args, wv_cons, wv_nil, wv_var, wv_lit, List.getElem?_cons_zero, List.getElem?_cons_succ, Option.some.injEq, exists_eq_left', chkL3]
  unfold mP machP
  rw [vv_ix_tup]
  refine ⟨_, atI1, ?_⟩
  unfold tabP
  rw [vv_ix_tup]
  refine ⟨_, a1, ?_⟩
  refine left_is ?_
  rw [vv_add_int, vv_mulA_int]
  refine ⟨cm_r ⟨by omega, by omega⟩, ?_⟩
  rw [vv_add_int]
  unfold rowP
  rw [vv_ix_tup]
  refine ⟨_, a2, ?_⟩
  simp only [ws_if, wv_and, wv_test, wv_bin, wv_var, wv_lit, List.set_cons_zero, List.set_cons_succ, List.getElem?_cons_zero, List.getElem?_cons_succ, Option.some.injEq, exists_eq_left']
  rw [vv_notnon okv_opt, isNon_opt, wv_asB]
  have no : (∀ t, A.stp s i y = some t → ¬ Gd1 A n (i + 1) t) → ∀ x11, QS (.nx, [some (mP A), some (.int A.l), some (tupI A.ws), some (.int (n : Int)), x4, some (.cell g), x6, some (.int (i : Int)), some (.cell c8), some (.int s), some (.int y), x11, x12, x13, x14]) S := fun h x11 => by
    have := q x11 st (fun r => ⟨.inl, fun z => z.elim id fun ⟨_, t, h1, h2⟩ => (h t h1 h2).elim⟩) (.inl rfl)
    rw [same] at this; exact this
  cases hs : stepM A.rows (some s) (A.lft i * (A.l + 1) + y) with
  | none =>
    simp only [Option.isNone_none, Bool.not_true, Bool.false_eq_true, if_false, ws_nil]
    exact no (fun t h => by rw [hstp, hs] at h; cases h) _
  | some t =>
    simp only [Option.isNone_some, Bool.not_false, if_true]
    obtain ⟨xs, b1, b2⟩ := hg.2 0 gl0
    rw [vv_ix_cell]
    refine ⟨_, hg.1, _, rfl, .cell gl[0], ?_, ?_⟩
    · rw [atI_pos (by omega)]
      show (gl.map PV.cell)[0]? = _
      rw [List.getElem?_map, List.getElem?_eq_getElem gl0]; rfl
    rw [pv_some, vv_inI b1, wv_asB]
    have ti := a3 t hs
    by_cases p : t ∈ xs
    · have gt := ((b2 t).mp p).2.2
      rw [Nat.add_zero] at gt
      rw [decide_eq_true p]
      simp only [if_true]
      rw [vv_notinI h8, wv_asB]
      by_cases p2 : s ∈ st
      · rw [decide_eq_true p2]
        simp only [Bool.not_true, Bool.false_eq_true, if_false, ws_nil]
        have := q (some (.int t)) st (fun r => ⟨.inl, fun z => z.elim id fun ⟨e, _⟩ => by rw [e]; exact p2⟩) (.inl rfl)
        rw [same] at this; exact this
      · rw [decide_eq_false p2]
        simp only [Bool.not_false, if_true, ws_expr, wv_methL, wv_cons, wv_nil, wv_var, List.getElem?_cons_zero, List.getElem?_cons_succ, Option.some.injEq, exists_eq_left']
        rw [vv_isL]
        refine ⟨_, h8, _, rfl, ?_⟩
        rw [vv_append_eq h8 (line_lt (by rw [List.length_map]; omega))]
        have e2 : st.map PV.int ++ [.int s] = (st ++ [s]).map PV.int := by rw [List.map_append]; rfl
        rw [e2]
        refine q _ (st ++ [s]) (fun r => ?_) (.inr ⟨p2, rfl⟩)
        rw [List.mem_append, List.mem_singleton]
        exact ⟨fun z => z.elim .inl fun e => .inr ⟨e, t, by rw [hstp]; exact hs, gt⟩, fun z => z.elim .inl fun e => .inr e.1⟩
    · rw [decide_eq_false p]
      simp only [Bool.false_eq_true, if_false, ws_nil]
      refine no (fun t' h gt => p ?_) _
      rw [hstp, hs] at h
      cases h
      exact (b2 t).mpr ⟨ti.1, ti.2, by rw [Nat.add_zero]; exact gt⟩
end
end KK

namespace KK
open PySem PySem.Spec PyProof.Rows L2 DL PySem.W
open Classical
local macro_rules | `(tactic| walk_at "dw") => `(tactic| try simp only [ws_seq, ws_nil, ws_retN, ws_bk, ws_ct, ws_expr, ws_ret, ws_set, ws_if, ws_asg, ws_sub, ws_aug, ws_for, ws_thru, ws_no, ws_raise, wv_mkX, wv_var, wv_lit, wv_bin, wv_un, wv_nil, wv_cons, wv_args, wv_test, wv_asB, wv_and, wv_or, wv_not, wv_andV, wv_orV, wv_notV, wv_if, wv_chain,
  wv_noPart, wv_part, wv_asI, wv_slice, wv_mkTup, wv_mkLst, wv_methL, wsr_args, wsr_range1, wsr_range2, wsr_seq, wsr_tup, wsr_rev, wsr_zip, vv_rev_tup, wv_lc, wpx_ret, wpx_optM, tTrue, chkL1, chkL2, chkL3, chkL4,
  vv_add_int, vv_add_tup, vv_sub, vv_mul, vv_mulA_int, vv_div, vv_mod, vv_pow, vv_neg, vv_gt, vv_ge, vv_le, vv_lt, vv_eq_int, vv_ne_int, vv_eq_bl, vv_ne_bl, eqA_int, neA_int, eqA_bl, neA_bl, eqA_tup, neA_tup, eqA_cell, neA_cell, eqA_non, neA_non, vv_eqA_str, vv_neA_str, vv_ix_tup, vv_ix_cell, vv_set, vv_len_tup, vv_len_cell, vv_abs, vv_int_int, vv_int_bl, vv_tup_tup, vv_tup_cell, vv_lst_tup, vv_lst_cell, vv_slice_tup, vv_dm, vv_mx, vv_mn,
  isi_int_int, isi_int_bool, isi_int_tuple, isi_int_str, isi_int_list, isi_bool_int, isi_bool_bool, isi_bool_tuple, isi_bool_str, isi_bool_list, isi_str_int, isi_str_bool, isi_str_tuple, isi_str_str, isi_str_list, isi_none_int, isi_none_bool, isi_none_tuple, isi_none_str, isi_none_list, isi_tuple_int, isi_tuple_bool, isi_tuple_tuple, isi_tuple_str, isi_tuple_list,
  and_true, true_and, and_self, Cell.lst.injEq, items_lst, items_rls, vv_append, vv_isL, Option.some.injEq, exists_eq_left', exists_eq_left, List.map_cons, List.map_nil, List.length_cons, List.length_nil, List.length_map, List.replicate, List.cons_append, List.nil_append, List.getElem?_cons_zero, List.getElem?_cons_succ, List.set_cons_zero, List.set_cons_succ, bindT, atI0, atI1, atI2, atI3, ix41, ix42, ix43, Nat.reduceAdd, Nat.reduceSub, List.set_set, decide_true, decide_false, if_true, if_false, Bool.false_eq_true, decide_eq_true_eq, Bool.not_true, Bool.not_false, wpx_ite, eq_self, wipeP, *])

open PVal (pv)
section
variable {ns : List Int} {S S0 Sb S' : Store} {Q : PV → Store → Prop} {QS : Fl × PEnv → Store → Prop} {E : Exn → Store → Prop} {A : Mc} {s x y : Int} {n g c8 i p : Nat} {xs ys g0 : List Int}
theorem lo_back2 {x4 x6 x10 x11 x12 x13 x14 : Option PV} {gl : List Nat} {st : List Int} (O : A.Ok) (hi : i < max A.ws.length n) (hg : Good A Sb n g (i + 1) gl) (gl0 : 0 < gl.length) (e0 : Ext Sb S) (b8 : Sb.length ≤ c8) (h8 : S[c8]? = some (.lst (st.map PV.int))) (hl8 : st.length ≤ 90) (s0 : 0 ≤ s ∧ s < A.rows.length) (ns : s ∉ st)
    (q : ∀ x10 x11 (st' : List Int) (S' : Store), (∀ r, r ∈ st' ↔ r ∈ st ∨ (r = s ∧ Gd1 A n i s)) → st'.length ≤ st.length + 1 → Ext Sb S' → S'[c8]? = some (.lst (st'.map PV.int)) → QS (.nx, [some (mP A), some (.int A.l), some (tupI A.ws), some (.int (n : Int)), x4, some (.cell g), x6, some (.int (i : Int)), some (.cell c8), some (.int s), x10, x11, x12, x13, x14]) S') :
    wps (g__law_of_length_B2 [some (mP A), some (.int A.l), some (tupI A.ws), some (.int (n : Int)), x4, some (.cell g), x6, some (.int (i : Int)), some (.cell c8), some (.int s), x10, x11, x12, x13, x14]) S QS := by
  unfold g__law_of_length_B2
  simp only [ws_for, wsr_seq, wv_args, wv_cons, wv_nil, wv_var, List.getElem?_cons_zero, List.getElem?_cons_succ, Option.some.injEq, exists_eq_left', chkL3]
  refine sides_is O fun S1 e1 hc => ?_
  have l8 := (List.getElem?_eq_some_iff.mp h8).1
  have h81 := e1.get h8
  have cc : S.length ≠ c8 := by omega
  generalize S.length = c at hc cc ⊢
  rw [wsr_cell hc rfl]
  refine for_inv (fun zs ρ S' => ∃ (dn rs : List Int) (st' : List Int), zs = rs.map PV.int ∧ sid A i n = dn ++ rs ∧ (∀ r, r ∈ st' ↔ r ∈ st ∨ (r = s ∧ ∃ y ∈ dn, ∃ t, A.stp s i y = some t ∧ Gd1 A n (i + 1) t)) ∧ (st' = st ∨ st' = st ++ [s]) ∧ Ext Sb S' ∧ S'[c]? = some (.lst ((sid A i n).map PV.int)) ∧ S'[c8]? = some (.lst (st'.map PV.int)) ∧ ∃ x10 x11, ρ = [some (mP A), some (.int A.l), some (tupI A.ws), some (.int (n : Int)), x4, some (.cell g), x6, some (.int (i : Int)), some (.cell c8), some (.int s), x10, x11, x12, x13, x14]) _ _ _
    ⟨[], sid A i n, st, rfl, rfl, fun r => ⟨.inl, fun z => z.elim id fun ⟨_, y, hy, _⟩ => by cases hy⟩, .inl rfl, e0.trans e1, hc, h81, _, _, rfl⟩ (fun _ _ _ h => by obtain ⟨_, _, _, _, _, _, _, _, h, _⟩ := h; exact h) ?_ ?_
  · rintro ρ S' ⟨dn, rs, st', hz, hd, hs, hst, e, hc', h8', x10, x11, rfl⟩
    have rs0 : rs = [] := by cases rs with | nil => rfl | cons a b => cases hz
    subst rs0
    rw [List.append_nil] at hd
    refine q _ _ st' S' (fun r => ?_) ?_ e h8'
    · rw [hs r, gd_sid hi, hd]
    · rcases hst with rfl | rfl
      · omega
      · rw [List.length_append, List.length_singleton]; exact Nat.le_refl _
  · rintro z zs ρ S' ⟨dn, rs, st', hz, hd, hs, hst, e, hc', h8', x10, x11, rfl⟩
    cases rs with
    | nil => cases hz
    | cons y rs =>
      injection hz with h1 h2
      subst h1; subst h2
      refine ⟨_, rfl, ?_⟩
      simp only [List.set_cons_zero, List.set_cons_succ]
      have lst' : st'.length ≤ 100 := by
        rcases hst with rfl | rfl
        · omega
        · rw [List.length_append, List.length_singleton]; omega
      refine lo_back1 O hi (hg.ext e) gl0 h8' lst' s0 (by rw [hd]; simp) fun x11 st2 h3 h4 => ?_
      have l8' := (List.getElem?_eq_some_iff.mp h8').1
      refine ⟨dn ++ [y], rs, st2, rfl, by rw [hd]; simp, fun r => ?_, ?_, e.put b8 _, ?_, List.getElem?_set_self l8', _, _, rfl⟩
      · rw [h3 r, hs r]
        constructor
        · rintro ((h | ⟨h, y', hy', h'⟩) | ⟨h, t, h'⟩)
          · exact .inl h
          · exact .inr ⟨h, y', List.mem_append_left _ hy', h'⟩
          · exact .inr ⟨h, y, List.mem_append_right _ (List.mem_singleton.mpr rfl), t, h'⟩
        · rintro (h | ⟨h, y', hy', h'⟩)
          · exact .inl (.inl h)
          · rcases List.mem_append.mp hy' with hy' | hy'
            · exact .inl (.inr ⟨h, y', hy', h'⟩)
            · rw [List.mem_singleton.mp hy'] at h'; exact .inr ⟨h, h'⟩
      · rcases h4 with rfl | ⟨h5, rfl⟩
        · exact hst
        · rcases hst with rfl | rfl
          · exact .inr rfl
          · exact absurd (by simp) h5
      · rw [List.getElem?_set_ne (Ne.symm cc)]; exact hc'
end
end KK

namespace KK
open PySem PySem.Spec PyProof.Rows L2 DL PySem.W
open Classical
local macro_rules | `(tactic| walk_at "dw") => `(tactic| try simp only [ws_seq, ws_nil, ws_retN, ws_bk, ws_ct, ws_expr, ws_ret, ws_set, ws_if, ws_asg, ws_sub, ws_aug, ws_for, ws_thru, ws_no, ws_raise, wv_mkX, wv_var, wv_lit, wv_bin, wv_un, wv_nil, wv_cons, wv_args, wv_test, wv_asB, wv_and, wv_or, wv_not, wv_andV, wv_orV, wv_notV, wv_if, wv_chain,
  wv_noPart, wv_part, wv_asI, wv_slice, wv_mkTup, wv_mkLst, wv_methL, wsr_args, wsr_range1, wsr_range2, wsr_seq, wsr_tup, wsr_rev, wsr_zip, vv_rev_tup, wv_lc, wpx_ret, wpx_optM, tTrue, chkL1, chkL2, chkL3, chkL4,
  vv_add_int, vv_add_tup, vv_sub, vv_mul, vv_mulA_int, vv_div, vv_mod, vv_pow, vv_neg, vv_gt, vv_ge, vv_le, vv_lt, vv_eq_int, vv_ne_int, vv_eq_bl, vv_ne_bl, eqA_int, neA_int, eqA_bl, neA_bl, eqA_tup, neA_tup, eqA_cell, neA_cell, eqA_non, neA_non, vv_eqA_str, vv_neA_str, vv_ix_tup, vv_ix_cell, vv_set, vv_len_tup, vv_len_cell, vv_abs, vv_int_int, vv_int_bl, vv_tup_tup, vv_tup_cell, vv_lst_tup, vv_lst_cell, vv_slice_tup, vv_dm, vv_mx, vv_mn,
  isi_int_int, isi_int_bool, isi_int_tuple, isi_int_str, isi_int_list, isi_bool_int, isi_bool_bool, isi_bool_tuple, isi_bool_str, isi_bool_list, isi_str_int, isi_str_bool, isi_str_tuple, isi_str_str, isi_str_list, isi_none_int, isi_none_bool, isi_none_tuple, isi_none_str, isi_none_list, isi_tuple_int, isi_tuple_bool, isi_tuple_tuple, isi_tuple_str, isi_tuple_list,
  and_true, true_and, and_self, Cell.lst.injEq, items_lst, items_rls, vv_append, vv_isL, Option.some.injEq, exists_eq_left', exists_eq_left, List.map_cons, List.map_nil, List.length_cons, List.length_nil, List.length_map, List.replicate, List.cons_append, List.nil_append, List.getElem?_cons_zero, List.getElem?_cons_succ, List.set_cons_zero, List.set_cons_succ, bindT, atI0, atI1, atI2, atI3, ix41, ix42, ix43, Nat.reduceAdd, Nat.reduceSub, List.set_set, decide_true, decide_false, if_true, if_false, Bool.false_eq_true, decide_eq_true_eq, Bool.not_true, Bool.not_false, wpx_ite, eq_self, wipeP, *])

open PVal (pv)
section
variable {ns : List Int} {S S0 Sb S' : Store} {Q : PV → Store → Prop} {QS : Fl × PEnv → Store → Prop} {E : Exn → Store → Prop} {A : Mc} {s x y : Int} {n g c8 c13 i p N : Nat} {xs ys g0 : List Int} {ps ls : List En}
theorem back_B4 {x7 x8 x9 x10 x11 x12 x13 x14 : Option PV} {gl : List Nat} {kk : Nat} (O : A.Ok) (hN : N = max A.ws.length n) (hk : kk + i + 1 = N) (hg : Good A S n g (i + 1) gl) (gl0 : 0 < gl.length) (gll : gl.length ≤ 3000)
    (q : ∀ x7 x8 x9 x10 x11 c8 g' S', Ext S S' → Good A S' n g' i (c8 :: gl) → QS (.nx, [some (mP A), some (.int A.l), some (tupI A.ws), some (.int (n : Int)), some (.int (N : Int)), some (.cell g'), some (.int (kk : Int)), x7, x8, x9, x10, x11, x12, x13, x14]) S') :
    wps (g__law_of_length_B4 [some (mP A), some (.int A.l), some (tupI A.ws), some (.int (n : Int)), some (.int (N : Int)), some (.cell g), some (.int (kk : Int)), x7, x8, x9, x10, x11, x12, x13, x14]) S QS := by
  unfold g__law_of_length_B4
  have n2 := O.W.n2
  have n1 := O.W.n1
  simp only [ws_seq, ws_set, wv_bin, wv_args, wv_nil, wv_var, wv_lit, List.set_cons_zero, List.set_cons_succ, List.getElem?_cons_zero, List.getElem?_cons_succ, Option.some.injEq, exists_eq_left']
  rw [vv_sub, vv_sub, show (N : Int) - 1 - (kk : Int) = (i : Int) by omega, wv_mkLst]
  refine ⟨line_ok (by simp), ?_⟩
  simp only [ws_for, wsr_args, wv_bin, wv_args, wv_cons, wv_nil, wv_var, wv_lit, List.set_cons_zero, List.set_cons_succ, List.getElem?_cons_zero, List.getElem?_cons_succ, Option.some.injEq, exists_eq_left']
  unfold mP machP
  rw [vv_ix_tup]
  refine ⟨_, atI1, ?_⟩
  unfold tabP
  rw [vv_len_tup, List.length_map, wsr_range1]
  refine ⟨⟨by omega, by omega⟩, ?_⟩
  rw [Int.toNat_natCast, range_all]
  refine for_inv (fun zs ρ S' => ∃ (j c : Nat) (st : List Int), j + c = A.rows.length ∧ zs = (List.range' j c).map (fun k : Nat => PV.int (k : Int)) ∧ (∀ r : Int, r ∈ st ↔ 0 ≤ r ∧ r < j ∧ Gd1 A n i r) ∧ st.length ≤ j ∧ Ext S S' ∧ S'[S.length]? = some (.lst (st.map PV.int)) ∧ ∃ x9 x10 x11, ρ = [some (mP A), some (.int A.l), some (tupI A.ws), some (.int (n : Int)), some (.int (N : Int)), some (.cell g), some (.int (kk : Int)), some (.int (i : Int)), some (.cell S.length), x9, x10, x11, x12, x13, x14]) _ _ _
    ⟨0, A.rows.length, [], by omega, rfl, fun r => ⟨(fun h => by cases h), fun h => by omega⟩, by simp, Ext.snoc _ _, sn0, _, _, _, rfl⟩ (fun _ _ _ _ => trivial) ?_ ?_
  · rintro ρ S' ⟨j, c, st, hj, hz, hs, hl, e, h8, x9, x10, x11, rfl⟩
    have c0 : c = 0 := by cases c with | zero => rfl | succ c => rw [range_from] at hz; cases hz
    subst c0
    unfold g__law_of_length_R3
    simp only [ws_set, wv_bin, wv_args, wv_cons, wv_nil, wv_var, List.getElem?_cons_zero, List.getElem?_cons_succ, Option.some.injEq, exists_eq_left', List.set_cons_zero, List.set_cons_succ]
    rw [wv_mkLst]
    refine ⟨line_ok (by simp), ?_⟩
    have hg' := hg.ext (e.trans (Ext.snoc S' (.lst [.cell S.length])))
    refine vv_addL sn0 hg'.1 (line_ok (by rw [List.length_append, List.length_map, List.length_singleton]; omega)) ?_
    have e9 : [PV.cell S.length] ++ gl.map PV.cell = (S.length :: gl).map PV.cell := rfl
    rw [e9]
    have eE := (e.trans (Ext.snoc S' (.lst [.cell S.length]))).trans (Ext.snoc _ (.lst ((S.length :: gl).map PV.cell)))
    refine q _ _ _ _ _ S.length _ _ eE ⟨sn0, fun j' hj' => ?_⟩
    cases j' with
    | zero =>
      refine ⟨st, ((Ext.snoc S' _).trans (Ext.snoc _ _)).get h8, fun r => ?_⟩
      rw [hs r, Nat.add_zero, show j = A.rows.length by omega]
    | succ j' =>
      obtain ⟨xs, a, b⟩ := (hg'.ext (Ext.snoc _ (.lst ((S.length :: gl).map PV.cell)))).2 j' (by simpa using hj')
      exact ⟨xs, a, fun r => by rw [b r, show i + 1 + j' = i + (j' + 1) by omega]⟩
  · rintro z zs ρ S' ⟨j, c, st, hj, hz, hs, hl, e, h8, x9, x10, x11, rfl⟩
    cases c with
    | zero => cases hz
    | succ c =>
      rw [range_from] at hz
      injection hz with h1 h2
      subst h1; subst h2
      refine ⟨_, rfl, ?_⟩
      simp only [List.set_cons_zero, List.set_cons_succ]
      refine lo_back2 O (by omega) hg gl0 e (Nat.le_refl _) h8 (by omega) ⟨by omega, by omega⟩ (fun h => by have := (hs _).mp h; omega) fun x10 x11 st' S2 h3 h4 e2 h8' => ?_
      refine ⟨j + 1, c, st', by omega, rfl, fun r => ?_, by omega, e2, h8', _, _, _, rfl⟩
      rw [h3 r, hs r]
      constructor
      · rintro (h | ⟨h, h'⟩)
        · exact ⟨h.1, by omega, h.2.2⟩
        · subst h; exact ⟨by omega, by omega, h'⟩
      · rintro ⟨a, b, c⟩
        by_cases z : r = j
        · exact .inr ⟨z, by rw [← z]; exact c⟩
        · exact .inl ⟨a, by omega, c⟩
/-- one way, one letter on -/
noncomputable def nx1 (A : Mc) (n i : Nat) (e : En) (y : Int) : Option En := match A.stp e.2 i y with
  | some t => if Gd1 A n (i + 1) t then some (e.1 ++ (if y < A.l then [y] else []), t) else none
  | none => none
noncomputable def nxt (A : Mc) (n i : Nat) (e : En) : List En := (sid A i n).filterMap (nx1 A n i e)
def PP (A : Mc) (n i : Nat) (ps : List En) : Prop := (i ≤ n ∧ Pts A n i ps) ∨ (n ≤ i ∧ Pt2 A n i ps)
theorem fm_congr {β γ : Type} {f g : β → Option γ} : ∀ {xs : List β}, (∀ x ∈ xs, f x = g x) → xs.filterMap f = xs.filterMap g
  | [], _ => rfl
  | x :: xs, h => by rw [List.filterMap_cons, List.filterMap_cons, h x List.mem_cons_self, fm_congr fun y hy => h y (List.mem_cons_of_mem _ hy)]
theorem nxt_lt (h : i < n) (e : En) : nxt A n i e = exts A n i e := by
  unfold nxt exts sid
  rw [if_pos h]
  refine fm_congr fun y hy => ?_
  unfold nx1 one
  have := (ysOf_mem.mp hy).2
  cases A.stp e.2 i y with
  | none => rfl
  | some t => simp only [if_pos this]
theorem pp_step (O : A.Ok) (h : PP A n i ps) (hi : i < max A.ws.length n) : PP A n (i + 1) ((ps.flatMap (nxt A n i)).take 2) := by
  by_cases p : i < n
  · have hp : Pts A n i ps := by
      rcases h with h | h
      · exact h.2
      · omega
    have := pts_step hp p
    rw [show (nxt A n i) = exts A n i from funext (nxt_lt p)]
    exact .inl ⟨by omega, this⟩
  · have hp : Pt2 A n i ps := by
      rcases h with h | h
      · have : i = n := by omega
        subst this; exact pts_full h.2
      · exact h.2
    have st := pt2_step hp (by omega) (by omega)
    have key : ∀ qs : List En, (∀ e ∈ qs, e ∈ ps) → (qs.flatMap (nxt A n i)).map (·.1) = qs.map (·.1) ∧ ∀ e ∈ qs.flatMap (nxt A n i), A.fin e.2 (i + 1) = true := by
      intro qs
      induction qs with
      | nil => exact fun _ => ⟨rfl, fun e he => by cases he⟩
      | cons d qs ih =>
        intro hq
        obtain ⟨i1, i2⟩ := ih fun e he => hq e (List.mem_cons_of_mem _ he)
        obtain ⟨t, h1, h2⟩ := st d (hq d List.mem_cons_self)
        have en : nxt A n i d = [(d.1, t)] := by
          unfold nxt sid
          rw [if_neg p]
          have : nx1 A n i d A.l = some (d.1, t) := by
            unfold nx1
            rw [h1]
            simp only
            rw [if_pos ((gd_ge (by omega)).mpr h2), if_neg (by omega), List.append_nil]
          simp [this]
        rw [List.flatMap_cons, en]
        refine ⟨by rw [List.map_append, i1]; rfl, fun e he => ?_⟩
        rcases List.mem_append.mp he with he | he
        · rw [List.mem_singleton.mp he]; exact h2
        · exact i2 e he
    obtain ⟨k1, k2⟩ := key ps fun _ h => h
    have hl : (ps.flatMap (nxt A n i)).length ≤ 2 := by
      have := hp.fs.len
      rw [← k1, List.length_map] at this; exact this
    rw [List.take_of_length_le hl]
    exact .inr ⟨by omega, k2, by rw [k1]; exact hp.fs⟩
theorem fo_B5 {x4 x6 x8 x11 x12 : Option PV} {gl : List Nat} {vs : List Int} {L : List En} (O : A.Ok) (hi : i < max A.ws.length n) (hg : Good A S n g 0 gl) (gli : i + 1 < gl.length) (h13 : S[c13]? = some (.lst (L.map wayP))) (hL : L.length ≤ 1000) (hv : vs.length ≤ 3000) (s0 : 0 ≤ s ∧ s < A.rows.length) (hy : y ∈ sid A i n)
    (q : ∀ x11, QS (.nx, [some (mP A), some (.int A.l), some (tupI A.ws), some (.int (n : Int)), x4, some (.cell g), x6, some (.int (i : Int)), x8, some (.int s), some (.int y), x11, x12, some (.cell c13), some (tupI vs)]) (S.set c13 (.lst ((L ++ (nx1 A n i (vs, s) y).toList).map wayP)))) :
    wps (g__law_of_length_B5 [some (mP A), some (.int A.l), some (tupI A.ws), some (.int (n : Int)), x4, some (.cell g), x6, some (.int (i : Int)), x8, some (.int s), some (.int y), x11, x12, some (.cell c13), some (tupI vs)]) S QS := by
  unfold g__law_of_length_B5
  have W := O.W
  have l1 := O.l1
  have l2 := O.l2
  obtain ⟨c0, c1⟩ := sid_ok O hi hy
  obtain ⟨a1, a2, a3⟩ := W.step s0 ⟨c0, c1⟩
  have y0 : 0 ≤ y ∧ y ≤ A.l := by
    unfold sid at hy
    split at hy
    · have := ysOf_mem.mp hy; omega
    · rw [List.mem_singleton.mp hy]; omega
  have same : S.set c13 (.lst (L.map wayP)) = S := by
    apply List.ext_getElem?
    intro j
    by_cases z : j = c13
    · subst z; rw [List.getElem?_set_self (List.getElem?_eq_some_iff.mp h13).1]; exact h13.symm
    · rw [List.getElem?_set_ne (Ne.symm z)]
  have hstp : A.stp s i y = stepM A.rows (some s) (A.lft i * (A.l + 1) + y) := rfl
  simp only [ws_seq, ws_set, wv_bin, wv_args, wv_cons, wv_nil, wv_var, wv_lit, List.getElem?_cons_zero, List.getElem?_cons_succ, Option.some.injEq, exists_eq_left', chkL3]
  unfold mP machP
  rw [vv_ix_tup]
  refine ⟨_, atI1, ?_⟩
  unfold tabP
  rw [vv_ix_tup]
  refine ⟨_, a1, ?_⟩
  refine left_is ?_
  rw [vv_add_int, vv_mulA_int]
  refine ⟨cm_r ⟨by omega, by omega⟩, ?_⟩
  rw [vv_add_int]
  unfold rowP
  rw [vv_ix_tup]
  refine ⟨_, a2, ?_⟩
  simp only [ws_if, wv_and, wv_test, wv_bin, wv_var, wv_lit, List.set_cons_zero, List.set_cons_succ, List.getElem?_cons_zero, List.getElem?_cons_succ, Option.some.injEq, exists_eq_left']
  rw [vv_notnon okv_opt, isNon_opt, wv_asB]
  have no : nx1 A n i (vs, s) y = none → ∀ x11, QS (.nx, [some (mP A), some (.int A.l), some (tupI A.ws), some (.int (n : Int)), x4, some (.cell g), x6, some (.int (i : Int)), x8, some (.int s), some (.int y), x11, x12, some (.cell c13), some (tupI vs)]) S := fun h x11 => by
    have := q x11
    rw [h, Option.toList_none, List.append_nil, same] at this; exact this
  cases hs : stepM A.rows (some s) (A.lft i * (A.l + 1) + y) with
  | none =>
    simp only [Option.isNone_none, Bool.not_true, Bool.false_eq_true, if_false, ws_nil]
    exact no (by unfold nx1; rw [show A.stp (vs, s).2 i y = none from hs]) _
  | some t =>
    have hs' : A.stp (vs, s).2 i y = some t := hs
    simp only [Option.isNone_some, Bool.not_false, if_true]
    obtain ⟨xs, b1, b2⟩ := hg.2 (i + 1) gli
    rw [vv_add_int, vv_ix_cell]
    refine ⟨_, hg.1, _, rfl, .cell gl[i + 1], ?_, ?_⟩
    · rw [atI_pos (by omega), show ((i : Int) + 1).toNat = i + 1 by omega, List.getElem?_map, List.getElem?_eq_getElem gli]; rfl
    rw [pv_some, vv_inI b1, wv_asB]
    have ti := a3 t hs
    by_cases p : t ∈ xs
    · have gt := ((b2 t).mp p).2.2
      rw [Nat.zero_add] at gt
      rw [decide_eq_true p]
      simp only [if_true, ws_expr, wv_methL, wv_args, wv_bin, wv_cons, wv_nil, wv_var, List.getElem?_cons_zero, List.getElem?_cons_succ, Option.some.injEq, exists_eq_left']
      rw [vv_isL]
      refine ⟨_, h13, _, rfl, ?_⟩
      rw [wv_mkTup]
      refine ⟨line_ok (by simp), ?_⟩
      rw [vv_lt, vv_int_bl, vv_mulA_tup]
      refine ⟨⟨by simp, by split <;> decide, by split <;> decide, by simp⟩, ?_⟩
      have e1 : (List.replicate (if decide (y < A.l) = true then (1 : Int) else 0).toNat [PV.int y]).flatten = (if y < A.l then [y] else []).map PV.int := by
        by_cases z : y < A.l
        · rw [if_pos z, if_pos (decide_eq_true z)]; rfl
        · rw [if_neg z, if_neg (by simp [z])]; rfl
      rw [e1, vv_add_tup]
      refine ⟨line_ok (by rw [List.length_map, List.length_map]; split <;> simp <;> omega), ?_⟩
      rw [wv_mkTup]
      refine ⟨line_ok (by simp), ?_⟩
      rw [vv_append_eq h13 (line_lt (by rw [List.length_map]; omega))]
      have := q (some (.int t))
      have e3 : nx1 A n i (vs, s) y = some (vs ++ (if y < A.l then [y] else []), t) := by
        unfold nx1
        rw [hs']
        exact if_pos gt
      rw [e3, Option.toList_some, List.map_append] at this
      have e4 : [(vs ++ (if y < A.l then [y] else []), t)].map wayP = [PV.tup [.tup (vs.map PV.int ++ (if y < A.l then [y] else []).map PV.int), .int t]] := by
        show [PV.tup [.tup ((vs ++ (if y < A.l then [y] else [])).map PV.int), .int t]] = _
        rw [List.map_append]
      rw [e4] at this
      exact this
    · rw [decide_eq_false p]
      simp only [Bool.false_eq_true, if_false, ws_nil]
      refine no ?_ _
      unfold nx1
      rw [hs']
      exact if_neg fun gt => p ((b2 t).mpr ⟨ti.1, ti.2, by rw [Nat.zero_add]; exact gt⟩)
end
end KK

namespace KK
open PySem PySem.Spec PyProof.Rows L2 DL PySem.W
open Classical
local macro_rules | `(tactic| walk_at "dw") => `(tactic| try simp only [ws_seq, ws_nil, ws_retN, ws_bk, ws_ct, ws_expr, ws_ret, ws_set, ws_if, ws_asg, ws_sub, ws_aug, ws_for, ws_thru, ws_no, ws_raise, wv_mkX, wv_var, wv_lit, wv_bin, wv_un, wv_nil, wv_cons, wv_args, wv_test, wv_asB, wv_and, wv_or, wv_not, wv_andV, wv_orV, wv_notV, wv_if, wv_chain,
  wv_noPart, wv_part, wv_asI, wv_slice, wv_mkTup, wv_mkLst, wv_methL, wsr_args, wsr_range1, wsr_range2, wsr_seq, wsr_tup, wsr_rev, wsr_zip, vv_rev_tup, wv_lc, wpx_ret, wpx_optM, tTrue, chkL1, chkL2, chkL3, chkL4,
  vv_add_int, vv_add_tup, vv_sub, vv_mul, vv_mulA_int, vv_div, vv_mod, vv_pow, vv_neg, vv_gt, vv_ge, vv_le, vv_lt, vv_eq_int, vv_ne_int, vv_eq_bl, vv_ne_bl, eqA_int, neA_int, eqA_bl, neA_bl, eqA_tup, neA_tup, eqA_cell, neA_cell, eqA_non, neA_non, vv_eqA_str, vv_neA_str, vv_ix_tup, vv_ix_cell, vv_set, vv_len_tup, vv_len_cell, vv_abs, vv_int_int, vv_int_bl, vv_tup_tup, vv_tup_cell, vv_lst_tup, vv_lst_cell, vv_slice_tup, vv_dm, vv_mx, vv_mn,
  isi_int_int, isi_int_bool, isi_int_tuple, isi_int_str, isi_int_list, isi_bool_int, isi_bool_bool, isi_bool_tuple, isi_bool_str, isi_bool_list, isi_str_int, isi_str_bool, isi_str_tuple, isi_str_str, isi_str_list, isi_none_int, isi_none_bool, isi_none_tuple, isi_none_str, isi_none_list, isi_tuple_int, isi_tuple_bool, isi_tuple_tuple, isi_tuple_str, isi_tuple_list,
  and_true, true_and, and_self, Cell.lst.injEq, items_lst, items_rls, vv_append, vv_isL, Option.some.injEq, exists_eq_left', exists_eq_left, List.map_cons, List.map_nil, List.length_cons, List.length_nil, List.length_map, List.replicate, List.cons_append, List.nil_append, List.getElem?_cons_zero, List.getElem?_cons_succ, List.set_cons_zero, List.set_cons_succ, bindT, atI0, atI1, atI2, atI3, ix41, ix42, ix43, Nat.reduceAdd, Nat.reduceSub, List.set_set, decide_true, decide_false, if_true, if_false, Bool.false_eq_true, decide_eq_true_eq, Bool.not_true, Bool.not_false, wpx_ite, eq_self, wipeP, *])

open PVal (pv)
section
variable {ns : List Int} {S S0 Sb S' : Store} {Q : PV → Store → Prop} {QS : Fl × PEnv → Store → Prop} {E : Exn → Store → Prop} {A : Mc} {s x y : Int} {n g c8 c12 c13 i p N : Nat} {xs ys g0 : List Int} {ps ls L : List En}
theorem fo_B6 {x4 x6 x8 x10 x11 x12 : Option PV} {gl : List Nat} {vs : List Int} (O : A.Ok) (hi : i < max A.ws.length n) (hg : Good A Sb n g 0 gl) (gli : i + 1 < gl.length) (e0 : Ext Sb S) (b13 : Sb.length ≤ c13) (h13 : S[c13]? = some (.lst (L.map wayP))) (hL : L.length ≤ 500) (hv : vs.length ≤ 3000) (s0 : 0 ≤ s ∧ s < A.rows.length)
    (q : ∀ x10 x11 S', Ext Sb S' → S'[c13]? = some (.lst ((L ++ nxt A n i (vs, s)).map wayP)) → QS (.nx, [some (mP A), some (.int A.l), some (tupI A.ws), some (.int (n : Int)), x4, some (.cell g), x6, some (.int (i : Int)), x8, some (.int s), x10, x11, x12, some (.cell c13), some (tupI vs)]) S') :
    wps (g__law_of_length_B6 [some (mP A), some (.int A.l), some (tupI A.ws), some (.int (n : Int)), x4, some (.cell g), x6, some (.int (i : Int)), x8, some (.int s), x10, x11, x12, some (.cell c13), some (tupI vs)]) S QS := by
  unfold g__law_of_length_B6
  have l2 := O.l2
  simp only [ws_for, wsr_seq, wv_args, wv_cons, wv_nil, wv_var, List.getElem?_cons_zero, List.getElem?_cons_succ, Option.some.injEq, exists_eq_left', chkL3]
  refine sides_is O fun S1 e1 hc => ?_
  have l8 := (List.getElem?_eq_some_iff.mp h13).1
  have h81 := e1.get h13
  have cc : S.length ≠ c13 := by omega
  generalize S.length = c at hc cc ⊢
  have sl : (sid A i n).length ≤ 2 := by
    unfold sid ysOf
    split
    · rw [List.length_map, List.length_range]; omega
    · simp
  rw [wsr_cell hc rfl]
  refine for_inv (fun zs ρ S' => ∃ (dn rs : List Int), zs = rs.map PV.int ∧ sid A i n = dn ++ rs ∧ Ext Sb S' ∧ S'[c]? = some (.lst ((sid A i n).map PV.int)) ∧ S'[c13]? = some (.lst ((L ++ dn.filterMap (nx1 A n i (vs, s))).map wayP)) ∧ ∃ x10 x11, ρ = [some (mP A), some (.int A.l), some (tupI A.ws), some (.int (n : Int)), x4, some (.cell g), x6, some (.int (i : Int)), x8, some (.int s), x10, x11, x12, some (.cell c13), some (tupI vs)]) _ _ _
    ⟨[], sid A i n, rfl, rfl, e0.trans e1, hc, by rw [List.filterMap_nil, List.append_nil]; exact h81, _, _, rfl⟩ (fun _ _ _ h => by obtain ⟨_, _, _, _, _, h, _⟩ := h; exact h) ?_ ?_
  · rintro ρ S' ⟨dn, rs, hz, hd, e, hc', h13', x10, x11, rfl⟩
    have rs0 : rs = [] := by cases rs with | nil => rfl | cons a b => cases hz
    subst rs0
    rw [List.append_nil] at hd
    refine q _ _ S' e ?_
    unfold nxt
    rw [hd]; exact h13'
  · rintro z zs ρ S' ⟨dn, rs, hz, hd, e, hc', h13', x10, x11, rfl⟩
    cases rs with
    | nil => cases hz
    | cons y rs =>
      injection hz with h1 h2
      subst h1; subst h2
      refine ⟨_, rfl, ?_⟩
      simp only [List.set_cons_zero, List.set_cons_succ]
      have fl := List.length_filterMap_le (nx1 A n i (vs, s)) dn
      have dl : dn.length ≤ 2 := by rw [hd, List.length_append] at sl; omega
      refine fo_B5 O hi (hg.ext e) gli h13' (by rw [List.length_append]; omega) hv s0 (by rw [hd]; simp) fun x11 => ?_
      have l8' := (List.getElem?_eq_some_iff.mp h13').1
      refine ⟨dn ++ [y], rs, rfl, by rw [hd]; simp, e.put b13 _, by rw [List.getElem?_set_ne (Ne.symm cc)]; exact hc', ?_, _, _, rfl⟩
      rw [List.getElem?_set_self l8', List.filterMap_append, List.append_assoc]
      cases hq : nx1 A n i (vs, s) y <;> simp [List.filterMap_cons, hq]
theorem nxt_len (O : A.Ok) (e : En) : (nxt A n i e).length ≤ 2 := by
  have l2 := O.l2
  have fl := List.length_filterMap_le (nx1 A n i e) (sid A i n)
  have sl : (sid A i n).length ≤ 2 := by
    unfold sid ysOf
    split
    · rw [List.length_map, List.length_range]; omega
    · simp
  unfold nxt
  omega
theorem pp_info (O : A.Ok) (h : PP A n i ps) (hn : n ≤ 2000) : ps.length ≤ 2 ∧ ∀ e ∈ ps, e.1.length ≤ 2000 ∧ True := by
  rcases h with ⟨h1, h2⟩ | ⟨h1, h2⟩
  · refine ⟨by have := h2.fs.len; rw [List.length_map] at this; exact this, fun e he => ⟨by have := (h2.st e he).1; omega, trivial⟩⟩
  · refine ⟨by have := h2.fs.len; rw [List.length_map] at this; exact this, fun e he => ⟨by have := (h2.fs.all e.1 (List.mem_map.mpr ⟨e, he, rfl⟩)).2; omega, trivial⟩⟩
/-- the ways at a place, with states of the machine -/
structure Pw (A : Mc) (n i : Nat) (ps : List En) : Prop where
  pp : PP A n i ps
  rg : ∀ e ∈ ps, 0 ≤ e.2 ∧ e.2 < A.rows.length
theorem pw_step (O : A.Ok) (h : Pw A n i ps) (hi : i < max A.ws.length n) : Pw A n (i + 1) ((ps.flatMap (nxt A n i)).take 2) := by
  refine ⟨pp_step O h.pp hi, fun e he => ?_⟩
  obtain ⟨d, hd, he⟩ := List.mem_flatMap.mp (List.mem_of_mem_take he)
  unfold nxt at he
  obtain ⟨y, hy, hx⟩ := List.mem_filterMap.mp he
  unfold nx1 at hx
  cases hs : A.stp d.2 i y with
  | none => rw [hs] at hx; cases hx
  | some t =>
    rw [hs] at hx
    simp only at hx
    by_cases p : Gd1 A n (i + 1) t
    · rw [if_pos p] at hx
      cases hx
      exact (O.W.step (h.rg d hd) (sid_ok O hi hy)).2.2 t hs
    · rw [if_neg p] at hx; cases hx
theorem fo_B8 {x4 x6 x8 x9 x10 x11 x13 x14 : Option PV} {gl : List Nat} (O : A.Ok) (hn : n ≤ 2000) (hi : i < max A.ws.length n) (hg : Good A S n g 0 gl) (gli : i + 1 < gl.length) (h12 : S[c12]? = some (.lst (ps.map wayP))) (hp : Pw A n i ps)
    (q : ∀ x9 x10 x11 c12' x13 x14 S', Ext S S' → S'[c12']? = some (.lst (((ps.flatMap (nxt A n i)).take 2).map wayP)) → QS (.nx, [some (mP A), some (.int A.l), some (tupI A.ws), some (.int (n : Int)), x4, some (.cell g), x6, some (.int (i : Int)), x8, x9, x10, x11, some (.cell c12'), x13, x14]) S') :
    wps (g__law_of_length_B8 [some (mP A), some (.int A.l), some (tupI A.ws), some (.int (n : Int)), x4, some (.cell g), x6, some (.int (i : Int)), x8, x9, x10, x11, some (.cell c12), x13, x14]) S QS := by
  unfold g__law_of_length_B8
  obtain ⟨pl, pe⟩ := pp_info O hp.pp hn
  simp only [ws_seq, ws_set, wv_args, wv_nil, wv_mkLst, List.set_cons_zero, List.set_cons_succ]
  refine ⟨line_ok (by simp), ?_⟩
  simp only [ws_for, wsr_seq, wv_var, List.getElem?_cons_zero, List.getElem?_cons_succ, Option.some.injEq, exists_eq_left']
  have l12 := (List.getElem?_eq_some_iff.mp h12).1
  rw [wsr_cell ((Ext.snoc S (.lst [])).get h12) rfl]
  refine for_inv (fun zs ρ S' => ∃ (dn td : List En), zs = td.map wayP ∧ ps = dn ++ td ∧ Ext S S' ∧ S'[S.length]? = some (.lst ((dn.flatMap (nxt A n i)).map wayP)) ∧ ∃ x9 x10 x11 x14, ρ = [some (mP A), some (.int A.l), some (tupI A.ws), some (.int (n : Int)), x4, some (.cell g), x6, some (.int (i : Int)), x8, x9, x10, x11, some (.cell c12), some (.cell S.length), x14]) _ _ _
    ⟨[], ps, rfl, rfl, Ext.snoc _ _, sn0, _, _, _, _, rfl⟩ (fun _ _ _ h => by obtain ⟨_, _, _, _, e, _⟩ := h; exact e.get h12) ?_ ?_
  · rintro ρ S' ⟨dn, td, hz, hd, e, h13, x9, x10, x11, x14, rfl⟩
    have td0 : td = [] := by cases td with | nil => rfl | cons a b => cases hz
    subst td0
    rw [List.append_nil] at hd
    subst hd
    unfold g__law_of_length_R7
    simp only [ws_set, wv_slice, wv_noPart, wv_part, wv_asI, wv_var, wv_lit, List.getElem?_cons_zero, List.getElem?_cons_succ, Option.some.injEq, exists_eq_left', List.set_cons_zero, List.set_cons_succ]
    refine vv_slice_cell h13 rfl ?_
    rw [show (2 : Int) = ((2 : Nat) : Int) from rfl, cut_upto, ← List.map_take]
    exact q _ _ _ _ _ _ _ (e.trans (Ext.snoc _ _)) sn0
  · rintro z zs ρ S' ⟨dn, td, hz, hd, e, h13, x9, x10, x11, x14, rfl⟩
    cases td with
    | nil => cases hz
    | cons w td =>
      injection hz with h1 h2
      subst h1; subst h2
      have wm : w ∈ ps := by rw [hd]; simp
      refine ⟨[some (mP A), some (.int A.l), some (tupI A.ws), some (.int (n : Int)), x4, some (.cell g), x6, some (.int (i : Int)), x8, some (.int w.2), x10, x11, some (.cell c12), some (.cell S.length), some (tupI w.1)], rfl, ?_⟩
      have dl : dn.length ≤ 2 := by rw [hd, List.length_append] at pl; omega
      have fl : (dn.flatMap (nxt A n i)).length ≤ 4 := by
        have : ∀ qs : List En, (qs.flatMap (nxt A n i)).length ≤ 2 * qs.length := by
          intro qs
          induction qs with
          | nil => simp
          | cons d qs ih => rw [List.flatMap_cons, List.length_append, List.length_cons]; have := nxt_len (n := n) (i := i) O d; omega
        have := this dn
        omega
      refine fo_B6 O hi hg gli e (Nat.le_refl _) h13 (by omega) (by have := (pe w wm).1; omega) (hp.rg w wm) fun x10 x11 S2 e2 h2 => ?_
      refine ⟨dn ++ [w], td, rfl, by rw [hd]; simp, e2, ?_, _, _, _, _, rfl⟩
      rw [h2, List.flatMap_append]
      simp
def eqE (es : List Int) : PV → Bool
  | .int t => decide (es.getD t.toNat 0 = 1)
  | _ => false
theorem of_length_is {P : PV} (hP : P = mP A) (O : A.Ok) (hn : n ≤ 2000) (lw : A.ws.length ≤ 1000) (q : ∀ S' d R, Ext S S' → S'[d]? = some (.lst (R.map tupI)) → Fst (Eqn A n) 2 R → Q (.cell d) S') : wpx (F__law_of_length [P, .int A.l, tupI A.ws, .int (n : Int)]) S Q E := by
  unfold F__law_of_length
  refine wp_run ?_
  unfold g__law_of_length
  have n2 := O.W.n2
  have n1 := O.W.n1
  have el := O.W.el
  simp only [ws_seq, ws_set, wv_bin, wv_args, wv_cons, wv_nil, wv_var, wv_lit, List.map_cons, List.map_nil, List.cons_append, List.nil_append, List.length_cons, List.length_nil, Nat.reduceAdd, Nat.reduceSub, List.replicate, List.set_cons_zero, List.set_cons_succ, List.getElem?_cons_zero, List.getElem?_cons_succ, Option.some.injEq, exists_eq_left']
  subst hP
  rw [vv_len_tup, List.length_map, vv_mx]
  have em : (if (n : Int) > (A.ws.length : Int) then (n : Int) else (A.ws.length : Int)) = ((max A.ws.length n : Nat) : Int) := by
    split <;> omega
  rw [em]
  generalize hN : max A.ws.length n = N
  have Nl : N ≤ 2000 := by omega
  simp only [wv_lc, wsr_args, wv_args, wv_bin, wv_cons, wv_nil, wv_var, wv_lit, List.set_cons_zero, List.set_cons_succ, List.getElem?_cons_zero, List.getElem?_cons_succ, Option.some.injEq, exists_eq_left', List.map_cons, List.map_nil, wipeP]
  unfold mP machP
  rw [vv_ix_tup]
  refine ⟨_, atI1, ?_⟩
  unfold tabP
  rw [vv_len_tup, List.length_map, wsr_range1]
  refine ⟨⟨by omega, by omega⟩, ?_⟩
  rw [Int.toNat_natCast]
  have its : (srcRange 0 A.rows.length).items = ((List.range A.rows.length).map fun k : Nat => (k : Int)).map PV.int := by rw [range_items, List.map_map]; rfl
  have itl : (srcRange 0 A.rows.length).items.length = A.rows.length := by rw [its, List.length_map, List.length_map, List.length_range]
  refine lc_filt idP (eqE A.es) (line_ok (by rw [itl]; omega)) (fun _ _ => trivial) (fun y hy S2 e2 => ?_) fun S2 e2 h2 => ?_
  · rw [its] at hy
    obtain ⟨r, hr, rfl⟩ := List.mem_map.mp hy
    obtain ⟨k, hk, rfl⟩ := List.mem_map.mp hr
    have := List.mem_range.mp hk
    refine ⟨_, rfl, ?_⟩
    simp only [wv_test, wv_bin, wv_var, wv_lit, List.set_cons_zero, List.set_cons_succ, List.getElem?_cons_zero, List.getElem?_cons_succ, Option.some.injEq, exists_eq_left']
    rw [vv_ix_tup]
    refine ⟨_, atI2, ?_⟩
    rw [vv_ix_tup]
    refine ⟨_, (end_at (es := A.es) (s := (k : Int)) (by omega) (by omega)).1, ?_⟩
    rw [eqA_int, vv_eq_int, wv_asB]
    exact ⟨rfl, .refl _, fun _ => ⟨rfl, .refl _⟩⟩
  have h2' : S2[S.length]? = some (.lst ((((List.range A.rows.length).map fun k : Nat => (k : Int)).filter fun s => decide (A.es.getD s.toNat 0 = 1)).map PV.int)) := by
    rw [h2, its, List.filter_map, List.map_map]; rfl
  rw [wv_mkLst]
  refine ⟨line_ok (by simp), ?_⟩
  have good0 : Good A (S2 ++ [.lst [.cell S.length]]) n S2.length N [S.length] := ⟨sn0, fun j hj => by
    have : j = 0 := by simpa using hj
    subst this
    refine ⟨_, (Ext.snoc _ _).get h2', fun s => ?_⟩
    rw [List.mem_filter, decide_eq_true_eq, Nat.add_zero, gd_end (by omega) (by omega), List.mem_map]
    constructor
    · rintro ⟨⟨k, hk, rfl⟩, h⟩
      have := List.mem_range.mp hk
      exact ⟨by omega, by omega, h⟩
    · rintro ⟨a, b, h⟩
      exact ⟨⟨s.toNat, List.mem_range.mpr (by omega), by omega⟩, h⟩⟩
  have e3 := e2.trans (Ext.snoc S2 (.lst [.cell S.length]))
  generalize S2 ++ [Cell.lst [PV.cell S.length]] = S3 at good0 e3 ⊢
  simp only [ws_for, wsr_args, wv_args, wv_cons, wv_nil, wv_var, List.set_cons_zero, List.set_cons_succ, List.getElem?_cons_zero, List.getElem?_cons_succ, Option.some.injEq, exists_eq_left']
  rw [wsr_range1]
  refine ⟨⟨by omega, by omega⟩, ?_⟩
  rw [Int.toNat_natCast, range_all]
  refine for_inv (fun zs ρ S' => ∃ (j c g : Nat) (gl : List Nat), j + c = N ∧ zs = (List.range' j c).map (fun k : Nat => PV.int (k : Int)) ∧ Good A S' n g (N - j) gl ∧ gl.length = j + 1 ∧ Ext S S' ∧ ∃ x6 x7 x8 x9 x10 x11 x12 x13 x14, ρ = [some (mP A), some (.int A.l), some (tupI A.ws), some (.int (n : Int)), some (.int (N : Int)), some (.cell g), x6, x7, x8, x9, x10, x11, x12, x13, x14]) _ _ _
    ⟨0, N, S2.length, [S.length], by omega, rfl, good0, rfl, e3, _, _, _, _, _, _, _, _, _, rfl⟩ (fun _ _ _ _ => trivial) ?_ ?_
  · rintro ρ S' ⟨j, c, g, gl, hj, hz, hg, hgl, e, x6, x7, x8, x9, x10, x11, x12, x13, x14, rfl⟩
    have c0 : c = 0 := by cases c with | zero => rfl | succ c => rw [range_from] at hz; cases hz
    subst c0
    rw [show N - j = 0 by omega] at hg
    unfold g__law_of_length_R11
    simp only [ws_seq, ws_set, wv_args, wv_nil, wv_mkLst, List.set_cons_zero, List.set_cons_succ]
    refine ⟨line_ok (by simp), ?_⟩
    have hg1 := hg.ext (Ext.snoc S' (.lst []))
    have s12 := sn0 (S := S') (c := .lst [])
    have e1 := e.trans (Ext.snoc S' (.lst []))
    have l12 : S'.length < (S' ++ [Cell.lst []]).length := by simp
    generalize S' ++ [Cell.lst []] = S4 at hg1 s12 e1 l12 ⊢
    have rest : ∀ (QS : Fl × PEnv → Store → Prop), (∀ S' d R ρ, Ext S S' → S'[d]? = some (.lst (R.map tupI)) → Fst (Eqn A n) 2 R → QS (.rt (.cell d), ρ) S') → ∀ (ps : List En) c12 S5, Ext S S5 → Good A S5 n g 0 gl → S5[c12]? = some (.lst (ps.map wayP)) → Pw A n 0 ps → wps (g__law_of_length_R10 [some (mP A), some (.int A.l), some (tupI A.ws), some (.int (n : Int)), some (.int (N : Int)), some (.cell g), x6, x7, x8, x9, x10, x11, some (.cell c12), x13, x14]) S5 QS := fun QS hq ps c12 S5 e5 hg5 h12 hp => by
      unfold g__law_of_length_R10
      simp only [ws_seq, ws_for, wsr_args, wv_args, wv_cons, wv_nil, wv_var, List.getElem?_cons_zero, List.getElem?_cons_succ, Option.some.injEq, exists_eq_left']
      rw [wsr_range1]
      refine ⟨⟨by omega, by omega⟩, ?_⟩
      rw [Int.toNat_natCast, range_all]
      refine for_inv (fun zs ρ S' => ∃ (j c c12 : Nat) (ps : List En), j + c = N ∧ zs = (List.range' j c).map (fun k : Nat => PV.int (k : Int)) ∧ Good A S' n g 0 gl ∧ S'[c12]? = some (.lst (ps.map wayP)) ∧ Pw A n j ps ∧ Ext S S' ∧ ∃ x7 x8 x9 x10 x11 x13 x14, ρ = [some (mP A), some (.int A.l), some (tupI A.ws), some (.int (n : Int)), some (.int (N : Int)), some (.cell g), x6, x7, x8, x9, x10, x11, some (.cell c12), x13, x14]) _ _ _
        ⟨0, N, c12, ps, by omega, rfl, hg5, h12, hp, e5, _, _, _, _, _, _, _, rfl⟩ (fun _ _ _ _ => trivial) ?_ ?_
      · rintro ρ S' ⟨j, c, c12, ps, hj, hz, hg, h12, hp, e, x7, x8, x9, x10, x11, x13, x14, rfl⟩
        have c0 : c = 0 := by cases c with | zero => rfl | succ c => rw [range_from] at hz; cases hz
        subst c0
        have jN : j = N := by omega
        subst jN
        unfold g__law_of_length_R9
        simp only [ws_ret, wv_lc, wsr_seq, wv_var, List.getElem?_cons_zero, List.getElem?_cons_succ, Option.some.injEq, exists_eq_left', List.map_cons, List.map_nil, wipeP]
        rw [wsr_cell h12 rfl]
        obtain ⟨pl, _⟩ := pp_info O hp.pp hn
        have fin : Fst (Eqn A n) 2 (ps.map (·.1)) := by
          rcases hp.pp with ⟨a, b⟩ | ⟨a, b⟩
          · have : n = j := by omega
            subst this; exact (pts_full b).fs
          · exact b.fs
        refine lc_pure wayW (line_ok (by rw [List.length_map]; omega)) (fun S' e => e.get h12) (fun y hy S2 e2 => ?_) fun S2 e2 h2 => ?_
        · obtain ⟨w, hw, rfl⟩ := List.mem_map.mp hy
          refine ⟨[some (mP A), some (.int A.l), some (tupI A.ws), some (.int (n : Int)), some (.int (j : Int)), some (.cell g), x6, x7, x8, some (.int w.2), x10, x11, some (.cell c12), x13, some (tupI w.1)], rfl, ?_⟩
          simp only [wv_var, List.getElem?_cons_zero, List.getElem?_cons_succ, Option.some.injEq, exists_eq_left']
          exact ⟨rfl, .refl _⟩
        · refine hq S2 _ (ps.map (·.1)) _ (e.trans e2) ?_ fin
          rw [h2, List.map_map, List.map_map]; rfl
      · rintro z zs ρ S' ⟨j, c, c12, ps, hj, hz, hg, h12, hp, e, x7, x8, x9, x10, x11, x13, x14, rfl⟩
        cases c with
        | zero => cases hz
        | succ c =>
          rw [range_from] at hz
          injection hz with h1 h2
          subst h1; subst h2
          refine ⟨_, rfl, ?_⟩
          simp only [List.set_cons_zero, List.set_cons_succ]
          refine fo_B8 O hn (by omega) hg (by omega) h12 hp fun x9 x10 x11 c12' x13 x14 S2 e2 h2 => ?_
          exact ⟨j + 1, c, c12', _, by omega, rfl, hg.ext e2, h2, pw_step O hp (by omega), e.trans e2, _, _, _, _, _, _, _, rfl⟩
    obtain ⟨xs, b1, b2⟩ := hg1.2 0 (by omega)
    have z0 := O.zero
    simp only [ws_if, wv_test, wv_bin, wv_var, wv_lit, List.getElem?_cons_zero, List.getElem?_cons_succ, Option.some.injEq, exists_eq_left']
    rw [vv_ix_cell]
    refine ⟨_, hg1.1, _, rfl, .cell gl[0], ?_, ?_⟩
    · rw [atI_pos (by omega)]
      show (gl.map PV.cell)[0]? = _
      rw [List.getElem?_map, List.getElem?_eq_getElem (by omega)]; rfl
    rw [vv_inI b1, wv_asB]
    have pz := pts_zero (A := A) (n := n)
    by_cases p : (0 : Int) ∈ xs
    · have g0 := ((b2 0).mp p).2.2
      rw [if_pos g0] at pz
      rw [decide_eq_true p]
      simp only [if_true, ws_set, wv_args, wv_cons, wv_nil, wv_lit, wv_mkTup, wv_mkLst, List.length_nil, List.length_cons, List.set_cons_zero, List.set_cons_succ]
      refine ⟨line_ok (by simp), line_ok (by simp), line_ok (by simp), ?_⟩
      with_reducible refine rest _ ?_ [([], 0)] _ _ ?_ ?_ ?_ ?_
      · exact fun S' d R ρ a b c => q S' d R a b c
      · exact e1.trans (Ext.snoc _ _)
      · exact hg1.ext (Ext.snoc _ _)
      · exact sn0
      · exact ⟨.inl ⟨Nat.zero_le _, pz⟩, fun e he => by rw [List.mem_singleton.mp he]; exact z0⟩
    · have g0 : ¬ Gd1 A n 0 0 := fun h => p ((b2 0).mpr ⟨z0.1, z0.2, h⟩)
      rw [if_neg g0] at pz
      rw [decide_eq_false p]
      simp only [Bool.false_eq_true, if_false, ws_nil]
      with_reducible refine rest _ ?_ [] _ _ e1 hg1 ?_ ?_
      · exact fun S' d R ρ a b c => q S' d R a b c
      · exact s12
      · exact ⟨.inl ⟨Nat.zero_le _, pz⟩, fun e he => by cases he⟩
  · rintro z zs ρ S' ⟨j, c, g, gl, hj, hz, hg, hgl, e, x6, x7, x8, x9, x10, x11, x12, x13, x14, rfl⟩
    cases c with
    | zero => cases hz
    | succ c =>
      rw [range_from] at hz
      injection hz with h1 h2
      subst h1; subst h2
      refine ⟨_, rfl, ?_⟩
      simp only [List.set_cons_zero, List.set_cons_succ]
      have hi1 : Good A S' n g (N - j - 1 + 1) gl := by rw [show N - j - 1 + 1 = N - j by omega]; exact hg
      have hk1 : j + (N - j - 1) + 1 = N := by omega
      have gl1 : 0 < gl.length := by omega
      have gl2 : gl.length ≤ 3000 := by omega
      with_reducible refine back_B4 (kk := j) (i := N - j - 1) O hN.symm hk1 hi1 gl1 gl2 ?_
      intro x7 x8 x9 x10 x11 c8 g' S2 e2 hg2
      -- [show N - j - 1 + 1 = N - j by omega]; exact hg) (by omega) (by omega) fun x7 x8 x9 x10 x11 c8 g' S2 e2 hg2 => ?_
      exact ⟨j + 1, c, g', c8 :: gl, by omega, rfl, by rw [show N - (j + 1) = N - j - 1 by omega]; exact hg2, by rw [List.length_cons, hgl], e.trans e2, _, _, _, _, _, _, _, _, _, rfl⟩
end
end KK

namespace KK
open PySem PySem.Spec PyProof.Rows L2 DL PySem.W
open Classical
local macro_rules | `(tactic| walk_at "dw") => `(tactic| try simp only [ws_seq, ws_nil, ws_retN, ws_bk, ws_ct, ws_expr, ws_ret, ws_set, ws_if, ws_asg, ws_sub, ws_aug, ws_for, ws_thru, ws_no, ws_raise, wv_mkX, wv_var, wv_lit, wv_bin, wv_un, wv_nil, wv_cons, wv_args, wv_test, wv_asB, wv_and, wv_or, wv_not, wv_andV, wv_orV, wv_notV, wv_if, wv_chain,
  wv_noPart, wv_part, wv_asI, wv_slice, wv_mkTup, wv_mkLst, wv_methL, wsr_args, wsr_range1, wsr_range2, wsr_seq, wsr_tup, wsr_rev, wsr_zip, vv_rev_tup, wv_lc, wpx_ret, wpx_optM, tTrue, chkL1, chkL2, chkL3, chkL4,
  vv_add_int, vv_add_tup, vv_sub, vv_mul, vv_mulA_int, vv_div, vv_mod, vv_pow, vv_neg, vv_gt, vv_ge, vv_le, vv_lt, vv_eq_int, vv_ne_int, vv_eq_bl, vv_ne_bl, eqA_int, neA_int, eqA_bl, neA_bl, eqA_tup, neA_tup, eqA_cell, neA_cell, eqA_non, neA_non, vv_eqA_str, vv_neA_str, vv_ix_tup, vv_ix_cell, vv_set, vv_len_tup, vv_len_cell, vv_abs, vv_int_int, vv_int_bl, vv_tup_tup, vv_tup_cell, vv_lst_tup, vv_lst_cell, vv_slice_tup, vv_dm, vv_mx, vv_mn,
  isi_int_int, isi_int_bool, isi_int_tuple, isi_int_str, isi_int_list, isi_bool_int, isi_bool_bool, isi_bool_tuple, isi_bool_str, isi_bool_list, isi_str_int, isi_str_bool, isi_str_tuple, isi_str_str, isi_str_list, isi_none_int, isi_none_bool, isi_none_tuple, isi_none_str, isi_none_list, isi_tuple_int, isi_tuple_bool, isi_tuple_tuple, isi_tuple_str, isi_tuple_list,
  and_true, true_and, and_self, Cell.lst.injEq, items_lst, items_rls, vv_append, vv_isL, Option.some.injEq, exists_eq_left', exists_eq_left, List.map_cons, List.map_nil, List.length_cons, List.length_nil, List.length_map, List.replicate, List.cons_append, List.nil_append, List.getElem?_cons_zero, List.getElem?_cons_succ, List.set_cons_zero, List.set_cons_succ, bindT, atI0, atI1, atI2, atI3, ix41, ix42, ix43, Nat.reduceAdd, Nat.reduceSub, List.set_set, decide_true, decide_false, if_true, if_false, Bool.false_eq_true, decide_eq_true_eq, Bool.not_true, Bool.not_false, wpx_ite, eq_self, wipeP, *])

open PVal (pv)
section
variable {ns : List Int} {S S0 Sb S' : Store} {Q : PV → Store → Prop} {QS : Fl × PEnv → Store → Prop} {E : Exn → Store → Prop} {A : Mc} {n k : Nat} {P : PV} {l : Int} {rows : List (List (Option Int))} {es : List Int}
theorem two_of (F : List (List Int)) : (F.map tupI ++ [PV.non, .non]).take 2 = [optP (F.take 2)[0]?, optP (F.take 2)[1]?] := by
  match F with
  | [] => rfl
  | [a] => rfl
  | a :: b :: F => rfl
theorem leds_is (hP : P = mP A) (O : A.Ok) (lw : A.ws.length ≤ 10) (q : ∀ S' d D, Ext S S' → Fst A.Acc 2 D → (∀ v ∈ D, v.length ≤ 100) → S'[d]? = some (.lst [optP D[0]?, optP D[1]?]) → Q (.cell d) S') : wpx (F__law_leds [P, .int A.l, tupI A.ws]) S Q E := by
  unfold F__law_leds
  refine wp_run ?_
  unfold g__law_leds
  have n2 := O.W.n2
  have n1 := O.W.n1
  simp only [ws_seq, ws_set, wv_bin, wv_args, wv_cons, wv_nil, wv_var, wv_lit, wv_mkLst, List.map_cons, List.map_nil, List.cons_append, List.nil_append, List.length_cons, List.length_nil, Nat.reduceAdd, Nat.reduceSub, List.replicate, List.set_cons_zero, List.set_cons_succ, List.getElem?_cons_zero, List.getElem?_cons_succ, Option.some.injEq, exists_eq_left']
  subst hP
  refine ⟨line_ok (by simp), ?_⟩
  unfold mP machP
  rw [vv_len_tup, List.length_map, vv_ix_tup]
  refine ⟨_, atI1, ?_⟩
  unfold tabP
  rw [vv_len_tup, List.length_map, vv_add_int]
  simp only [ws_for, wsr_args, wv_bin, wv_args, wv_cons, wv_nil, wv_var, wv_lit, List.set_cons_zero, List.set_cons_succ, List.getElem?_cons_zero, List.getElem?_cons_succ, Option.some.injEq, exists_eq_left']
  rw [vv_ix_tup]
  refine ⟨_, atI1, ?_⟩
  rw [vv_len_tup, List.length_map, vv_add_int, vv_add_int, show (A.ws.length : Int) + A.rows.length + A.rows.length + 2 = ((A.ws.length + 2 * A.rows.length + 2 : Nat) : Int) by omega, wsr_range1]
  refine ⟨⟨by omega, by omega⟩, ?_⟩
  rw [Int.toNat_natCast, range_all]
  refine for_inv (fun zs ρ S' => ∃ (j c c3 : Nat) (F : List (List Int)), j + c = A.ws.length + 2 * A.rows.length + 2 ∧ zs = (List.range' j c).map (fun k : Nat => PV.int (k : Int)) ∧ S'[c3]? = some (.lst (F.map tupI)) ∧ F.length ≤ 4 ∧ Fst (Lt A j) 2 (F.take 2) ∧ Ext S S' ∧ ∃ y5, ρ = [some (mP A), some (.int A.l), some (tupI A.ws), some (.cell c3), some (.int ((A.ws.length : Int) + A.rows.length)), y5]) _ _ _
    ⟨0, _, S.length, [], by omega, rfl, sn0, by simp, fst_zero, Ext.snoc _ _, _, rfl⟩ (fun _ _ _ _ => trivial) ?_ ?_
  · rintro ρ S' ⟨j, c, c3, F, hj, hz, h3, hl, hF, e, y5, rfl⟩
    have c0 : c = 0 := by cases c with | zero => rfl | succ c => rw [range_from] at hz; cases hz
    subst c0
    rw [show j = A.ws.length + 2 * A.rows.length + 2 by omega] at hF
    unfold g__law_leds_R2
    simp only [ws_ret, wv_slice, wv_noPart, wv_part, wv_asI, wv_bin, wv_args, wv_cons, wv_nil, wv_var, wv_lit, wv_mkLst, List.getElem?_cons_zero, List.getElem?_cons_succ, Option.some.injEq, exists_eq_left']
    refine ⟨line_ok (by simp), ?_⟩
    refine vv_addL ((Ext.snoc _ _).get h3) sn0 (line_ok (by rw [List.length_append, List.length_map]; simp; omega)) ?_
    refine vv_slice_cell sn0 rfl ?_
    rw [show (2 : Int) = ((2 : Nat) : Int) from rfl, cut_upto, two_of]
    exact q _ _ (F.take 2) (((e.trans (Ext.snoc _ _)).trans (Ext.snoc _ _)).trans (Ext.snoc _ _)) (fst_end O hF) (fun v hv => by have := (hF.all v hv).2; omega) sn0
  · rintro z zs ρ S' ⟨j, c, c3, F, hj, hz, h3, hl, hF, e, y5, rfl⟩
    cases c with
    | zero => cases hz
    | succ c =>
      rw [range_from] at hz
      injection hz with h1 h2
      subst h1; subst h2
      refine ⟨_, rfl, ?_⟩
      unfold g__law_leds_B1
      simp only [ws_if, wv_and, wv_test, wv_bin, wv_args, wv_cons, wv_nil, wv_var, wv_lit, List.set_cons_zero, List.set_cons_succ, List.getElem?_cons_zero, List.getElem?_cons_succ, Option.some.injEq, exists_eq_left']
      rw [vv_len_cell]
      refine ⟨_, h3, _, rfl, ?_⟩
      rw [List.length_map, vv_lt, wv_asB]
      by_cases p : (F.length : Int) < 2
      · rw [decide_eq_true p]
        have ft : F.take 2 = F := List.take_of_length_le (by omega)
        rw [ft] at hF
        have add : wps (sSet 3 (eBin addV (eVar 3) (eArgs (chkL 4 F__law_of_length) (eCons (eVar 0) (eCons (eVar 1) (eCons (eVar 2) (eCons (eVar 5) eNil))))))  [some (mP A), some (.int A.l), some (tupI A.ws), some (.cell c3), some (.int ((A.ws.length : Int) + A.rows.length)), some (.int (j : Int))]) S' (fun r S'' => ∃ (c3' : Nat) (F' : List (List Int)), r = (.nx, [some (mP A), some (.int A.l), some (tupI A.ws), some (.cell c3'), some (.int ((A.ws.length : Int) + A.rows.length)), some (.int (j : Int))]) ∧ S''[c3']? = some (.lst (F'.map tupI)) ∧ F'.length ≤ 4 ∧ Fst (Lt A (j + 1)) 2 (F'.take 2) ∧ Ext S S'') := by
          simp only [ws_set, wv_bin, wv_args, wv_cons, wv_nil, wv_var, List.set_cons_zero, List.set_cons_succ, List.getElem?_cons_zero, List.getElem?_cons_succ, Option.some.injEq, exists_eq_left', chkL4]
          have j1 : j ≤ 2000 := by omega
          have w1 : A.ws.length ≤ 1000 := by omega
          with_reducible refine of_length_is (P := mP A) (n := j) rfl O j1 w1 ?_
          intro S2 d R e2 hd hR
          have Rl := hR.len
          refine vv_addL (e2.get h3) hd (line_ok (by rw [List.length_append, List.length_map, List.length_map]; omega)) ?_
          rw [← List.map_append]
          exact ⟨_, F ++ R, rfl, sn0, by rw [List.length_append]; omega, fst_add hF (by omega) hR, (e.trans e2).trans (Ext.snoc _ _)⟩
        have done : ∀ {T : Fl × PEnv → Store → Prop}, (∀ r S'', (∃ (c3' : Nat) (F' : List (List Int)), r = (.nx, [some (mP A), some (.int A.l), some (tupI A.ws), some (.cell c3'), some (.int ((A.ws.length : Int) + A.rows.length)), some (.int (j : Int))]) ∧ S''[c3']? = some (.lst (F'.map tupI)) ∧ F'.length ≤ 4 ∧ Fst (Lt A (j + 1)) 2 (F'.take 2) ∧ Ext S S'') → T r S'') → wps (sSet 3 (eBin addV (eVar 3) (eArgs (chkL 4 F__law_of_length) (eCons (eVar 0) (eCons (eVar 1) (eCons (eVar 2) (eCons (eVar 5) eNil))))))  [some (mP A), some (.int A.l), some (tupI A.ws), some (.cell c3), some (.int ((A.ws.length : Int) + A.rows.length)), some (.int (j : Int))]) S' T := fun h => by
          with_reducible refine wps_mono add ?_
          exact h
        simp only [if_true, wv_or, wv_test, wv_bin, wv_args, wv_cons, wv_nil, wv_var, wv_lit, List.getElem?_cons_zero, List.getElem?_cons_succ, Option.some.injEq, exists_eq_left']
        rw [vv_len_cell]
        refine ⟨_, h3, _, rfl, ?_⟩
        rw [List.length_map, eqA_int, vv_eq_int, wv_asB]
        by_cases p1 : (F.length : Int) = 1
        · rw [decide_eq_true p1]
          simp only [if_true]
          with_reducible refine done ?_
          rintro r S'' ⟨c3', F', hr, a1, a2, a3, a4⟩
          subst hr
          exact ⟨j + 1, c, c3', F', by omega, rfl, a1, a2, a3, a4, _, rfl⟩
        · rw [decide_eq_false p1]
          simp only [Bool.false_eq_true, if_false]
          rw [vv_add_int, vv_le, wv_asB]
          by_cases p2 : (j : Int) ≤ (A.ws.length : Int) + A.rows.length + 1
          · rw [decide_eq_true p2]
            simp only [if_true]
            with_reducible refine done ?_
            rintro r S'' ⟨c3', F', hr, a1, a2, a3, a4⟩
            subst hr
            exact ⟨j + 1, c, c3', F', by omega, rfl, a1, a2, a3, a4, _, rfl⟩
          · rw [decide_eq_false p2]
            simp only [Bool.false_eq_true, if_false, ws_nil]
            have F0 : F = [] := List.eq_nil_of_length_eq_zero (by omega)
            subst F0
            have none_ := fst_none O hF (by omega)
            exact ⟨j + 1, c, c3, [], by omega, rfl, h3, by simp, ⟨List.Pairwise.nil, (fun v hv => by cases hv), by simp, fun u hu _ => absurd hu.1 (none_ u)⟩, e, _, rfl⟩
      · rw [decide_eq_false p]
        simp only [Bool.false_eq_true, if_false, ws_nil]
        exact ⟨j + 1, c, c3, F, by omega, rfl, h3, hl, fst_two hF (by rw [List.length_take]; omega), e, _, rfl⟩
end
end KK

namespace KK
open PySem PySem.Spec PyProof.Rows L2 DL PySem.W
open Classical
local macro_rules | `(tactic| walk_at "dw") => `(tactic| try simp only [ws_seq, ws_nil, ws_retN, ws_bk, ws_ct, ws_expr, ws_ret, ws_set, ws_if, ws_asg, ws_sub, ws_aug, ws_for, ws_thru, ws_no, ws_raise, wv_mkX, wv_var, wv_lit, wv_bin, wv_un, wv_nil, wv_cons, wv_args, wv_test, wv_asB, wv_and, wv_or, wv_not, wv_andV, wv_orV, wv_notV, wv_if, wv_chain,
  wv_noPart, wv_part, wv_asI, wv_slice, wv_mkTup, wv_mkLst, wv_methL, wsr_args, wsr_range1, wsr_range2, wsr_seq, wsr_tup, wsr_rev, wsr_zip, vv_rev_tup, wv_lc, wpx_ret, wpx_optM, tTrue, chkL1, chkL2, chkL3, chkL4,
  vv_add_int, vv_add_tup, vv_sub, vv_mul, vv_mulA_int, vv_div, vv_mod, vv_pow, vv_neg, vv_gt, vv_ge, vv_le, vv_lt, vv_eq_int, vv_ne_int, vv_eq_bl, vv_ne_bl, eqA_int, neA_int, eqA_bl, neA_bl, eqA_tup, neA_tup, eqA_cell, neA_cell, eqA_non, neA_non, vv_eqA_str, vv_neA_str, vv_ix_tup, vv_ix_cell, vv_set, vv_len_tup, vv_len_cell, vv_abs, vv_int_int, vv_int_bl, vv_tup_tup, vv_tup_cell, vv_lst_tup, vv_lst_cell, vv_slice_tup, vv_dm, vv_mx, vv_mn,
  isi_int_int, isi_int_bool, isi_int_tuple, isi_int_str, isi_int_list, isi_bool_int, isi_bool_bool, isi_bool_tuple, isi_bool_str, isi_bool_list, isi_str_int, isi_str_bool, isi_str_tuple, isi_str_str, isi_str_list, isi_none_int, isi_none_bool, isi_none_tuple, isi_none_str, isi_none_list, isi_tuple_int, isi_tuple_bool, isi_tuple_tuple, isi_tuple_str, isi_tuple_list,
  and_true, true_and, and_self, Cell.lst.injEq, items_lst, items_rls, vv_append, vv_isL, Option.some.injEq, exists_eq_left', exists_eq_left, List.map_cons, List.map_nil, List.length_cons, List.length_nil, List.length_map, List.replicate, List.cons_append, List.nil_append, List.getElem?_cons_zero, List.getElem?_cons_succ, List.set_cons_zero, List.set_cons_succ, bindT, atI0, atI1, atI2, atI3, ix41, ix42, ix43, Nat.reduceAdd, Nat.reduceSub, List.set_set, decide_true, decide_false, if_true, if_false, Bool.false_eq_true, decide_eq_true_eq, Bool.not_true, Bool.not_false, wpx_ite, eq_self, wipeP, *])

open PVal (pv)
section
variable {ns : List Int} {S S0 Sb S' : Store} {Q : PV → Store → Prop} {QS : Fl × PEnv → Store → Prop} {E : Exn → Store → Prop} {A : Mc} {n k : Nat} {P : PV} {l : Int} {rows : List (List (Option Int))} {es : List Int}
theorem Ext.kp {S S' : Store} (e : Ext S S') : Keep S S' := fun _ _ _ h => e.get h
theorem txt_opt {o : Option (List Int)} (h : ∀ v, o = some v → v.length ≤ 100 ∧ ∀ x ∈ v, 0 ≤ x ∧ x < 100) : ∃ t : Str, ∀ S', Keep S S' → ∀ (Q : PV → Store → Prop) (E : Exn → Store → Prop), wpx (reprF [optP o]) S' Q E ↔ Q (.str t) S' := by
  cases o with
  | none => exact (sh_non (S := S)).repr (by decide) (by decide)
  | some v =>
    obtain ⟨h1, h2⟩ := h v rfl
    have : Sh S (100 * (80 + 1)) 1 (optP (some v)) := sh_tup (n := 100) (fun x hx => by
      obtain ⟨i, hi, rfl⟩ := List.mem_map.mp hx
      exact sh_int (by have := h2 i hi; omega)) (by rw [List.length_map]; exact h1)
    exact this.repr (by decide) (by decide)
theorem txt_get {D : List (List Int)} {j : Nat} (O : A.Ok) (hD : Fst A.Acc 2 D) (hl : ∀ v ∈ D, v.length ≤ 100) : ∃ t : Str, ∀ S', Keep S S' → ∀ (Q : PV → Store → Prop) (E : Exn → Store → Prop), wpx (reprF [optP D[j]?]) S' Q E ↔ Q (.str t) S' :=
  txt_opt fun v hv => by
    have hm := List.mem_of_getElem? hv
    have l2 := O.l2
    exact ⟨hl v hm, fun x hx => by have := (hD.all v hm).1 x hx; omega⟩
theorem law_is_is (W : Wf l rows es) (hk : MaAt S k l rows es) (q : Q (.bl true) S) : wpx (F__law_is [.cell k, machP l rows es]) S Q E := by
  unfold F__law_is
  refine wp_run ?_
  unfold g__law_is g__law_is_R1
  have hk' : S[k]? = some (.ins "Machine" (mFs (.int l) (tabP rows) (tupI es))) := hk
  have l1 := W.l1
  have l2 := W.l2
  have n2 := W.n2
  have el := W.el
  obtain ⟨t1, ht1⟩ := (sh_int (S := S) (i := l) (by omega)).repr (by decide) (by decide)
  have shr : Sh S (12 * (8 * (80 + 1) + 1)) 2 (tabP rows) := sh_tup (n := 12) (fun x hx => by
    obtain ⟨r, hr, rfl⟩ := List.mem_map.mp hx
    obtain ⟨rl, rin⟩ := W.row r hr
    exact sh_tup (n := 8) (fun y hy => by
      obtain ⟨o, ho, rfl⟩ := List.mem_map.mp hy
      cases o with
      | none => exact sh_non.mono (by decide) (by decide)
      | some i => exact sh_int (by have := rin _ ho i rfl; omega)) (by rw [List.length_map]; omega)) (by rw [List.length_map]; exact n2)
  obtain ⟨t2, ht2⟩ := shr.repr (by decide) (by decide)
  have she : Sh S (12 * (80 + 1)) 1 (tupI es) := sh_tup (n := 12) (fun x hx => by
    obtain ⟨e, he, rfl⟩ := List.mem_map.mp hx
    exact sh_int (by rcases W.bit e he with rfl | rfl <;> decide)) (by rw [List.length_map]; omega)
  obtain ⟨t3, ht3⟩ := she.repr (by decide) (by decide)
  simp only [ws_seq, ws_if, wv_or, wv_not, wv_test, wv_bin, wv_un, wv_args, wv_cons, wv_nil, wv_var, wv_lit, List.map_cons, List.map_nil, List.cons_append, List.nil_append, List.length_cons, List.length_nil, Nat.reduceAdd, Nat.reduceSub, List.replicate, List.getElem?_cons_zero, List.getElem?_cons_succ, Option.some.injEq, exists_eq_left', ws_ret]
  refine vv_isC_yes hk' ?_
  rw [wv_asB]
  simp only [Bool.not_true, Bool.false_eq_true, if_false]
  rw [vv_fld hk']
  refine ⟨_, look_letters, ?_⟩
  rw [ht1 S (Keep.refl _)]
  unfold machP
  rw [vv_ix_tup]
  refine ⟨_, atI0, ?_⟩
  rw [ht1 S (Keep.refl _), vv_neA_str, wv_asB]
  simp only [decide_true, Bool.not_true, Bool.false_eq_true, if_false]
  rw [vv_fld hk']
  refine ⟨_, look_table, ?_⟩
  rw [ht2 S (Keep.refl _), vv_ix_tup]
  refine ⟨_, atI1, ?_⟩
  rw [ht2 S (Keep.refl _), vv_neA_str, wv_asB]
  simp only [decide_true, Bool.not_true, Bool.false_eq_true, if_false, ws_nil, ws_ret, wv_bin, wv_un, wv_args, wv_cons, wv_nil, wv_var, wv_lit, List.getElem?_cons_zero, List.getElem?_cons_succ, Option.some.injEq, exists_eq_left']
  rw [vv_fld hk']
  refine ⟨_, look_ends, ?_⟩
  rw [ht3 S (Keep.refl _), vv_ix_tup]
  refine ⟨_, atI2, ?_⟩
  rw [ht3 S (Keep.refl _), vv_eqA_str, decide_eq_true rfl]
  exact q
theorem pick210 {a b c : PV} : pick [2, 1, 0] [a, b, c] = [c, b, a] := rfl
theorem as_B3 {x0 x4 x6 : Option PV} (hP : P = mP A) (O : A.Ok) (lw : A.ws.length ≤ 10) (hk : At A S k) (q : ∀ d S', Ext S S' → QS (.nx, [x0, some P, some (.int A.l), some (.cell k), x4, some (tupI A.ws), some (.cell d)]) S') :
    wps (sSeq (sSet 6 (eArgs (chkL 3 F__law_leds) (eCons (eVar 1) (eCons (eVar 2) (eCons (eVar 5) eNil))))) (sSeq (sIf (eOr (eTest (eBin neA (eArgs reprF (eCons (eArgs (chkL 3 F_first_led) (eCons (eVar 3) (eCons (eVar 2) (eCons (eVar 5) eNil)))) eNil)) (eArgs reprF (eCons (eBin ixV (eVar 6) (eLit (.int 0))) eNil)))) (eTest (eBin neA (eArgs reprF (eCons (eArgs (chkL 3 F_second_led) (eCons (eVar 3) (eCons (eVar 2) (eCons (eVar 5) eNil)))) eNil)) (eArgs reprF (eCons (eBin ixV (eVar 6) (eLit (.int 1))) eNil))))) (sRet (eLit (.bl false))) sNil) g__law_asked_R2) [x0, some P, some (.int A.l), some (.cell k), x4, some (tupI A.ws), x6]) S QS := by
  simp only [ws_seq, ws_set, wv_args, wv_cons, wv_nil, wv_var, List.getElem?_cons_zero, List.getElem?_cons_succ, Option.some.injEq, exists_eq_left', chkL3]
  refine leds_is hP O lw fun S1 d D e1 hD hl h1 => ?_
  obtain ⟨t0, ht0⟩ := txt_get (S := S1) (j := 0) O hD hl
  obtain ⟨t1, ht1⟩ := txt_get (S := S1) (j := 1) O hD hl
  have w1 : A.ws.length ≤ 1000 := by omega
  simp only [ws_if, wv_or, wv_test, wv_bin, wv_args, wv_cons, wv_nil, wv_var, wv_lit, List.set_cons_zero, List.set_cons_succ, List.getElem?_cons_zero, List.getElem?_cons_succ, Option.some.injEq, exists_eq_left', chkL3]
  refine first_is O (e1.get hk) w1 hD fun S2 e2 => ?_
  rw [ht0 S2 (Ext.kp e2), vv_ix_cell]
  refine ⟨_, e2.get h1, _, rfl, _, atI0, ?_⟩
  rw [ht0 S2 (Ext.kp e2), vv_neA_str, wv_asB]
  simp only [decide_true, Bool.not_true, Bool.false_eq_true, if_false]
  refine second_is O ((e1.trans e2).get hk) w1 hD fun S3 e3 => ?_
  have e23 := e2.trans e3
  rw [ht1 S3 (Ext.kp e23), vv_ix_cell]
  refine ⟨_, e23.get h1, _, rfl, _, atI1, ?_⟩
  rw [ht1 S3 (Ext.kp e23), vv_neA_str, wv_asB]
  simp only [decide_true, Bool.not_true, Bool.false_eq_true, if_false, ws_nil]
  unfold g__law_asked_R2 g__law_asked_R1
  simp only [ws_seq, ws_if, wv_test, wv_bin, wv_args, wv_cons, wv_nil, wv_var, wv_lit, List.getElem?_cons_zero, List.getElem?_cons_succ, Option.some.injEq, exists_eq_left']
  rw [if_pos (by simp), pick210, chkL3]
  refine first_is O ((e1.trans e23).get hk) w1 hD fun S4 e4 => ?_
  have e24 := e23.trans e4
  rw [ht0 S4 (Ext.kp e24), vv_ix_cell]
  refine ⟨_, e24.get h1, _, rfl, _, atI0, ?_⟩
  rw [ht0 S4 (Ext.kp e24), vv_neA_str, wv_asB]
  simp only [decide_true, Bool.not_true, Bool.false_eq_true, if_false, ws_nil, ws_if, wv_test, wv_bin, wv_args, wv_cons, wv_nil, wv_var, wv_lit, List.getElem?_cons_zero, List.getElem?_cons_succ, Option.some.injEq, exists_eq_left']
  rw [if_pos (by simp), pick210, chkL3]
  refine second_is O ((e1.trans e24).get hk) w1 hD fun S5 e5 => ?_
  have e25 := e24.trans e5
  rw [ht1 S5 (Ext.kp e25), vv_ix_cell]
  refine ⟨_, e25.get h1, _, rfl, _, atI1, ?_⟩
  rw [ht1 S5 (Ext.kp e25), vv_neA_str, wv_asB]
  simp only [decide_true, Bool.not_true, Bool.false_eq_true, if_false, ws_nil]
  exact q d S5 (e1.trans e25)
theorem as_B3' {ws : List Int} {x0 x4 x6 : Option PV} (hP : P = machP ((l + 1) * (l + 1) - 1) rows es) (O : Mc.Ok ⟨rows, es, l, ws⟩) (lw : ws.length ≤ 10) (hk : MaAt S k ((l + 1) * (l + 1) - 1) rows es) (q : ∀ d S', Ext S S' → QS (.nx, [x0, some P, some (.int l), some (.cell k), x4, some (tupI ws), some (.cell d)]) S') :
    wps (sSeq (sSet 6 (eArgs (chkL 3 F__law_leds) (eCons (eVar 1) (eCons (eVar 2) (eCons (eVar 5) eNil))))) (sSeq (sIf (eOr (eTest (eBin neA (eArgs reprF (eCons (eArgs (chkL 3 F_first_led) (eCons (eVar 3) (eCons (eVar 2) (eCons (eVar 5) eNil)))) eNil)) (eArgs reprF (eCons (eBin ixV (eVar 6) (eLit (.int 0))) eNil)))) (eTest (eBin neA (eArgs reprF (eCons (eArgs (chkL 3 F_second_led) (eCons (eVar 3) (eCons (eVar 2) (eCons (eVar 5) eNil)))) eNil)) (eArgs reprF (eCons (eBin ixV (eVar 6) (eLit (.int 1))) eNil))))) (sRet (eLit (.bl false))) sNil) g__law_asked_R2) [x0, some P, some (.int l), some (.cell k), x4, some (tupI ws), x6]) S QS :=
  as_B3 (A := ⟨rows, es, l, ws⟩) hP O lw hk q
theorem asked_is (b : Bx ns S) (W : Wf ((l + 1) * (l + 1) - 1) rows es) (l1 : 1 ≤ l) (l2 : l ≤ 2) (hP : P = machP ((l + 1) * (l + 1) - 1) rows es) (q : ∀ S', Bx ns S' → Frm S S' → Q (.bl true) S') : wpx (F__law_asked [.cell 2, P, .int l]) S Q E := by
  unfold F__law_asked
  refine wp_run ?_
  unfold g__law_asked
  have bl := bx_len b
  simp only [ws_seq, ws_set, wv_args, wv_cons, wv_nil, wv_var, wv_lit, List.map_cons, List.map_nil, List.cons_append, List.nil_append, List.length_cons, List.length_nil, Nat.reduceAdd, Nat.reduceSub, List.replicate, List.set_cons_zero, List.set_cons_succ, List.getElem?_cons_zero, List.getElem?_cons_succ, Option.some.injEq, exists_eq_left', chkL1]
  rw [hP]
  refine made_m W fun S1 e1 hm => ?_
  simp only [ws_for, wsr_args, wv_args, wv_cons, wv_nil, wv_lit, List.set_cons_zero, List.set_cons_succ]
  rw [wsr_range1]
  refine ⟨⟨by decide, by decide⟩, ?_⟩
  refine for_inv (fun zs ρ S' => Bx ns S' ∧ Frm S1 S' ∧ ∃ x4 x5 x6, ρ = [some (.cell 2), some (machP ((l + 1) * (l + 1) - 1) rows es), some (.int l), some (.cell S.length), x4, x5, x6]) _ _ _ ⟨b.ext e1, Frm.refl _, _, _, _, rfl⟩ (fun _ _ _ _ => trivial) ?_ ?_
  · rintro ρ S' ⟨b', f', x4, x5, x6, rfl⟩
    unfold g__law_asked_R4
    simp only [ws_ret, wv_args, wv_cons, wv_nil, wv_var, List.getElem?_cons_zero, List.getElem?_cons_succ, Option.some.injEq, exists_eq_left', chkL2]
    exact law_is_is W (f'.get (by omega) hm) (q S' b' ((Ext.frm e1).trans f'))
  · rintro z zs ρ S' ⟨b', f', x4, x5, x6, rfl⟩
    refine ⟨_, rfl, ?_⟩
    unfold g__law_asked_B3
    rw [ws_seq]
    simp only [ws_set, wv_args, wv_cons, wv_nil, wv_var, wv_lit, List.set_cons_zero, List.set_cons_succ, List.getElem?_cons_zero, List.getElem?_cons_succ, Option.some.injEq, exists_eq_left', chkL3]
    refine word_spec b' (by omega) (by omega) (by omega) (by omega) fun ws S2 hws lws b2 f2 => ?_
    have hO : Mc.Ok ⟨rows, es, l, ws⟩ := ⟨W, l1, l2, hws⟩
    have lw : ws.length ≤ 10 := by have : (6 : Int).toNat = 6 := rfl; omega
    have hm2 : MaAt S2 S.length ((l + 1) * (l + 1) - 1) rows es := (f'.trans f2).get (by omega) hm
    have hP2 : machP ((l + 1) * (l + 1) - 1) rows es = machP ((l + 1) * (l + 1) - 1) rows es := rfl
    with_reducible refine as_B3' hP2 hO lw hm2 ?_
    intro d S3 e3
    exact ⟨b2.ext e3, (f'.trans f2).trans (Ext.frm e3), _, _, _, rfl⟩
/-- one of a written list, drawn -/
theorem pick_is {xs : List PV} {l : Int} (P : Store → PV → Prop) (b : Bx ns S) (hl : l = xs.length) (h0 : 0 < xs.length) (h1 : xs.length ≤ 100) (hP : ∀ S', Frm (S ++ [.lst xs]) S' → Bx ns S' → ∀ x ∈ xs, P S' x)
    (q : ∀ x S', P S' x → Bx ns S' → Frm S S' → Q x S') : wpx (F__law_draw [.cell 2, .int l]) (S ++ [.lst xs]) (fun i S' => wpx (ixV (.cell S.length) i) S' Q E) E := by
  have h3 := bx_len b
  refine draw_all (b.snoc _) (by omega) (by omega) fun n S2 n0 n1 b2 f2 _ => ?_
  have hc : S2[S.length]? = some (.lst xs) := f2.get (by omega) (by simp)
  obtain ⟨d, hd, hm⟩ := mem_at (xs := xs) n0 (by omega)
  rw [vv_ix_cell]
  exact ⟨_, hc, _, rfl, d, hd, q d S2 (hP S2 f2 b2 d hm) b2 ((Frm.snoc _ _).trans f2)⟩
theorem all_is (hn : ns.length ≤ 63) (q : ∀ S', Q (.bl true) S') : wpx (F__law_all [.cell 0]) [.rls (ns.map PV.int)] Q E := by
  unfold F__law_all
  refine wp_run ?_
  unfold g__law_all
  walk_at "dw"
  refine box_spec hn fun S1 l1 b1 => ?_
  walk_at "dw"
  refine ⟨line_ok (by decide), ?_⟩
  have s1 : (S1 ++ [Cell.lst [PV.int 1, PV.int 2, PV.int 1, PV.int 2]])[3]? = some (.lst [.int 1, .int 2, .int 1, .int 2]) := by rw [← l1]; exact sn0
  rw [wsr_cell s1 rfl]
  refine for_inv (fun zs ρ S => (∀ z ∈ zs, ∃ i : Int, z = .int i ∧ 1 ≤ i ∧ i ≤ 2) ∧ Bx ns S ∧ S[3]? = some (.lst [.int 1, .int 2, .int 1, .int 2]) ∧ 3 < S.length ∧ ∃ x2, ρ = [some (.cell 0), some (.cell 2), x2]) _ _ _ ⟨?_, b1.snoc _, s1, by simp [l1], _, rfl⟩ (fun _ _ _ h => h.2.2.1) ?_ ?_
  · intro z hz
    simp only [List.mem_cons, List.not_mem_nil, or_false] at hz
    rcases hz with rfl | rfl | rfl | rfl
    · exact ⟨1, rfl, by decide, by decide⟩
    · exact ⟨2, rfl, by decide, by decide⟩
    · exact ⟨1, rfl, by decide, by decide⟩
    · exact ⟨2, rfl, by decide, by decide⟩
  · rintro ρ S ⟨_, b, _, _, x2, rfl⟩
    unfold g__law_all_R2
    simp only [ws_ret, wv_lit]
    exact q S
  · rintro z zs ρ S ⟨hz, b, h3, l3, x2, rfl⟩
    obtain ⟨l, rfl, l1, l2⟩ := hz z List.mem_cons_self
    refine ⟨_, rfl, ?_⟩
    unfold g__law_all_B1
    simp only [ws_if, wv_not, wv_test, wv_bin, wv_args, wv_cons, wv_nil, wv_var, wv_lit, wv_mkLst, List.set_cons_zero, List.set_cons_succ, List.getElem?_cons_zero, List.getElem?_cons_succ, Option.some.injEq, exists_eq_left', chkL2, chkL3]
    refine ⟨line_ok (by simp), ?_⟩
    refine pick_is (fun _ x => ∃ i : Int, x = .int i ∧ 1 ≤ i ∧ i ≤ 6) b rfl (by simp) (by simp) (fun S' f1 b1 x hx => ?_) fun x S2 hx b2 f2 => ?_
    · simp only [List.mem_cons, List.not_mem_nil, or_false] at hx
      rcases hx with rfl | rfl
      · exact ⟨5, rfl, by decide, by decide⟩
      · exact ⟨6, rfl, by decide, by decide⟩
    obtain ⟨i, rfl, i0, i1⟩ := hx
    refine pair_machine_is i0 i1 b2 l1 l2 fun rows es S3 W b3 f3 => ?_
    have f23 := f2.trans f3
    refine asked_is b3 W l1 l2 rfl fun S4 b4 f4 => ?_
    rw [wv_asB]
    simp only [Bool.not_true, Bool.false_eq_true, if_false, ws_nil]
    have f34 := f23.trans f4
    exact ⟨fun z' hz' => hz z' (List.mem_cons_of_mem _ hz'), b4, f34.get (by decide) h3, by have := f34.len; omega, _, rfl⟩
theorem law_ends (hn : ns.length ≤ 63) : ∃ S', F_law [.cell 0] [.rls (ns.map PV.int)] = .ok (.bl true) S' := by
  refine eq_of_wpx ?_
  unfold F_law
  refine wp_run ?_
  unfold g_law
  walk_at "dw"
  refine all_is hn fun S' => ?_
  exact ⟨fun c e => (nomatch e), rfl⟩
end
end KK

namespace KK
open PySem PySem.Spec PyProof.Rows L2 DL
/-! what the top has written -/
theorem all_mk {l : PySem.W.OpenLaw} {w : World} {K : PySem.W.Frag} {h : Heap} {mg : Str → Option Value} {fa f0 f1 f2 f3 f4 f5 f6 f7 f8 f9 f10 f11 f12 f13 f14 f15 f16 f17 f18 f19 f20 f21 f22 f23 f24 f25 f26 f27 f28 : Addr} (X : K.In h) (G : h.Ns mainGlobals mg) (hfa : mg "law" = some (.ref fa))
    {od0 an0 od1 an1 od2 an2 od3 an3 od4 an4 od5 an5 od6 an6 od7 an7 od8 an8 od9 an9 od10 an10 od11 an11 od12 an12 od13 an13 od14 an14 od15 an15 od16 an16 od17 an17 od18 an18 od19 an19 od20 an20 od21 an21 od22 an22 od23 an23 od24 an24 od25 an25 od26 an26 od27 an27 od28 an28 : Option Addr} {sl0 sl1 sl2 sl3 sl4 sl5 sl6 sl7 sl8 sl9 sl10 sl11 sl12 sl13 sl14 sl15 sl16 sl17 sl18 sl19 sl20 sl21 sl22 sl23 sl24 sl25 sl26 sl27 sl28 : Array (Option Value)} {oc0 kV0 dc0 pm0 cd0 ct0 oc1 kV1 dc1 pm1 cd1 ct1 oc2 kV2 dc2 pm2 cd2 ct2 oc3 kV3 dc3 pm3 cd3 ct3 oc4 kV4 dc4 pm4 cd4 ct4 oc5 kV5 dc5 pm5 cd5 ct5 oc6 kV6 dc6 pm6 cd6 ct6 oc7 kV7 dc7 pm7 cd7 ct7 oc8 kV8 dc8 pm8 cd8 ct8 oc9 kV9 dc9 pm9 cd9 ct9 oc10 kV10 dc10 pm10 cd10 ct10 oc11 kV11 dc11 pm11 cd11 ct11 oc12 kV12 dc12 pm12 cd12 ct12 oc13 kV13 dc13 pm13 cd13 ct13 oc14 kV14 dc14 pm14 cd14 ct14 oc15 kV15 dc15 pm15 cd15 ct15 oc16 kV16 dc16 pm16 cd16 ct16 oc17 kV17 dc17 pm17 cd17 ct17 oc18 kV18 dc18 pm18 cd18 ct18 oc19 kV19 dc19 pm19 cd19 ct19 oc20 kV20 dc20 pm20 cd20 ct20 oc21 kV21 dc21 pm21 cd21 ct21 oc22 kV22 dc22 pm22 cd22 ct22 oc23 kV23 dc23 pm23 cd23 ct23 oc24 kV24 dc24 pm24 cd24 ct24 oc25 kV25 dc25 pm25 cd25 ct25 oc26 kV26 dc26 pm26 cd26 ct26 oc27 kV27 dc27 pm27 cd27 ct27 oc28 kV28 dc28 pm28 cd28 ct28 : Value}
    {c_Machine : Addr} (ac_Machine : PySem.W.nsIn K mainGlobals "Machine" = some (some (.ref c_Machine)))
    (a0 : PySem.W.nsIn K mainGlobals "is_whole" = some (some (.ref f0))) (l0 : K.lookup f0 = some ⟨oc0, od0, .func (PySem.W.fnOf "is_whole" "is_whole" (defArgs s_is_whole) (defBody s_is_whole) (defScope s_is_whole) .none kV0 dc0 pm0 an0 cd0 ct0), sl0⟩) (c0 : PySem.W.codeIn K cd0 "is_whole" = true) (k0 : PySem.W.keepIn K (.ref f0) = true)
    (a1 : PySem.W.nsIn K mainGlobals "is_number" = some (some (.ref f1))) (l1 : K.lookup f1 = some ⟨oc1, od1, .func (PySem.W.fnOf "is_number" "is_number" (defArgs s_is_number) (defBody s_is_number) (defScope s_is_number) .none kV1 dc1 pm1 an1 cd1 ct1), sl1⟩) (c1 : PySem.W.codeIn K cd1 "is_number" = true) (k1 : PySem.W.keepIn K (.ref f1) = true)
    (a2 : PySem.W.nsIn K mainGlobals "is_sequence" = some (some (.ref f2))) (l2 : K.lookup f2 = some ⟨oc2, od2, .func (PySem.W.fnOf "is_sequence" "is_sequence" (defArgs s_is_sequence) (defBody s_is_sequence) (defScope s_is_sequence) .none kV2 dc2 pm2 an2 cd2 ct2), sl2⟩) (c2 : PySem.W.codeIn K cd2 "is_sequence" = true) (k2 : PySem.W.keepIn K (.ref f2) = true)
    (a3 : PySem.W.nsIn K mainGlobals "first_fault" = some (some (.ref f3))) (l3 : K.lookup f3 = some ⟨oc3, od3, .func (PySem.W.fnOf "first_fault" "first_fault" (defArgs s_first_fault) (defBody s_first_fault) (defScope s_first_fault) .none kV3 dc3 pm3 an3 cd3 ct3), sl3⟩) (c3 : PySem.W.codeIn K cd3 "first_fault" = true) (k3 : PySem.W.keepIn K (.ref f3) = true)
    (a4 : PySem.W.nsIn K mainGlobals "is_word" = some (some (.ref f4))) (l4 : K.lookup f4 = some ⟨oc4, od4, .func (PySem.W.fnOf "is_word" "is_word" (defArgs s_is_word) (defBody s_is_word) (defScope s_is_word) .none kV4 dc4 pm4 an4 cd4 ct4), sl4⟩) (c4 : PySem.W.codeIn K cd4 "is_word" = true) (k4 : PySem.W.keepIn K (.ref f4) = true)
    (a5 : PySem.W.nsIn K mainGlobals "_is_row" = some (some (.ref f5))) (l5 : K.lookup f5 = some ⟨oc5, od5, .func (PySem.W.fnOf "_is_row" "_is_row" (defArgs s__is_row) (defBody s__is_row) (defScope s__is_row) .none kV5 dc5 pm5 an5 cd5 ct5), sl5⟩) (c5 : PySem.W.codeIn K cd5 "_is_row" = true) (k5 : PySem.W.keepIn K (.ref f5) = true)
    (a6 : PySem.W.nsIn K mainGlobals "_table_fault" = some (some (.ref f6))) (l6 : K.lookup f6 = some ⟨oc6, od6, .func (PySem.W.fnOf "_table_fault" "_table_fault" (defArgs s__table_fault) (defBody s__table_fault) (defScope s__table_fault) .none kV6 dc6 pm6 an6 cd6 ct6), sl6⟩) (c6 : PySem.W.codeIn K cd6 "_table_fault" = true) (k6 : PySem.W.keepIn K (.ref f6) = true)
    (a7 : PySem.W.nsIn K mainGlobals "_ends_fault" = some (some (.ref f7))) (l7 : K.lookup f7 = some ⟨oc7, od7, .func (PySem.W.fnOf "_ends_fault" "_ends_fault" (defArgs s__ends_fault) (defBody s__ends_fault) (defScope s__ends_fault) .none kV7 dc7 pm7 an7 cd7 ct7), sl7⟩) (c7 : PySem.W.codeIn K cd7 "_ends_fault" = true) (k7 : PySem.W.keepIn K (.ref f7) = true)
    (a8 : PySem.W.nsIn K mainGlobals "pair_letter" = some (some (.ref f8))) (l8 : K.lookup f8 = some ⟨oc8, od8, .func (PySem.W.fnOf "pair_letter" "pair_letter" (defArgs s_pair_letter) (defBody s_pair_letter) (defScope s_pair_letter) .none kV8 dc8 pm8 an8 cd8 ct8), sl8⟩) (c8 : PySem.W.codeIn K cd8 "pair_letter" = true) (k8 : PySem.W.keepIn K (.ref f8) = true)
    (a9 : PySem.W.nsIn K mainGlobals "_endings" = some (some (.ref f9))) (l9 : K.lookup f9 = some ⟨oc9, od9, .func (PySem.W.fnOf "_endings" "_endings" (defArgs s__endings) (defBody s__endings) (defScope s__endings) .none kV9 dc9 pm9 an9 cd9 ct9), sl9⟩) (c9 : PySem.W.codeIn K cd9 "_endings" = true) (k9 : PySem.W.keepIn K (.ref f9) = true)
    (a10 : PySem.W.nsIn K mainGlobals "_longer_ways" = some (some (.ref f10))) (l10 : K.lookup f10 = some ⟨oc10, od10, .func (PySem.W.fnOf "_longer_ways" "_longer_ways" (defArgs s__longer_ways) (defBody s__longer_ways) (defScope s__longer_ways) .none kV10 dc10 pm10 an10 cd10 ct10), sl10⟩) (c10 : PySem.W.codeIn K cd10 "_longer_ways" = true) (k10 : PySem.W.keepIn K (.ref f10) = true)
    (a11 : PySem.W.nsIn K mainGlobals "_led" = some (some (.ref f11))) (l11 : K.lookup f11 = some ⟨oc11, od11, .func (PySem.W.fnOf "_led" "_led" (defArgs s__led) (defBody s__led) (defScope s__led) .none kV11 dc11 pm11 an11 cd11 ct11), sl11⟩) (c11 : PySem.W.codeIn K cd11 "_led" = true) (k11 : PySem.W.keepIn K (.ref f11) = true)
    (a12 : PySem.W.nsIn K mainGlobals "first_led" = some (some (.ref f12))) (l12 : K.lookup f12 = some ⟨oc12, od12, .func (PySem.W.fnOf "first_led" "first_led" (defArgs s_first_led) (defBody s_first_led) (defScope s_first_led) .none kV12 dc12 pm12 an12 cd12 ct12), sl12⟩) (c12 : PySem.W.codeIn K cd12 "first_led" = true) (k12 : PySem.W.keepIn K (.ref f12) = true)
    (a13 : PySem.W.nsIn K mainGlobals "second_led" = some (some (.ref f13))) (l13 : K.lookup f13 = some ⟨oc13, od13, .func (PySem.W.fnOf "second_led" "second_led" (defArgs s_second_led) (defBody s_second_led) (defScope s_second_led) .none kV13 dc13 pm13 an13 cd13 ct13), sl13⟩) (c13 : PySem.W.codeIn K cd13 "second_led" = true) (k13 : PySem.W.keepIn K (.ref f13) = true)
    (a14 : PySem.W.nsIn K mainGlobals "_law_box" = some (some (.ref f14))) (l14 : K.lookup f14 = some ⟨oc14, od14, .func (PySem.W.fnOf "_law_box" "_law_box" (defArgs s__law_box) (defBody s__law_box) (defScope s__law_box) .none kV14 dc14 pm14 an14 cd14 ct14), sl14⟩) (c14 : PySem.W.codeIn K cd14 "_law_box" = true) (k14 : PySem.W.keepIn K (.ref f14) = true)
    (a15 : PySem.W.nsIn K mainGlobals "_law_draw" = some (some (.ref f15))) (l15 : K.lookup f15 = some ⟨oc15, od15, .func (PySem.W.fnOf "_law_draw" "_law_draw" (defArgs s__law_draw) (defBody s__law_draw) (defScope s__law_draw) .none kV15 dc15 pm15 an15 cd15 ct15), sl15⟩) (c15 : PySem.W.codeIn K cd15 "_law_draw" = true) (k15 : PySem.W.keepIn K (.ref f15) = true)
    (a16 : PySem.W.nsIn K mainGlobals "_law_word" = some (some (.ref f16))) (l16 : K.lookup f16 = some ⟨oc16, od16, .func (PySem.W.fnOf "_law_word" "_law_word" (defArgs s__law_word) (defBody s__law_word) (defScope s__law_word) .none kV16 dc16 pm16 an16 cd16 ct16), sl16⟩) (c16 : PySem.W.codeIn K cd16 "_law_word" = true) (k16 : PySem.W.keepIn K (.ref f16) = true)
    (a17 : PySem.W.findIn K (.ref c_Machine) "__init__" = some (some (.ref f17))) (i17 : PySem.W.isFn K (.ref f17) = true) (l17 : K.lookup f17 = some ⟨oc17, od17, .func (PySem.W.fnOf "__init__" "Machine.__init__" (defArgs s_Machine___init__) (defBody s_Machine___init__) (defScope s_Machine___init__) .none kV17 dc17 pm17 an17 cd17 ct17), sl17⟩) (c17 : PySem.W.codeIn K cd17 "Machine.__init__" = true) (k17 : PySem.W.keepIn K (.ref f17) = true)
    (a18 : PySem.W.nsIn K mainGlobals "_law_made" = some (some (.ref f18))) (l18 : K.lookup f18 = some ⟨oc18, od18, .func (PySem.W.fnOf "_law_made" "_law_made" (defArgs s__law_made) (defBody s__law_made) (defScope s__law_made) .none kV18 dc18 pm18 an18 cd18 ct18), sl18⟩) (c18 : PySem.W.codeIn K cd18 "_law_made" = true) (k18 : PySem.W.keepIn K (.ref f18) = true)
    (a19 : PySem.W.nsIn K mainGlobals "_law_is" = some (some (.ref f19))) (l19 : K.lookup f19 = some ⟨oc19, od19, .func (PySem.W.fnOf "_law_is" "_law_is" (defArgs s__law_is) (defBody s__law_is) (defScope s__law_is) .none kV19 dc19 pm19 an19 cd19 ct19), sl19⟩) (c19 : PySem.W.codeIn K cd19 "_law_is" = true) (k19 : PySem.W.keepIn K (.ref f19) = true)
    (a20 : PySem.W.nsIn K mainGlobals "_law_phase" = some (some (.ref f20))) (l20 : K.lookup f20 = some ⟨oc20, od20, .func (PySem.W.fnOf "_law_phase" "_law_phase" (defArgs s__law_phase) (defBody s__law_phase) (defScope s__law_phase) .none kV20 dc20 pm20 an20 cd20 ct20), sl20⟩) (c20 : PySem.W.codeIn K cd20 "_law_phase" = true) (k20 : PySem.W.keepIn K (.ref f20) = true)
    (a21 : PySem.W.nsIn K mainGlobals "_law_pair_machine" = some (some (.ref f21))) (l21 : K.lookup f21 = some ⟨oc21, od21, .func (PySem.W.fnOf "_law_pair_machine" "_law_pair_machine" (defArgs s__law_pair_machine) (defBody s__law_pair_machine) (defScope s__law_pair_machine) .none kV21 dc21 pm21 an21 cd21 ct21), sl21⟩) (c21 : PySem.W.codeIn K cd21 "_law_pair_machine" = true) (k21 : PySem.W.keepIn K (.ref f21) = true)
    (a22 : PySem.W.nsIn K mainGlobals "_law_sides" = some (some (.ref f22))) (l22 : K.lookup f22 = some ⟨oc22, od22, .func (PySem.W.fnOf "_law_sides" "_law_sides" (defArgs s__law_sides) (defBody s__law_sides) (defScope s__law_sides) .none kV22 dc22 pm22 an22 cd22 ct22), sl22⟩) (c22 : PySem.W.codeIn K cd22 "_law_sides" = true) (k22 : PySem.W.keepIn K (.ref f22) = true)
    (a23 : PySem.W.nsIn K mainGlobals "_law_left" = some (some (.ref f23))) (l23 : K.lookup f23 = some ⟨oc23, od23, .func (PySem.W.fnOf "_law_left" "_law_left" (defArgs s__law_left) (defBody s__law_left) (defScope s__law_left) .none kV23 dc23 pm23 an23 cd23 ct23), sl23⟩) (c23 : PySem.W.codeIn K cd23 "_law_left" = true) (k23 : PySem.W.keepIn K (.ref f23) = true)
    (a24 : PySem.W.nsIn K mainGlobals "_law_of_length" = some (some (.ref f24))) (l24 : K.lookup f24 = some ⟨oc24, od24, .func (PySem.W.fnOf "_law_of_length" "_law_of_length" (defArgs s__law_of_length) (defBody s__law_of_length) (defScope s__law_of_length) .none kV24 dc24 pm24 an24 cd24 ct24), sl24⟩) (c24 : PySem.W.codeIn K cd24 "_law_of_length" = true) (k24 : PySem.W.keepIn K (.ref f24) = true)
    (a25 : PySem.W.nsIn K mainGlobals "_law_leds" = some (some (.ref f25))) (l25 : K.lookup f25 = some ⟨oc25, od25, .func (PySem.W.fnOf "_law_leds" "_law_leds" (defArgs s__law_leds) (defBody s__law_leds) (defScope s__law_leds) .none kV25 dc25 pm25 an25 cd25 ct25), sl25⟩) (c25 : PySem.W.codeIn K cd25 "_law_leds" = true) (k25 : PySem.W.keepIn K (.ref f25) = true)
    (a26 : PySem.W.nsIn K mainGlobals "_law_asked" = some (some (.ref f26))) (l26 : K.lookup f26 = some ⟨oc26, od26, .func (PySem.W.fnOf "_law_asked" "_law_asked" (defArgs s__law_asked) (defBody s__law_asked) (defScope s__law_asked) .none kV26 dc26 pm26 an26 cd26 ct26), sl26⟩) (c26 : PySem.W.codeIn K cd26 "_law_asked" = true) (k26 : PySem.W.keepIn K (.ref f26) = true)
    (a27 : PySem.W.nsIn K mainGlobals "_law_all" = some (some (.ref f27))) (l27 : K.lookup f27 = some ⟨oc27, od27, .func (PySem.W.fnOf "_law_all" "_law_all" (defArgs s__law_all) (defBody s__law_all) (defScope s__law_all) .none kV27 dc27 pm27 an27 cd27 ct27), sl27⟩) (c27 : PySem.W.codeIn K cd27 "_law_all" = true) (k27 : PySem.W.keepIn K (.ref f27) = true)
    (a28 : PySem.W.nsIn K mainGlobals "law" = some (some (.ref f28))) (l28 : K.lookup f28 = some ⟨oc28, od28, .func (PySem.W.fnOf "law" "law" (defArgs s_law) (defBody s_law) (defScope s_law) .none kV28 dc28 pm28 an28 cd28 ct28), sl28⟩) (c28 : PySem.W.codeIn K cd28 "law" = true) (k28 : PySem.W.keepIn K (.ref f28) = true)
    (pg_Machine : PySem.W.plainGet K c_Machine Str.empty = true)
    (hd_Machine : PySem.W.hasDictIn K c_Machine = true)
    (po_Machine : PySem.W.plainOver K c_Machine = true)
    (sa_Machine : PySem.W.findIn K (.ref c_Machine) "__setattr__" = some (some (.builtin "object.__setattr__")))
    (kc_Machine : PySem.W.keepIn K (.ref c_Machine) = true)
    (ha_Machine : PySem.W.findIn K (.ref c_Machine) "__class__" = some (some (.builtin "object.__class__")))
    (hn_Machine : PySem.W.specialIn K (.builtin "object.__class__") "__get__" = some (some (.builtin "getset_descriptor.__get__")))
    (htk_Machine : PySem.W.takesIn K (.builtin "object.__class__") = some true)
    (hm_Machine : PySem.W.mroIn K c_Machine (.type "object") = some true)
    (icc_Machine : PySem.W.isClsIn K c_Machine = true)
    (tcc_Machine : PySem.W.typeIn K (.ref c_Machine) = some (.type "type"))
    (mk_Machine : PySem.W.makesIn K c_Machine = true)
    (ktNoneType_Machine : PySem.W.subIn K (.type "NoneType") (.ref c_Machine) = some false)
    (nfNoneType_Machine : PySem.W.notFirst K c_Machine (.type "NoneType") = true)
    (ktbool_Machine : PySem.W.subIn K (.type "bool") (.ref c_Machine) = some false)
    (nfbool_Machine : PySem.W.notFirst K c_Machine (.type "bool") = true)
    (ktint_Machine : PySem.W.subIn K (.type "int") (.ref c_Machine) = some false)
    (nfint_Machine : PySem.W.notFirst K c_Machine (.type "int") = true)
    (ktstr_Machine : PySem.W.subIn K (.type "str") (.ref c_Machine) = some false)
    (nfstr_Machine : PySem.W.notFirst K c_Machine (.type "str") = true)
    (ktlist_Machine : PySem.W.subIn K (.type "list") (.ref c_Machine) = some false)
    (nflist_Machine : PySem.W.notFirst K c_Machine (.type "list") = true)
    (kttuple_Machine : PySem.W.subIn K (.type "tuple") (.ref c_Machine) = some false)
    (nftuple_Machine : PySem.W.notFirst K c_Machine (.type "tuple") = true)
    (na_Machine_ends : PySem.W.findIn K (.ref c_Machine) "ends" = some none)
    (na_Machine_letters : PySem.W.findIn K (.ref c_Machine) "letters" = some none)
    (na_Machine_table : PySem.W.findIn K (.ref c_Machine) "table" = some none)
    {c_InvalidMachine : Addr} (a_InvalidMachine : PySem.W.nsIn K mainGlobals "InvalidMachine" = some (some (.ref c_InvalidMachine)))
    {c_NormalError : Addr} (a_NormalError : PySem.W.nsIn K mainGlobals "NormalError" = some (some (.ref c_NormalError)))
    {c_InvalidWord : Addr} (a_InvalidWord : PySem.W.nsIn K mainGlobals "InvalidWord" = some (some (.ref c_InvalidWord)))
    (ec_InvalidMachine : PySem.W.subIn K (.ref c_InvalidMachine) (.type "BaseException") = some true) (tc_InvalidMachine : PySem.W.typeIn K (.ref c_InvalidMachine) = some (.type "type")) (ic_InvalidMachine : PySem.W.isClsIn K c_InvalidMachine = true)
    (ec_InvalidWord : PySem.W.subIn K (.ref c_InvalidWord) (.type "BaseException") = some true) (tc_InvalidWord : PySem.W.typeIn K (.ref c_InvalidWord) = some (.type "type")) (ic_InvalidWord : PySem.W.isClsIn K c_InvalidWord = true)
    {i_InvalidMachine cc_InvalidMachine cd_InvalidMachine N_InvalidMachine : Addr} {nm_InvalidMachine q_InvalidMachine fl_InvalidMachine : Str} {bs_InvalidMachine sub_InvalidMachine : List Value} {sn_InvalidMachine : List Str} {ab_InvalidMachine : Bool} {col_InvalidMachine : Option Bool} {dd_InvalidMachine odi_InvalidMachine ani_InvalidMachine cb_InvalidMachine db_InvalidMachine : Option Addr} {m0_InvalidMachine m1_InvalidMachine m2_InvalidMachine m3_InvalidMachine m5_InvalidMachine : Option Value} {sli_InvalidMachine ccs_InvalidMachine dsl_InvalidMachine : Array (Option Value)} {oi_InvalidMachine kvi_InvalidMachine dci_InvalidMachine pmi_InvalidMachine cti_InvalidMachine ca_InvalidMachine da_InvalidMachine : Value} {dv_InvalidMachine : Array Value} {ft_InvalidMachine : Tok} {cdd_InvalidMachine : ClassData}
    (xl_InvalidMachine : K.lookup c_InvalidMachine = some (excClassObj nm_InvalidMachine q_InvalidMachine c_InvalidMachine N_InvalidMachine bs_InvalidMachine [.ref c_NormalError, .type "ValueError", .type "Exception", .type "BaseException", .type "object"] true sn_InvalidMachine sub_InvalidMachine ab_InvalidMachine col_InvalidMachine dd_InvalidMachine m0_InvalidMachine m1_InvalidMachine m2_InvalidMachine m3_InvalidMachine m5_InvalidMachine "ValueError.__new__"))
    (sa_InvalidMachine : PySem.W.findIn K (.ref c_InvalidMachine) "__setattr__" = some (some (.builtin "object.__setattr__")))
    (ga_InvalidMachine : PySem.W.findIn K (.ref c_InvalidMachine) "__getattribute__" = some (some (.builtin "BaseException.__getattribute__")))
    (gg_InvalidMachine : PySem.W.findIn K (.ref c_InvalidMachine) "__getattr__" = some none)
    (in_InvalidMachine : PySem.W.findIn K (.ref c_InvalidMachine) "__init__" = some (some (.ref i_InvalidMachine)))
    (ti_InvalidMachine : PySem.W.typeIn K (.ref i_InvalidMachine) = some (.type "function"))
    (li_InvalidMachine : K.lookup i_InvalidMachine = some ⟨oi_InvalidMachine, odi_InvalidMachine, .func (PySem.W.fnX "__init__" "InvalidMachine.__init__" (defArgs s_InvalidMachine_init) (defBody s_InvalidMachine_init) (defScope s_InvalidMachine_init) [(("__class__" : Str), cc_InvalidMachine)] .none kvi_InvalidMachine dci_InvalidMachine pmi_InvalidMachine ani_InvalidMachine (.ref cd_InvalidMachine) cti_InvalidMachine), sli_InvalidMachine⟩)
    (ci_InvalidMachine : PySem.W.codeIn K (.ref cd_InvalidMachine) "InvalidMachine.__init__" = true)
    (cl_InvalidMachine : K.lookup cc_InvalidMachine = some ⟨ca_InvalidMachine, cb_InvalidMachine, .cell (some (.ref c_InvalidMachine)), ccs_InvalidMachine⟩)
    (cf_InvalidMachine : K.lookup cd_InvalidMachine = some ⟨da_InvalidMachine, db_InvalidMachine, .fields dv_InvalidMachine, dsl_InvalidMachine⟩)
    (cv_InvalidMachine : dv_InvalidMachine[2]? = some (.str fl_InvalidMachine ft_InvalidMachine))
    (fi_InvalidMachine : ((l.prog.main.file : Str) == fl_InvalidMachine) = true)
    (kc_InvalidMachine : PySem.W.keepIn K (.ref c_InvalidMachine) = true)
    (hd_InvalidMachine : PySem.W.hasDictIn K c_InvalidMachine = true)
    (cls_InvalidMachine : PySem.W.clsIn K c_InvalidMachine = some cdd_InvalidMachine)
    (mt_InvalidMachine : PySem.W.ks_superIn K c_InvalidMachine c_InvalidMachine "__init__" = some (some (.builtin "ValueError.__init__")))
    (sv_InvalidMachine : PySem.W.subIn K (.ref c_InvalidMachine) (.type "ValueError") = some true)
    (mr_InvalidMachine : PySem.W.mroIn K c_InvalidMachine (.ref c_InvalidMachine) = some true)
    (nf0_InvalidMachine : PySem.W.findIn K (.ref c_InvalidMachine) "part" = some none)
    (nf1_InvalidMachine : PySem.W.findIn K (.ref c_InvalidMachine) "place" = some none)
    {i_InvalidWord cc_InvalidWord cd_InvalidWord N_InvalidWord : Addr} {nm_InvalidWord q_InvalidWord fl_InvalidWord : Str} {bs_InvalidWord sub_InvalidWord : List Value} {sn_InvalidWord : List Str} {ab_InvalidWord : Bool} {col_InvalidWord : Option Bool} {dd_InvalidWord odi_InvalidWord ani_InvalidWord cb_InvalidWord db_InvalidWord : Option Addr} {m0_InvalidWord m1_InvalidWord m2_InvalidWord m3_InvalidWord m5_InvalidWord : Option Value} {sli_InvalidWord ccs_InvalidWord dsl_InvalidWord : Array (Option Value)} {oi_InvalidWord kvi_InvalidWord dci_InvalidWord pmi_InvalidWord cti_InvalidWord ca_InvalidWord da_InvalidWord : Value} {dv_InvalidWord : Array Value} {ft_InvalidWord : Tok} {cdd_InvalidWord : ClassData}
    (xl_InvalidWord : K.lookup c_InvalidWord = some (excClassObj nm_InvalidWord q_InvalidWord c_InvalidWord N_InvalidWord bs_InvalidWord [.ref c_NormalError, .type "ValueError", .type "Exception", .type "BaseException", .type "object"] true sn_InvalidWord sub_InvalidWord ab_InvalidWord col_InvalidWord dd_InvalidWord m0_InvalidWord m1_InvalidWord m2_InvalidWord m3_InvalidWord m5_InvalidWord "ValueError.__new__"))
    (sa_InvalidWord : PySem.W.findIn K (.ref c_InvalidWord) "__setattr__" = some (some (.builtin "object.__setattr__")))
    (ga_InvalidWord : PySem.W.findIn K (.ref c_InvalidWord) "__getattribute__" = some (some (.builtin "BaseException.__getattribute__")))
    (gg_InvalidWord : PySem.W.findIn K (.ref c_InvalidWord) "__getattr__" = some none)
    (in_InvalidWord : PySem.W.findIn K (.ref c_InvalidWord) "__init__" = some (some (.ref i_InvalidWord)))
    (ti_InvalidWord : PySem.W.typeIn K (.ref i_InvalidWord) = some (.type "function"))
    (li_InvalidWord : K.lookup i_InvalidWord = some ⟨oi_InvalidWord, odi_InvalidWord, .func (PySem.W.fnX "__init__" "InvalidWord.__init__" (defArgs s_InvalidWord_init) (defBody s_InvalidWord_init) (defScope s_InvalidWord_init) [(("__class__" : Str), cc_InvalidWord)] .none kvi_InvalidWord dci_InvalidWord pmi_InvalidWord ani_InvalidWord (.ref cd_InvalidWord) cti_InvalidWord), sli_InvalidWord⟩)
    (ci_InvalidWord : PySem.W.codeIn K (.ref cd_InvalidWord) "InvalidWord.__init__" = true)
    (cl_InvalidWord : K.lookup cc_InvalidWord = some ⟨ca_InvalidWord, cb_InvalidWord, .cell (some (.ref c_InvalidWord)), ccs_InvalidWord⟩)
    (cf_InvalidWord : K.lookup cd_InvalidWord = some ⟨da_InvalidWord, db_InvalidWord, .fields dv_InvalidWord, dsl_InvalidWord⟩)
    (cv_InvalidWord : dv_InvalidWord[2]? = some (.str fl_InvalidWord ft_InvalidWord))
    (fi_InvalidWord : ((l.prog.main.file : Str) == fl_InvalidWord) = true)
    (kc_InvalidWord : PySem.W.keepIn K (.ref c_InvalidWord) = true)
    (hd_InvalidWord : PySem.W.hasDictIn K c_InvalidWord = true)
    (cls_InvalidWord : PySem.W.clsIn K c_InvalidWord = some cdd_InvalidWord)
    (mt_InvalidWord : PySem.W.ks_superIn K c_InvalidWord c_InvalidWord "__init__" = some (some (.builtin "ValueError.__init__")))
    (sv_InvalidWord : PySem.W.subIn K (.ref c_InvalidWord) (.type "ValueError") = some true)
    (mr_InvalidWord : PySem.W.mroIn K c_InvalidWord (.ref c_InvalidWord) = some true)
    (nf0_InvalidWord : PySem.W.findIn K (.ref c_InvalidWord) "value" = some none)
    (sup : PySem.W.nsIn K mainGlobals "super" = some none) (anyS : PySem.W.nsIn K cStatics "thirdparty.any" = some none) (top : (l.prog.main.scope.names.lookup ("super" : Str)).isSome = false)
    {t_MOST_LETTERS : Tok} (c_MOST_LETTERS : PySem.W.nsIn K mainGlobals "MOST_LETTERS" = some (some (.int (48) t_MOST_LETTERS)))
    (z_abs : PySem.W.nsIn K mainGlobals "abs" = some none)
    (z_all : PySem.W.nsIn K mainGlobals "all" = some none)
    (z_bool : PySem.W.nsIn K mainGlobals "bool" = some none)
    (z_int : PySem.W.nsIn K mainGlobals "int" = some none)
    (z_isinstance : PySem.W.nsIn K mainGlobals "isinstance" = some none)
    (z_len : PySem.W.nsIn K mainGlobals "len" = some none)
    (z_list : PySem.W.nsIn K mainGlobals "list" = some none)
    (z_max : PySem.W.nsIn K mainGlobals "max" = some none)
    (z_min : PySem.W.nsIn K mainGlobals "min" = some none)
    (z_range : PySem.W.nsIn K mainGlobals "range" = some none)
    (z_repr : PySem.W.nsIn K mainGlobals "repr" = some none)
    (z_reversed : PySem.W.nsIn K mainGlobals "reversed" = some none)
    (z_tuple : PySem.W.nsIn K mainGlobals "tuple" = some none)
    : ∃ (fd : FuncData) (F : FD), (∀ (s : Shared) (u : Value), BindsTo s fd ⟨[u], []⟩ [("script", u)]) ∧ (∀ base : Heap, K.In base → base.Ns mainGlobals mg → FnG l.prog w K mg base 11 fa fd ["script"] (spD K 1 F)) ∧ ∀ ns : List Int, ns.length ≤ 63 → ∃ S, F [.cell 0] [.rls (ns.map PV.int)] = .ok (.bl true) S := by
  have e := hfa.symm.trans (PySem.W.mg_of X G a28)
  cases e
  have F0 := fun_mk (st := s_is_whole) l0 c0 k0
  have b0 := F0.binds (ps := ["value"]) fun _ _ _ _ _ _ us hl => match us, hl with | [_], _ => rfl
  have F1 := fun_mk (st := s_is_number) l1 c1 k1
  have b1 := F1.binds (ps := ["value"]) fun _ _ _ _ _ _ us hl => match us, hl with | [_], _ => rfl
  have F2 := fun_mk (st := s_is_sequence) l2 c2 k2
  have b2 := F2.binds (ps := ["value"]) fun _ _ _ _ _ _ us hl => match us, hl with | [_], _ => rfl
  have F3 := fun_mk (st := s_first_fault) l3 c3 k3
  have b3 := F3.binds (ps := ["rights", "many"]) fun _ _ _ _ _ _ us hl => match us, hl with | [_, _], _ => rfl
  have F4 := fun_mk (st := s_is_word) l4 c4 k4
  have b4 := F4.binds (ps := ["value", "letters"]) fun _ _ _ _ _ _ us hl => match us, hl with | [_, _], _ => rfl
  have F5 := fun_mk (st := s__is_row) l5 c5 k5
  have b5 := F5.binds (ps := ["value", "letters", "states"]) fun _ _ _ _ _ _ us hl => match us, hl with | [_, _, _], _ => rfl
  have F6 := fun_mk (st := s__table_fault) l6 c6 k6
  have b6 := F6.binds (ps := ["letters", "table"]) fun _ _ _ _ _ _ us hl => match us, hl with | [_, _], _ => rfl
  have F7 := fun_mk (st := s__ends_fault) l7 c7 k7
  have b7 := F7.binds (ps := ["states", "ends"]) fun _ _ _ _ _ _ us hl => match us, hl with | [_, _], _ => rfl
  have F8 := fun_mk (st := s_pair_letter) l8 c8 k8
  have b8 := F8.binds (ps := ["letters", "x", "y"]) fun _ _ _ _ _ _ us hl => match us, hl with | [_, _, _], _ => rfl
  have F9 := fun_mk (st := s__endings) l9 c9 k9
  have b9 := F9.binds (ps := ["machine", "letters", "word"]) fun _ _ _ _ _ _ us hl => match us, hl with | [_, _, _], _ => rfl
  have F10 := fun_mk (st := s__longer_ways) l10 c10 k10
  have b10 := F10.binds (ps := ["machine", "letters", "word", "most", "ways", "met"]) fun _ _ _ _ _ _ us hl => match us, hl with | [_, _, _, _, _, _], _ => rfl
  have F11 := fun_mk (st := s__led) l11 c11 k11
  have b11 := F11.binds (ps := ["machine", "letters", "word", "most"]) fun _ _ _ _ _ _ us hl => match us, hl with | [_, _, _, _], _ => rfl
  have F12 := fun_mk (st := s_first_led) l12 c12 k12
  have b12 := F12.binds (ps := ["machine", "letters", "word"]) fun _ _ _ _ _ _ us hl => match us, hl with | [_, _, _], _ => rfl
  have F13 := fun_mk (st := s_second_led) l13 c13 k13
  have b13 := F13.binds (ps := ["machine", "letters", "word"]) fun _ _ _ _ _ _ us hl => match us, hl with | [_, _, _], _ => rfl
  have F14 := fun_mk (st := s__law_box) l14 c14 k14
  have b14 := F14.binds (ps := ["script"]) fun _ _ _ _ _ _ us hl => match us, hl with | [_], _ => rfl
  have F15 := fun_mk (st := s__law_draw) l15 c15 k15
  have b15 := F15.binds (ps := ["box", "limit"]) fun _ _ _ _ _ _ us hl => match us, hl with | [_, _], _ => rfl
  have F16 := fun_mk (st := s__law_word) l16 c16 k16
  have b16 := F16.binds (ps := ["box", "letters", "most"]) fun _ _ _ _ _ _ us hl => match us, hl with | [_, _, _], _ => rfl
  have F17 := fun_mk (st := s_Machine___init__) l17 c17 k17
  have b17 := F17.binds (ps := ["self", "letters", "table", "ends"]) fun _ _ _ _ _ _ us hl => match us, hl with | [_, _, _, _], _ => rfl
  have F18 := fun_mk (st := s__law_made) l18 c18 k18
  have b18 := F18.binds (ps := ["one"]) fun _ _ _ _ _ _ us hl => match us, hl with | [_], _ => rfl
  have F19 := fun_mk (st := s__law_is) l19 c19 k19
  have b19 := F19.binds (ps := ["told", "due"]) fun _ _ _ _ _ _ us hl => match us, hl with | [_, _], _ => rfl
  have F20 := fun_mk (st := s__law_phase) l20 c20 k20
  have b20 := F20.binds (ps := ["letters", "z"]) fun _ _ _ _ _ _ us hl => match us, hl with | [_, _], _ => rfl
  have F21 := fun_mk (st := s__law_pair_machine) l21 c21 k21
  have b21 := F21.binds (ps := ["box", "letters", "most"]) fun _ _ _ _ _ _ us hl => match us, hl with | [_, _, _], _ => rfl
  have F22 := fun_mk (st := s__law_sides) l22 c22 k22
  have b22 := F22.binds (ps := ["letters", "at", "length"]) fun _ _ _ _ _ _ us hl => match us, hl with | [_, _, _], _ => rfl
  have F23 := fun_mk (st := s__law_left) l23 c23 k23
  have b23 := F23.binds (ps := ["letters", "word", "at"]) fun _ _ _ _ _ _ us hl => match us, hl with | [_, _, _], _ => rfl
  have F24 := fun_mk (st := s__law_of_length) l24 c24 k24
  have b24 := F24.binds (ps := ["one", "letters", "word", "length"]) fun _ _ _ _ _ _ us hl => match us, hl with | [_, _, _, _], _ => rfl
  have F25 := fun_mk (st := s__law_leds) l25 c25 k25
  have b25 := F25.binds (ps := ["one", "letters", "word"]) fun _ _ _ _ _ _ us hl => match us, hl with | [_, _, _], _ => rfl
  have F26 := fun_mk (st := s__law_asked) l26 c26 k26
  have b26 := F26.binds (ps := ["box", "one", "letters"]) fun _ _ _ _ _ _ us hl => match us, hl with | [_, _, _], _ => rfl
  have F27 := fun_mk (st := s__law_all) l27 c27 k27
  have b27 := F27.binds (ps := ["script"]) fun _ _ _ _ _ _ us hl => match us, hl with | [_], _ => rfl
  have F28 := fun_mk (st := s_law) l28 c28 k28
  have b28 := F28.binds (ps := ["script"]) fun _ _ _ _ _ _ us hl => match us, hl with | [_], _ => rfl
  have Y_InvalidMachine : InitK K l.prog c_InvalidMachine i_InvalidMachine cc_InvalidMachine cd_InvalidMachine (⟨"__init__", "InvalidMachine.__init__", defArgs s_InvalidMachine_init, defBody s_InvalidMachine_init, defScope s_InvalidMachine_init, [(("__class__" : Str), cc_InvalidMachine)], cd_InvalidMachine⟩ : NdefX.NF) _ := { look := ⟨_, _, _, _, _, _, _, _, _, li_InvalidMachine, rfl⟩, code := ci_InvalidMachine, cdo := rfl, cl := rfl, cell := ⟨_, _, _, cl_InvalidMachine⟩, file := ⟨_, _, _, _, _, _, cf_InvalidMachine, cv_InvalidMachine, fi_InvalidMachine⟩, cls := ⟨_, cls_InvalidMachine⟩, sup := sup, any := anyS, meth := mt_InvalidMachine, subV := sv_InvalidMachine, subC := mr_InvalidMachine, top := top }
  have TT_InvalidMachine : OexC K c_InvalidMachine := ⟨⟨_, _, _, _, _, _, _, _, _, _, _, _, _, _, _, xl_InvalidMachine, rfl⟩, sa_InvalidMachine, ec_InvalidMachine, tc_InvalidMachine, kc_InvalidMachine⟩
  have xx_InvalidMachine : ∀ base : Heap, ExcK K l.prog w mg base "InvalidMachine" ["part", "place"] ["self", "part", "place"] xc_S c_InvalidMachine i_InvalidMachine _ := fun base => { g := PySem.W.mg_of X G a_InvalidMachine, cn := clsOf_of a_InvalidMachine, T := TT_InvalidMachine, iC := in_InvalidMachine, tI := ti_InvalidMachine, F := init2 [("self" : Str), "part", "place", "__class__"] rfl (by decide) Y_InvalidMachine TT_InvalidMachine (NdefX.nscope_by (sc := defScope s_InvalidMachine_init) (by decide +kernel)) nf0_InvalidMachine nf1_InvalidMachine rfl (PySem.W.mg_none_of X G sup) PyProof.Rows.Boot.«super» rfl ⟨_, rfl, rfl⟩ (fun _ _ _ _ _ => pe_joined (.cons pe_str (.cons (pe_fmt (pe_var (i := 1) rfl (.inl rfl))) (.cons pe_str (.cons (pe_fmt (pe_var (i := 2) rfl (.inl rfl))) .nil))))) (fun a y0 y1 H Q hc h => js_c 0 (Nat.le_refl _) fun _ e1 => js_v _ e1 rfl (hc _ (by simp)) fun _ e2 => js_c _ e2 fun _ e3 => js_v _ e3 rfl (hc _ (by simp)) fun _ e4 => js_nil fun _ => h _) rfl rfl rfl (by decide) (by decide) (by decide) (by decide) , b := Binds.all fun us hl => match us, hl with | [_, _, _], _ => rfl, xf := ⟨⟨ga_InvalidMachine, gg_InvalidMachine, ec_InvalidMachine, hd_InvalidMachine⟩, by simp only [List.forall_mem_cons]; exact ⟨nf0_InvalidMachine, nf1_InvalidMachine, by simp⟩⟩ }
  have Y_InvalidWord : InitK K l.prog c_InvalidWord i_InvalidWord cc_InvalidWord cd_InvalidWord (⟨"__init__", "InvalidWord.__init__", defArgs s_InvalidWord_init, defBody s_InvalidWord_init, defScope s_InvalidWord_init, [(("__class__" : Str), cc_InvalidWord)], cd_InvalidWord⟩ : NdefX.NF) _ := { look := ⟨_, _, _, _, _, _, _, _, _, li_InvalidWord, rfl⟩, code := ci_InvalidWord, cdo := rfl, cl := rfl, cell := ⟨_, _, _, cl_InvalidWord⟩, file := ⟨_, _, _, _, _, _, cf_InvalidWord, cv_InvalidWord, fi_InvalidWord⟩, cls := ⟨_, cls_InvalidWord⟩, sup := sup, any := anyS, meth := mt_InvalidWord, subV := sv_InvalidWord, subC := mr_InvalidWord, top := top }
  have TT_InvalidWord : OexC K c_InvalidWord := ⟨⟨_, _, _, _, _, _, _, _, _, _, _, _, _, _, _, xl_InvalidWord, rfl⟩, sa_InvalidWord, ec_InvalidWord, tc_InvalidWord, kc_InvalidWord⟩
  have xx_InvalidWord : ∀ base : Heap, ExcK K l.prog w mg base "InvalidWord" ["value"] ["self", "value"] xc_T c_InvalidWord i_InvalidWord _ := fun base => { g := PySem.W.mg_of X G a_InvalidWord, cn := clsOf_of a_InvalidWord, T := TT_InvalidWord, iC := in_InvalidWord, tI := ti_InvalidWord, F := init1 [("self" : Str), "value", "__class__"] rfl (by decide) Y_InvalidWord TT_InvalidWord (NdefX.nscope_by (sc := defScope s_InvalidWord_init) (by decide +kernel)) nf0_InvalidWord rfl (PySem.W.mg_none_of X G sup) PyProof.Rows.Boot.«super» rfl ⟨_, rfl, rfl⟩ (fun _ _ _ _ _ => pe_str) (fun a y0 H Q _ h => h _) rfl rfl (by decide) (by decide) , b := Binds.all fun us hl => match us, hl with | [_, _], _ => rfl, xf := ⟨⟨ga_InvalidWord, gg_InvalidWord, ec_InvalidWord, hd_InvalidWord⟩, by simp only [List.forall_mem_cons]; exact ⟨nf0_InvalidWord, by simp⟩⟩ }
  have T : ∀ base : Heap, TX l.prog w K mg base f0 _ f1 _ f2 _ f3 _ f4 _ f5 _ f6 _ f7 _ f8 _ f9 _ f10 _ f11 _ f12 _ f13 _ f14 _ f15 _ f16 _ f17 _ f18 _ f19 _ f20 _ f21 _ f22 _ f23 _ f24 _ f25 _ f26 _ f27 _ fa _ c_InvalidMachine i_InvalidMachine _ c_InvalidWord i_InvalidWord _  c_Machine := fun base => {
    o_Machine := ⟨clsOf_of ac_Machine, ⟨pg_Machine, hd_Machine, po_Machine, sa_Machine⟩, ha_Machine, hn_Machine, htk_Machine, hm_Machine, (by simp only [sixT, List.forall_mem_cons]; exact ⟨kit_no icc_Machine tcc_Machine ktNoneType_Machine, kit_no icc_Machine tcc_Machine ktbool_Machine, kit_no icc_Machine tcc_Machine ktint_Machine, kit_no icc_Machine tcc_Machine ktstr_Machine, kit_no icc_Machine tcc_Machine ktlist_Machine, kit_no icc_Machine tcc_Machine kttuple_Machine, by simp⟩), (by simp only [sixT, List.forall_mem_cons]; exact ⟨nfNoneType_Machine, nfbool_Machine, nfint_Machine, nfstr_Machine, nflist_Machine, nftuple_Machine, by simp⟩), kit_self⟩
    g_Machine := PySem.W.mg_of X G ac_Machine
    mk_Machine := ⟨mk_Machine, a17, i17, kc_Machine⟩
    na_Machine_ends := na_Machine_ends
    na_Machine_letters := na_Machine_letters
    na_Machine_table := na_Machine_table
    x_InvalidMachine := xx_InvalidMachine base
    x_InvalidWord := xx_InvalidWord base
    z_abs := PySem.W.mg_none_of X G z_abs
    z_all := PySem.W.mg_none_of X G z_all
    z_bool := PySem.W.mg_none_of X G z_bool
    z_int := PySem.W.mg_none_of X G z_int
    z_isinstance := PySem.W.mg_none_of X G z_isinstance
    z_len := PySem.W.mg_none_of X G z_len
    z_list := PySem.W.mg_none_of X G z_list
    z_max := PySem.W.mg_none_of X G z_max
    z_min := PySem.W.mg_none_of X G z_min
    z_range := PySem.W.mg_none_of X G z_range
    z_repr := PySem.W.mg_none_of X G z_repr
    z_reversed := PySem.W.mg_none_of X G z_reversed
    z_tuple := PySem.W.mg_none_of X G z_tuple
    c_MOST_LETTERS := ⟨_, PySem.W.mg_of X G c_MOST_LETTERS⟩
    d_is_whole := ⟨PySem.W.mg_of X G a0, F0, b0⟩
    d_is_number := ⟨PySem.W.mg_of X G a1, F1, b1⟩
    d_is_sequence := ⟨PySem.W.mg_of X G a2, F2, b2⟩
    d_first_fault := ⟨PySem.W.mg_of X G a3, F3, b3⟩
    d_is_word := ⟨PySem.W.mg_of X G a4, F4, b4⟩
    d__is_row := ⟨PySem.W.mg_of X G a5, F5, b5⟩
    d__table_fault := ⟨PySem.W.mg_of X G a6, F6, b6⟩
    d__ends_fault := ⟨PySem.W.mg_of X G a7, F7, b7⟩
    d_pair_letter := ⟨PySem.W.mg_of X G a8, F8, b8⟩
    d__endings := ⟨PySem.W.mg_of X G a9, F9, b9⟩
    d__longer_ways := ⟨PySem.W.mg_of X G a10, F10, b10⟩
    d__led := ⟨PySem.W.mg_of X G a11, F11, b11⟩
    d_first_led := ⟨PySem.W.mg_of X G a12, F12, b12⟩
    d_second_led := ⟨PySem.W.mg_of X G a13, F13, b13⟩
    d__law_box := ⟨PySem.W.mg_of X G a14, F14, b14⟩
    d__law_draw := ⟨PySem.W.mg_of X G a15, F15, b15⟩
    d__law_word := ⟨PySem.W.mg_of X G a16, F16, b16⟩
    d_Machine___init__ := ⟨F17, b17⟩
    d__law_made := ⟨PySem.W.mg_of X G a18, F18, b18⟩
    d__law_is := ⟨PySem.W.mg_of X G a19, F19, b19⟩
    d__law_phase := ⟨PySem.W.mg_of X G a20, F20, b20⟩
    d__law_pair_machine := ⟨PySem.W.mg_of X G a21, F21, b21⟩
    d__law_sides := ⟨PySem.W.mg_of X G a22, F22, b22⟩
    d__law_left := ⟨PySem.W.mg_of X G a23, F23, b23⟩
    d__law_of_length := ⟨PySem.W.mg_of X G a24, F24, b24⟩
    d__law_leds := ⟨PySem.W.mg_of X G a25, F25, b25⟩
    d__law_asked := ⟨PySem.W.mg_of X G a26, F26, b26⟩
    d__law_all := ⟨PySem.W.mg_of X G a27, F27, b27⟩
    d_law := ⟨PySem.W.mg_of X G a28, F28, b28⟩
    k_first_led_word_letters_machine := fun s ws h => match ws, h with | [_, _, _], _ => .of_eq rfl
    k_second_led_word_letters_machine := fun s ws h => match ws, h with | [_, _, _], _ => .of_eq rfl }
  exact ⟨_, F_law, fun s v => .of_eq rfl, fun base _ _ => ok_law (T base), fun ns hn => law_ends hn⟩
end KK
open PySem PySem.W PyProof.Rows
set_option maxHeartbeats 0 in
theorem PySem.Challenge.cw_normalwords_k19_first_and_second_led_holds : PySem.Challenge.rw_normalwords_k19_first_and_second_led.Holds := by
  w_on; o_law; k_head; (case hw => w_witness2)
  k_fill
  refine DL.walk_G (l := PySem.Challenge.rw_normalwords_k19_first_and_second_led) (n := 63) (k := 11) (x := "script") rfl (by decide) rfl ⟨rfl, by decide, by decide⟩ (fun w h Y => PySem.W.kIn_of Y) ?F
  case F =>
    intro w mg fa h KX G hmg
    refine' KK.all_mk KX G hmg ?ac_Machine ?a0 ?l0 ?c0 ?k0 ?a1 ?l1 ?c1 ?k1 ?a2 ?l2 ?c2 ?k2 ?a3 ?l3 ?c3 ?k3 ?a4 ?l4 ?c4 ?k4 ?a5 ?l5 ?c5 ?k5 ?a6 ?l6 ?c6 ?k6 ?a7 ?l7 ?c7 ?k7 ?a8 ?l8 ?c8 ?k8 ?a9 ?l9 ?c9 ?k9 ?a10 ?l10 ?c10 ?k10 ?a11 ?l11 ?c11 ?k11 ?a12 ?l12 ?c12 ?k12 ?a13 ?l13 ?c13 ?k13 ?a14 ?l14 ?c14 ?k14 ?a15 ?l15 ?c15 ?k15 ?a16 ?l16 ?c16 ?k16 ?a17 ?i17 ?l17 ?c17 ?k17 ?a18 ?l18 ?c18 ?k18 ?a19 ?l19 ?c19 ?k19 ?a20 ?l20 ?c20 ?k20 ?a21 ?l21 ?c21 ?k21 ?a22 ?l22 ?c22 ?k22 ?a23 ?l23 ?c23 ?k23 ?a24 ?l24 ?c24 ?k24 ?a25 ?l25 ?c25 ?k25 ?a26 ?l26 ?c26 ?k26 ?a27 ?l27 ?c27 ?k27 ?a28 ?l28 ?c28 ?k28 ?pg_Machine ?hd_Machine ?po_Machine ?sa_Machine ?kc_Machine ?ha_Machine ?hn_Machine ?htk_Machine ?hm_Machine ?icc_Machine ?tcc_Machine ?mk_Machine ?ktNoneType_Machine ?nfNoneType_Machine ?ktbool_Machine ?nfbool_Machine ?ktint_Machine ?nfint_Machine ?ktstr_Machine ?nfstr_Machine ?ktlist_Machine ?nflist_Machine ?kttuple_Machine ?nftuple_Machine ?na_Machine_ends ?na_Machine_letters ?na_Machine_table ?a_InvalidMachine ?a_NormalError ?a_InvalidWord ?ec_InvalidMachine ?tc_InvalidMachine ?ic_InvalidMachine ?ec_InvalidWord ?tc_InvalidWord ?ic_InvalidWord ?xl_InvalidMachine ?sa_InvalidMachine ?ga_InvalidMachine ?gg_InvalidMachine ?in_InvalidMachine ?ti_InvalidMachine ?li_InvalidMachine ?ci_InvalidMachine ?cl_InvalidMachine ?cf_InvalidMachine ?cv_InvalidMachine ?fi_InvalidMachine ?kc_InvalidMachine ?hd_InvalidMachine ?cls_InvalidMachine ?mt_InvalidMachine ?sv_InvalidMachine ?mr_InvalidMachine ?nf0_InvalidMachine ?nf1_InvalidMachine ?xl_InvalidWord ?sa_InvalidWord ?ga_InvalidWord ?gg_InvalidWord ?in_InvalidWord ?ti_InvalidWord ?li_InvalidWord ?ci_InvalidWord ?cl_InvalidWord ?cf_InvalidWord ?cv_InvalidWord ?fi_InvalidWord ?kc_InvalidWord ?hd_InvalidWord ?cls_InvalidWord ?mt_InvalidWord ?sv_InvalidWord ?mr_InvalidWord ?nf0_InvalidWord ?sup ?anyS ?top ?c_MOST_LETTERS ?z_abs ?z_all ?z_bool ?z_int ?z_isinstance ?z_len ?z_list ?z_max ?z_min ?z_range ?z_repr ?z_reversed ?z_tuple
    (case ac_Machine => k_is); (case a0 => k_is); (case l0 => k_is); (case c0 => k_is); (case k0 => k_is); (case a1 => k_is); (case l1 => k_is); (case c1 => k_is); (case k1 => k_is); (case a2 => k_is); (case l2 => k_is); (case c2 => k_is); (case k2 => k_is); (case a3 => k_is); (case l3 => k_is); (case c3 => k_is); (case k3 => k_is); (case a4 => k_is); (case l4 => k_is); (case c4 => k_is); (case k4 => k_is); (case a5 => k_is); (case l5 => k_is); (case c5 => k_is); (case k5 => k_is); (case a6 => k_is); (case l6 => k_is); (case c6 => k_is); (case k6 => k_is); (case a7 => k_is); (case l7 => k_is); (case c7 => k_is); (case k7 => k_is); (case a8 => k_is); (case l8 => k_is); (case c8 => k_is); (case k8 => k_is); (case a9 => k_is); (case l9 => k_is); (case c9 => k_is); (case k9 => k_is); (case a10 => k_is); (case l10 => k_is); (case c10 => k_is); (case k10 => k_is); (case a11 => k_is); (case l11 => k_is); (case c11 => k_is); (case k11 => k_is); (case a12 => k_is); (case l12 => k_is); (case c12 => k_is); (case k12 => k_is); (case a13 => k_is); (case l13 => k_is); (case c13 => k_is); (case k13 => k_is); (case a14 => k_is); (case l14 => k_is); (case c14 => k_is); (case k14 => k_is); (case a15 => k_is); (case l15 => k_is); (case c15 => k_is); (case k15 => k_is); (case a16 => k_is); (case l16 => k_is); (case c16 => k_is); (case k16 => k_is); (case a17 => k_is); (case i17 => k_is); (case l17 => k_is); (case c17 => k_is); (case k17 => k_is); (case a18 => k_is); (case l18 => k_is); (case c18 => k_is); (case k18 => k_is); (case a19 => k_is); (case l19 => k_is); (case c19 => k_is); (case k19 => k_is); (case a20 => k_is); (case l20 => k_is); (case c20 => k_is); (case k20 => k_is); (case a21 => k_is); (case l21 => k_is); (case c21 => k_is); (case k21 => k_is); (case a22 => k_is); (case l22 => k_is); (case c22 => k_is); (case k22 => k_is); (case a23 => k_is); (case l23 => k_is); (case c23 => k_is); (case k23 => k_is); (case a24 => k_is); (case l24 => k_is); (case c24 => k_is); (case k24 => k_is); (case a25 => k_is); (case l25 => k_is); (case c25 => k_is); (case k25 => k_is); (case a26 => k_is); (case l26 => k_is); (case c26 => k_is); (case k26 => k_is); (case a27 => k_is); (case l27 => k_is); (case c27 => k_is); (case k27 => k_is); (case a28 => k_is); (case l28 => k_is); (case c28 => k_is); (case k28 => k_is); (case pg_Machine => k_is); (case hd_Machine => k_is); (case po_Machine => k_is); (case sa_Machine => k_is); (case kc_Machine => k_is); (case ha_Machine => k_is); (case hn_Machine => k_is); (case htk_Machine => k_is); (case hm_Machine => k_is); (case icc_Machine => k_is); (case tcc_Machine => k_is); (case mk_Machine => k_is); (case ktNoneType_Machine => k_is); (case nfNoneType_Machine => k_is); (case ktbool_Machine => k_is); (case nfbool_Machine => k_is); (case ktint_Machine => k_is); (case nfint_Machine => k_is); (case ktstr_Machine => k_is); (case nfstr_Machine => k_is); (case ktlist_Machine => k_is); (case nflist_Machine => k_is); (case kttuple_Machine => k_is); (case nftuple_Machine => k_is); (case na_Machine_ends => k_is); (case na_Machine_letters => k_is); (case na_Machine_table => k_is); (case a_InvalidMachine => k_is); (case a_NormalError => k_is); (case a_InvalidWord => k_is); (case ec_InvalidMachine => k_is); (case tc_InvalidMachine => k_is); (case ic_InvalidMachine => k_is); (case ec_InvalidWord => k_is); (case tc_InvalidWord => k_is); (case ic_InvalidWord => k_is); (case xl_InvalidMachine => k_is); (case sa_InvalidMachine => k_is); (case ga_InvalidMachine => k_is); (case gg_InvalidMachine => k_is); (case in_InvalidMachine => k_is); (case ti_InvalidMachine => k_is); (case li_InvalidMachine => k_is); (case ci_InvalidMachine => k_is); (case cl_InvalidMachine => k_is); (case cf_InvalidMachine => k_is); (case cv_InvalidMachine => rfl); (case fi_InvalidMachine => first | rfl | decide +kernel | kernel_rfl); (case kc_InvalidMachine => k_is); (case hd_InvalidMachine => k_is); (case cls_InvalidMachine => k_is); (case mt_InvalidMachine => ks_is); (case sv_InvalidMachine => k_is); (case mr_InvalidMachine => k_is); (case nf0_InvalidMachine => k_is); (case nf1_InvalidMachine => k_is); (case xl_InvalidWord => k_is); (case sa_InvalidWord => k_is); (case ga_InvalidWord => k_is); (case gg_InvalidWord => k_is); (case in_InvalidWord => k_is); (case ti_InvalidWord => k_is); (case li_InvalidWord => k_is); (case ci_InvalidWord => k_is); (case cl_InvalidWord => k_is); (case cf_InvalidWord => k_is); (case cv_InvalidWord => rfl); (case fi_InvalidWord => first | rfl | decide +kernel | kernel_rfl); (case kc_InvalidWord => k_is); (case hd_InvalidWord => k_is); (case cls_InvalidWord => k_is); (case mt_InvalidWord => ks_is); (case sv_InvalidWord => k_is); (case mr_InvalidWord => k_is); (case nf0_InvalidWord => k_is); (case sup => k_is); (case anyS => k_is); (case top => first | rfl | decide +kernel | kernel_rfl); (case c_MOST_LETTERS => k_is); (case z_abs => k_is); (case z_all => k_is); (case z_bool => k_is); (case z_int => k_is); (case z_isinstance => k_is); (case z_len => k_is); (case z_list => k_is); (case z_max => k_is); (case z_min => k_is); (case z_range => k_is); (case z_repr => k_is); (case z_reversed => k_is); (case z_tuple => k_is)

