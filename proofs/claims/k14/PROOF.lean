import PyProof.Rows.All
import HandS.ForMost
import HandS.ForExc
import HandS.Codes
import HandS.Conv
import HandS.IsInst
import HandS.TupLe
import HandS.TupAny
import HandS.TupMul
import HandS.Defaults
import KE.LtData
import HandS.Deep
import HandS.Ends
import KE.DatumOrd
import HandS.Rev
import HandS.RaiseMore
import HandS.Text
import HandS.Zip
import PySem.Challenge.RW_normalwords_k14_side_by_side_and_back
set_option Elab.async false
set_option linter.all false
set_option maxRecDepth 100000
set_option maxHeartbeats 4000000
/-! DLa: a deterministic reading over the hand layer. PV values, a store of cells; how they stand in the abstract heap. -/
namespace DL
open PySem PySem.Spec PyProof.Rows L2

/-- values: a tuple by its items, a mutable object by its number in the store -/
inductive PV where
  | non | bl (b : Bool) | int (i : Int) | str (x : Str) | tup (xs : List PV) | cell (n : Nat) | con (v : V)
inductive Cell where
  | lst (xs : List PV)
  | rls (xs : List PV)
  | ins (C : Addr) (fs : List (Str × PV))
abbrev Store := List Cell
structure Exn where
  cls : Value
  fs : List (Str × PV)
inductive Out (β : Type) where
  | ok (b : β) (S : Store)
  | ex (c : Exn) (S : Store)
  | bad
abbrev M (β : Type) := Store → Out β
def Out.bind {β γ : Type} (o : Out β) (k : β → M γ) : Out γ := match o with
  | .ok b S => k b S
  | .ex c S => .ex c S
  | .bad => .bad
def M.bind {β γ : Type} (m : M β) (k : β → M γ) : M γ := fun S => (m S).bind k
def M.ret {β : Type} (b : β) : M β := fun S => .ok b S
def M.bad {β : Type} : M β := fun _ => .bad
instance : Monad M where
  pure := M.ret
  bind := M.bind
abbrev PEnv := List (Option PV)

/-- a tuple that is tracked, or stands in the written part -/
def ST (K : PySem.W.Frag) (H : Hp) (a : Addr) (vs : List V) : Prop := H a = some (.tup vs) ∨
  ∃ (o : Obj) (its : Array Value) (n : Nat), K.lookup a = some o ∧ o.cls = .type "tuple" ∧ o.data = .seq its n ∧ its.size ≤ sizeLine ∧ Vals vs its.toList
theorem ST.sq {K : PySem.W.Frag} {H : Hp} {a : Addr} {vs : List V} (h : ST K H a vs) : SqT K H a vs := by
  rcases h with h | h
  · exact .inl (.inl h)
  · exact .inr h
mutual
inductive Rep (K : PySem.W.Frag) (α : List Addr) (H : Hp) : PV → V → Prop
  | non : Rep K α H .non .non
  | bl (b : Bool) : Rep K α H (.bl b) (.bl b)
  | int (i : Int) : Rep K α H (.int i) (.int i)
  | str (x : Str) : Rep K α H (.str x) (.str x)
  | tup {a : Addr} {vs : List V} {xs : List PV} : ST K H a vs → Reps K α H xs vs → Rep K α H (.tup xs) (.ref a)
  | cell {n : Nat} {a : Addr} : α[n]? = some a → Rep K α H (.cell n) (.ref a)
  | con (v : V) : Rep K α H (.con v) v
inductive Reps (K : PySem.W.Frag) (α : List Addr) (H : Hp) : List PV → List V → Prop
  | nil : Reps K α H [] []
  | cons {x : PV} {v : V} {xs : List PV} {vs : List V} : Rep K α H x v → Reps K α H xs vs → Reps K α H (x :: xs) (v :: vs)
end

/-- tuples and locked objects stay -/
structure Grow (H H' : Hp) : Prop where
  tup : ∀ a xs, H a = some (.tup xs) → H' a = some (.tup xs)
  frz : ∀ a o u, H a = some (.frz o u) → H' a = some (.frz o u)
theorem Grow.refl (H : Hp) : Grow H H := ⟨fun _ _ h => h, fun _ _ _ h => h⟩
theorem Grow.trans {H H1 H2 : Hp} (a : Grow H H1) (b : Grow H1 H2) : Grow H H2 := ⟨fun _ _ h => b.tup _ _ (a.tup _ _ h), fun _ _ _ h => b.frz _ _ _ (a.frz _ _ _ h)⟩
theorem Grow.new {H : Hp} {p : Addr} {o : HO} (h : H p = none) : Grow H (upd H p o) :=
  ⟨fun a xs e => by rw [upd_ne (ne_of_none e h)]; exact e, fun a o u e => by rw [upd_ne (ne_of_none e h)]; exact e⟩
theorem Grow.sT {K : PySem.W.Frag} {H H' : Hp} (g : Grow H H') {a : Addr} {vs : List V} (h : ST K H a vs) : ST K H' a vs := by
  rcases h with h | h
  · exact .inl (g.tup _ _ h)
  · exact .inr h
def Le (α α' : List Addr) : Prop := ∀ (n : Nat) (a : Addr), α[n]? = some a → α'[n]? = some a
theorem Le.refl (α : List Addr) : Le α α := fun _ _ h => h
theorem Le.trans {α β γ : List Addr} (a : Le α β) (b : Le β γ) : Le α γ := fun n x h => b n x (a n x h)
theorem Le.snoc (α : List Addr) (p : Addr) : Le α (α ++ [p]) := fun n a h => by
  have hl := (List.getElem?_eq_some_iff.mp h).1
  rw [List.getElem?_append_left hl]; exact h

section
variable {K : PySem.W.Frag} {α α' : List Addr} {H H' : Hp}
mutual
theorem Rep.mono (g : Grow H H') (l : Le α α') : ∀ (x : PV) (v : V), Rep K α H x v → Rep K α' H' x v
  | .non, _, h => by cases h; exact .non
  | .bl b, _, h => by cases h; exact .bl b
  | .int i, _, h => by cases h; exact .int i
  | .str x, _, h => by cases h; exact .str x
  | .tup xs, _, h => by
    cases h with
    | tup hs hr => exact .tup (g.sT hs) (Reps.mono g l xs _ hr)
  | .cell n, _, h => by
    cases h with
    | cell e => exact .cell (l _ _ e)
  | .con u, _, h => by cases h; exact .con u
theorem Reps.mono (g : Grow H H') (l : Le α α') : ∀ (xs : List PV) (vs : List V), Reps K α H xs vs → Reps K α' H' xs vs
  | [], _, h => by cases h; exact .nil
  | x :: xs, _, h => by
    cases h with
    | cons h1 h2 => exact .cons (Rep.mono g l x _ h1) (Reps.mono g l xs _ h2)
end
theorem Reps.length : ∀ {xs : List PV} {vs : List V}, Reps K α H xs vs → xs.length = vs.length
  | _, _, .nil => rfl
  | _, _, .cons _ h => by rw [List.length_cons, List.length_cons, h.length]
theorem Reps.get : ∀ {xs : List PV} {vs : List V}, Reps K α H xs vs → ∀ {i : Nat} {x : PV}, xs[i]? = some x → ∃ v, vs[i]? = some v ∧ Rep K α H x v
  | _, _, .nil, i, x, e => by simp at e
  | _, _, .cons h t, 0, x, e => by simp at e; subst e; exact ⟨_, rfl, h⟩
  | _, _, .cons h t, i + 1, x, e => by simpa using t.get (i := i) (x := x) (by simpa using e)
theorem Reps.get' : ∀ {xs : List PV} {vs : List V}, Reps K α H xs vs → ∀ {i : Nat} {v : V}, vs[i]? = some v → ∃ x, xs[i]? = some x ∧ Rep K α H x v
  | _, _, .nil, i, x, e => by simp at e
  | _, _, .cons h t, 0, x, e => by simp at e; subst e; exact ⟨_, rfl, h⟩
  | _, _, .cons h t, i + 1, x, e => by simpa using t.get' (i := i) (v := x) (by simpa using e)
theorem Reps.append : ∀ {xs ys : List PV} {vs ws : List V}, Reps K α H xs vs → Reps K α H ys ws → Reps K α H (xs ++ ys) (vs ++ ws)
  | _, _, _, _, .nil, h => h
  | _, _, _, _, .cons a t, h => .cons a (t.append h)
theorem Reps.take : ∀ {xs : List PV} {vs : List V} (n : Nat), Reps K α H xs vs → Reps K α H (xs.take n) (vs.take n)
  | _, _, 0, _ => .nil
  | _, _, _ + 1, .nil => .nil
  | _, _, n + 1, .cons a t => .cons a (t.take n)
theorem Reps.drop : ∀ {xs : List PV} {vs : List V} (n : Nat), Reps K α H xs vs → Reps K α H (xs.drop n) (vs.drop n)
  | _, _, 0, h => h
  | _, _, _ + 1, .nil => .nil
  | _, _, n + 1, .cons a t => t.drop n
theorem Reps.set {x : PV} {v : V} (r : Rep K α H x v) : ∀ {xs : List PV} {vs : List V} (n : Nat), Reps K α H xs vs → Reps K α H (xs.set n x) (vs.set n v)
  | _, _, _, .nil => .nil
  | _, _, 0, .cons _ t => .cons r t
  | _, _, n + 1, .cons a t => .cons a (t.set r n)
theorem Reps.ints : ∀ (ns : List Int), Reps K α H (ns.map PV.int) (ns.map V.int)
  | [] => .nil
  | n :: ns => .cons (.int n) (Reps.ints ns)
theorem Reps.dropLast : ∀ {xs : List PV} {vs : List V}, Reps K α H xs vs → Reps K α H xs.dropLast vs.dropLast := fun {xs vs} h => by
  rw [List.dropLast_eq_take, List.dropLast_eq_take, h.length]; exact h.take _
theorem Reps.reverse : ∀ {xs : List PV} {vs : List V}, Reps K α H xs vs → Reps K α H xs.reverse vs.reverse
  | _, _, .nil => .nil
  | _, _, .cons a t => by rw [List.reverse_cons, List.reverse_cons]; exact t.reverse.append (.cons a .nil)
end

/-! ### fields -/
def RepF (K : PySem.W.Frag) (α : List Addr) (H : Hp) : List (Str × PV) → List (Str × V) → Prop
  | [], fs => fs = []
  | (n, d) :: r, fs => ∃ v t, fs = (n, v) :: t ∧ Rep K α H d v ∧ RepF K α H r t
theorem RepF.mono {K : PySem.W.Frag} {α α' : List Addr} {H H' : Hp} (g : Grow H H') (l : Le α α') : ∀ {fs : List (Str × PV)} {gs : List (Str × V)}, RepF K α H fs gs → RepF K α' H' fs gs
  | [], _, h => h
  | (n, d) :: r, _, ⟨v, t, e, h, h2⟩ => ⟨v, t, e, h.mono g l, RepF.mono g l h2⟩
theorem RepF.look {K : PySem.W.Frag} {α : List Addr} {H : Hp} {f : Str} {d : PV} : ∀ {fs : List (Str × PV)} {gs : List (Str × V)}, RepF K α H fs gs → fs.lookup f = some d → ∃ v, gs.lookup f = some v ∧ Rep K α H d v
  | [], _, _, e => by simp at e
  | (n, x) :: r, _, ⟨v, t, e, h, h2⟩, q => by
    subst e
    rw [List.lookup_cons] at q ⊢
    cases z : f == n with
    | true => rw [z] at q; cases q; exact ⟨v, rfl, h⟩
    | false => rw [z] at q; exact h2.look q
theorem RepF.nolook {K : PySem.W.Frag} {α : List Addr} {H : Hp} {f : Str} : ∀ {fs : List (Str × PV)} {gs : List (Str × V)}, RepF K α H fs gs → fs.lookup f = none → gs.lookup f = none
  | [], _, h, _ => by cases h; rfl
  | (n, x) :: r, _, ⟨v, t, e, h, h2⟩, q => by
    subst e
    rw [List.lookup_cons] at q ⊢
    cases z : f == n with
    | true => rw [z] at q; cases q
    | false => rw [z] at q; exact h2.nolook q
theorem RepF.length {K : PySem.W.Frag} {α : List Addr} {H : Hp} : ∀ {fs : List (Str × PV)} {gs : List (Str × V)}, RepF K α H fs gs → fs.length = gs.length
  | [], _, h => by cases h; rfl
  | (n, x) :: r, _, ⟨v, t, e, h, h2⟩ => by subst e; rw [List.length_cons, List.length_cons, h2.length]

/-! ### the store in the heap -/
def Cell.mut : Cell → Bool
  | .rls _ => false
  | _ => true
def CellOk (K : PySem.W.Frag) (α : List Addr) (H : Hp) (a : Addr) : Cell → Prop
  | .lst xs => ∃ vs, H a = some (.lst vs) ∧ Reps K α H xs vs
  | .rls xs => ∃ vs, ((∃ o, H a = some (.frz o (.lst vs))) ∨ ∃ (o : Obj) (its : Array Value) (n : Nat), K.lookup a = some o ∧ o.cls = .type "list" ∧ o.dict = none ∧ o.data = .seq its n ∧ its.size ≤ sizeLine ∧ Vals vs its.toList) ∧ Reps K α H xs vs
  | .ins C fs => ∃ dx gs, H a = some (.ins C dx gs) ∧ RepF K α H fs gs
structure StoreOk (K : PySem.W.Frag) (α : List Addr) (S : Store) (H : Hp) : Prop where
  len : α.length = S.length
  inj : ∀ (i j : Nat) (a : Addr) (c d : Cell), α[i]? = some a → α[j]? = some a → S[i]? = some c → S[j]? = some d → c.mut = true → d.mut = true → i = j
  ok : ∀ (i : Nat) (a : Addr) (c : Cell), α[i]? = some a → S[i]? = some c → CellOk K α H a c
theorem CellOk.there {K : PySem.W.Frag} {α : List Addr} {H : Hp} {a : Addr} {c : Cell} (h : CellOk K α H a c) (m : c.mut = true) : H a ≠ none := by
  cases c with
  | lst xs => obtain ⟨vs, e, _⟩ := h; rw [e]; simp
  | rls xs => cases m
  | ins C fs => obtain ⟨dx, gs, e, _⟩ := h; rw [e]; simp
/-- a cell whose object stands as it stood -/
theorem CellOk.stay {K : PySem.W.Frag} {α α' : List Addr} {H H' : Hp} {a : Addr} {c : Cell} (g : Grow H H') (l : Le α α') (h : CellOk K α H a c) (e : c.mut = true → H' a = H a) : CellOk K α' H' a c := by
  cases c with
  | lst xs => obtain ⟨vs, e1, r⟩ := h; exact ⟨vs, (e rfl).trans e1, r.mono g l⟩
  | rls xs =>
    obtain ⟨vs, e1, r⟩ := h
    refine ⟨vs, ?_, r.mono g l⟩
    rcases e1 with ⟨o, e1⟩ | e1
    · exact .inl ⟨o, g.frz _ _ _ e1⟩
    · exact .inr e1
  | ins C fs => obtain ⟨dx, gs, e1, r⟩ := h; exact ⟨dx, gs, (e rfl).trans e1, r.mono g l⟩
structure Mv (K : PySem.W.Frag) (α : List Addr) (H : Hp) (α' : List Addr) (S' : Store) (H' : Hp) : Prop where
  grow : Grow H H'
  le : Le α α'
  ok : StoreOk K α' S' H'
section
variable {K : PySem.W.Frag} {α : List Addr} {H : Hp} {S : Store}
theorem Mv.refl (o : StoreOk K α S H) : Mv K α H α S H := ⟨.refl H, .refl α, o⟩
theorem Mv.trans {α1 α2 : List Addr} {H1 H2 : Hp} {S1 S2 : Store} (a : Mv K α H α1 S1 H1) (b : Mv K α1 H1 α2 S2 H2) : Mv K α H α2 S2 H2 := ⟨a.grow.trans b.grow, a.le.trans b.le, b.ok⟩
theorem StoreOk.at (o : StoreOk K α S H) {i : Nat} {c : Cell} (e : S[i]? = some c) : ∃ a, α[i]? = some a ∧ CellOk K α H a c := by
  have h := (List.getElem?_eq_some_iff.mp e).1
  have h2 : i < α.length := by rw [o.len]; exact h
  exact ⟨α[i], List.getElem?_eq_getElem h2, o.ok _ _ _ (List.getElem?_eq_getElem h2) e⟩
/-- an object is laid that is no cell -/
theorem StoreOk.new (o : StoreOk K α S H) {p : Addr} {u : HO} (h : H p = none) : StoreOk K α S (upd H p u) :=
  ⟨o.len, o.inj, fun i a c e1 e2 => (o.ok i a c e1 e2).stay (.new h) (.refl α) fun m => upd_ne fun z => (o.ok i a c e1 e2).there m (z ▸ h)⟩
theorem Mv.new (o : StoreOk K α S H) {p : Addr} {u : HO} (h : H p = none) : Mv K α H α S (upd H p u) := ⟨.new h, .refl α, o.new h⟩
/-- a new cell -/
theorem Mv.cell (o : StoreOk K α S H) {p : Addr} {u : HO} {c : Cell} (h : H p = none) (k : CellOk K (α ++ [p]) (upd H p u) p c) : Mv K α H (α ++ [p]) (S ++ [c]) (upd H p u) := by
  have key : ∀ {i : Nat} {a : Addr} {d : Cell}, (α ++ [p])[i]? = some a → (S ++ [c])[i]? = some d → (i < S.length ∧ α[i]? = some a ∧ S[i]? = some d) ∨ (i = S.length ∧ a = p ∧ d = c) := by
    intro i a d e1 e2
    by_cases hi : i < S.length
    · rw [List.getElem?_append_left hi] at e2
      rw [List.getElem?_append_left (by rw [o.len]; exact hi)] at e1
      exact .inl ⟨hi, e1, e2⟩
    · have hi2 := (List.getElem?_eq_some_iff.mp e2).1
      rw [List.length_append, List.length_singleton] at hi2
      have e : i = S.length := by omega
      subst e
      rw [List.getElem?_append_right (Nat.le_refl _)] at e2
      rw [List.getElem?_append_right (by rw [o.len]; exact Nat.le_refl _), o.len] at e1
      simp at e1 e2
      exact .inr ⟨rfl, e1.symm, e2.symm⟩
  refine ⟨.new h, .snoc α p, ⟨by rw [List.length_append, List.length_append, o.len]; rfl, fun i j a c1 c2 e1 e2 e3 e4 m1 m2 => ?_, fun i a d e1 e2 => ?_⟩⟩
  · rcases key e1 e3 with ⟨h1, f1, f2⟩ | ⟨h1, f1, f2⟩
    · rcases key e2 e4 with ⟨h2, g1, g2⟩ | ⟨h2, g1, g2⟩
      · exact o.inj _ _ _ _ _ f1 g1 f2 g2 m1 m2
      · exact absurd h (g1 ▸ (o.ok _ _ _ f1 f2).there m1)
    · rcases key e2 e4 with ⟨h2, g1, g2⟩ | ⟨h2, g1, g2⟩
      · exact absurd h (f1 ▸ (o.ok _ _ _ g1 g2).there m2)
      · exact h1.trans h2.symm
  · rcases key e1 e2 with ⟨h1, f1, f2⟩ | ⟨h1, f1, f2⟩
    · exact (o.ok _ _ _ f1 f2).stay (.new h) (.snoc α p) fun m => upd_ne fun z => (o.ok _ _ _ f1 f2).there m (z ▸ h)
    · subst f1; subst f2; exact k
/-- a cell is written -/
theorem Mv.put (o : StoreOk K α S H) {i : Nat} {a : Addr} {c c' : Cell} {u : HO} (e1 : α[i]? = some a) (e2 : S[i]? = some c) (m : c.mut = true) (g : Grow H (upd H a u)) (m' : c'.mut = true) (k : CellOk K α (upd H a u) a c') : Mv K α H α (S.set i c') (upd H a u) := by
  have hi := (List.getElem?_eq_some_iff.mp e2).1
  have key : ∀ {j : Nat} {d : Cell}, (S.set i c')[j]? = some d → (j = i ∧ d = c') ∨ (j ≠ i ∧ S[j]? = some d) := by
    intro j d q
    by_cases hj : j = i
    · subst hj
      rw [List.getElem?_set_self hi] at q
      exact .inl ⟨rfl, (Option.some.inj q).symm⟩
    · rw [List.getElem?_set_ne (Ne.symm hj)] at q
      exact .inr ⟨hj, q⟩
  refine ⟨g, .refl α, ⟨by rw [List.length_set]; exact o.len, fun x y b c1 c2 f1 f2 f3 f4 m1 m2 => ?_, fun j b d f1 f2 => ?_⟩⟩
  · rcases key f3 with ⟨h1, q1⟩ | ⟨h1, q1⟩
    · rcases key f4 with ⟨h2, q2⟩ | ⟨h2, q2⟩
      · rw [h1, h2]
      · subst h1
        exact o.inj _ _ _ _ _ f1 f2 e2 q2 m m2
    · rcases key f4 with ⟨h2, q2⟩ | ⟨h2, q2⟩
      · subst h2
        exact o.inj _ _ _ _ _ f1 f2 q1 e2 m1 m
      · exact o.inj _ _ _ _ _ f1 f2 q1 q2 m1 m2
  · rcases key f2 with ⟨h1, q1⟩ | ⟨h1, q1⟩
    · subst h1; subst q1
      rw [e1] at f1
      have z := Option.some.inj f1
      subst z
      exact k
    · refine (o.ok _ _ _ f1 q1).stay g (.refl α) fun md => upd_ne fun z => h1 ?_
      subst z
      exact o.inj _ _ _ _ _ f1 e1 q1 e2 md m
theorem Grow.putLst {a : Addr} {vs ws : List V} (h : H a = some (.lst vs)) : Grow H (upd H a (.lst ws)) :=
  ⟨fun b xs e => by rw [upd_ne (fun z => by rw [z, h] at e; cases e)]; exact e, fun b o u e => by rw [upd_ne (fun z => by rw [z, h] at e; cases e)]; exact e⟩
theorem Mv.putL (o : StoreOk K α S H) {i : Nat} {a : Addr} {xs ys : List PV} {vs ws : List V} (e1 : α[i]? = some a) (e2 : S[i]? = some (.lst xs)) (h : H a = some (.lst vs)) (r : Reps K α H ys ws) : Mv K α H α (S.set i (.lst ys)) (upd H a (.lst ws)) :=
  Mv.put o e1 e2 rfl (.putLst h) rfl ⟨ws, upd_same, r.mono (.putLst h) (.refl α)⟩
end

/-! ### what a computation comes to -/
def OD (K : PySem.W.Frag) (α : List Addr) (H : Hp) {β : Type} (o : Out β) (R : β → List Addr → Store → Hp → Prop) (E : Exn → List Addr → Store → Hp → Prop) : Prop := match o with
  | .ok b S' => ∀ α' H', Mv K α H α' S' H' → R b α' S' H'
  | .ex c S' => ∀ α' H', Mv K α H α' S' H' → E c α' S' H'
  | .bad => False
section
variable {K : PySem.W.Frag} {α : List Addr} {H : Hp} {β γ : Type} {R : β → List Addr → Store → Hp → Prop} {E : Exn → List Addr → Store → Hp → Prop}
theorem OD.trans {α1 : List Addr} {H1 : Hp} {S1 : Store} {o : Out β} (h : OD K α H o R E) (m : Mv K α H α1 S1 H1) : OD K α1 H1 o R E := by
  cases o with
  | ok b S' => exact fun α' H' m' => h α' H' (m.trans m')
  | ex c S' => exact fun α' H' m' => h α' H' (m.trans m')
  | bad => exact h
theorem OD.bind {o : Out γ} {k : γ → M β} (h : OD K α H (o.bind k) R E) : OD K α H o (fun c α1 S1 H1 => OD K α1 H1 (k c S1) R E) E := by
  cases o with
  | ok b S' => exact fun α' H' m => OD.trans (show OD K α H (k b S') R E from h) m
  | ex c S' => exact h
  | bad => exact h
theorem OD.imp {R' : β → List Addr → Store → Hp → Prop} {E' : Exn → List Addr → Store → Hp → Prop} {o : Out β} (h : OD K α H o R E) (f : ∀ b α' S' H', Mv K α H α' S' H' → R b α' S' H' → R' b α' S' H') (g : ∀ c α' S' H', Mv K α H α' S' H' → E c α' S' H' → E' c α' S' H') : OD K α H o R' E' := by
  cases o with
  | ok b S' => exact fun α' H' m => f b α' S' H' m (h α' H' m)
  | ex c S' => exact fun α' H' m => g c α' S' H' m (h α' H' m)
  | bad => exact h
end

/-- the cell at n -/
def getC {β : Type} (n : Nat) (k : Cell → M β) : M β := fun S => match S[n]? with
  | some c => k c S
  | none => .bad
theorem getC_od {K : PySem.W.Frag} {α : List Addr} {H : Hp} {β : Type} {S : Store} {n : Nat} {k : Cell → M β} {R : β → List Addr → Store → Hp → Prop} {E : Exn → List Addr → Store → Hp → Prop} (h : OD K α H (getC n k S) R E) : ∃ c, S[n]? = some c ∧ OD K α H (k c S) R E := by
  unfold getC at h
  cases q : S[n]? with
  | none => rw [q] at h; exact h.elim
  | some c => rw [q] at h; exact ⟨c, rfl, h⟩
/-! ### slots -/
structure Slots (K : PySem.W.Frag) (α : List Addr) (H : Hp) (ρ : PEnv) (σ : L2.St) : Prop where
  len : ρ.length = σ.length
  get : ∀ (i : Nat) (d : PV), ρ[i]? = some (some d) → ∃ v, σ[i]? = some (some v) ∧ Rep K α H d v
section
variable {K : PySem.W.Frag} {α α' : List Addr} {H H' : Hp} {S' : Store} {ρ : PEnv} {σ : L2.St}
theorem Slots.mv (s : Slots K α H ρ σ) (m : Mv K α H α' S' H') : Slots K α' H' ρ σ := ⟨s.len, fun i d e => let ⟨v, h1, h2⟩ := s.get i d e; ⟨v, h1, h2.mono m.grow m.le⟩⟩
theorem Slots.set (s : Slots K α H ρ σ) (i : Nat) {d : PV} {v : V} (r : Rep K α H d v) : Slots K α H (ρ.set i (some d)) (σ.set i (some v)) := by
  refine ⟨by rw [List.length_set, List.length_set]; exact s.len, fun j e h => ?_⟩
  by_cases hj : j = i
  · subst hj
    have hl : j < ρ.length := by
      have q := (List.getElem?_eq_some_iff.mp h).1
      rwa [List.length_set] at q
    rw [List.getElem?_set_self hl] at h
    cases h
    exact ⟨v, List.getElem?_set_self (by rw [← s.len]; exact hl), r⟩
  · rw [List.getElem?_set_ne (Ne.symm hj)] at h
    rw [List.getElem?_set_ne (Ne.symm hj)]
    exact s.get j e h
theorem Slots.unset (s : Slots K α H ρ σ) (i : Nat) : Slots K α H (ρ.set i none) (σ.set i none) := by
  refine ⟨by rw [List.length_set, List.length_set]; exact s.len, fun j e h => ?_⟩
  by_cases hj : j = i
  · subst hj
    have hl : j < ρ.length := by
      have q := (List.getElem?_eq_some_iff.mp h).1
      rwa [List.length_set] at q
    rw [List.getElem?_set_self hl] at h
    cases h
  · rw [List.getElem?_set_ne (Ne.symm hj)] at h
    rw [List.getElem?_set_ne (Ne.symm hj)]
    exact s.get j e h
end
end DL

/-! DLb: the judgements and the rules of expressions. -/
namespace DL
open PySem PySem.Spec PyProof.Rows L2

/-- an exception as it stands -/
def XRep (K : PySem.W.Frag) (α : List Addr) (H : Hp) (c : Exn) (cls : Value) (d : Option Addr) : Prop :=
  cls = c.cls ∧ ∃ dd gs, d = some dd ∧ H dd = some (.xd gs) ∧ RepF K α H c.fs gs
def EX (K : PySem.W.Frag) (W : WX) (σ : L2.St) : Exn → List Addr → Store → Hp → Prop := fun c α' _ H' => ∀ cls d, XRep K α' H' c cls d → W cls d σ H'
def tD (K : PySem.W.Frag) (W : WX) (f : PEnv → M PV) : TE := fun σ H Q => ∃ α S ρ, StoreOk K α S H ∧ Slots K α H ρ σ ∧ OD K α H (f ρ S) (fun d α' _ H' => ∀ v, Rep K α' H' d v → Q v H') (EX K W σ)
def tDT (K : PySem.W.Frag) (W : WX) (f : PEnv → M Bool) : TT := fun σ H Q => ∃ α S ρ, StoreOk K α S H ∧ Slots K α H ρ σ ∧ OD K α H (f ρ S) (fun b _ _ H' => Q b H') (EX K W σ)
def tDA (K : PySem.W.Frag) (W : WX) (f : PEnv → M (List PV)) : TA := fun σ H Q => ∃ α S ρ, StoreOk K α S H ∧ Slots K α H ρ σ ∧ OD K α H (f ρ S) (fun ds α' _ H' => ∀ vs, Reps K α' H' ds vs → Q vs H') (EX K W σ)
def tDO (K : PySem.W.Frag) (W : WX) (f : PEnv → M (Option Int)) : TO := fun σ H Q => ∃ α S ρ, StoreOk K α S H ∧ Slots K α H ρ σ ∧ OD K α H (f ρ S) (fun b _ _ H' => Q b H') (EX K W σ)
abbrev DE (X : Cx) (W : WX) (e : Expr) (f : PEnv → M PV) : Prop := PE X e (tD X.K W f)
abbrev DT (X : Cx) (W : WX) (e : Expr) (f : PEnv → M Bool) : Prop := PT X e (tDT X.K W f)
abbrev DW (X : Cx) (W : WX) (e : Expr) (f : PEnv → M Bool) : Prop := PW X e (tDT X.K W f)
abbrev DA (X : Cx) (W : WX) (es : List Expr) (f : PEnv → M (List PV)) : Prop := PA X es (tDA X.K W f)
abbrev DO (X : Cx) (W : WX) (e : Option Expr) (f : PEnv → M (Option Int)) : Prop := PO X e (tDO X.K W f)
theorem PE_imp {X : Cx} {e : Expr} {t t' : TE} (h : PE X e t) (i : ∀ σ H Q, t' σ H Q → t σ H Q) : PE X e t' := ⟨fun pins s σ H Q I q => h.run pins s σ H Q I (i σ H Q q)⟩
theorem PT_imp {X : Cx} {e : Expr} {t t' : TT} (h : PT X e t) (i : ∀ σ H Q, t' σ H Q → t σ H Q) : PT X e t' := ⟨fun pins s σ H Q I q => h.run pins s σ H Q I (i σ H Q q)⟩
theorem PW_imp {X : Cx} {e : Expr} {t t' : TT} (h : PW X e t) (i : ∀ σ H Q, t' σ H Q → t σ H Q) : PW X e t' := ⟨fun wh pins s σ H Q I q => h.run wh pins s σ H Q I (i σ H Q q)⟩
theorem PA_imp {X : Cx} {e : List Expr} {t t' : TA} (h : PA X e t) (i : ∀ σ H Q, t' σ H Q → t σ H Q) : PA X e t' := ⟨fun pos pins s σ H Q I q => h.run pos pins s σ H Q I (i σ H Q q)⟩
theorem PO_imp {X : Cx} {e : Option Expr} {t t' : TO} (h : PO X e t) (i : ∀ σ H Q, t' σ H Q → t σ H Q) : PO X e t' := ⟨fun pins s σ H Q I q => h.run pins s σ H Q I (i σ H Q q)⟩
theorem PS_imp {X : Cx} {e : Stmt} {t t' : TS} (h : PS X e t) (i : ∀ D σ H, t' D σ H → t D σ H) : PS X e t' := ⟨fun pins s σ H D I q => h.run pins s σ H D I (i D σ H q)⟩
theorem PSs_imp {X : Cx} {e : List Stmt} {t t' : TS} (h : PSs X e t) (i : ∀ D σ H, t' D σ H → t D σ H) : PSs X e t' := ⟨fun pins s σ H D I q => h.run pins s σ H D I (i D σ H q)⟩

/-! ### the parts -/
def eVar (i : Nat) : PEnv → M PV := fun ρ => match ρ[i]? with
  | some (some d) => M.ret d
  | _ => M.bad
def eLit (d : PV) : PEnv → M PV := fun _ => M.ret d
def eBin (g : PV → PV → M PV) (f1 f2 : PEnv → M PV) : PEnv → M PV := fun ρ => (f1 ρ).bind fun x => (f2 ρ).bind fun y => g x y
def eUn (g : PV → M PV) (f1 : PEnv → M PV) : PEnv → M PV := fun ρ => (f1 ρ).bind g
def eNil : PEnv → M (List PV) := fun _ => M.ret []
def eCons (f : PEnv → M PV) (g : PEnv → M (List PV)) : PEnv → M (List PV) := fun ρ => (f ρ).bind fun x => (g ρ).bind fun xs => M.ret (x :: xs)
def eArgs (g : List PV → M PV) (f : PEnv → M (List PV)) : PEnv → M PV := fun ρ => (f ρ).bind g
/-- a bool of a value that is one -/
def asB : PV → M Bool
  | .bl b => M.ret b
  | _ => M.bad
def eTest (f : PEnv → M PV) : PEnv → M Bool := fun ρ => (f ρ).bind asB
def eAnd (f g : PEnv → M Bool) : PEnv → M Bool := fun ρ => (f ρ).bind fun b => if b = true then g ρ else M.ret false
def eOr (f g : PEnv → M Bool) : PEnv → M Bool := fun ρ => (f ρ).bind fun b => if b = true then M.ret true else g ρ
def eNot (f : PEnv → M Bool) : PEnv → M Bool := fun ρ => (f ρ).bind fun b => M.ret (!b)
def eAndV (f g : PEnv → M PV) : PEnv → M PV := fun ρ => (f ρ).bind fun x => (asB x).bind fun b => if b = true then g ρ else M.ret (.bl false)
def eOrV (f g : PEnv → M PV) : PEnv → M PV := fun ρ => (f ρ).bind fun x => (asB x).bind fun b => if b = true then M.ret (.bl true) else g ρ
def eNotV (f : PEnv → M PV) : PEnv → M PV := fun ρ => (f ρ).bind fun x => (asB x).bind fun b => M.ret (.bl (!b))
def eIf (c : PEnv → M Bool) (f g : PEnv → M PV) : PEnv → M PV := fun ρ => (c ρ).bind fun b => if b = true then f ρ else g ρ
/-- x op y op' z -/
def eChain (g g' : PV → PV → M PV) (f1 f2 f3 : PEnv → M PV) : PEnv → M PV := fun ρ => (f1 ρ).bind fun x => (f2 ρ).bind fun y => (g x y).bind fun c => (asB c).bind fun b => if b = true then (f3 ρ).bind fun z => g' y z else M.ret (.bl false)

section
variable {X : Cx} {W : WX} {e a b c : Expr} {es : List Expr} {pos : Pos}
theorem de_var (i : Nat) {x : Str} (hN : X.N[i]? = some x := by rfl) (hv : Vis X.env.scope x := by first | exact Or.inl rfl | exact Or.inr (Or.inl rfl) | exact Or.inr (Or.inr rfl)) (hd : (x == ("__debug__" : Str)) = false := by decide)
    (hcd : (x == ("__classdict__" : Str)) = false := by decide) : DE X W (.Name x pos) (eVar i) := by
  refine PE_imp (pe_var hN hv hd hcd) fun σ H Q ⟨α, S, ρ, o, sl, h⟩ => ?_
  cases q : ρ[i]? with
  | none =>
    have h : OD X.K α H (eVar i ρ S) _ _ := h
    unfold eVar at h; rw [q] at h; exact h.elim
  | some od =>
    have h : OD X.K α H (eVar i ρ S) _ _ := h
    unfold eVar at h; rw [q] at h
    cases od with
    | none => exact h.elim
    | some d =>
      obtain ⟨v, e1, r⟩ := sl.get i d q
      exact ⟨v, e1, h α H (.refl o) v r⟩
theorem de_lit {v : V} {d : PV} (h : PE X e (tC v)) (r : ∀ α H, Rep X.K α H d v) : DE X W e (eLit d) := PE_imp h fun σ H Q ⟨α, S, ρ, o, sl, h⟩ => h α H (.refl o) v (r α H)
theorem de_int {i : Int} {j} : DE X W (.Constant (.int i) j pos) (eLit (.int i)) := de_lit pe_int fun _ _ => .int i
theorem de_bl {i : Bool} {j} : DE X W (.Constant (.bool i) j pos) (eLit (.bl i)) := de_lit pe_bl fun _ _ => .bl i
theorem de_non {j} : DE X W (.Constant .none j pos) (eLit .non) := de_lit pe_non fun _ _ => .non
theorem de_str {i : Str} {j} : DE X W (.Constant (.str i) j pos) (eLit (.str i)) := de_lit pe_str fun _ _ => .str i

/-! ### operators -/
def Den1 (K : PySem.W.Frag) (r : V → Hp → VK → Prop) (g : PV → M PV) : Prop := ∀ α S H x vx Q E, StoreOk K α S H → Rep K α H x vx → OD K α H (g x S) (fun d α' _ H' => ∀ v, Rep K α' H' d v → Q v H') E → r vx H Q
def Den2 (K : PySem.W.Frag) (r : R2) (g : PV → PV → M PV) : Prop := ∀ α S H x y vx vy Q E, StoreOk K α S H → Rep K α H x vx → Rep K α H y vy → OD K α H (g x y S) (fun d α' _ H' => ∀ v, Rep K α' H' d v → Q v H') E → r vx vy H Q
def DenN (K : PySem.W.Frag) (r : List V → Hp → VK → Prop) (g : List PV → M PV) : Prop := ∀ α S H xs vs Q E, StoreOk K α S H → Reps K α H xs vs → OD K α H (g xs S) (fun d α' _ H' => ∀ v, Rep K α' H' d v → Q v H') E → r vs H Q
theorem bin_imp {K : PySem.W.Frag} {f1 f2 : PEnv → M PV} {g : PV → PV → M PV} {r : R2} (hr : Den2 K r g) {σ : L2.St} {H : Hp} {Q : VK} (h : tD K W (eBin g f1 f2) σ H Q) : tOp r (tD K W f1) (tD K W f2) σ H Q := by
  obtain ⟨α, S, ρ, o, sl, h⟩ := h
  refine ⟨α, S, ρ, o, sl, (OD.bind (o := f1 ρ S) h).imp (fun x α1 S1 H1 m1 h1 v rv => ?_) fun _ _ _ _ _ q => q⟩
  refine ⟨α1, S1, ρ, m1.ok, sl.mv m1, (OD.bind (o := f2 ρ S1) h1).imp (fun y α2 S2 H2 m2 h2 w rw' => ?_) fun _ _ _ _ _ q => q⟩
  exact hr α2 S2 H2 x y v w Q _ m2.ok (rv.mono m2.grow m2.le) rw' h2
theorem de_op {op : Operator} {r : R2} {f1 f2 : PEnv → M PV} {g : PV → PV → M PV} (ho : OpR X (binaryOp op) r) (hr : Den2 X.K r g) (ha : DE X W a f1) (hb : DE X W b f2) : DE X W (.BinOp a op b pos) (eBin g f1 f2) :=
  PE_imp (pe_op ho ha hb) fun σ H Q h => bin_imp hr h
theorem de_un {op : UnaryOp} {r : V → Hp → VK → Prop} {f1 : PEnv → M PV} {g : PV → M PV} (ho : UnR X (unaryOp op) r) (hr : Den1 X.K r g) (ha : DE X W a f1) : DE X W (.UnaryOp op a pos) (eUn g f1) := by
  refine PE_imp (pe_un ho ha) fun σ H Q ⟨α, S, ρ, o, sl, h⟩ => ?_
  refine ⟨α, S, ρ, o, sl, (OD.bind (o := f1 ρ S) h).imp (fun x α1 S1 H1 m1 h1 v rv => ?_) fun _ _ _ _ _ q => q⟩
  exact hr α1 S1 H1 x v Q _ m1.ok rv h1
theorem de_cmp {op : CmpOp} {r : R2} {f1 f2 : PEnv → M PV} {g : PV → PV → M PV} (ho : OpR X (compareOp op) r) (hr : Den2 X.K r g) (ha : DE X W a f1) (hb : DE X W b f2) (hm : behindInMarks op b = false := by first | exact nomark _ | rfl) : DE X W (.Compare a [op] [b] pos) (eBin g f1 f2) :=
  PE_imp (pe_cmpR ho ha hb hm) fun σ H Q h => bin_imp hr h
theorem test_imp {K : PySem.W.Frag} {f : PEnv → M PV} {t : TE} (i : ∀ σ H Q, tD K W f σ H Q → t σ H Q) {σ : L2.St} {H : Hp} {Q : Bool → Hp → Prop} (h : tDT K W (eTest f) σ H Q) : tTest t σ H Q := by
  refine i _ _ _ ?_
  obtain ⟨α, S, ρ, o, sl, h⟩ := h
  refine ⟨α, S, ρ, o, sl, (OD.bind (o := f ρ S) h).imp (fun x α1 S1 H1 m1 h1 v rv => ?_) fun _ _ _ _ _ q => q⟩
  cases x with
  | bl b => cases rv; exact ⟨b, rfl, h1 α1 H1 (.refl m1.ok)⟩
  | _ => exact h1.elim
theorem dt_cmp {op : CmpOp} {r : R2} {f1 f2 : PEnv → M PV} {g : PV → PV → M PV} (ho : OpR X (compareOp op) r) (hr : Den2 X.K r g) (ha : DE X W a f1) (hb : DE X W b f2) (hm : behindInMarks op b = false := by first | exact nomark _ | rfl) : DT X W (.Compare a [op] [b] pos) (eTest (eBin g f1 f2)) :=
  PT_imp (pt_cmpR ho ha hb hm) fun σ H Q h => test_imp (fun _ _ _ q => bin_imp hr q) h
/-- any expression whose value is a bool, as a test -/
theorem dt_val {f : PEnv → M PV} (ha : DE X W a f) (he : ∀ whole, isTrue a X.env whole = (do let v ← whole; standAt a.pos; holding [v] (truthy v)) := by intro _; rfl) : DT X W a (eTest f) := by
  refine PT_imp (pt_val ha he) fun σ H Q h => ?_
  exact test_imp (fun _ _ _ q => q) h
theorem chain_imp {K : PySem.W.Frag} {f1 f2 f3 : PEnv → M PV} {g g' : PV → PV → M PV} {r r' : R2} (hr : Den2 K r g) (hr' : Den2 K r' g') {σ : L2.St} {H : Hp} {Q : VK} (h : tD K W (eChain g g' f1 f2 f3) σ H Q) : tChain r r' (tD K W f1) (tD K W f2) (tD K W f3) σ H Q := by
  obtain ⟨α, S, ρ, o, sl, h⟩ := h
  refine ⟨α, S, ρ, o, sl, (OD.bind (o := f1 ρ S) h).imp (fun x α1 S1 H1 m1 h1 v rv => ?_) fun _ _ _ _ _ q => q⟩
  refine ⟨α1, S1, ρ, m1.ok, sl.mv m1, (OD.bind (o := f2 ρ S1) h1).imp (fun y α2 S2 H2 m2 h2 w rw' => ?_) fun _ _ _ _ _ q => q⟩
  refine hr α2 S2 H2 x y v w _ _ m2.ok (rv.mono m2.grow m2.le) rw' ((OD.bind (o := g x y S2) h2).imp (fun z α3 S3 H3 m3 h3 u ru => ?_) fun _ _ _ _ _ q => q)
  cases z with
  | bl b =>
    cases ru
    refine ⟨b, rfl, ?_⟩
    cases b with
    | true =>
      have h3' : OD K α3 H3 ((f3 ρ S3).bind fun z => g' y z) (fun d α' _ H' => ∀ v, Rep K α' H' d v → Q v H') (EX K W σ) := h3
      refine ⟨α3, S3, ρ, m3.ok, (sl.mv m1).mv (m2.trans m3), (OD.bind h3').imp (fun z α4 S4 H4 m4 h4 u ru => ?_) fun _ _ _ _ _ q => q⟩
      exact hr' α4 S4 H4 y z w u Q _ m4.ok (rw'.mono (m3.trans m4).grow (m3.trans m4).le) ru h4
    | false => exact h3 α3 H3 (.refl m3.ok) _ (.bl false)
  | _ => exact h3.elim
theorem de_chain {op op' : CmpOp} {r r' : R2} {f1 f2 f3 : PEnv → M PV} {g g' : PV → PV → M PV} (ho : OpR X (compareOp op) r) (hr : Den2 X.K r g) (ho' : OpR X (compareOp op') r') (hr' : Den2 X.K r' g') (ha : DE X W a f1) (hb : DE X W b f2) (hc : DE X W c f3)
    (hm : lastMarks [op, op'] [b, c] = false := by with_unfolding_all rfl) : DE X W (.Compare a [op, op'] [b, c] pos) (eChain g g' f1 f2 f3) :=
  PE_imp (pe_chain ho ho' ha hb hc hm) fun σ H Q h => chain_imp hr hr' h
theorem dt_chain {op op' : CmpOp} {r r' : R2} {f1 f2 f3 : PEnv → M PV} {g g' : PV → PV → M PV} (ho : OpR X (compareOp op) r) (hr : Den2 X.K r g) (ho' : OpR X (compareOp op') r') (hr' : Den2 X.K r' g') (ha : DE X W a f1) (hb : DE X W b f2) (hc : DE X W c f3)
    (hm : lastMarks [op, op'] [b, c] = false := by with_unfolding_all rfl) : DT X W (.Compare a [op, op'] [b, c] pos) (eTest (eChain g g' f1 f2 f3)) :=
  PT_imp (pt_chain ho ho' ha hb hc hm) fun σ H Q h => test_imp (fun _ _ _ q => chain_imp hr hr' q) h

/-! ### and, or, not -/
theorem and_imp {K : PySem.W.Frag} {f g : PEnv → M Bool} {σ : L2.St} {H : Hp} {Q : Bool → Hp → Prop} (h : tDT K W (eAnd f g) σ H Q) : tAnd (tDT K W f) (tDT K W g) σ H Q := by
  obtain ⟨α, S, ρ, o, sl, h⟩ := h
  refine ⟨α, S, ρ, o, sl, (OD.bind (o := f ρ S) h).imp (fun b α1 S1 H1 m1 h1 => ?_) fun _ _ _ _ _ q => q⟩
  cases b with
  | true => exact ⟨α1, S1, ρ, m1.ok, sl.mv m1, h1⟩
  | false => exact h1 α1 H1 (.refl m1.ok)
theorem or_imp {K : PySem.W.Frag} {f g : PEnv → M Bool} {σ : L2.St} {H : Hp} {Q : Bool → Hp → Prop} (h : tDT K W (eOr f g) σ H Q) : tOr (tDT K W f) (tDT K W g) σ H Q := by
  obtain ⟨α, S, ρ, o, sl, h⟩ := h
  refine ⟨α, S, ρ, o, sl, (OD.bind (o := f ρ S) h).imp (fun b α1 S1 H1 m1 h1 => ?_) fun _ _ _ _ _ q => q⟩
  cases b with
  | true => exact h1 α1 H1 (.refl m1.ok)
  | false => exact ⟨α1, S1, ρ, m1.ok, sl.mv m1, h1⟩
theorem dw_and1 {f : PEnv → M Bool} (ha : DT X W a f) : DW X W (.BoolOp .And [a] pos) f := pw_and1 ha
theorem dw_or1 {f : PEnv → M Bool} (ha : DT X W a f) : DW X W (.BoolOp .Or [a] pos) f := pw_or1 ha
theorem dw_and {f g : PEnv → M Bool} (ha : DT X W a f) (hb : DW X W (.BoolOp .And (b :: es) pos) g) : DW X W (.BoolOp .And (a :: b :: es) pos) (eAnd f g) := PW_imp (pw_and ha hb) fun _ _ _ h => and_imp h
theorem dw_or {f g : PEnv → M Bool} (ha : DT X W a f) (hb : DW X W (.BoolOp .Or (b :: es) pos) g) : DW X W (.BoolOp .Or (a :: b :: es) pos) (eOr f g) := PW_imp (pw_or ha hb) fun _ _ _ h => or_imp h
theorem dt_w {f : PEnv → M Bool} (h : DW X W a f) : DT X W a f := h.pt
theorem dt_not {f : PEnv → M Bool} (ha : DT X W a f) : DT X W (.UnaryOp .Not a pos) (eNot f) := by
  refine PT_imp (pt_not ha) fun σ H Q ⟨α, S, ρ, o, sl, h⟩ => ?_
  exact ⟨α, S, ρ, o, sl, (OD.bind (o := f ρ S) h).imp (fun b α1 S1 H1 m1 h1 => h1 α1 H1 (.refl m1.ok)) fun _ _ _ _ _ q => q⟩
theorem asB_od {K : PySem.W.Frag} {α : List Addr} {H : Hp} {S : Store} {β : Type} {x : PV} {v : V} {k : Bool → M β} {R : β → List Addr → Store → Hp → Prop} {E : Exn → List Addr → Store → Hp → Prop} (o : StoreOk K α S H) (r : Rep K α H x v)
    (h : OD K α H (((asB x).bind k) S) R E) : ∃ b, v = .bl b ∧ OD K α H (k b S) R E := by
  cases x with
  | bl b => cases r; exact ⟨b, rfl, h⟩
  | _ => exact h.elim
theorem de_and1 {op} {f : PEnv → M PV} (ha : DE X W a f) : DE X W (.BoolOp op [a] pos) f := pe_one ha
theorem de_and {f g : PEnv → M PV} (ha : DE X W a f) (hb : DE X W (.BoolOp .And (b :: es) pos) g) : DE X W (.BoolOp .And (a :: b :: es) pos) (eAndV f g) := by
  refine PE_imp (pe_and ha hb) fun σ H Q ⟨α, S, ρ, o, sl, h⟩ => ?_
  refine ⟨α, S, ρ, o, sl, (OD.bind (o := f ρ S) h).imp (fun x α1 S1 H1 m1 h1 v rv => ?_) fun _ _ _ _ _ q => q⟩
  obtain ⟨b, e, h2⟩ := asB_od m1.ok rv h1
  refine ⟨b, e, ?_⟩
  cases b with
  | true => exact ⟨α1, S1, ρ, m1.ok, sl.mv m1, h2⟩
  | false => exact h2 α1 H1 (.refl m1.ok) _ (.bl false)
theorem de_or {f g : PEnv → M PV} (ha : DE X W a f) (hb : DE X W (.BoolOp .Or (b :: es) pos) g) : DE X W (.BoolOp .Or (a :: b :: es) pos) (eOrV f g) := by
  refine PE_imp (pe_or ha hb) fun σ H Q ⟨α, S, ρ, o, sl, h⟩ => ?_
  refine ⟨α, S, ρ, o, sl, (OD.bind (o := f ρ S) h).imp (fun x α1 S1 H1 m1 h1 v rv => ?_) fun _ _ _ _ _ q => q⟩
  obtain ⟨b, e, h2⟩ := asB_od m1.ok rv h1
  refine ⟨b, e, ?_⟩
  cases b with
  | true => exact h2 α1 H1 (.refl m1.ok) _ (.bl true)
  | false => exact ⟨α1, S1, ρ, m1.ok, sl.mv m1, h2⟩
theorem de_not {f : PEnv → M PV} (ha : DE X W a f) : DE X W (.UnaryOp .Not a pos) (eNotV f) := by
  refine PE_imp (pe_not ha) fun σ H Q ⟨α, S, ρ, o, sl, h⟩ => ?_
  refine ⟨α, S, ρ, o, sl, (OD.bind (o := f ρ S) h).imp (fun x α1 S1 H1 m1 h1 v rv => ?_) fun _ _ _ _ _ q => q⟩
  obtain ⟨b, e, h2⟩ := asB_od m1.ok rv h1
  exact ⟨b, e, h2 α1 H1 (.refl m1.ok) _ (.bl _)⟩
theorem de_if {fc : PEnv → M Bool} {f g : PEnv → M PV} (hc : DT X W c fc) (ha : DE X W a f) (hb : DE X W b g) : DE X W (.IfExp c a b pos) (eIf fc f g) := by
  refine PE_imp (pe_ifExp hc ha hb) fun σ H Q ⟨α, S, ρ, o, sl, h⟩ => ?_
  refine ⟨α, S, ρ, o, sl, (OD.bind (o := fc ρ S) h).imp (fun b α1 S1 H1 m1 h1 => ?_) fun _ _ _ _ _ q => q⟩
  cases b with
  | true => exact ⟨α1, S1, ρ, m1.ok, sl.mv m1, h1⟩
  | false => exact ⟨α1, S1, ρ, m1.ok, sl.mv m1, h1⟩

/-! ### argument lists, displays -/
theorem da_nil : DA X W [] eNil := PA_imp pa_nil fun σ H Q ⟨α, S, ρ, o, sl, h⟩ => h α H (.refl o) [] .nil
theorem da_cons {f : PEnv → M PV} {g : PEnv → M (List PV)} (ha : DE X W a f) (hr : DA X W es g) (hs : starEach (a :: es) X.env = (false, eval a X.env) :: starEach es X.env := by rfl) : DA X W (a :: es) (eCons f g) := by
  refine PA_imp (pa_cons ha hr hs) fun σ H Q ⟨α, S, ρ, o, sl, h⟩ => ?_
  refine ⟨α, S, ρ, o, sl, (OD.bind (o := f ρ S) h).imp (fun x α1 S1 H1 m1 h1 v rv => ?_) fun _ _ _ _ _ q => q⟩
  refine ⟨α1, S1, ρ, m1.ok, sl.mv m1, (OD.bind (o := g ρ S1) h1).imp (fun xs α2 S2 H2 m2 h2 vs rvs => ?_) fun _ _ _ _ _ q => q⟩
  exact h2 α2 H2 (.refl m2.ok) _ (.cons (rv.mono m2.grow m2.le) rvs)
/-- a new tuple; a new list -/
def mkTup (xs : List PV) : M PV := if xs.length ≤ sizeLine then M.ret (.tup xs) else M.bad
def mkLst (xs : List PV) : M PV := fun S => if xs.length ≤ sizeLine then .ok (.cell S.length) (S ++ [.lst xs]) else .bad
theorem mkTup_od {K : PySem.W.Frag} {α : List Addr} {H : Hp} {S : Store} {xs : List PV} {vs : List V} {R : PV → List Addr → Store → Hp → Prop} {E : Exn → List Addr → Store → Hp → Prop} (o : StoreOk K α S H) (r : Reps K α H xs vs)
    (h : OD K α H (mkTup xs S) R E) : vs.length ≤ sizeLine ∧ ∀ p, H p = none → R (.tup xs) α S (upd H p (.tup vs)) ∧ Rep K α (upd H p (.tup vs)) (.tup xs) (.ref p) := by
  unfold mkTup at h
  by_cases hl : xs.length ≤ sizeLine
  · rw [if_pos hl] at h
    refine ⟨r.length ▸ hl, fun p hp => ⟨h α _ (.new o hp), .tup (.inl upd_same) (r.mono (.new hp) (.refl α))⟩⟩
  · rw [if_neg hl] at h; exact h.elim
theorem mkLst_od {K : PySem.W.Frag} {α : List Addr} {H : Hp} {S : Store} {xs : List PV} {vs : List V} {R : PV → List Addr → Store → Hp → Prop} {E : Exn → List Addr → Store → Hp → Prop} (o : StoreOk K α S H) (r : Reps K α H xs vs)
    (h : OD K α H (mkLst xs S) R E) : vs.length ≤ sizeLine ∧ ∀ p, H p = none → R (.cell S.length) (α ++ [p]) (S ++ [.lst xs]) (upd H p (.lst vs)) ∧ Rep K (α ++ [p]) (upd H p (.lst vs)) (.cell S.length) (.ref p) := by
  unfold mkLst at h
  by_cases hl : xs.length ≤ sizeLine
  · rw [if_pos hl] at h
    refine ⟨r.length ▸ hl, fun p hp => ⟨h _ _ (.cell o hp ⟨vs, upd_same, r.mono (.new hp) (.snoc α p)⟩), .cell ?_⟩⟩
    rw [← o.len, List.getElem?_append_right (Nat.le_refl _), Nat.sub_self]; rfl
  · rw [if_neg hl] at h; exact h.elim
theorem de_tup {f : PEnv → M (List PV)} {x1} (h : DA X W es f) : DE X W (.Tuple es x1 pos) (eArgs mkTup f) := by
  refine PE_imp (pe_tup h) fun σ H Q ⟨α, S, ρ, o, sl, h⟩ => ?_
  refine ⟨α, S, ρ, o, sl, (OD.bind (o := f ρ S) h).imp (fun xs α1 S1 H1 m1 h1 vs rv => ?_) fun _ _ _ _ _ q => q⟩
  obtain ⟨z, q⟩ := mkTup_od m1.ok rv h1
  exact ⟨z, fun p hp => (q p hp).1 _ (q p hp).2⟩
theorem de_lst {f : PEnv → M (List PV)} {x1} (h : DA X W es f) : DE X W (.List es x1) (eArgs mkLst f) := by
  refine PE_imp (pe_lst h) fun σ H Q ⟨α, S, ρ, o, sl, h⟩ => ?_
  refine ⟨α, S, ρ, o, sl, (OD.bind (o := f ρ S) h).imp (fun xs α1 S1 H1 m1 h1 vs rv => ?_) fun _ _ _ _ _ q => q⟩
  obtain ⟨z, q⟩ := mkLst_od m1.ok rv h1
  exact ⟨z, fun p hp => (q p hp).1 _ (q p hp).2⟩

/-! ### calls of built-ins -/
theorem de_callB {f : PEnv → M (List PV)} {g : List PV → M PV} {r : List V → Hp → VK → Prop} {x : Str} {p : Pos} {id : String} (hc : CallR X (.builtin id) r) (hr : DenN X.K r g) (hm : X.mg x = none) (hv : bootBuiltins x = some (.builtin id)) (ha : DA X W (a :: es) f) (hg : Gl X x := by rfl) (hn : x ≠ "__name__" := by decide) (hdb : (x == ("__debug__" : Str)) = false := by decide)
    (he : starEach (a :: es) X.env = (false, eval a X.env) :: starEach es X.env := by rfl) (hpl : (backTo pos (starEach es X.env)).any (·.1) = false := by rfl) : DE X W (.Call (.Name x p) (a :: es) [] pos) (eArgs g f) := by
  refine PE_imp (pe_callB hc hg hm hv ha hn hdb he hpl) fun σ H Q ⟨α, S, ρ, o, sl, h⟩ => ?_
  refine ⟨α, S, ρ, o, sl, (OD.bind (o := f ρ S) h).imp (fun xs α1 S1 H1 m1 h1 vs rv => ?_) fun _ _ _ _ _ q => q⟩
  exact hr α1 S1 H1 xs vs Q _ m1.ok rv h1
theorem de_callTy {f : PEnv → M (List PV)} {g : List PV → M PV} {r : List V → Hp → VK → Prop} {x : Str} {p : Pos} {T : String} (hc : CallR X (.type T) r) (hr : DenN X.K r g) (hm : X.mg x = none) (hv : bootBuiltins x = some (.type T)) (ha : DA X W (a :: es) f) (hg : Gl X x := by rfl) (hn : x ≠ "__name__" := by decide) (hdb : (x == ("__debug__" : Str)) = false := by decide)
    (he : starEach (a :: es) X.env = (false, eval a X.env) :: starEach es X.env := by rfl) (hpl : (backTo pos (starEach es X.env)).any (·.1) = false := by rfl) : DE X W (.Call (.Name x p) (a :: es) [] pos) (eArgs g f) := by
  refine PE_imp (pe_callTy hc hg hm hv ha hn hdb he hpl) fun σ H Q ⟨α, S, ρ, o, sl, h⟩ => ?_
  refine ⟨α, S, ρ, o, sl, (OD.bind (o := f ρ S) h).imp (fun xs α1 S1 H1 m1 h1 vs rv => ?_) fun _ _ _ _ _ q => q⟩
  exact hr α1 S1 H1 xs vs Q _ m1.ok rv h1
/-- a built-in (or a type) as a value -/
theorem de_ty {x : Str} {T : String} (hm : X.mg x = none) (hv : bootBuiltins x = some (.type T)) (hg : Gl X x := by rfl) (hn : x ≠ "__name__" := by decide) (hdb : (x == ("__debug__" : Str)) = false := by decide) : DE X W (.Name x pos) (eLit (.con (.ty T))) :=
  de_lit (v := .ty T) (pe_bltn hg hm hv rfl hn hdb) fun _ _ => .con _
theorem de_glob {x : Str} {v : V} {u : Value} {d : PV} (hm : X.mg x = some u) (r : RelV v u) (rp : ∀ α H, Rep X.K α H d v) (hg : Gl X x := by rfl) (hdb : (x == ("__debug__" : Str)) = false := by decide) : DE X W (.Name x pos) (eLit d) :=
  de_lit (v := v) (pe_glob hg hm r hdb) rp

/-! ### subscripts -/
theorem de_ix {r : R2} {f1 f2 : PEnv → M PV} {g : PV → PV → M PV} (hx : IxR X r) (hr : Den2 X.K r g) (ha : DE X W a f1) (hb : DE X W b f2) (hs : PlainIx b := by intro _ _; rfl) : DE X W (.Subscript a b pos) (eBin g f1 f2) :=
  PE_imp (pe_ix hx ha hb hs) fun σ H Q h => bin_imp hr h
def asI : PV → M Int
  | .int i => M.ret i
  | _ => M.bad
def eNoPart : PEnv → M (Option Int) := fun _ => M.ret none
def ePart (f : PEnv → M PV) : PEnv → M (Option Int) := fun ρ => (f ρ).bind fun x => (asI x).bind fun i => M.ret (some i)
theorem do_none : DO X W none eNoPart := PO_imp po_none fun σ H Q ⟨α, S, ρ, o, sl, h⟩ => h α H (.refl o)
theorem do_some {f : PEnv → M PV} (h : DE X W a f) : DO X W (some a) (ePart f) := by
  refine PO_imp (po_some h) fun σ H Q ⟨α, S, ρ, o, sl, h⟩ => ?_
  refine ⟨α, S, ρ, o, sl, (OD.bind (o := f ρ S) h).imp (fun x α1 S1 H1 m1 h1 v rv => ?_) fun _ _ _ _ _ q => q⟩
  cases x with
  | int i => cases rv; exact ⟨i, rfl, h1 α1 H1 (.refl m1.ok)⟩
  | _ => exact h1.elim
def eSlice (g : PV → Option Int → Option Int → M PV) (f : PEnv → M PV) (l u : PEnv → M (Option Int)) : PEnv → M PV := fun ρ => (f ρ).bind fun x => (l ρ).bind fun i => (u ρ).bind fun j => g x i j
def DenS (K : PySem.W.Frag) (r : V → Option Int → Option Int → Hp → VK → Prop) (g : PV → Option Int → Option Int → M PV) : Prop := ∀ α S H x vx i j Q E, StoreOk K α S H → Rep K α H x vx → OD K α H (g x i j S) (fun d α' _ H' => ∀ v, Rep K α' H' d v → Q v H') E → r vx i j H Q
theorem de_slice {r : V → Option Int → Option Int → Hp → VK → Prop} {g : PV → Option Int → Option Int → M PV} {f : PEnv → M PV} {lo hi : Option Expr} {l u : PEnv → M (Option Int)} {p2 : Pos} (hx : SlR X r) (hr : DenS X.K r g) (he : DE X W a f) (hl : DO X W lo l) (hu : DO X W hi u) : DE X W (.Subscript a (.Slice lo hi none p2) pos) (eSlice g f l u) := by
  refine PE_imp (pe_slice hx he hl hu) fun σ H Q ⟨α, S, ρ, o, sl, h⟩ => ?_
  refine ⟨α, S, ρ, o, sl, (OD.bind (o := f ρ S) h).imp (fun x α1 S1 H1 m1 h1 v rv => ?_) fun _ _ _ _ _ q => q⟩
  refine ⟨α1, S1, ρ, m1.ok, sl.mv m1, (OD.bind (o := l ρ S1) h1).imp (fun i α2 S2 H2 m2 h2 => ?_) fun _ _ _ _ _ q => q⟩
  refine ⟨α2, S2, ρ, m2.ok, (sl.mv m1).mv m2, (OD.bind (o := u ρ S2) h2).imp (fun j α3 S3 H3 m3 h3 => ?_) fun _ _ _ _ _ q => q⟩
  exact hr α3 S3 H3 x v i j Q _ m3.ok (rv.mono (m2.trans m3).grow (m2.trans m3).le) h3
end
end DL

/-! DLc: statements, loops, comprehensions. -/
namespace DL
open PySem PySem.Spec PyProof.Rows L2
open Classical

/-- how a statement ends -/
inductive Fl where
  | nx | bk | ct | rt (d : PV) | ex (c : Exn)
/-- a statement: it never ends as Out.ex -/
abbrev SD := PEnv → M (Fl × PEnv)
def Fin (K : PySem.W.Frag) (W : WX) (D : Ends) : Fl × PEnv → List Addr → Store → Hp → Prop := fun r α' _ H' => ∀ σ', Slots K α' H' r.2 σ' → match r.1 with
  | .nx => D.nx σ' H'
  | .bk => D.bk σ' H'
  | .ct => D.ct σ' H'
  | .rt d => ∀ v, Rep K α' H' d v → D.rt v H'
  | .ex c => ∀ cls d, XRep K α' H' c cls d → W cls d σ' H'
def tS (K : PySem.W.Frag) (W : WX) (f : SD) : TS := fun D σ H => ∃ α S ρ, StoreOk K α S H ∧ Slots K α H ρ σ ∧ OD K α H (f ρ S) (Fin K W D) fun _ _ _ _ => False
abbrev DS (X : Cx) (W : WX) (st : Stmt) (f : SD) : Prop := PS X st (tS X.K W f)
abbrev DSs (X : Cx) (W : WX) (st : List Stmt) (f : SD) : Prop := PSs X st (tS X.K W f)
/-- an expression in a statement -/
def lift {β : Type} (o : Out β) (ρ : PEnv) (k : β → M (Fl × PEnv)) : Out (Fl × PEnv) := match o with
  | .ok b S => k b S
  | .ex c S => .ok (.ex c, ρ) S
  | .bad => .bad
def sNil : SD := fun ρ => M.ret (.nx, ρ)
def sRetN : SD := fun ρ => M.ret (.rt .non, ρ)
def sBk : SD := fun ρ => M.ret (.bk, ρ)
def sCt : SD := fun ρ => M.ret (.ct, ρ)
def seqK (g : SD) : Fl × PEnv → M (Fl × PEnv) := fun r => match r.1 with
  | .nx => g r.2
  | _ => M.ret r
def sSeq (f g : SD) : SD := fun ρ => (f ρ).bind (seqK g)
def sExpr (f : PEnv → M PV) : SD := fun ρ S => lift (f ρ S) ρ fun _ => M.ret (.nx, ρ)
def sRet (f : PEnv → M PV) : SD := fun ρ S => lift (f ρ S) ρ fun d => M.ret (.rt d, ρ)
def sSet (i : Nat) (f : PEnv → M PV) : SD := fun ρ S => lift (f ρ S) ρ fun d => M.ret (.nx, ρ.set i (some d))
def sIf (c : PEnv → M Bool) (f g : SD) : SD := fun ρ S => lift (c ρ S) ρ fun b => if b = true then f ρ else g ρ

section
variable {K : PySem.W.Frag} {W : WX} {α : List Addr} {H : Hp} {S : Store} {σ : L2.St} {ρ : PEnv} {β : Type}
theorem lift_od {o : Out β} {k : β → M (Fl × PEnv)} {D : Ends} (sl : Slots K α H ρ σ) (h : OD K α H (lift o ρ k) (Fin K W D) fun _ _ _ _ => False) :
    OD K α H o (fun b α1 S1 H1 => OD K α1 H1 (k b S1) (Fin K W D) fun _ _ _ _ => False) (EX K W σ) := by
  cases o with
  | ok b S' => exact fun α' H' m => OD.trans (show OD K α H (k b S') _ _ from h) m
  | ex c S' => exact fun α' H' m cls d x => (show OD K α H (.ok (Fl.ex c, ρ) S') _ _ from h) α' H' m σ (sl.mv m) cls d x
  | bad => exact h
end
section
variable {X : Cx} {W : WX} {e a b c : Expr} {es : List Expr} {pos : Pos} {st : Stmt} {sts : List Stmt}
theorem dss_nil : DSs X W [] sNil := PSs_imp pss_nil fun D σ H ⟨α, S, ρ, o, sl, h⟩ => h α H (.refl o) σ sl
theorem dss_one {f : SD} (h : DS X W st f) : DSs X W [st] f := pss_one h
theorem dss_cons {f g : SD} (h1 : DS X W st f) (h2 : DSs X W sts g) : DSs X W (st :: sts) (sSeq f g) := by
  refine PSs_imp (pss_cons h1 h2) fun D σ H ⟨α, S, ρ, o, sl, h⟩ => ?_
  refine ⟨α, S, ρ, o, sl, (OD.bind (o := f ρ S) h).imp (fun r α1 S1 H1 m1 h1 => ?_) fun _ _ _ _ _ q => q⟩
  obtain ⟨fl, ρ1⟩ := r
  cases fl with
  | nx => exact fun σ1 sl1 => ⟨α1, S1, ρ1, m1.ok, sl1, h1⟩
  | bk => exact fun σ1 sl1 => h1 α1 H1 (.refl m1.ok) σ1 sl1
  | ct => exact fun σ1 sl1 => h1 α1 H1 (.refl m1.ok) σ1 sl1
  | rt d => exact fun σ1 sl1 => h1 α1 H1 (.refl m1.ok) σ1 sl1
  | ex c => exact fun σ1 sl1 => h1 α1 H1 (.refl m1.ok) σ1 sl1
theorem ds_pass : DS X W (.Pass pos) sNil := PS_imp ps_pass fun D σ H ⟨α, S, ρ, o, sl, h⟩ => h α H (.refl o) σ sl
theorem ds_break : DS X W (.Break pos) sBk := PS_imp ps_break fun D σ H ⟨α, S, ρ, o, sl, h⟩ => h α H (.refl o) σ sl
theorem ds_continue : DS X W (.Continue pos) sCt := PS_imp ps_continue fun D σ H ⟨α, S, ρ, o, sl, h⟩ => h α H (.refl o) σ sl
theorem ds_retN : DS X W (.Return none pos) sRetN := PS_imp ps_retN fun D σ H ⟨α, S, ρ, o, sl, h⟩ => h α H (.refl o) σ sl _ .non
theorem ds_ret {f : PEnv → M PV} (h : DE X W a f) : DS X W (.Return (some a) pos) (sRet f) := by
  refine PS_imp (ps_ret h) fun D σ H ⟨α, S, ρ, o, sl, h⟩ => ?_
  exact ⟨α, S, ρ, o, sl, (lift_od sl h).imp (fun d α1 S1 H1 m1 h1 v rv => h1 α1 H1 (.refl m1.ok) σ (sl.mv m1) v rv) fun _ _ _ _ _ q => q⟩
theorem ds_expr {f : PEnv → M PV} (h : DE X W a f) (hs : swapsWith a none pos.line X.env = pure false := by rfl) : DS X W (.Expr a pos) (sExpr f) := by
  refine PS_imp (ps_expr h hs) fun D σ H ⟨α, S, ρ, o, sl, h⟩ => ?_
  exact ⟨α, S, ρ, o, sl, (lift_od sl h).imp (fun d α1 S1 H1 m1 h1 v rv => h1 α1 H1 (.refl m1.ok) σ (sl.mv m1)) fun _ _ _ _ _ q => q⟩
theorem ds_if {fc : PEnv → M Bool} {f g : SD} {s1 s2 : List Stmt} (hc : DT X W c fc) (ha : DSs X W s1 f) (hb : DSs X W s2 g) : DS X W (.If c s1 s2 pos) (sIf fc f g) := by
  refine PS_imp (ps_if hc ha hb) fun D σ H ⟨α, S, ρ, o, sl, h⟩ => ?_
  refine ⟨α, S, ρ, o, sl, (lift_od sl h).imp (fun b α1 S1 H1 m1 h1 => ?_) fun _ _ _ _ _ q => q⟩
  cases b with
  | true => exact ⟨α1, S1, ρ, m1.ok, sl.mv m1, h1⟩
  | false => exact ⟨α1, S1, ρ, m1.ok, sl.mv m1, h1⟩
theorem ds_set (i : Nat) {x : Str} {p' : Pos} {f : PEnv → M PV} (h : DE X W a f) (hN : X.N.Nodup) (hi : X.N[i]? = some x := by rfl) (hx : Loc X.env.scope x := by first | exact Or.inl rfl | exact Or.inr rfl) (hs : swapsWith a (some (.Name x p')) pos.line X.env = pure false := by rfl)
    (hf : X.fn x = true ∨ X.env.scope.names.lookup x = some .local := by first | exact .inl rfl | exact .inr rfl) : DS X W (.Assign [.Name x p'] a pos) (sSet i f) := by
  refine PS_imp (ps_set hN hi hx h hs hf) fun D σ H ⟨α, S, ρ, o, sl, h⟩ => ?_
  exact ⟨α, S, ρ, o, sl, (lift_od sl h).imp (fun d α1 S1 H1 m1 h1 v rv => h1 α1 H1 (.refl m1.ok) _ ((sl.mv m1).set i rv)) fun _ _ _ _ _ q => q⟩
end

/-! ### targets -/
inductive Tgt where
  | nm (i : Nat) | tp (ts : List Tgt)
mutual
def bindT : Tgt → PV → PEnv → Option PEnv
  | .nm i, d, ρ => some (ρ.set i (some d))
  | .tp ts, d, ρ => match d with
    | .tup ds => if ds.length = ts.length then bindTs ts ds ρ else none
    | _ => none
def bindTs : List Tgt → List PV → PEnv → Option PEnv
  | [], _, ρ => some ρ
  | t :: ts, ds, ρ => match ds with
    | d :: dr => (bindT t d ρ).bind fun ρ1 => bindTs ts dr ρ1
    | [] => none
end
mutual
def gT (K : PySem.W.Frag) : Tgt → TG
  | .nm i => gName i
  | .tp ts => gTup K ts.length (gTs K ts)
def gTs (K : PySem.W.Frag) : List Tgt → TGs
  | [] => gNil
  | t :: ts => gCons (gT K t) (gTs K ts)
end
mutual
/-- the slots that a target stores -/
def Tgt.slots : Tgt → List Nat
  | .nm i => [i]
  | .tp ts => Tgt.slotsL ts
def Tgt.slotsL : List Tgt → List Nat
  | [] => []
  | t :: ts => t.slots ++ Tgt.slotsL ts
end
theorem wipe_get {σ : L2.St} {j : Nat} : ∀ {vs : List Nat}, (wipe σ vs)[j]? = if j ∈ vs ∧ j < σ.length then some none else σ[j]?
  | [] => by simp [wipe]
  | v :: vs => by
    unfold wipe
    by_cases hj : j = v
    · subst hj
      by_cases hl : j < σ.length
      · rw [List.getElem?_set_self (by rw [wipe_length]; exact hl), if_pos ⟨List.mem_cons_self, hl⟩]
      · rw [if_neg fun z => hl z.2, List.getElem?_eq_none (by rw [List.length_set, wipe_length]; omega), List.getElem?_eq_none (by omega)]
    · rw [List.getElem?_set_ne (Ne.symm hj), wipe_get]
      simp [hj]
theorem wipe_set {σ : L2.St} {vs : List Nat} {i : Nat} {o : Option V} (h : i ∈ vs) : wipe (σ.set i o) vs = wipe σ vs := by
  apply List.ext_getElem?
  intro j
  rw [wipe_get, wipe_get, List.length_set]
  by_cases hj : j ∈ vs ∧ j < σ.length
  · rw [if_pos hj, if_pos hj]
  · rw [if_neg hj, if_neg hj]
    by_cases e : j = i
    · subst e
      have hl : ¬ j < σ.length := fun z => hj ⟨h, z⟩
      rw [List.getElem?_eq_none (by rw [List.length_set]; omega), List.getElem?_eq_none (by omega)]
    · rw [List.getElem?_set_ne (Ne.symm e)]
theorem wipe_wipe {σ : L2.St} {vs : List Nat} : wipe (wipe σ vs) vs = wipe σ vs := by
  apply List.ext_getElem?
  intro j
  rw [wipe_get, wipe_get, wipe_length]
  by_cases hj : j ∈ vs ∧ j < σ.length
  · rw [if_pos hj, if_pos hj]
  · rw [if_neg hj]
def wipeP (ρ : PEnv) : List Nat → PEnv
  | [] => ρ
  | v :: vs => (wipeP ρ vs).set v none
theorem Slots.wipe {K : PySem.W.Frag} {α : List Addr} {H : Hp} {ρ : PEnv} {σ : L2.St} (s : Slots K α H ρ σ) : ∀ vs : List Nat, Slots K α H (wipeP ρ vs) (L2.wipe σ vs)
  | [] => s
  | v :: vs => (s.wipe vs).unset v
section
variable {K : PySem.W.Frag} {α : List Addr} {H : Hp}
mutual
theorem bindT_ok {Q : L2.St → Hp → Prop} : ∀ (t : Tgt) (d : PV) (v : V) (ρ ρ' : PEnv) (σ : L2.St), Slots K α H ρ σ → Rep K α H d v → bindT t d ρ = some ρ' → (∀ σ', Slots K α H ρ' σ' → (∀ vs, (∀ i ∈ t.slots, i ∈ vs) → wipe σ' vs = wipe σ vs) → Q σ' H) → gT K t v σ H Q
  | .nm i, d, v, ρ, ρ', σ, sl, r, e, h => by
    unfold bindT at e
    cases e
    unfold gT
    exact h _ (sl.set i r) fun vs hv => wipe_set (hv i (by simp [Tgt.slots]))
  | .tp ts, d, v, ρ, ρ', σ, sl, r, e, h => by
    unfold bindT at e
    unfold gT
    cases d with
    | tup ds =>
      cases r with
      | tup hs hr =>
        rename_i a vs
        simp only at e
        by_cases hl : ds.length = ts.length
        · rw [if_pos hl] at e
          exact ⟨a, vs, rfl, hs.sq, by rw [← hr.length, hl], bindTs_ok ts ds vs ρ ρ' σ sl hr hl e fun σ' s' hw => h σ' s' fun vs hv => hw vs (by simpa [Tgt.slots] using hv)⟩
        · rw [if_neg hl] at e; cases e
    | _ => cases e
theorem bindTs_ok {Q : L2.St → Hp → Prop} : ∀ (ts : List Tgt) (ds : List PV) (vs : List V) (ρ ρ' : PEnv) (σ : L2.St), Slots K α H ρ σ → Reps K α H ds vs → ds.length = ts.length → bindTs ts ds ρ = some ρ' → (∀ σ', Slots K α H ρ' σ' → (∀ vs, (∀ i ∈ Tgt.slotsL ts, i ∈ vs) → wipe σ' vs = wipe σ vs) → Q σ' H) → gTs K ts vs σ H Q
  | [], ds, vs, ρ, ρ', σ, sl, r, hl, e, h => by
    unfold bindTs at e
    cases e
    unfold gTs
    cases r with
    | nil => exact ⟨rfl, h σ sl fun _ _ => rfl⟩
    | cons _ _ => simp at hl
  | t :: ts, ds, vs, ρ, ρ', σ, sl, r, hl, e, h => by
    unfold gTs
    cases r with
    | nil => simp at hl
    | cons r1 r2 =>
      rename_i d v dr vr
      unfold bindTs at e
      simp only at e
      cases q : bindT t d ρ with
      | none => rw [q] at e; cases e
      | some ρ1 =>
        rw [q] at e
        refine ⟨v, vr, rfl, bindT_ok t d v ρ ρ1 σ sl r1 q fun σ1 sl1 hw => ?_⟩
        refine bindTs_ok ts dr vr ρ1 ρ' σ1 sl1 r2 (by simpa using hl) e fun σ' s' hw2 => h σ' s' fun vs hv => ?_
        rw [hw2 vs fun i hi => hv i (by simp [Tgt.slotsL, hi]), hw vs fun i hi => hv i (by simp [Tgt.slotsL, hi])]
end
end
abbrev DG (X : Cx) (tg : Expr) (t : Tgt) : Prop := PG X tg (gT X.K t)
abbrev DGs (X : Cx) (tg : List Expr) (t : List Tgt) : Prop := PGs X tg (gTs X.K t)
section
variable {X : Cx} {W : WX} {a : Expr} {es : List Expr} {pos : Pos}
theorem dg_name (i : Nat) {x : Str} (hN : X.N.Nodup) (hi : X.N[i]? = some x := by rfl) (hx : Loc X.env.scope x := by first | exact Or.inl rfl | exact Or.inr rfl) (hf : X.fn x = true ∨ X.env.scope.names.lookup x = some .local := by first | exact .inl rfl | exact .inr rfl) : DG X (.Name x pos) (.nm i) := by
  unfold DG gT; exact pg_name hN hi hx hf
theorem dgs_nil : DGs X [] [] := by unfold DGs gTs; exact pgs_nil
theorem dgs_cons {t : Tgt} {ts : List Tgt} (h1 : DG X a t) (h2 : DGs X es ts) (hs : (assignEach (a :: es) X.env).map (·.2) = assign a X.env :: (assignEach es X.env).map (·.2) := by rfl) : DGs X (a :: es) (t :: ts) := by
  unfold DGs gTs; exact pgs_cons h1 h2 hs
theorem dg_tup {k : Nat} {ts : List Tgt} (hc : X.calm = true) (h : DGs X es ts) (hn : (assignEach es X.env).length = ts.length := by rfl) (hst : (assignEach es X.env).findIdx? (·.1) = none := by rfl) : DG X (.Tuple es k pos) (.tp ts) := by
  unfold DG gT; exact pg_tup hc h hn hst
def sAsg (t : Tgt) (f : PEnv → M PV) : SD := fun ρ S => lift (f ρ S) ρ fun d => match bindT t d ρ with
  | some ρ1 => M.ret (.nx, ρ1)
  | none => M.bad
theorem ds_asg {tg : Expr} {t : Tgt} {f : PEnv → M PV} (he : DE X W a f) (hg : DG X tg t) (hs : swapsWithSole [tg] a pos.line X.env = pure false := by rfl) (hw : swappedStores [tg] a X.env = pure none := by rfl)
    (h1 : (assignEach [tg] X.env).map (·.2) = [assign tg X.env] := by rfl) : DS X W (.Assign [tg] a pos) (sAsg t f) := by
  refine PS_imp (ps_asg he hg hs hw h1) fun D σ H ⟨α, S, ρ, o, sl, h⟩ => ?_
  refine ⟨α, S, ρ, o, sl, (lift_od sl h).imp (fun d α1 S1 H1 m1 h1 v rv => ?_) fun _ _ _ _ _ q => q⟩
  cases q : bindT t d ρ with
  | none => rw [q] at h1; exact h1.elim
  | some ρ1 =>
    rw [q] at h1
    exact bindT_ok t d v ρ ρ1 σ (sl.mv m1) rv q fun σ' s' _ => h1 α1 H1 (.refl m1.ok) σ' s'
/-- o[i] = e -/
def sSub (g : PV → PV → PV → M Unit) (fo fi f : PEnv → M PV) : SD := fun ρ S => lift (f ρ S) ρ fun d S1 => lift (fo ρ S1) ρ fun o S2 => lift (fi ρ S2) ρ fun i S3 => lift (g o i d S3) ρ fun _ => M.ret (.nx, ρ)
def DenSet (K : PySem.W.Frag) (r : TSet) (g : PV → PV → PV → M Unit) : Prop := ∀ α S H x y z vx vy vz (Q : Hp → Prop) E, StoreOk K α S H → Rep K α H x vx → Rep K α H y vy → Rep K α H z vz → OD K α H (g x y z S) (fun _ _ _ H' => Q H') E → r vx vy vz H Q
theorem ds_sub {o i : Expr} {fo fi f : PEnv → M PV} {r : TSet} {g : PV → PV → PV → M Unit} {p' : Pos} (hset : PSet X r) (hr : DenSet X.K r g) (he : DE X W a f) (ho : DE X W o fo) (hi : DE X W i fi)
    (hs : swapsWithSole [.Subscript o i p'] a pos.line X.env = pure false := by rfl) (hw : swappedStores [.Subscript o i p'] a X.env = pure none := by rfl) (h1 : (assignEach [.Subscript o i p'] X.env).map (·.2) = [assign (.Subscript o i p') X.env] := by rfl)
    (ha : ∀ v, assign (.Subscript o i p') X.env v = (do
      let ov ← holding [v] (eval o X.env)
      let iv ← holding [v, ov] (eval i X.env)
      standAt p'
      holding [v, ov, iv] (setItem ov iv v)
      release [v, ov, iv] []) := by intro _; rfl) : DS X W (.Assign [.Subscript o i p'] a pos) (sSub g fo fi f) := by
  refine PS_imp (ps_asg he (pg_sub ho hi hset ha) hs hw h1) fun D σ H ⟨α, S, ρ, o, sl, h⟩ => ?_
  refine ⟨α, S, ρ, o, sl, (lift_od sl h).imp (fun d α1 S1 H1 m1 h1 v rv => ?_) fun _ _ _ _ _ q => q⟩
  refine ⟨α1, S1, ρ, m1.ok, sl.mv m1, (lift_od (sl.mv m1) h1).imp (fun x α2 S2 H2 m2 h2 vx rx => ?_) fun _ _ _ _ _ q => q⟩
  refine ⟨α2, S2, ρ, m2.ok, (sl.mv m1).mv m2, (lift_od ((sl.mv m1).mv m2) h2).imp (fun y α3 S3 H3 m3 h3 vy ry => ?_) fun _ _ _ _ _ q => q⟩
  have m23 := m2.trans m3
  refine hr α3 S3 H3 x y d vx vy v _ _ m3.ok (rx.mono m3.grow m3.le) ry (rv.mono m23.grow m23.le) ((lift_od ((sl.mv m1).mv m23) h3).imp (fun _ α4 S4 H4 m4 h4 => ?_) fun _ _ _ _ _ q => q)
  exact h4 α4 H4 (.refl m4.ok) σ (((sl.mv m1).mv m23).mv m4)
/-- x op= e -/
def sAug (g : PV → PV → M PV) (i : Nat) (f : PEnv → M PV) : SD := fun ρ S => lift (eVar i ρ S) ρ fun x S0 => lift (f ρ S0) ρ fun y S1 => lift (g x y S1) ρ fun z => M.ret (.nx, ρ.set i (some z))
theorem ds_aug (i : Nat) {x : Str} {op : Operator} {f : PEnv → M PV} {g : PV → PV → M PV} {r : R2} {p' : Pos} (ho : OpR X (inplaceOp op) r) (hr : Den2 X.K r g) (he : DE X W a f) (hN : X.N.Nodup) (hi : X.N[i]? = some x := by rfl) (hx : Loc X.env.scope x := by first | exact Or.inl rfl | exact Or.inr rfl)
    (hf : X.fn x = true ∨ X.env.scope.names.lookup x = some .local := by first | exact .inl rfl | exact .inr rfl) : DS X W (.AugAssign (.Name x p') op a pos) (sAug g i f) := by
  refine PS_imp (ps_aug (ti := r) hN hi hx he (fun pins s σ H x y v u Q I r1 r2 h => ho pins s σ H x y v u Q I r1 r2 h) hf) fun D σ H ⟨α, S, ρ, o, sl, h⟩ => ?_
  cases q : ρ[i]? with
  | none => unfold sAug eVar at h; rw [q] at h; exact h.elim
  | some od =>
    cases od with
    | none => unfold sAug eVar at h; rw [q] at h; exact h.elim
    | some d =>
      unfold sAug eVar at h; rw [q] at h
      obtain ⟨v, e1, rv⟩ := sl.get i d q
      have h' : OD X.K α H (lift (f ρ S) ρ fun y S1 => lift (g d y S1) ρ fun z => M.ret (.nx, ρ.set i (some z))) (Fin X.K W D) fun _ _ _ _ => False := h
      refine ⟨v, e1, α, S, ρ, o, sl, (lift_od sl h').imp (fun y α1 S1 H1 m1 h1 w rw' => ?_) fun _ _ _ _ _ q => q⟩
      refine hr α1 S1 H1 d y v w _ _ m1.ok (rv.mono m1.grow m1.le) rw' ((lift_od (sl.mv m1) h1).imp (fun z α2 S2 H2 m2 h2 u ru => ?_) fun _ _ _ _ _ q => q)
      exact h2 α2 H2 (.refl m2.ok) _ (((sl.mv m1).mv m2).set i ru)
end
end DL

/-! DLd: loops and comprehensions. -/
namespace DL
open PySem PySem.Spec PyProof.Rows L2
open Classical

/-- what is walked: its items, and what must stay so -/
structure Src where
  items : List PV
  chk : Store → Prop
def SrcOk (K : PySem.W.Frag) (J : It) (α : List Addr) (H : Hp) (src : Src) : Prop := ∀ (i : Nat) α' S' H', Mv K α H α' S' H' → src.chk S' →
  (∀ x, src.items[i]? = some x → J.go i H' ∧ ∀ v H'', J.yld i H' v H'' → Mv K α' H' α' S' H'' ∧ Rep K α' H'' x v) ∧ (src.items.length ≤ i → J.stop i H')
def tDI (K : PySem.W.Frag) (W : WX) (f : PEnv → M Src) : TI := fun σ H R => ∃ α S ρ, StoreOk K α S H ∧ Slots K α H ρ σ ∧ OD K α H (f ρ S) (fun src α' _ H' => ∀ J, SrcOk K J α' H' src → R J H') (EX K W σ)
abbrev DI (X : Cx) (W : WX) (tg iter : Expr) (f : PEnv → M Src) : Prop := PI X tg iter (tDI X.K W f)
theorem PI_imp {X : Cx} {tg e : Expr} {t t' : TI} (h : PI X tg e t) (i : ∀ σ H Q, t' σ H Q → t σ H Q) : PI X tg e t' := ⟨fun pins s σ H Q I q => h.run pins s σ H Q I (i σ H Q q)⟩

/-- behind a loop's turn -/
def kLoop (g : SD) : Fl × PEnv → M (Fl × PEnv) := fun r => match r.1 with
  | .nx => g r.2
  | .ct => g r.2
  | .bk => M.ret (.nx, r.2)
  | _ => M.ret r
noncomputable def forGo (chk : Store → Prop) (t : Tgt) (body : SD) : List PV → SD
  | [] => fun ρ S => if chk S then .ok (.nx, ρ) S else .bad
  | x :: xs => fun ρ S => if chk S then (match bindT t x ρ with
    | some ρ1 => (body ρ1 S).bind (kLoop (forGo chk t body xs))
    | none => .bad) else .bad
noncomputable def sFor (f : PEnv → M Src) (t : Tgt) (body : SD) : SD := fun ρ S => lift (f ρ S) ρ fun src => forGo src.chk t body src.items ρ
theorem if_out {β : Type} {c : Prop} {dc : Decidable c} {o : Out β} {K : PySem.W.Frag} {α : List Addr} {H : Hp} {R : β → List Addr → Store → Hp → Prop} {E : Exn → List Addr → Store → Hp → Prop} (h : OD K α H (if c then o else .bad) R E) : c ∧ OD K α H o R E := by
  by_cases hc : c
  · rw [if_pos hc] at h; exact ⟨hc, h⟩
  · rw [if_neg hc] at h; exact h.elim
section
variable {X : Cx} {W : WX} {a : Expr} {pos : Pos}
theorem ds_for {tg iter : Expr} {body : List Stmt} {f : PEnv → M Src} {t : Tgt} {g : SD} (hp : PassesOwn (model X.prog X.w) X.A X.env X.xe) (hc : X.calm = true) (hi : DI X W tg iter f) (hg : DG X tg t) (hb : DSs X W body g)
    (hs : ∀ x, foldedSetIterable iter X.env x = pure x := by intro _; rfl) : DS X W (.For tg iter body [] pos) (sFor f t g) := by
  refine PS_imp (ps_for hp hc hi hg hb hs) fun D σ H ⟨α, S, ρ, o, sl, h⟩ => ?_
  refine ⟨α, S, ρ, o, sl, (lift_od sl h).imp (fun src α1 S1 H1 m1 h1 J jo => ?_) fun _ _ _ _ _ q => q⟩
  refine ⟨fun i m σ' H' => ∃ α' S' ρ', Mv X.K α1 H1 α' S' H' ∧ Slots X.K α' H' ρ' σ' ∧ m = src.items.length - i ∧ OD X.K α' H' (forGo src.chk t g (src.items.drop i) ρ' S') (Fin X.K W D) fun _ _ _ _ => False,
    ⟨_, α1, S1, ρ, .refl m1.ok, sl.mv m1, rfl, h1⟩, ?_⟩
  rintro i m σ' H' ⟨α', S', ρ', mv, sl', rfl, hh⟩
  cases e : src.items.drop i with
  | nil =>
    rw [e] at hh
    unfold forGo at hh
    obtain ⟨hk, hh⟩ := if_out hh
    refine .inl ⟨(jo i α' S' H' mv hk).2 ?_, hh α' H' (.refl mv.ok) σ' sl'⟩
    exact List.drop_eq_nil_iff.mp e
  | cons x xs =>
    have hi : i < src.items.length := by
      rcases Nat.lt_or_ge i src.items.length with z | z
      · exact z
      · rw [List.drop_eq_nil_of_le z] at e; cases e
    have ex : src.items[i]? = some x := by
      rw [← List.head?_drop, e]; rfl
    have exs : src.items.drop (i + 1) = xs := by
      rw [← List.tail_drop, e]; rfl
    rw [e] at hh
    unfold forGo at hh
    obtain ⟨hk, hh⟩ := if_out hh
    obtain ⟨jg, jy⟩ := (jo i α' S' H' mv hk).1 x ex
    refine .inr ⟨jg, fun σ'' H'' => ∃ α'' S'' ρ'', Mv X.K α1 H1 α'' S'' H'' ∧ Slots X.K α'' H'' ρ'' σ'' ∧ OD X.K α'' H'' (forGo src.chk t g xs ρ'' S'') (Fin X.K W D) fun _ _ _ _ => False, ?_, fun v H'' y => ?_⟩
    · rintro σ'' H'' ⟨α'', S'', ρ'', mv2, sl2, h2⟩
      exact ⟨src.items.length - (i + 1), by omega, α'', S'', ρ'', mv2, sl2, rfl, by rw [exs]; exact h2⟩
    · obtain ⟨m2, rv⟩ := jy v H'' y
      cases q : bindT t x ρ' with
      | none => rw [q] at hh; exact hh.elim
      | some ρ1 =>
        rw [q] at hh
        refine bindT_ok t x v ρ' ρ1 σ' (sl'.mv m2) rv q fun σ2 sl2 _ => ?_
        refine ⟨α', S', ρ1, m2.ok, sl2, (OD.bind (o := g ρ1 S') (hh.trans m2)).imp (fun r α3 S3 H3 m3 h3 => ?_) fun _ _ _ _ _ q => q⟩
        obtain ⟨fl, ρ3⟩ := r
        cases fl with
        | nx => exact fun σ3 sl3 => ⟨α3, S3, ρ3, mv.trans (m2.trans m3), sl3, h3⟩
        | ct => exact fun σ3 sl3 => ⟨α3, S3, ρ3, mv.trans (m2.trans m3), sl3, h3⟩
        | bk => exact fun σ3 sl3 => h3 α3 H3 (.refl m3.ok) σ3 sl3
        | rt d => exact fun σ3 sl3 => h3 α3 H3 (.refl m3.ok) σ3 sl3
        | ex c => exact fun σ3 sl3 => h3 α3 H3 (.refl m3.ok) σ3 sl3
end

/-! ### while -/
def Out.good {β : Type} : Out β → Prop
  | .bad => False
  | _ => True
def whileN (c : PEnv → M Bool) (body : SD) : Nat → SD
  | 0 => fun _ => M.bad
  | n + 1 => fun ρ S => lift (c ρ S) ρ fun b => if b = true then fun S1 => (body ρ S1).bind (kLoop (whileN c body n)) else M.ret (.nx, ρ)
noncomputable def sWhile (c : PEnv → M Bool) (body : SD) : SD := fun ρ S => if h : ∃ n, (whileN c body n ρ S).good then whileN c body h.choose ρ S else .bad
theorem bind_good {β γ : Type} {o : Out β} {k k' : β → M γ} (h : (o.bind k).good) (i : ∀ b S, (k b S).good → k' b S = k b S) : o.bind k' = o.bind k := by
  cases o with
  | ok b S => exact i b S h
  | ex c S => rfl
  | bad => rfl
theorem lift_good {β : Type} {o : Out β} {ρ : PEnv} {k k' : β → M (Fl × PEnv)} (h : (lift o ρ k).good) (i : ∀ b S, (k b S).good → k' b S = k b S) : lift o ρ k' = lift o ρ k := by
  cases o with
  | ok b S => exact i b S h
  | ex c S => rfl
  | bad => rfl
theorem kLoop_good {g g' : SD} {r : Fl × PEnv} {S : Store} (h : (kLoop g r S).good) (i : ∀ ρ S, (g ρ S).good → g' ρ S = g ρ S) : kLoop g' r S = kLoop g r S := by
  obtain ⟨fl, ρ⟩ := r
  cases fl with
  | nx => exact i ρ S h
  | ct => exact i ρ S h
  | bk => rfl
  | rt d => rfl
  | ex c => rfl
theorem whileN_more (c : PEnv → M Bool) (body : SD) : ∀ (n : Nat) (ρ : PEnv) (S : Store), (whileN c body n ρ S).good → whileN c body (n + 1) ρ S = whileN c body n ρ S
  | 0, _, _, h => h.elim
  | n + 1, ρ, S, h => by
    refine lift_good (k := fun b => if b = true then fun S1 => (body ρ S1).bind (kLoop (whileN c body n)) else M.ret (.nx, ρ)) h fun b S1 h1 => ?_
    cases b with
    | false => rfl
    | true => exact bind_good h1 fun r S2 h2 => kLoop_good h2 fun ρ' S' h3 => whileN_more c body n ρ' S' h3
theorem whileN_le (c : PEnv → M Bool) (body : SD) {n : Nat} {ρ : PEnv} {S : Store} (h : (whileN c body n ρ S).good) : ∀ m, whileN c body (n + m) ρ S = whileN c body n ρ S
  | 0 => rfl
  | m + 1 => by
    have ih := whileN_le c body h m
    rw [← Nat.add_assoc, whileN_more c body (n + m) ρ S (by rw [ih]; exact h), ih]
theorem while_is {c : PEnv → M Bool} {body : SD} {n : Nat} {ρ : PEnv} {S : Store} (h : (whileN c body n ρ S).good) : sWhile c body ρ S = whileN c body n ρ S := by
  have q : ∃ n, (whileN c body n ρ S).good := ⟨n, h⟩
  unfold sWhile
  rw [dif_pos q]
  rcases Nat.le_total n q.choose with z | z
  · obtain ⟨d, e⟩ := Nat.exists_eq_add_of_le z
    rw [e, whileN_le c body h]
  · obtain ⟨d, e⟩ := Nat.exists_eq_add_of_le z
    have := whileN_le c body q.choose_spec d
    rw [← e] at this
    exact this.symm
section
variable {X : Cx} {W : WX} {a : Expr} {pos : Pos}
theorem ds_while {c : Expr} {body : List Stmt} {fc : PEnv → M Bool} {g : SD} (hp : PassesOwn (model X.prog X.w) X.A X.env X.xe) (hc : DT X W c fc) (hb : DSs X W body g) : DS X W (.While c body [] pos) (sWhile fc g) := by
  refine PS_imp (ps_while hp hc hb) fun D σ H ⟨α, S, ρ, o, sl, h⟩ => ?_
  have ⟨n, hn⟩ : ∃ n, OD X.K α H (whileN fc g n ρ S) (Fin X.K W D) fun _ _ _ _ => False := by
    unfold sWhile at h
    by_cases q : ∃ n, (whileN fc g n ρ S).good
    · rw [dif_pos q] at h; exact ⟨_, h⟩
    · rw [dif_neg q] at h; exact h.elim
  refine ⟨fun m σ' H' => ∃ α' S' ρ', StoreOk X.K α' S' H' ∧ Slots X.K α' H' ρ' σ' ∧ OD X.K α' H' (whileN fc g m ρ' S') (Fin X.K W D) fun _ _ _ _ => False, ⟨n, α, S, ρ, o, sl, hn⟩, ?_⟩
  rintro m σ' H' ⟨α', S', ρ', o', sl', hh⟩
  cases m with
  | zero => exact hh.elim
  | succ m =>
    unfold whileN at hh
    refine ⟨α', S', ρ', o', sl', (lift_od sl' hh).imp (fun b α1 S1 H1 m1 h1 => ?_) fun _ _ _ _ _ q => q⟩
    cases b with
    | false => exact h1 α1 H1 (.refl m1.ok) σ' (sl'.mv m1)
    | true =>
      rw [if_pos rfl]
      refine ⟨fun σ'' H'' => ∃ α'' S'' ρ'', StoreOk X.K α'' S'' H'' ∧ Slots X.K α'' H'' ρ'' σ'' ∧ OD X.K α'' H'' (whileN fc g m ρ'' S'') (Fin X.K W D) fun _ _ _ _ => False, fun σ'' H'' q => ⟨m, Nat.lt_succ_self m, q⟩, ?_⟩
      have h1' : OD X.K α1 H1 ((g ρ' S1).bind (kLoop (whileN fc g m))) (Fin X.K W D) fun _ _ _ _ => False := h1
      refine ⟨α1, S1, ρ', m1.ok, sl'.mv m1, (OD.bind h1').imp (fun r α3 S3 H3 m3 h3 => ?_) fun _ _ _ _ _ q => q⟩
      obtain ⟨fl, ρ3⟩ := r
      cases fl with
      | nx => exact fun σ3 sl3 => ⟨α3, S3, ρ3, m3.ok, sl3, h3⟩
      | ct => exact fun σ3 sl3 => ⟨α3, S3, ρ3, m3.ok, sl3, h3⟩
      | bk => exact fun σ3 sl3 => h3 α3 H3 (.refl m3.ok) σ3 sl3
      | rt d => exact fun σ3 sl3 => h3 α3 H3 (.refl m3.ok) σ3 sl3
      | ex c => exact fun σ3 sl3 => h3 α3 H3 (.refl m3.ok) σ3 sl3
end

/-! ### comprehensions -/
def W0 : WX := fun _ _ _ _ => False
def noEx {β : Type} : Out β → Out β
  | .ex _ _ => .bad
  | o => o
theorem noEx_od {β : Type} {o : Out β} {K : PySem.W.Frag} {α : List Addr} {H : Hp} {R : β → List Addr → Store → Hp → Prop} {E E' : Exn → List Addr → Store → Hp → Prop} (h : OD K α H (noEx o) R E) : OD K α H o R E' := by
  cases o with
  | ok b S => exact h
  | ex c S => exact h.elim
  | bad => exact h.elim
def appC (n : Nat) (y : PV) : M Unit := fun S => match S[n]? with
  | some (.lst acc) => if acc.length < sizeLine then .ok () (S.set n (.lst (acc ++ [y]))) else .bad
  | _ => .bad
theorem appC_od {K : PySem.W.Frag} {α : List Addr} {H : Hp} {S : Store} {n : Nat} {p : Addr} {y : PV} {v : V} {R : Unit → List Addr → Store → Hp → Prop} {E : Exn → List Addr → Store → Hp → Prop} (o : StoreOk K α S H) (e : α[n]? = some p) (r : Rep K α H y v)
    (h : OD K α H (appC n y S) R E) : ∃ acc xs, S[n]? = some (.lst xs) ∧ H p = some (.lst acc) ∧ acc.length < sizeLine ∧ R () α (S.set n (.lst (xs ++ [y]))) (upd H p (.lst (acc ++ [v]))) ∧ Mv K α H α (S.set n (.lst (xs ++ [y]))) (upd H p (.lst (acc ++ [v]))) := by
  unfold appC at h
  split at h
  · rename_i xs e2
    obtain ⟨hl, h⟩ := if_out h
    obtain ⟨vs, hp, rs⟩ := o.ok _ _ _ e e2
    have mv := Mv.putL o e e2 hp (rs.append (.cons r .nil))
    exact ⟨vs, xs, e2, hp, by rw [← rs.length]; exact hl, h _ _ mv, mv⟩
  · exact h.elim
noncomputable def lcGo (chk : Store → Prop) (t : Tgt) (test : PEnv → M Bool) (elt : PEnv → M PV) (ρ : PEnv) (n : Nat) : List PV → M PV
  | [] => fun S => if chk S then .ok (.cell n) S else .bad
  | x :: xs => fun S => if chk S then (match bindT t x ρ with
    | some ρ1 => (noEx (test ρ1 S)).bind fun b => if b = true then fun S1 => (noEx (elt ρ1 S1)).bind fun y => (appC n y).bind fun _ => lcGo chk t test elt ρ n xs else lcGo chk t test elt ρ n xs
    | none => .bad) else .bad
noncomputable def eLc (f : PEnv → M Src) (t : Tgt) (test : PEnv → M Bool) (elt : PEnv → M PV) (vs : List Nat) : PEnv → M PV := fun ρ => (f ρ).bind fun src S => lcGo src.chk t test elt (wipeP ρ vs) S.length src.items (S ++ [.lst []])
def tTrue : PEnv → M Bool := fun _ => M.ret true
theorem lc_imp {K : PySem.W.Frag} {W : WX} {f : PEnv → M Src} {t : Tgt} {test : PEnv → M Bool} {elt : PEnv → M PV} {vs : List Nat} (hv : ∀ i ∈ t.slots, i ∈ vs) {σ : L2.St} {H : Hp} {Q : VK} (h : tD K W (eLc f t test elt vs) σ H Q) :
    tLc (tDI K W f) (gT K t) (tDT K W0 test) (tD K W0 elt) vs σ H Q := by
  obtain ⟨α, S, ρ, o, sl, h⟩ := h
  refine ⟨α, S, ρ, o, sl, (OD.bind (o := f ρ S) h).imp (fun src α1 S1 H1 m1 h1 J jo D hD => ?_) fun _ _ _ _ _ q => q⟩
  have mD : Mv K α1 H1 (α1 ++ [D]) (S1 ++ [.lst []]) (upd H1 D (.lst [])) := .cell m1.ok hD ⟨[], upd_same, .nil⟩
  refine ⟨fun i m H' => ∃ α' S', Mv K α1 H1 α' S' H' ∧ α'[S1.length]? = some D ∧ m = src.items.length - i ∧ OD K α' H' (lcGo src.chk t test elt (wipeP ρ vs) S1.length (src.items.drop i) S') (fun d α'' _ H'' => ∀ v, Rep K α'' H'' d v → Q v H'') fun _ _ _ _ => True,
    ⟨_, α1 ++ [D], _, mD, ?_, rfl, ?_⟩, ?_⟩
  · rw [← m1.ok.len, List.getElem?_append_right (Nat.le_refl _), Nat.sub_self]; rfl
  · have h1' : OD K α1 H1 (lcGo src.chk t test elt (wipeP ρ vs) S1.length src.items (S1 ++ [.lst []])) (fun d α' _ H' => ∀ v, Rep K α' H' d v → Q v H') (EX K W σ) := h1
    exact (h1'.imp (fun _ _ _ _ _ q => q) fun _ _ _ _ _ _ => True.intro).trans mD
  · rintro i m H' ⟨α', S', mv, eD, rfl, hh⟩
    cases e : src.items.drop i with
    | nil =>
      rw [e] at hh
      unfold lcGo at hh
      obtain ⟨hk, hh⟩ := if_out hh
      refine .inl ⟨(jo i α' S' H' mv hk).2 (List.drop_eq_nil_iff.mp e), ?_⟩
      exact hh α' H' (.refl mv.ok) _ (.cell eD)
    | cons x xs =>
      have hi : i < src.items.length := by
        rcases Nat.lt_or_ge i src.items.length with z | z
        · exact z
        · rw [List.drop_eq_nil_of_le z] at e; cases e
      have ex : src.items[i]? = some x := by
        rw [← List.head?_drop, e]; rfl
      have exs : src.items.drop (i + 1) = xs := by
        rw [← List.tail_drop, e]; rfl
      rw [e] at hh
      unfold lcGo at hh
      obtain ⟨hk, hh⟩ := if_out hh
      obtain ⟨jg, jy⟩ := (jo i α' S' H' mv hk).1 x ex
      refine .inr ⟨jg, fun H'' => ∃ α'' S'', Mv K α1 H1 α'' S'' H'' ∧ α''[S1.length]? = some D ∧ OD K α'' H'' (lcGo src.chk t test elt (wipeP ρ vs) S1.length xs S'') (fun d α'' _ H'' => ∀ v, Rep K α'' H'' d v → Q v H'') fun _ _ _ _ => True, ?_, fun v H'' y => ?_⟩
      · rintro H'' ⟨α'', S'', mv2, e2, h2⟩
        exact ⟨src.items.length - (i + 1), by omega, α'', S'', mv2, e2, rfl, by rw [exs]; exact h2⟩
      · obtain ⟨m2, rv⟩ := jy v H'' y
        have slw := (((sl.mv m1).mv mv).mv m2).wipe vs
        cases q : bindT t x (wipeP ρ vs) with
        | none => rw [q] at hh; exact hh.elim
        | some ρ1 =>
          rw [q] at hh
          refine bindT_ok t x v _ ρ1 _ slw rv q fun σ2 sl2 hw => ⟨by rw [hw vs hv, wipe_wipe], ?_⟩
          refine ⟨α', S', ρ1, m2.ok, sl2, noEx_od (E := fun _ _ _ _ => True) ((OD.bind (o := noEx (test ρ1 S')) (hh.trans m2)).imp (fun b α3 S3 H3 m3 h3 => ?_) fun _ _ _ _ _ _ => True.intro)⟩
          cases b with
          | false => exact ⟨α3, S3, mv.trans (m2.trans m3), m3.le _ _ eD, h3⟩
          | true =>
            rw [if_pos rfl]
            have h3' : OD K α3 H3 ((noEx (elt ρ1 S3)).bind fun y => (appC S1.length y).bind fun _ => lcGo src.chk t test elt (wipeP ρ vs) S1.length xs) _ _ := h3
            refine ⟨α3, S3, ρ1, m3.ok, sl2.mv m3, noEx_od (E := fun _ _ _ _ => True) ((OD.bind h3').imp (fun y α4 S4 H4 m4 h4 w rw' => ?_) fun _ _ _ _ _ _ => True.intro)⟩
            have m34 := m3.trans m4
            obtain ⟨acc, ys, e1, e2, e3, h5, m5⟩ := appC_od m4.ok (m34.le _ _ eD) rw' (OD.bind (o := appC S1.length y S4) h4)
            exact ⟨acc, e2, e3, α4, _, mv.trans (m2.trans (m34.trans m5)), m34.le _ _ eD, h5⟩
section
variable {X : Cx} {W : WX} {pos : Pos}
theorem de_lc {elt tg iter : Expr} {ifs : List Expr} {scope : Scope} (own : List (Str × Nat)) {f : PEnv → M Src} {t : Tgt} {test : PEnv → M Bool} {fe : PEnv → M PV} (hc : X.calm = true) (hN : X.N.Nodup) (hi : DI X W tg iter f) (ok : BlkOk X.N X.env.scope scope own) (hv : ∀ i ∈ t.slots, i ∈ own.map (·.2))
    (hg : ∀ (s : Shared) (H : Hp) (C : Addr) (cl : List (Str × Addr)) (fp : List Addr), DG (X.blk s H scope (compEnvC scope cl C X.env) fp) tg t) (ht : ∀ (s : Shared) (H : Hp) (C : Addr) (cl : List (Str × Addr)) (fp : List Addr), PTs (X.blk s H scope (compEnvC scope cl C X.env) fp) ifs (tDT X.K W0 test))
    (he : ∀ (s : Shared) (H : Hp) (C : Addr) (cl : List (Str × Addr)) (fp : List Addr), DE (X.blk s H scope (compEnvC scope cl C X.env) fp) W0 elt fe) (hs : ∀ x, foldedSetIterable iter X.env x = pure x := by intro _; rfl) : DE X W (.ListComp elt [⟨tg, iter, ifs, 0⟩] scope pos) (eLc f t test fe (own.map (·.2))) :=
  PE_imp (pe_lc hc hN hi ok hg ht he hs) fun σ H Q h => lc_imp hv h
theorem ds_setLc (i : Nat) {y : Str} {py spos : Pos} {elt tg iter : Expr} {ifs : List Expr} {scope : Scope} (own : List (Str × Nat)) {f : PEnv → M Src} {t : Tgt} {test : PEnv → M Bool} {fe : PEnv → M PV} (hc : X.calm = true) (hN : X.N.Nodup) (hi : DI X W tg iter f) (ok : BlkOk X.N X.env.scope scope own) (hv : ∀ i ∈ t.slots, i ∈ own.map (·.2))
    (hg : ∀ (s : Shared) (H : Hp) (C : Addr) (cl : List (Str × Addr)) (fp : List Addr), DG (X.blk s H scope (compEnvC scope cl C X.env) fp) tg t) (ht : ∀ (s : Shared) (H : Hp) (C : Addr) (cl : List (Str × Addr)) (fp : List Addr), PTs (X.blk s H scope (compEnvC scope cl C X.env) fp) ifs (tDT X.K W0 test))
    (he : ∀ (s : Shared) (H : Hp) (C : Addr) (cl : List (Str × Addr)) (fp : List Addr), DE (X.blk s H scope (compEnvC scope cl C X.env) fp) W0 elt fe)
    (hsw : swapsWith (.ListComp elt [⟨tg, iter, ifs, 0⟩] scope pos) (some (.Name y py)) spos.line X.env = pure true) (hy : X.N[i]? = some y := by rfl) (hyl : X.env.scope.names.lookup y = some .local := by rfl) (hs : ∀ x, foldedSetIterable iter X.env x = pure x := by intro _; rfl) :
    DS X W (.Assign [.Name y py] (.ListComp elt [⟨tg, iter, ifs, 0⟩] scope pos) spos) (sSet i (eLc f t test fe (own.map (·.2)))) := by
  refine PS_imp (ps_setLc (te := tD X.K W0 fe) (g := gT X.K t) hc hN hy hyl hsw hi ok hg ht he hs) fun D σ H ⟨α, S, ρ, o, sl, h⟩ => ?_
  refine lc_imp hv ⟨α, S, ρ, o, sl, (lift_od sl h).imp (fun d α1 S1 H1 m1 h1 v rv => ?_) fun _ _ _ _ _ q => q⟩
  exact h1 α1 H1 (.refl m1.ok) _ ((sl.mv m1).set i rv)
theorem pts_nilD {W : WX} : PTs X [] (tDT X.K W tTrue) := ⟨fun pins s σ H Q I ⟨α, S, ρ, o, sl, h⟩ => pts_nil.run pins s σ H Q I (h α H (.refl o))⟩
theorem pts_oneD {W : WX} {c : Expr} {f : PEnv → M Bool} (h : DT X W c f) : PTs X [c] (tDT X.K W f) := pts_one h
end

/-! ### what is walked -/
def srcRange (lo : Int) (n : Nat) : Src := ⟨(List.range n).map fun i => PV.int (lo + (i : Nat)), fun _ => True⟩
def range1M : List PV → M Src
  | [.int j] => if -(2 ^ 62) ≤ j ∧ j < 2 ^ 62 then M.ret (srcRange 0 j.toNat) else M.bad
  | _ => M.bad
def range2M : List PV → M Src
  | [.int i, .int j] => if -(2 ^ 62) ≤ i ∧ i < 2 ^ 62 ∧ -(2 ^ 62) ≤ j ∧ j < 2 ^ 62 then M.ret (srcRange i (j - i).toNat) else M.bad
  | _ => M.bad
theorem srcRange_ok {K : PySem.W.Frag} {α : List Addr} {H : Hp} (lo : Int) (n : Nat) : SrcOk K (Itr lo n) α H (srcRange lo n) := by
  intro i α' S' H' m _
  refine ⟨fun x e => ?_, fun hl => ?_⟩
  · have hi : i < n := by
      have := (List.getElem?_eq_some_iff.mp e).1
      simpa [srcRange] using this
    have ex : x = .int (lo + (i : Nat)) := by
      simp [srcRange, hi] at e
      exact e.symm
    subst ex
    refine ⟨hi, fun v H'' y => ?_⟩
    obtain ⟨y1, y2⟩ := y
    subst y1; subst y2
    exact ⟨.refl m.ok, .int _⟩
  · show n ≤ i
    simpa [srcRange] using hl
theorem seqL {K : PySem.W.Frag} {α : List Addr} {H : Hp} {S : Store} {n : Nat} {a : Addr} {c : Cell} (o : StoreOk K α S H) (e : α[n]? = some a) (e2 : S[n]? = some c) : (∀ xs, c = .lst xs ∨ c = .rls xs → ∃ vs, SqL K H a vs ∧ Reps K α H xs vs) := by
  intro xs hc
  have k := o.ok _ _ _ e e2
  rcases hc with rfl | rfl
  · obtain ⟨vs, h, r⟩ := k; exact ⟨vs, SqL.of h, r⟩
  · obtain ⟨vs, h, r⟩ := k
    refine ⟨vs, ?_, r⟩
    rcases h with ⟨o, h⟩ | h
    · exact .inl (.inr ⟨o, h⟩)
    · exact .inr h
/-- the items of a list cell -/
def Cell.items? : Cell → Option (List PV)
  | .lst xs => some xs
  | .rls xs => some xs
  | _ => none
theorem Cell.items_or {c : Cell} {xs : List PV} (h : c.items? = some xs) : c = .lst xs ∨ c = .rls xs := by
  cases c with
  | lst ys => cases h; exact .inl rfl
  | rls ys => cases h; exact .inr rfl
  | ins C fs => cases h
def seqM : PV → M Src
  | .tup xs => M.ret ⟨xs, fun _ => True⟩
  | .cell n => getC n fun c => match c.items? with
    | some xs => M.ret ⟨xs, fun S' => S'[n]? = some c⟩
    | none => M.bad
  | _ => M.bad
theorem srcList_ok {K : PySem.W.Frag} {α : List Addr} {H : Hp} {n : Nat} {a : Addr} {c : Cell} {xs : List PV} (e : α[n]? = some a) (hc : c.items? = some xs) : SrcOk K (Itl K a) α H ⟨xs, fun S' => S'[n]? = some c⟩ := by
  intro i α' S' H' m hk
  obtain ⟨vs, hq, r⟩ := seqL m.ok (m.le _ _ e) hk xs (Cell.items_or hc)
  refine ⟨fun x ex => ?_, fun hl => ⟨vs, hq, ?_⟩⟩
  · obtain ⟨v, ev, rv⟩ := r.get ex
    refine ⟨⟨vs, v, hq, ev⟩, fun w H'' y => ?_⟩
    obtain ⟨y1, y2⟩ := y
    subst y1
    have z := y2 vs hq
    rw [ev] at z
    cases z
    exact ⟨.refl m.ok, rv⟩
  · have hl' : xs.length ≤ i := hl
    rw [← r.length]; exact hl'
theorem srcTup_ok {K : PySem.W.Frag} {α : List Addr} {H : Hp} {a : Addr} {vs : List V} {xs : List PV} (h : ST K H a vs) (r : Reps K α H xs vs) : SrcOk K (Itt K a) α H ⟨xs, fun _ => True⟩ := by
  intro i α' S' H' m hk
  have hq := (m.grow.sT h).sq
  have r' := r.mono m.grow m.le
  refine ⟨fun x ex => ?_, fun hl => ⟨vs, hq, ?_⟩⟩
  · obtain ⟨v, ev, rv⟩ := r'.get ex
    refine ⟨⟨vs, v, hq, ev⟩, fun w H'' y => ?_⟩
    obtain ⟨y1, y2⟩ := y
    subst y1
    have z := y2 vs hq
    rw [ev] at z
    cases z
    exact ⟨.refl m.ok, rv⟩
  · have hl' : xs.length ≤ i := hl
    rw [← r.length]; exact hl'
section
variable {X : Cx} {W : WX} {tg a b : Expr} {pos : Pos}
def sArgs (g : List PV → M Src) (f : PEnv → M (List PV)) : PEnv → M Src := fun ρ => (f ρ).bind g
theorem di_range1 {p : Pos} {f : PEnv → M (List PV)} (hm : X.mg "range" = none) (ha : DA X W [a] f) (hg : Gl X "range" := by rfl) (hs : starEach [a] X.env = [(false, eval a X.env)] := by rfl) : DI X W tg (.Call (.Name "range" p) [a] [] pos) (sArgs range1M f) := by
  refine PI_imp (pi_range1 hg hm ha hs) fun σ H R ⟨α, S, ρ, o, sl, h⟩ => ?_
  refine ⟨α, S, ρ, o, sl, (OD.bind (o := f ρ S) h).imp (fun xs α1 S1 H1 m1 h1 vs rv => ?_) fun _ _ _ _ _ q => q⟩
  unfold range1M at h1
  split at h1
  · rename_i j
    by_cases q : -(2 ^ 62) ≤ j ∧ j < 2 ^ 62
    · rw [if_pos q] at h1
      cases rv with
      | cons r rr =>
        cases r
        cases rr
        exact ⟨j, rfl, q.1, q.2, h1 α1 H1 (.refl m1.ok) _ (srcRange_ok 0 _)⟩
    · rw [if_neg q] at h1; exact h1.elim
  · exact h1.elim
theorem di_range2 {p : Pos} {f : PEnv → M (List PV)} (hm : X.mg "range" = none) (ha : DA X W [a, b] f) (hg : Gl X "range" := by rfl) (hs : starEach [a, b] X.env = [(false, eval a X.env), (false, eval b X.env)] := by rfl) (hs2 : starEach [b] X.env = [(false, eval b X.env)] := by rfl) : DI X W tg (.Call (.Name "range" p) [a, b] [] pos) (sArgs range2M f) := by
  refine PI_imp (pi_range2 hg hm ha hs hs2) fun σ H R ⟨α, S, ρ, o, sl, h⟩ => ?_
  refine ⟨α, S, ρ, o, sl, (OD.bind (o := f ρ S) h).imp (fun xs α1 S1 H1 m1 h1 vs rv => ?_) fun _ _ _ _ _ q => q⟩
  unfold range2M at h1
  split at h1
  · rename_i i j
    by_cases q : -(2 ^ 62) ≤ i ∧ i < 2 ^ 62 ∧ -(2 ^ 62) ≤ j ∧ j < 2 ^ 62
    · rw [if_pos q] at h1
      cases rv with
      | cons r rr =>
        cases r
        cases rr with
        | cons r2 r3 =>
          cases r2
          cases r3
          exact ⟨i, j, rfl, q, h1 α1 H1 (.refl m1.ok) _ (srcRange_ok i _)⟩
    · rw [if_neg q] at h1; exact h1.elim
  · exact h1.elim
/-- a list or a tuple, walked -/
def iSeq (K : PySem.W.Frag) (tl : TE) : TI := fun σ H R => tl σ H fun x H1 => ∃ a, x = .ref a ∧ (((∃ xs, SqL K H1 a xs) ∧ R (Itl K a) H1) ∨ ((∃ xs, SqT K H1 a xs) ∧ R (Itt K a) H1))
theorem pi_seq {l : Expr} {tl : TE} (hl : PE X l tl) : PI X tg l (iSeq X.K tl) := by
  refine ⟨fun pins s σ H R I h => thn (hl.run pins s σ H _ I h) fun v s1 ⟨x, H1, I1, r1, a, ex, q⟩ => ?_⟩
  subst ex
  have hv : v = Value.ref a := r1
  subst hv
  have hsz : ∀ b ∈ [s1.heap.objs.size], FpOk X pins H1 b := fun b hb => by
    have e : b = s1.heap.objs.size := by simpa using hb
    rw [e]
    exact I1.fpOk (Nat.le_refl _) (I1.hok.fresh (Nat.le_refl _))
  rcases q with ⟨⟨xs, hq⟩, q⟩ | ⟨⟨xs, hq⟩, q⟩
  · obtain ⟨its, rv, p, hz⟩ := I1.list hq
    exact wpAny_pyIter_list p.isList ⟨_, _, _, _, _, rfl, I1.kept (t' := s1.toks) (fun b o e => Heap.get?_push_of_some _ e), turn_list a s1.heap.objs.size, ⟨_, Heap.get?_push_size _ rfl, rfl, rfl⟩, hsz, q⟩
  · obtain ⟨its, rv, p, hz⟩ := I1.tuple hq
    exact wpAny_pyIter_tuple (show s1.heap.IsTuple a its.toArray from p) ⟨_, _, _, _, _, rfl, I1.kept (t' := s1.toks) (fun b o e => Heap.get?_push_of_some _ e), turn_tuple a s1.heap.objs.size, ⟨_, Heap.get?_push_size _ rfl, rfl, rfl⟩, hsz, q⟩
def eSrc (f : PEnv → M PV) : PEnv → M Src := fun ρ => (f ρ).bind seqM
theorem di_seq {f : PEnv → M PV} (h : DE X W a f) : DI X W tg a (eSrc f) := by
  refine PI_imp (pi_seq h) fun σ H R ⟨α, S, ρ, o, sl, h⟩ => ?_
  refine ⟨α, S, ρ, o, sl, (OD.bind (o := f ρ S) h).imp (fun x α1 S1 H1 m1 h1 v rv => ?_) fun _ _ _ _ _ q => q⟩
  cases x with
  | tup xs =>
    cases rv with
    | tup hs hr => exact ⟨_, rfl, .inr ⟨⟨_, hs.sq⟩, h1 α1 H1 (.refl m1.ok) _ (srcTup_ok hs hr)⟩⟩
  | cell n =>
    cases rv with
    | cell e =>
      obtain ⟨c, q, h2⟩ := getC_od (show OD X.K α1 H1 (getC n _ S1) _ _ from h1)
      cases z : c.items? with
      | none => rw [z] at h2; exact h2.elim
      | some xs =>
        rw [z] at h2
        obtain ⟨vs, hq, _⟩ := seqL m1.ok e q xs (Cell.items_or z)
        exact ⟨_, rfl, .inl ⟨⟨vs, hq⟩, h2 α1 H1 (.refl m1.ok) _ (srcList_ok e z)⟩⟩
  | _ => exact h1.elim
end
end DL

/-! DLe: defs and their calls. -/
namespace DL
open PySem PySem.Spec PyProof.Rows L2
open Classical

/-- a def's promise where no repr is under way -/
structure FnG (P : Program) (w : World) (K : PySem.W.Frag) (mg : Str → Option Value) (base : Heap) (k : Nat) (f : Addr) (fd : FuncData) (ps : List Str) (sp : Sp) : Prop where
  len : ∀ vs H Q E, sp vs H Q E → vs.length = ps.length
  run : ∀ (A : Around) (outer : List Env) (s : Shared) (H : Hp) (args : Args) (us : List Value) (vs : List V) (Q : VK) (E : XK), Room k A → A.guards = some [] →
    Env0 P w K mg base A outer s H → BindsTo s fd args (ps.zip us) → Vals vs us → sp vs H Q E → codeAny (model P w) A (.call (.ref f) args) (CR (L2.CX P w) outer P w H s Q E) s
theorem FnG.mono {P : Program} {w : World} {K : PySem.W.Frag} {mg : Str → Option Value} {base : Heap} {j k : Nat} {f : Addr} {fd : FuncData} {ps : List Str} {sp : Sp} (F : FnG P w K mg base j f fd ps sp) (h : j ≤ k) : FnG P w K mg base k f fd ps sp :=
  ⟨F.len, fun A outer s H args us vs Q E hr gd => F.run A outer s H args us vs Q E (hr.mono h) gd⟩
abbrev FD := List PV → M PV
def spD (K : PySem.W.Frag) (np : Nat) (F : FD) : Sp := fun vs H Q E => ∃ α S ds, ds.length = np ∧ StoreOk K α S H ∧ Reps K α H ds vs ∧
  OD K α H (F ds S) (fun d α' _ H' => ∀ v, Rep K α' H' d v → Q v H') (fun c α' _ H' => ∀ cls d, XRep K α' H' c cls d → E cls d H')
/-- a body as a function of the arguments; nn slots in all -/
def endF : Fl × PEnv → M PV := fun r => match r.1 with
  | .nx => M.ret .non
  | .rt d => M.ret d
  | .ex c => fun S => .ex c S
  | _ => M.bad
def runF (nn : Nat) (g : SD) : FD := fun ds S => (noEx (g (ds.map some ++ List.replicate (nn - ds.length) none) S)).bind endF

theorem Slots.start {K : PySem.W.Frag} {α : List Addr} {H : Hp} {ds : List PV} {vs : List V} (r : Reps K α H ds vs) (N : List Str) : Slots K α H (ds.map some ++ List.replicate (N.length - ds.length) none) (L2.start N vs) := by
  have hl := r.length
  refine ⟨by unfold L2.start; simp [hl], fun i d e => ?_⟩
  by_cases hi : i < ds.length
  · rw [List.getElem?_append_left (by simpa using hi), List.getElem?_map] at e
    cases q : ds[i]? with
    | none => rw [q] at e; cases e
    | some x =>
      rw [q] at e
      cases e
      obtain ⟨v, h1, h2⟩ := r.get q
      refine ⟨v, ?_, h2⟩
      unfold L2.start
      rw [List.getElem?_append_left (by rw [List.length_map, ← hl]; exact hi), List.getElem?_map, h1]; rfl
  · rw [List.getElem?_append_right (by simpa using hi), List.getElem?_replicate] at e
    split at e <;> cases e

section
variable {P : Program} {w : World} {K : PySem.W.Frag} {mg : Str → Option Value} {base : Heap}
theorem fnG_mk {x qual : Str} {st : Stmt} {f : Addr} {fd : FuncData} {N ps : List Str} {k : Nat} {g : SD} (F : L2.Fun K x qual st f fd) (S : FnScope N ps (defScope st))
    (hbody : ∀ (cdv : Value) (A : Around) (outer : List Env) (s : Shared) (H : Hp) (E : XK), Room k (A.deeper (envOfC qual (defScope st) s.heap.objs.size f cdv)) → A.guards = some [] →
      DSs (cxOf (L2.CX P w) P w K mg base N qual (defScope st) f cdv A outer s H E) (fun cls d _ H => E cls d H) (defBody st) g) :
    FnG P w K mg base (k + 1) f fd ps (spD K ps.length (runF N.length g)) := by
  obtain ⟨oc, od, kV, doc, pm, an, cdv, ct, osl, rfl, lk, hcd⟩ := F.ex
  have len : ∀ vs H Q E, spD K ps.length (runF N.length g) vs H Q E → vs.length = ps.length := by
    rintro vs H Q E ⟨α, S, ds, hl, _, r, _⟩
    rw [← r.length, hl]
  refine ⟨len, fun A outer s H args us vs Q E hr gd e0 hb r hsp => ?_⟩
  have hl := len _ _ _ _ hsp
  have old : ∀ b o, base.get? b = some o → s.heap.get? b = some o := fun b o e => (e0.bs b o e).1
  have KX : K.In s.heap := e0.mod.kin.keeps old
  have code := PySem.W.codeRec_of KX hcd
  refine codeAny_call_function hr.depth (KX _ _ lk) rfl S.co S.gen rfl code (hb _ _ _ _ ?_)
  refine wpAny_newFunctionEnv_cells S.kind (fun y hy => ?_) fun env he s1 x => ?_
  · rcases S.par y.1 (List.of_mem_zip hy).1 with q | q
    · exact .inl q
    · exact .inr ⟨q, PySem.W.cellsFrom_some _ _ _ (.inl q)⟩
  · subst he
    refine ⟨(e0.mod.nolimit.keeps old).keeps x.toInCall.keep, codeAny_func ?_⟩
    have I : Inv (cxOf (L2.CX P w) P w K mg base N qual (defScope st) f cdv A outer s H E) [] (L2.start N vs) H s1 := inv_start S hr.hd e0 hl r x
    obtain ⟨α, S0, ds, hd, so, rp, q⟩ := hsp
    have hq : tS K (fun cls d _ H => E cls d H) g { nx := fun _ H' => Q .non H', rt := Q } (L2.start N vs) H := by
      refine ⟨α, S0, _, so, Slots.start rp N, (noEx_od (OD.bind q)).imp (fun r α1 S1 H1 m1 h1 => ?_) fun _ _ _ _ _ z => z⟩
      obtain ⟨fl, ρ1⟩ := r
      cases fl with
      | nx => exact fun _ _ => h1 α1 H1 (.refl m1.ok) _ .non
      | rt d => exact fun _ _ v rv => h1 α1 H1 (.refl m1.ok) v rv
      | bk => exact h1.elim
      | ct => exact h1.elim
      | ex c => exact fun _ _ cls d xr => h1 α1 H1 (.refl m1.ok) cls d xr
    refine wpAny_mono ((hbody cdv A outer s H E (hr.deeper _) gd).run [] s1 (L2.start N vs) H _ I hq) (fun fl s' hs => ?_) fun e s' hs => hs
    cases fl with
    | ret u =>
      obtain ⟨v, σ', H', J, rv, q'⟩ := hs
      exact ⟨v, H', J.os, J.bare, J.base, J.hok, rv, q'⟩
    | next =>
      obtain ⟨σ', H', J, q'⟩ := hs
      exact ⟨.non, H', J.os, J.bare, J.base, J.hok, rfl, q'⟩
    | brk => obtain ⟨_, _, _, q'⟩ := hs; exact q'.elim
    | cont => obtain ⟨_, _, _, q'⟩ := hs; exact q'.elim
end

theorem fnG_mk' {x qual : Str} {st : Stmt} {f : Addr} {fd : FuncData} (N ps : List Str) (k np nn : Nat) (g : SD) (hnp : ps.length = np) (hnn : N.length = nn) (P : Program) (w : World) {K : PySem.W.Frag} (mg : Str → Option Value) (base : Heap) (F : L2.Fun K x qual st f fd) (S : FnScope N ps (defScope st))
    (hbody : ∀ (cdv : Value) (A : Around) (outer : List Env) (s : Shared) (H : Hp) (E : XK), Room k (A.deeper (envOfC qual (defScope st) s.heap.objs.size f cdv)) → A.guards = some [] →
      DSs (cxOf (L2.CX P w) P w K mg base N qual (defScope st) f cdv A outer s H E) (fun cls d _ H => E cls d H) (defBody st) g) : FnG P w K mg base (k + 1) f fd ps (spD K np (runF nn g)) := by
  subst hnp; subst hnn
  exact fnG_mk F S hbody

/-! ### calls -/
def chkL (np : Nat) (F : FD) : FD := fun ds => if ds.length = np then F ds else M.bad
section
variable {X : Cx} {W : WX} {k np : Nat} {f : Addr} {fd : FuncData} {ps : List Str} {F : FD} {pins : List (Addr × Obj)} {σ : L2.St} {H : Hp} {s : Shared} {Q : VK}
/-- the callee runs -/
theorem run_G {us : List Value} {vs : List V} {sp : Sp} {kw : List (Str × Value)} {us' : List Value} (G : FnG X.prog X.w X.K X.mg X.base k f fd ps sp) (hr : Room k X.A) (gd : X.A.guards = some []) (tk : Takes X W)
    (hb : BindsTo s fd ⟨us', kw⟩ (ps.zip us)) (I : Inv X pins σ H s) (r : Vals vs us) (h : sp vs H Q (WE W σ)) : wpAny (model X.prog X.w) X.A (call (.ref f) us' kw) (EP X pins σ Q) X.xe s := by
  refine wpAny_call (codeAny_mono (G.run X.A X.stack s H _ us vs Q (WE W σ) hr gd I.env0 hb r h) fun r s' hq => ?_)
  cases r with
  | error e => exact passAt tk σ pins H s e s' I hq
  | ok fl =>
    cases fl with
    | ret u => exact I.after hq
    | next => exact False.elim hq
    | brk => exact False.elim hq
    | cont => exact False.elim hq
theorem sp_of {α : List Addr} {S : Store} {ds : List PV} {vs : List V} (o : StoreOk X.K α S H) (r : Reps X.K α H ds vs) (h : OD X.K α H (chkL np F ds S) (fun d α' _ H' => ∀ v, Rep X.K α' H' d v → Q v H') (EX X.K W σ)) : spD X.K np F vs H Q (WE W σ) := by
  unfold chkL at h
  by_cases q : ds.length = np
  · rw [if_pos q] at h
    exact ⟨α, S, ds, q, o, r, h⟩
  · rw [if_neg q] at h; exact h.elim
variable {x : Str} {p pos : Pos} {e : Expr} {es : List Expr}
/-- f(e, ..) of a def of the module -/
theorem de_call {fa : PEnv → M (List PV)} (G : FnG X.prog X.w X.K X.mg X.base k f fd ps (spD X.K np F)) (hr : Room k X.A) (gd : X.A.guards = some []) (tk : Takes X W) (hm : X.mg x = some (.ref f)) (hk : PySem.W.keepIn X.K (.ref f) = true) (hb : Binds X.K fd ps [])
    (ha : DA X W (e :: es) fa) (hg : Gl X x := by rfl) (hdb : (x == ("__debug__" : Str)) = false := by decide) (he : starEach (e :: es) X.env = (false, eval e X.env) :: starEach es X.env := by rfl) (hpl : (backTo pos (starEach es X.env)).any (·.1) = false := by rfl) :
    DE X W (.Call (.Name x p) (e :: es) [] pos) (eArgs (chkL np F) fa) := by
  refine ⟨fun pins s σ H Q I ⟨α, S, ρ, o, sl, h⟩ => ?_⟩
  refine wpAny_Call_Name_kw (ld_glob I hg hm ?_ hdb)
  refine PySem.W.callWith_K (h₀ := X.base) I.ok.mod.kin hk (thn (ha.run pos pins s σ H (fun vs H1 => spD X.K np F vs H1 Q (WE W σ)) I ⟨α, S, ρ, o, sl, ?_⟩) fun us s1 ⟨vs, H1, I1, r, q⟩ => ⟨I1.kIn, ?_⟩) he hpl
  · exact (OD.bind (o := fa ρ S) h).imp (fun ds α1 S1 H1 m1 h1 vs rv => sp_of m1.ok rv h1) fun _ _ _ _ _ q => q
  · have hl : (us ++ []).length = ps.length := by rw [List.append_nil, ← r.length]; exact G.len _ _ _ _ q
    have b := hb s1 us I1.kIn hl
    rw [List.append_nil] at b
    exact run_G G hr gd tk b I1 r q
theorem de_call0 (G : FnG X.prog X.w X.K X.mg X.base k f fd ps (spD X.K np F)) (hr : Room k X.A) (gd : X.A.guards = some []) (tk : Takes X W) (hm : X.mg x = some (.ref f)) (hk : PySem.W.keepIn X.K (.ref f) = true) (hb : Binds X.K fd ps [])
    (hg : Gl X x := by rfl) (hdb : (x == ("__debug__" : Str)) = false := by decide) : DE X W (.Call (.Name x p) [] [] pos) (eArgs (chkL np F) eNil) := by
  refine ⟨fun pins s σ H Q I ⟨α, S, ρ, o, sl, h⟩ => ?_⟩
  refine wpAny_Call_Name_kw (ld_glob I hg hm ?_ hdb)
  have q : spD X.K np F [] H Q (WE W σ) := sp_of o .nil h
  have hl : ([] ++ [] : List Value).length = ps.length := by
    have := G.len _ _ _ _ q
    simpa using this
  exact PySem.W.callWith_K0 I.kIn hk (run_G G hr gd tk (hb s [] I.kIn hl) I .nil q)
/-! keywords alone: f(k = v, ..) -/
def pick {β : Type} (ix : List Nat) (zs : List β) : List β := ix.filterMap fun i => zs[i]?
theorem Vals.pick {vs : List V} {us : List Value} (r : Vals vs us) : ∀ ix : List Nat, Vals (DL.pick ix vs) (DL.pick ix us)
  | [] => .nil
  | i :: ix => by
    unfold DL.pick
    rw [List.filterMap_cons, List.filterMap_cons]
    cases q : vs[i]? with
    | none => rw [r.none_of q]; exact Vals.pick r ix
    | some v =>
      obtain ⟨u, h1, h2⟩ := r.get q
      rw [h1]
      exact .cons h2 (Vals.pick r ix)
theorem Reps.pick {K : PySem.W.Frag} {α : List Addr} {ds : List PV} {vs : List V} (r : Reps K α H ds vs) : ∀ ix : List Nat, Reps K α H (DL.pick ix ds) (DL.pick ix vs)
  | [] => .nil
  | i :: ix => by
    unfold DL.pick
    rw [List.filterMap_cons, List.filterMap_cons]
    cases q : ds[i]? with
    | none =>
      have z : vs[i]? = none := by
        rw [List.getElem?_eq_none_iff] at q ⊢
        rw [← r.length]; exact q
      rw [z]; exact Reps.pick r ix
    | some d =>
      obtain ⟨v, h1, h2⟩ := r.get q
      rw [h1]
      exact .cons h2 (Reps.pick r ix)
abbrev DK (X : Cx) (W : WX) (kws : List Keyword) (f : PEnv → M (List PV)) : Prop := PK X kws (tDA X.K W f)
theorem dk_nil : DK X W [] eNil := ⟨fun pos pins s σ H Q I ⟨α, S, ρ, o, sl, h⟩ => pk_nil.run pos pins s σ H Q I (h α H (.refl o) [] .nil)⟩
theorem dk_cons {nm : Option Str} {kpos : Pos} {kws : List Keyword} {f1 : PEnv → M PV} {g1 : PEnv → M (List PV)} (ha : DE X W e f1) (hr : DK X W kws g1) : DK X W (⟨nm, e, kpos⟩ :: kws) (eCons f1 g1) := by
  refine ⟨fun pos pins s σ H Q I ⟨α, S, ρ, o, sl, h⟩ => (pk_cons ha hr).run pos pins s σ H Q I ?_⟩
  refine ⟨α, S, ρ, o, sl, (OD.bind (o := f1 ρ S) h).imp (fun x α1 S1 H1 m1 h1 v rv => ?_) fun _ _ _ _ _ q => q⟩
  refine ⟨α1, S1, ρ, m1.ok, sl.mv m1, (OD.bind (o := g1 ρ S1) h1).imp (fun xs α2 S2 H2 m2 h2 vs rvs => ?_) fun _ _ _ _ _ q => q⟩
  exact h2 α2 H2 (.refl m2.ok) _ (.cons (rv.mono m2.grow m2.le) rvs)
theorem de_callK {kws : List Keyword} (ks : List Str) (ix : List Nat) {fk : PEnv → M (List PV)} (G : FnG X.prog X.w X.K X.mg X.base k f fd ps (spD X.K np F)) (hr : Room k X.A) (gd : X.A.guards = some []) (tk : Takes X W) (hm : X.mg x = some (.ref f)) (hk : PySem.W.keepIn X.K (.ref f) = true)
    (hb : ∀ (s : Shared) (ws : List Value), ws.length = ks.length → BindsTo s fd ⟨[], ks.zip ws⟩ (ps.zip (pick ix ws))) (ha : DK X W kws fk) (hg : Gl X x := by rfl) (hall : (backToKw pos (keywordEach kws X.env)).all (·.1.isSome) = true := by rfl)
    (hks : (backToKw pos (keywordEach kws X.env)).filterMap (·.1) = ks := by rfl) (hdb : (x == ("__debug__" : Str)) = false := by decide) (hpl : ((backTo pos (starEach [] X.env)).any (·.1) || (backToKw pos (keywordEach kws X.env)).any (·.1.isNone)) = false := by rfl) :
    DE X W (.Call (.Name x p) [] kws pos) (eArgs (fun zs => if zs.length = ks.length then chkL np F (pick ix zs) else M.bad) fk) := by
  refine ⟨fun pins s σ H Q I ⟨α, S, ρ, o, sl, h⟩ => ?_⟩
  refine wpAny_Call_Name_kw (ld_glob I hg hm ?_ hdb)
  refine PySem.W.callWith_KW0 (h₀ := X.base) I.ok.mod.kin hk hall (thn (ha.run pos pins s σ H (fun vs H1 => vs.length = ks.length ∧ spD X.K np F (pick ix vs) H1 Q (WE W σ)) I ⟨α, S, ρ, o, sl, ?_⟩) fun us s1 ⟨vs, H1, I1, r, hl, q⟩ => ⟨I1.kIn, ?_⟩) hpl
  · refine (OD.bind (o := fk ρ S) h).imp (fun ds α1 S1 H1 m1 h1 vs rv => ?_) fun _ _ _ _ _ q => q
    by_cases z : ds.length = ks.length
    · rw [if_pos z] at h1
      exact ⟨by rw [← rv.length, z], sp_of m1.ok (rv.pick ix) h1⟩
    · rw [if_neg z] at h1; exact h1.elim
  · rw [hks]
    exact run_G (us' := []) G hr gd tk (hb s1 us (by rw [← r.length, hl])) I1 (Vals.pick r ix) q
end
end DL

/-! DLo: operators, built-ins by values. -/
namespace DL
open PySem PySem.Spec PyProof.Rows L2
open Classical

theorem if_outM {β : Type} {c : Prop} {dc : Decidable c} {m : M β} {K : PySem.W.Frag} {α : List Addr} {H : Hp} {S : Store} {R : β → List Addr → Store → Hp → Prop} {E : Exn → List Addr → Store → Hp → Prop} (h : OD K α H ((if c then m else M.bad : M β) S) R E) : c ∧ OD K α H (m S) R E := by
  by_cases hc : c
  · rw [if_pos hc] at h; exact ⟨hc, h⟩
  · rw [if_neg hc] at h; exact h.elim
/-! ### data: what stands below a value, lists read too -/
def mapO {β γ : Type} (f : β → Option γ) : List β → Option (List γ)
  | [] => some []
  | x :: xs => match f x with
    | some y => (mapO f xs).map (y :: ·)
    | none => none
def toD (S : Store) : Nat → PV → Option PyData
  | 0, _ => none
  | n + 1, x => match x with
    | .non => some .none
    | .bl b => some (.bool b)
    | .int i => some (.int i)
    | .str y => some (.str y)
    | .tup xs => (mapO (toD S n) xs).map .tuple
    | .cell c => (S[c]?.bind Cell.items?).bind fun xs => (mapO (toD S n) xs).map .list
    | .con _ => none
theorem mapO_dp {K : PySem.W.Frag} {α : List Addr} {H : Hp} {f : PV → Option PyData} (hf : ∀ x d v, f x = some d → Rep K α H x v → Dp K H v d) : ∀ {xs : List PV} {vs : List V} {ds : List PyData}, mapO f xs = some ds → Reps K α H xs vs → DpAll K H vs ds
  | [], _, _, e, r => by cases e; cases r; exact .nil
  | x :: xs, _, _, e, r => by
    cases r with
    | cons r1 r2 =>
      unfold mapO at e
      cases q : f x with
      | none => rw [q] at e; cases e
      | some d =>
        rw [q] at e
        cases q2 : mapO f xs with
        | none => rw [q2] at e; cases e
        | some ds => rw [q2] at e; cases e; exact .cons (hf _ _ _ q r1) (mapO_dp hf q2 r2)
theorem toD_dp {K : PySem.W.Frag} {α : List Addr} {H : Hp} {S : Store} (o : StoreOk K α S H) : ∀ (n : Nat) (x : PV) (d : PyData) (v : V), toD S n x = some d → Rep K α H x v → Dp K H v d
  | 0, _, _, _, e, _ => by cases e
  | n + 1, x, d, v, e, r => by
    unfold toD at e
    cases x with
    | non => cases e; cases r; exact .non
    | bl b => cases e; cases r; exact .bl b
    | int i => cases e; cases r; exact .int i
    | str y => cases e; cases r; exact .str y
    | tup xs =>
      simp only at e
      cases q : mapO (toD S n) xs with
      | none => rw [q] at e; cases e
      | some ds =>
        rw [q] at e
        cases e
        cases r with
        | tup hs hr => exact .tup hs.sq (mapO_dp (toD_dp o n) q hr)
    | cell c =>
      simp only at e
      cases q : S[c]? with
      | none => rw [q] at e; cases e
      | some cl =>
        rw [q] at e
        simp only [Option.bind_some] at e
        cases q2 : cl.items? with
        | none => rw [q2] at e; cases e
        | some xs =>
          rw [q2] at e
          simp only [Option.bind_some] at e
          cases q3 : mapO (toD S n) xs with
          | none => rw [q3] at e; cases e
          | some ds =>
            rw [q3] at e
            cases e
            cases r with
            | cell ea =>
              obtain ⟨vs, hq, hr⟩ := seqL o ea q xs (Cell.items_or q2)
              exact .lst hq (mapO_dp (toD_dp o n) q3 hr)
    | con u => cases e
def eqM (x y : PV) : M Bool := fun S => match toD S 64 x, toD S 64 y with
  | some d, some e => if SeqAt.shaped d = true ∧ SeqAt.shaped e = true then .ok (PyData.eqv d e) S else .bad
  | _, _ => .bad
theorem eqM_od {K : PySem.W.Frag} {α : List Addr} {H : Hp} {S : Store} {x y : PV} {vx vy : V} {R : Bool → List Addr → Store → Hp → Prop} {E : Exn → List Addr → Store → Hp → Prop} (o : StoreOk K α S H) (rx : Rep K α H x vx) (ry : Rep K α H y vy) (h : OD K α H (eqM x y S) R E) :
    ∃ d e, Dp K H vx d ∧ Dp K H vy e ∧ SeqAt.shaped d = true ∧ SeqAt.shaped e = true ∧ R (PyData.eqv d e) α S H := by
  unfold eqM at h
  cases q1 : toD S 64 x with
  | none => rw [q1] at h; exact h.elim
  | some d =>
    cases q2 : toD S 64 y with
    | none => rw [q1, q2] at h; exact h.elim
    | some e =>
      rw [q1, q2] at h
      obtain ⟨⟨h1, h2⟩, h⟩ := if_out h
      exact ⟨d, e, toD_dp o _ _ _ _ q1 rx, toD_dp o _ _ _ _ q2 ry, h1, h2, h α H (.refl o)⟩
def eqV (x y : PV) : M PV := (eqM x y).bind fun b => M.ret (.bl b)
def neV (x y : PV) : M PV := (eqM x y).bind fun b => M.ret (.bl (!b))
section
variable {K : PySem.W.Frag} {X : Cx}
theorem ret_od {α : List Addr} {H : Hp} {S : Store} {β : Type} {b : β} {R : β → List Addr → Store → Hp → Prop} {E : Exn → List Addr → Store → Hp → Prop} (o : StoreOk K α S H) (h : OD K α H (M.ret b S) R E) : R b α S H := h α H (.refl o)
theorem den_eq : Den2 K (rEqD K) eqV := fun α S H x y vx vy Q E o rx ry h => by
  obtain ⟨d, e, h1, h2, h3, h4, h5⟩ := eqM_od o rx ry (OD.bind (o := eqM x y S) h)
  exact ⟨d, e, h1, h2, h3, h4, ret_od o h5 _ (.bl _)⟩
theorem den_ne : Den2 K (rNeD K) neV := fun α S H x y vx vy Q E o rx ry h => by
  obtain ⟨d, e, h1, h2, h3, h4, h5⟩ := eqM_od o rx ry (OD.bind (o := eqM x y S) h)
  exact ⟨d, e, h1, h2, h3, h4, ret_od o h5 _ (.bl _)⟩

/-! ### ints -/
def iiM {β : Type} (k : Int → Int → M β) : PV → PV → M β
  | .int i, .int j => k i j
  | _, _ => M.bad
theorem iiM_od {α : List Addr} {H : Hp} {S : Store} {β : Type} {k : Int → Int → M β} {x y : PV} {vx vy : V} {R : β → List Addr → Store → Hp → Prop} {E : Exn → List Addr → Store → Hp → Prop} (rx : Rep K α H x vx) (ry : Rep K α H y vy) (h : OD K α H (iiM k x y S) R E) :
    ∃ i j, vx = .int i ∧ vy = .int j ∧ x = .int i ∧ y = .int j ∧ OD K α H (k i j S) R E := by
  unfold iiM at h
  split at h
  · rename_i i j; cases rx; cases ry; exact ⟨i, j, rfl, rfl, rfl, rfl, h⟩
  · exact h.elim
def subV : PV → PV → M PV := iiM fun i j => M.ret (.int (i - j))
noncomputable def mulI : PV → PV → M PV := iiM fun i j => if CMul i j then M.ret (.int (i * j)) else M.bad
noncomputable def divV : PV → PV → M PV := iiM fun i j => if CDiv i j then M.ret (.int (i / j)) else M.bad
def modV : PV → PV → M PV := iiM fun i j => if 0 < j then M.ret (.int (i % j)) else M.bad
noncomputable def powV : PV → PV → M PV := iiM fun i j => if CPow i j then M.ret (.int (i ^ j.toNat)) else M.bad
theorem den_sub : Den2 K (rI0 fun i j => .int (i - j)) subV := fun α S H x y vx vy Q E o rx ry h => by
  obtain ⟨i, j, h1, h2, _, _, h3⟩ := iiM_od rx ry h
  exact ⟨i, j, h1, h2, ret_od o h3 _ (.int _)⟩
theorem den_rI {C : Int → Int → Prop} {g : Int → Int → Int} {dc : ∀ i j, Decidable (C i j)} : Den2 K (rI C fun i j => .int (g i j)) (iiM fun i j => if C i j then M.ret (.int (g i j)) else M.bad) := fun α S H x y vx vy Q E o rx ry h => by
  obtain ⟨i, j, h1, h2, _, _, h3⟩ := iiM_od rx ry h
  by_cases q : C i j
  · rw [if_pos q] at h3
    exact ⟨i, j, h1, h2, q, ret_od o h3 _ (.int _)⟩
  · rw [if_neg q] at h3; exact h3.elim
theorem den_mulI : Den2 K (rI CMul fun i j => .int (i * j)) mulI := den_rI
theorem den_div : Den2 K (rI CDiv fun i j => .int (i / j)) divV := den_rI
theorem den_mod : Den2 K (rI (fun _ j => 0 < j) fun i j => .int (i % j)) modV := den_rI
theorem den_pow : Den2 K (rI CPow fun i j => .int (i ^ j.toNat)) powV := den_rI
def negV : PV → M PV
  | .int i => M.ret (.int (-i))
  | _ => M.bad
theorem den_neg : Den1 K (rU fun i => .int (-i)) negV := fun α S H x vx Q E o rx h => by
  cases x with
  | int i => cases rx; exact ⟨i, rfl, ret_od o h _ (.int _)⟩
  | _ => exact h.elim
def gtI : PV → PV → M PV := iiM fun i j => M.ret (.bl (decide (j < i)))
def geI : PV → PV → M PV := iiM fun i j => M.ret (.bl (decide (j ≤ i)))
def leI : PV → PV → M PV := iiM fun i j => M.ret (.bl (decide (i ≤ j)))
def ltI : PV → PV → M PV := iiM fun i j => M.ret (.bl (decide (i < j)))
theorem den_bI {g : Int → Int → Bool} : Den2 K (rI0 fun i j => .bl (g i j)) (iiM fun i j => M.ret (.bl (g i j))) := fun α S H x y vx vy Q E o rx ry h => by
  obtain ⟨i, j, h1, h2, _, _, h3⟩ := iiM_od rx ry h
  exact ⟨i, j, h1, h2, ret_od o h3 _ (.bl _)⟩
theorem den_gtI : Den2 K (rI0 fun i j => .bl (decide (j < i))) gtI := den_bI
theorem den_geI : Den2 K (rI0 fun i j => .bl (decide (j ≤ i))) geI := den_bI
theorem den_leI : Den2 K (rI0 fun i j => .bl (decide (i ≤ j))) leI := den_bI
/-! < of data -/
def rLtD (K : PySem.W.Frag) : R2 := fun x y H Q => ∃ d e, Dp K H x d ∧ Dp K H y e ∧ PySem.W.alike d e = true ∧ d ≠ .none ∧ d.depth ≤ 64 ∧ Q (.bl (PySem.W.dataLt d e)) H
theorem op_ltD (hu : X.A.units + 64 < cLine) : OpR X (compareOp .Lt) (rLtD X.K) := by
  intro pins s σ H x y v u Q I rx ry h
  obtain ⟨d, e, hd, he, ha, hn, hz, q⟩ := h
  obtain ⟨as, r1⟩ := Dp.reads I d x v hd rx
  obtain ⟨bs, r2⟩ := Dp.reads I e y u he ry
  exact PySem.W.rcLt_alike d e X.A s v u as bs r1 r2 ha hn (Nat.lt_of_le_of_lt (Nat.add_le_add_left (Nat.le_trans (Nat.min_le_left _ _) hz) _) hu) X.prog X.w X.xe _ ⟨.bl _, H, I, rfl, q⟩
noncomputable def ltM (x y : PV) : M Bool := fun S => match toD S 64 x, toD S 64 y with
  | some d, some e => if PySem.W.alike d e = true ∧ d ≠ .none ∧ d.depth ≤ 64 then .ok (PySem.W.dataLt d e) S else .bad
  | _, _ => .bad
noncomputable def ltV (x y : PV) : M PV := (ltM x y).bind fun b => M.ret (.bl b)
theorem den_ltD : Den2 K (rLtD K) ltV := fun α S H x y vx vy Q E o rx ry h => by
  have h' : OD K α H ((ltM x y S).bind fun b => M.ret (.bl b)) (fun d α' _ H' => ∀ v, Rep K α' H' d v → Q v H') E := h
  unfold ltM at h'
  cases q1 : toD S 64 x with
  | none => rw [q1] at h'; exact h'.elim
  | some d =>
    cases q2 : toD S 64 y with
    | none => rw [q1, q2] at h'; exact h'.elim
    | some e =>
      rw [q1, q2] at h'
      by_cases z : PySem.W.alike d e = true ∧ d ≠ .none ∧ d.depth ≤ 64
      · simp only [if_pos z] at h'
        exact ⟨d, e, toD_dp o _ _ _ _ q1 rx, toD_dp o _ _ _ _ q2 ry, z.1, z.2.1, z.2.2, h' α H (.refl o) _ (.bl _)⟩
      · simp only [if_neg z] at h'
        exact h'.elim

/-! ### + -/
def addV : PV → PV → M PV
  | .int i, .int j => M.ret (.int (i + j))
  | .tup xs, .tup ys => if xs.length + ys.length ≤ sizeLine then M.ret (.tup (xs ++ ys)) else M.bad
  | .str a, .str b => if a.length + b.length ≤ sizeLine then M.ret (.str (a ++ b)) else M.bad
  | .cell m, .cell n => getC m fun c => getC n fun d => match c, d with
    | .lst xs, .lst ys => mkLst (xs ++ ys)
    | _, _ => M.bad
  | _, _ => M.bad
def rAddA (K : PySem.W.Frag) : R2 := fun x y H Q => (rI0 fun i j => .int (i + j)) x y H Q ∨ rCatA K x y H Q ∨ (∃ i j, x = .str i ∧ y = .str j ∧ i.length + j.length ≤ sizeLine ∧ Q (.str (i ++ j)) H) ∨ rCat x y H Q
theorem op_addA : OpR X (binaryOp .Add) (rAddA X.K) := OpR.or op_add (OpR.or op_catA (OpR.or op_add_str op_cat))
theorem den_add : Den2 K (rAddA K) addV := fun α S H x y vx vy Q E o rx ry h => by
  unfold addV at h
  split at h
  · cases rx; cases ry
    exact .inl ⟨_, _, rfl, rfl, ret_od o h _ (.int _)⟩
  · rename_i xs ys
    cases rx with
    | tup hx rxs =>
      cases ry with
      | tup hy rys =>
        rename_i a vs b ws
        obtain ⟨q, h⟩ := if_outM h
        refine .inr (.inl ⟨a, b, vs, ws, rfl, rfl, hx.sq, hy.sq, by rw [← rxs.length, ← rys.length]; exact q, fun e => ?_, fun e1 e2 => ?_, fun e1 e2 p hp => ?_⟩)
        · have e' : xs = [] := List.eq_nil_of_length_eq_zero (by rw [rxs.length, e]; rfl)
          subst e'
          exact h α H (.refl o) _ (.tup hy rys)
        · have e' : ys = [] := List.eq_nil_of_length_eq_zero (by rw [rys.length, e2]; rfl)
          subst e'
          exact h α H (.refl o) _ (by rw [List.append_nil]; exact .tup hx rxs)
        · exact h α _ (.new o hp) _ (.tup (.inl upd_same) ((rxs.append rys).mono (.new hp) (.refl α)))
  · rename_i a b
    cases rx; cases ry
    obtain ⟨q, h⟩ := if_outM h
    exact .inr (.inr (.inl ⟨a, b, rfl, rfl, q, ret_od o h _ (.str _)⟩))
  · rename_i m n
    obtain ⟨c, e1, h⟩ := getC_od h
    obtain ⟨d, e2, h⟩ := getC_od h
    split at h
    · rename_i xs ys
      cases rx with
      | cell ea =>
        cases ry with
        | cell eb =>
          obtain ⟨vs, h1, r1⟩ := o.ok _ _ _ ea e1
          obtain ⟨ws, h2, r2⟩ := o.ok _ _ _ eb e2
          obtain ⟨z, k⟩ := mkLst_od o (r1.append r2) h
          refine .inr (.inr (.inr ⟨_, _, vs, ws, rfl, rfl, h1, h2, by rw [List.length_append] at z; exact z, fun p hp => (k p hp).1 _ (k p hp).2⟩))
    · exact h.elim
  · exact h.elim
end
end DL

/-! DLp: subscripts, slices, built-in calls and methods by values. -/
namespace DL
open PySem PySem.Spec PyProof.Rows L2
open Classical

section
variable {K : PySem.W.Frag} {X : Cx} {α : List Addr} {H : Hp} {S : Store} {β : Type} {R : β → List Addr → Store → Hp → Prop} {E : Exn → List Addr → Store → Hp → Prop}
def optM (o : Option β) : M β := match o with
  | some b => M.ret b
  | none => M.bad
theorem optM_od {o : Option β} (so : StoreOk K α S H) (h : OD K α H (optM o S) R E) : ∃ b, o = some b ∧ R b α S H := by
  cases o with
  | none => exact h.elim
  | some b => exact ⟨b, rfl, ret_od so h⟩
theorem Reps.atI {xs : List PV} {vs : List V} (r : Reps K α H xs vs) {i : Int} {d : PV} (e : L2.atI xs i = some d) : ∃ v, L2.atI vs i = some v ∧ Rep K α H d v := by
  unfold L2.atI at e ⊢
  rw [← r.length]
  cases q : ixN xs.length i with
  | none => rw [q] at e; cases e
  | some j =>
    rw [q] at e
    exact r.get e
/-- the items of a list or a tuple -/
def itemsM (x : PV) (k : List PV → M β) : M β := match x with
  | .tup xs => k xs
  | .cell n => getC n fun c => (optM c.items?).bind k
  | _ => M.bad
theorem itemsM_od {x : PV} {v : V} {k : List PV → M β} (o : StoreOk K α S H) (r : Rep K α H x v) (h : OD K α H (itemsM x k S) R E) : ∃ a xs vs, v = .ref a ∧ (SqL K H a vs ∨ SqT K H a vs) ∧ Reps K α H xs vs ∧ OD K α H (k xs S) R E ∧
    (x = .tup xs ∧ ST K H a vs ∨ ∃ n c, x = .cell n ∧ S[n]? = some c ∧ c.items? = some xs ∧ α[n]? = some a ∧ SqL K H a vs) := by
  cases x with
  | tup xs =>
    cases r with
    | tup hs hr => exact ⟨_, xs, _, rfl, .inr hs.sq, hr, h, .inl ⟨rfl, hs⟩⟩
  | cell n =>
    cases r with
    | cell ea =>
      obtain ⟨c, e, h⟩ := getC_od (show OD K α H (getC n _ S) R E from h)
      obtain ⟨xs, e2, h⟩ := optM_od o (OD.bind (o := optM c.items? S) h)
      obtain ⟨vs, hq, hr⟩ := seqL o ea e xs (Cell.items_or e2)
      exact ⟨_, xs, vs, rfl, .inl hq, hr, h, .inr ⟨n, c, rfl, e, e2, ea, hq⟩⟩
  | _ => exact h.elim
end
section
variable {K : PySem.W.Frag} {X : Cx}
def ixV : PV → PV → M PV := fun x y => match y with
  | .int i => (match x with
    | .str z => if z.length ≤ sizeLine then (optM (L2.atI z.cps.toList i)).bind fun c => M.ret (.str ⟨#[c]⟩) else M.bad
    | x => itemsM x fun xs => optM (L2.atI xs i))
  | _ => M.bad
theorem ixV_seq {x : PV} {i : Int} (h : ∀ z, x ≠ .str z) : ixV x (.int i) = itemsM x fun xs => optM (L2.atI xs i) := by
  cases x with
  | str z => exact absurd rfl (h z)
  | _ => rfl
theorem den_ix : Den2 K (rIx K) ixV := fun α S H x y vx vy Q E o rx ry h => by
  cases y with
  | int i =>
    cases ry
    by_cases q : ∃ z, x = .str z
    · obtain ⟨z, rfl⟩ := q
      cases rx
      have h' : OD K α H ((if z.length ≤ sizeLine then (optM (L2.atI z.cps.toList i)).bind fun c => M.ret (.str ⟨#[c]⟩) else M.bad : M PV) S) _ _ := h
      obtain ⟨hz, h'⟩ := if_outM h'
      obtain ⟨c, e, h'⟩ := optM_od o (OD.bind (o := optM (L2.atI z.cps.toList i) S) h')
      exact .inr (.inr ⟨z, i, c, rfl, rfl, hz, e, ret_od o h' _ (.str _)⟩)
    · rw [ixV_seq fun z e => q ⟨z, e⟩] at h
      obtain ⟨a, xs, vs, rfl, hq, hr, h, _⟩ := itemsM_od o rx h
      obtain ⟨d, e, h⟩ := optM_od o h
      obtain ⟨v, e2, rv⟩ := hr.atI e
      rcases hq with hq | hq
      · exact .inl ⟨a, vs, i, v, rfl, rfl, hq, e2, h v rv⟩
      · exact .inr (.inl ⟨a, vs, i, v, rfl, rfl, hq, e2, h v rv⟩)
  | _ => exact h.elim
def setV : PV → PV → PV → M Unit := fun x y d => match x, y with
  | .cell n, .int i => getC n fun c => match c with
    | .lst xs => (optM (ixN xs.length i)).bind fun j S => .ok () (S.set n (.lst (xs.set j d)))
    | _ => M.bad
  | _, _ => M.bad
theorem den_set : DenSet K rSetL setV := fun α S H x y z vx vy vz Q E o rx ry rz h => by
  unfold setV at h
  split at h
  · rename_i n i
    cases rx with
    | cell ea =>
      cases ry
      obtain ⟨c, e, h⟩ := getC_od h
      cases c with
      | lst xs =>
        obtain ⟨vs, h1, r1⟩ := o.ok _ _ _ ea e
        obtain ⟨j, e2, h⟩ := optM_od o (OD.bind (o := optM (ixN xs.length i) S) h)
        refine ⟨_, vs, i, j, rfl, rfl, h1, by rw [← r1.length]; exact e2, ?_⟩
        exact h α _ (Mv.putL o ea e h1 (r1.set rz j))
      | _ => exact h.elim
  · exact h.elim
/-! slices -/
def cutP {β : Type} (xs : List β) (lo hi : Option Int) : List β := (xs.drop (HT.sIx xs.length 0 lo)).take (HT.sIx xs.length xs.length hi - HT.sIx xs.length 0 lo)
theorem cutP_whole {β : Type} {xs : List β} {lo hi : Option Int} (h : HT.sIx xs.length 0 lo = 0 ∧ HT.sIx xs.length xs.length hi = xs.length) : cutP xs lo hi = xs := by
  unfold cutP; rw [h.1, h.2]; simp
theorem Reps.cut {α : List Addr} {H : Hp} {xs : List PV} {vs : List V} (r : Reps K α H xs vs) (lo hi : Option Int) : Reps K α H (cutP xs lo hi) (cutV vs lo hi) := by
  unfold cutP cutV; rw [r.length]; exact (r.drop _).take _
def sliceV : PV → Option Int → Option Int → M PV := fun x lo hi => match x with
  | .tup xs => M.ret (.tup (cutP xs lo hi))
  | .cell n => getC n fun c => (optM c.items?).bind fun xs S => .ok (.cell S.length) (S ++ [.lst (cutP xs lo hi)])
  | .str z => if z.length ≤ sizeLine then M.ret (.str (Txt.slice z lo hi)) else M.bad
  | _ => M.bad
def rSlAll (K : PySem.W.Frag) : V → Option Int → Option Int → Hp → VK → Prop := fun x lo hi H Q => rSlA K x lo hi H Q ∨ rSlL K x lo hi H Q ∨ C8.rSlX x lo hi H Q
theorem sl_all : SlR X (rSlAll X.K) := SlR.or sl_tupA (SlR.or sl_list C8.sl_txt)
theorem den_slice : DenS K (rSlAll K) sliceV := fun α S H x vx lo hi Q E o rx h => by
  cases x with
  | tup xs =>
    cases rx with
    | tup hs hr =>
      rename_i a vs
      refine .inl ⟨a, vs, rfl, hs.sq, fun hw => ?_, fun hw p hp => ?_⟩
      · refine h α H (.refl o) _ ?_
        rw [cutP_whole (by rw [hr.length]; exact hw)]
        exact .tup hs hr
      · exact h α _ (.new o hp) _ (.tup (.inl upd_same) ((hr.cut lo hi).mono (.new hp) (.refl α)))
  | cell n =>
    cases rx with
    | cell ea =>
      obtain ⟨c, e, h⟩ := getC_od (show OD K α H (getC n _ S) _ _ from h)
      obtain ⟨xs, e2, h⟩ := optM_od o (OD.bind (o := optM c.items? S) h)
      obtain ⟨vs, hq, hr⟩ := seqL o ea e xs (Cell.items_or e2)
      refine .inr (.inl ⟨_, vs, rfl, hq, fun p hp => ?_⟩)
      refine h _ _ (.cell o hp ⟨_, upd_same, (hr.cut lo hi).mono (.new hp) (.snoc α p)⟩) _ (.cell ?_)
      rw [← o.len, List.getElem?_append_right (Nat.le_refl _), Nat.sub_self]; rfl
  | str z =>
    cases rx
    obtain ⟨hz, h⟩ := if_outM (show OD K α H ((if z.length ≤ sizeLine then M.ret (.str (Txt.slice z lo hi)) else M.bad : M PV) S) _ _ from h)
    exact .inr (.inr ⟨z, rfl, hz, ret_od o h _ (.str _)⟩)
  | _ => exact h.elim

/-! ### is, is not -/
def isNV : PV → PV → M PV := fun x y => match y with
  | .non => (match x with
    | .con _ => M.bad
    | .non => M.ret (.bl true)
    | _ => M.ret (.bl false))
  | .bl b => (match x with
    | .bl a => M.ret (.bl (decide (a = b)))
    | _ => M.bad)
  | _ => M.bad
def notNV : PV → PV → M PV := fun x y => match y with
  | .non => (match x with
    | .con _ => M.bad
    | .non => M.ret (.bl false)
    | _ => M.ret (.bl true))
  | .bl b => (match x with
    | .bl a => M.ret (.bl (!decide (a = b)))
    | _ => M.bad)
  | _ => M.bad
def rIsA : R2 := fun x y H Q => (y = .non ∧ Q (.bl (decide (x = .non))) H) ∨ ∃ a b, x = .bl a ∧ y = .bl b ∧ Q (.bl (decide (a = b))) H
def rNotA : R2 := fun x y H Q => (y = .non ∧ Q (.bl (!decide (x = .non))) H) ∨ ∃ a b, x = .bl a ∧ y = .bl b ∧ Q (.bl (!decide (a = b))) H
theorem op_isA : OpR X (compareOp .Is) rIsA := OpR.or op_isN op_is_bl
theorem op_notA : OpR X (compareOp .IsNot) rNotA := OpR.or op_notN op_isnot_bl
theorem den_is : Den2 K rIsA isNV := fun α S H x y vx vy Q E o rx ry h => by
  cases y with
  | non =>
    cases ry
    cases x with
    | con u => exact h.elim
    | _ => cases rx <;> exact .inl ⟨rfl, ret_od o h _ (.bl _)⟩
  | bl b =>
    cases ry
    cases x with
    | bl a => cases rx; exact .inr ⟨a, b, rfl, rfl, by have q := ret_od o h _ (.bl _); exact q⟩
    | _ => exact h.elim
  | _ => exact h.elim
theorem den_not : Den2 K rNotA notNV := fun α S H x y vx vy Q E o rx ry h => by
  cases y with
  | non =>
    cases ry
    cases x with
    | con u => exact h.elim
    | _ => cases rx <;> exact .inl ⟨rfl, ret_od o h _ (.bl _)⟩
  | bl b =>
    cases ry
    cases x with
    | bl a => cases rx; exact .inr ⟨a, b, rfl, rfl, by have q := ret_od o h _ (.bl _); exact q⟩
    | _ => exact h.elim
  | _ => exact h.elim

/-! ### in -/
def anyEq (S : Store) (x : PyData) : List PV → Option Bool
  | [] => some false
  | y :: ys => match toD S 63 y with
    | some e => (anyEq S x ys).map fun b => PyData.eqv e x || b
    | none => none
def inM (x y : PV) : M Bool := fun S => match y with
  | .cell _ => (match toD S 64 x, toD S 64 y with
    | some d, some (.list es) => if SeqAt.shaped d = true ∧ SeqAt.shaped (.list es) = true then .ok (es.any fun z => PyData.eqv z d) S else .bad
    | _, _ => .bad)
  | _ => .bad
def inV (x y : PV) : M PV := (inM x y).bind fun b => M.ret (.bl b)
def notInV (x y : PV) : M PV := (inM x y).bind fun b => M.ret (.bl (!b))
theorem inM_od {α : List Addr} {H : Hp} {S : Store} {x y : PV} {vx vy : V} {R : Bool → List Addr → Store → Hp → Prop} {E : Exn → List Addr → Store → Hp → Prop} (o : StoreOk K α S H) (rx : Rep K α H x vx) (ry : Rep K α H y vy) (h : OD K α H (inM x y S) R E) :
    ∃ d es, Dp K H vx d ∧ Dp K H vy (.list es) ∧ SeqAt.shaped d = true ∧ SeqAt.shaped (.list es) = true ∧ R (es.any fun z => PyData.eqv z d) α S H := by
  cases y with
  | cell n =>
    unfold inM at h
    simp only at h
    cases q1 : toD S 64 x with
    | none => rw [q1] at h; exact h.elim
    | some d =>
      cases q2 : toD S 64 (.cell n) with
      | none => rw [q1, q2] at h; exact h.elim
      | some e =>
        rw [q1, q2] at h
        cases e with
        | list es =>
          obtain ⟨⟨h1, h2⟩, h⟩ := if_out h
          exact ⟨d, es, toD_dp o _ _ _ _ q1 rx, toD_dp o _ _ _ _ q2 ry, h1, h2, h α H (.refl o)⟩
        | _ => exact h.elim
  | _ => exact h.elim
theorem den_in : Den2 K (rInD K) inV := fun α S H x y vx vy Q E o rx ry h => by
  obtain ⟨d, e, h1, h2, h3, h4, h5⟩ := inM_od o rx ry (OD.bind (o := inM x y S) h)
  exact ⟨d, e, h1, h2, h3, h4, ret_od o h5 _ (.bl _)⟩
theorem den_notin : Den2 K (rNotInD K) notInV := fun α S H x y vx vy Q E o rx ry h => by
  obtain ⟨d, e, h1, h2, h3, h4, h5⟩ := inM_od o rx ry (OD.bind (o := inM x y S) h)
  exact ⟨d, e, h1, h2, h3, h4, ret_od o h5 _ (.bl _)⟩

/-! ### built-in functions -/
def lenV : List PV → M PV
  | [.str z] => if z.length ≤ sizeLine then M.ret (.int z.length) else M.bad
  | [x] => itemsM x fun xs => M.ret (.int xs.length)
  | _ => M.bad
theorem lenV_seq {x : PV} (h : ∀ z, x ≠ .str z) : lenV [x] = itemsM x fun xs => M.ret (.int xs.length) := by
  cases x with
  | str z => exact absurd rfl (h z)
  | _ => rfl
def rLenA (K : PySem.W.Frag) : List V → Hp → VK → Prop := fun xs H Q => (∃ p ys, xs = [.ref p] ∧ (SqL K H p ys ∨ SqT K H p ys) ∧ Q (.int ys.length) H) ∨ ∃ z, xs = [.str z] ∧ z.length ≤ sizeLine ∧ Q (.int z.length) H
theorem call_lenA : CallR X (.builtin "len") (rLenA X.K) := CallR.or call_len_seq call_len_str
theorem den_len : DenN K (rLenA K) lenV := fun α S H xs vs Q E o r h => by
  cases r with
  | nil => exact h.elim
  | cons r1 r2 =>
    rename_i x v xr vr
    cases r2 with
    | cons _ _ => cases x <;> exact h.elim
    | nil =>
      by_cases q : ∃ z, x = .str z
      · obtain ⟨z, rfl⟩ := q
        cases r1
        obtain ⟨hz, h⟩ := if_outM (show OD K α H ((if z.length ≤ sizeLine then M.ret (.int z.length) else M.bad : M PV) S) _ _ from h)
        exact .inr ⟨z, rfl, hz, ret_od o h _ (.int _)⟩
      · rw [lenV_seq fun z e => q ⟨z, e⟩] at h
        obtain ⟨a, xs, ws, rfl, hq, hr, h, _⟩ := itemsM_od o r1 h
        exact .inl ⟨a, ws, rfl, hq, by rw [← hr.length]; exact ret_od o h _ (.int _)⟩
def absF : List PV → M PV
  | [.int i] => M.ret (.int (if i < 0 then -i else i))
  | _ => M.bad
theorem den_abs : DenN K (fun xs H Q => ∃ i, xs = [.int i] ∧ Q (.int (if i < 0 then -i else i)) H) absF := fun α S H xs vs Q E o r h => by
  unfold absF at h
  split at h
  · cases r with
    | cons r1 r2 => cases r1; cases r2; exact ⟨_, rfl, ret_od o h _ (.int _)⟩
  · exact h.elim
def intF : List PV → M PV
  | [.int i] => M.ret (.int i)
  | [.bl b] => M.ret (.int (if b then 1 else 0))
  | _ => M.bad
theorem den_int : DenN K (fun xs H Q => (∃ i, xs = [.int i] ∧ Q (.int i) H) ∨ ∃ k, xs = [.bl k] ∧ Q (.int (if k then 1 else 0)) H) intF := fun α S H xs vs Q E o r h => by
  unfold intF at h
  split at h
  · cases r with
    | cons r1 r2 => cases r1; cases r2; exact .inl ⟨_, rfl, ret_od o h _ (.int _)⟩
  · cases r with
    | cons r1 r2 => cases r1; cases r2; exact .inr ⟨_, rfl, ret_od o h _ (.int _)⟩
  · exact h.elim
def tupF : List PV → M PV
  | [x] => itemsM x fun xs => M.ret (.tup xs)
  | _ => M.bad
theorem den_tup : DenN K (fun xs H Q => ∃ p ys, xs = [.ref p] ∧ ((SqL K H p ys ∧ ∀ l, H l = none → Q (.ref l) (upd H l (.tup ys))) ∨ (SqT K H p ys ∧ Q (.ref p) H))) tupF := fun α S H xs vs Q E o r h => by
  unfold tupF at h
  split at h
  · cases r with
    | cons r1 r2 =>
      cases r2
      obtain ⟨a, xs, ws, rfl, hq, hr, h, hh⟩ := itemsM_od o r1 h
      refine ⟨a, ws, rfl, ?_⟩
      rcases hh with ⟨_, hs⟩ | ⟨n, c, _, _, _, _, hl⟩
      · exact .inr ⟨hs.sq, h α H (.refl o) _ (.tup hs hr)⟩
      · exact .inl ⟨hl, fun p hp => h α _ (.new o hp) _ (.tup (.inl upd_same) (hr.mono (.new hp) (.refl α)))⟩
  · exact h.elim
def lstF : List PV → M PV
  | [x] => itemsM x fun xs S => .ok (.cell S.length) (S ++ [.lst xs])
  | _ => M.bad
theorem den_lst : DenN K (fun xs H Q => ∃ p ys, xs = [.ref p] ∧ (SqL K H p ys ∨ SqT K H p ys) ∧ ∀ l, H l = none → Q (.ref l) (upd H l (.lst ys))) lstF := fun α S H xs vs Q E o r h => by
  unfold lstF at h
  split at h
  · cases r with
    | cons r1 r2 =>
      cases r2
      obtain ⟨a, xs, ws, rfl, hq, hr, h, hh⟩ := itemsM_od o r1 h
      refine ⟨a, ws, rfl, hq, fun p hp => ?_⟩
      refine h _ _ (.cell o hp ⟨_, upd_same, hr.mono (.new hp) (.snoc α p)⟩) _ (.cell ?_)
      rw [← o.len, List.getElem?_append_right (Nat.le_refl _), Nat.sub_self]; rfl
  · exact h.elim
/-! isinstance with built-in types -/
def tyM {β : Type} (x : PV) (k : String → M β) : M β := match x with
  | .non => k "NoneType"
  | .bl _ => k "bool"
  | .int _ => k "int"
  | .str _ => k "str"
  | .tup _ => k "tuple"
  | .cell n => getC n fun c => match c.items? with
    | some _ => k "list"
    | none => M.bad
  | .con _ => M.bad
theorem tyM_od {β : Type} {α : List Addr} {H : Hp} {S : Store} {x : PV} {v : V} {k : String → M β} {R : β → List Addr → Store → Hp → Prop} {E : Exn → List Addr → Store → Hp → Prop} (o : StoreOk K α S H) (r : Rep K α H x v) (h : OD K α H (tyM x k S) R E) : ∃ t, TyX K H v (.type t) ∧ OD K α H (k t S) R E := by
  cases x with
  | non => cases r; exact ⟨_, .base .non, h⟩
  | bl b => cases r; exact ⟨_, .base (.bl b), h⟩
  | int b => cases r; exact ⟨_, .base (.int b), h⟩
  | str b => cases r; exact ⟨_, .base (.str b), h⟩
  | tup xs =>
    cases r with
    | tup hs hr =>
      rcases hs with hs | ⟨ob, its, n, hk, hc, _⟩
      · exact ⟨_, .base (.tup hs), h⟩
      · exact ⟨_, .kTuple hk hc, h⟩
  | cell n =>
    cases r with
    | cell ea =>
      obtain ⟨c, e, h⟩ := getC_od (show OD K α H (getC n _ S) _ _ from h)
      have hk := o.ok _ _ _ ea e
      cases c with
      | lst xs => obtain ⟨vs, h1, _⟩ := hk; exact ⟨_, .base (.lst h1), h⟩
      | rls xs =>
        obtain ⟨vs, h1, _⟩ := hk
        rcases h1 with ⟨ob, h1⟩ | ⟨ob, its, n, hk, hc, _⟩
        · exact ⟨_, .base (.frz h1), h⟩
        · exact ⟨_, .kList hk hc, h⟩
      | ins C fs => exact h.elim
  | con u => exact h.elim
def isiF : List PV → M PV
  | [x, .con (.ty T)] => tyM x fun t => (optM (kitB t T)).bind fun b => M.ret (.bl b)
  | _ => M.bad
theorem den_isi : DenN K (rIsi K) isiF := fun α S H xs vs Q E o r h => by
  unfold isiF at h
  split at h
  · rename_i x T
    cases r with
    | cons r1 r2 =>
      cases r2 with
      | cons r2 r3 =>
        cases r3; cases r2
        obtain ⟨t, ty, h⟩ := tyM_od o r1 h
        obtain ⟨b, e, h⟩ := optM_od o (OD.bind (o := optM (kitB t T) S) h)
        exact ⟨_, .ty T, .type t, .type T, b, rfl, .ty T, ty, kit_ty e, ret_od o h _ (.bl b)⟩
  · exact h.elim
def boolsOf : List PV → Option (List Bool)
  | [] => some []
  | .bl b :: xs => (boolsOf xs).map (b :: ·)
  | _ :: _ => none
theorem boolsOf_map {α : List Addr} {H : Hp} : ∀ {xs : List PV} {vs : List V} {bs : List Bool}, boolsOf xs = some bs → Reps K α H xs vs → vs = bs.map V.bl
  | [], _, _, e, r => by cases e; cases r; rfl
  | x :: xs, _, _, e, r => by
    cases r with
    | cons r1 r2 =>
      cases x with
      | bl b =>
        cases r1
        unfold boolsOf at e
        cases q : boolsOf xs with
        | none => rw [q] at e; cases e
        | some bs => rw [q] at e; cases e; rw [boolsOf_map q r2]; rfl
      | _ => cases e
def allF : List PV → M PV
  | [.cell n] => getC n fun c => (optM (c.items?.bind boolsOf)).bind fun bs => M.ret (.bl (bs.all id))
  | _ => M.bad
def anyF : List PV → M PV
  | [.cell n] => getC n fun c => (optM (c.items?.bind boolsOf)).bind fun bs => M.ret (.bl (bs.any id))
  | _ => M.bad
theorem bools_od {α : List Addr} {H : Hp} {S : Store} {n : Nat} {v : V} {g : List Bool → Bool} {R : PV → List Addr → Store → Hp → Prop} {E : Exn → List Addr → Store → Hp → Prop} (o : StoreOk K α S H) (r : Rep K α H (.cell n) v) (h : OD K α H (getC n (fun c => (optM (c.items?.bind boolsOf)).bind fun bs => M.ret (.bl (g bs))) S) R E) :
    ∃ a bs, v = .ref a ∧ SqL K H a (bs.map V.bl) ∧ R (.bl (g bs)) α S H := by
  cases r with
  | cell ea =>
    obtain ⟨c, e, h⟩ := getC_od h
    obtain ⟨bs, e2, h⟩ := optM_od o (OD.bind (o := optM (c.items?.bind boolsOf) S) h)
    cases q : c.items? with
    | none => rw [q] at e2; cases e2
    | some xs =>
      rw [q] at e2
      obtain ⟨vs, hq, hr⟩ := seqL o ea e xs (Cell.items_or q)
      rw [boolsOf_map e2 hr] at hq
      exact ⟨_, bs, rfl, hq, ret_od o h⟩
theorem den_all : DenN K (rAll K) allF := fun α S H xs vs Q E o r h => by
  unfold allF at h
  split at h
  · cases r with
    | cons r1 r2 =>
      cases r2
      obtain ⟨a, bs, rfl, hq, h⟩ := bools_od o r1 h
      exact ⟨a, bs, rfl, hq, h _ (.bl _)⟩
  · exact h.elim
theorem den_any : DenN K (rAny K) anyF := fun α S H xs vs Q E o r h => by
  unfold anyF at h
  split at h
  · cases r with
    | cons r1 r2 =>
      cases r2
      obtain ⟨a, bs, rfl, hq, h⟩ := bools_od o r1 h
      exact ⟨a, bs, rfl, hq, h _ (.bl _)⟩
  · exact h.elim
end

/-! ### methods of lists -/
def DenM (K : PySem.W.Frag) (r : V → List V → Hp → VK → Prop) (g : PV → List PV → M PV) : Prop := ∀ α S H x vx xs vs Q E, StoreOk K α S H → Rep K α H x vx → Reps K α H xs vs → OD K α H (g x xs S) (fun d α' _ H' => ∀ v, Rep K α' H' d v → Q v H') E → r vx vs H Q
/-- a list is asked for a method -/
def isL (x : PV) : M PV := match x with
  | .cell n => getC n fun c => match c.items? with
    | some _ => M.ret (.cell n)
    | none => M.bad
  | _ => M.bad
def eMethL (g : PV → List PV → M PV) (fo : PEnv → M PV) (fa : PEnv → M (List PV)) : PEnv → M PV := fun ρ => (fo ρ).bind fun x => (isL x).bind fun _ => (fa ρ).bind fun xs => g x xs
section
variable {X : Cx} {W : WX} {o a : Expr} {es : List Expr} {name : Str} {apos cpos : Pos} {id : String}
theorem isL_od {K : PySem.W.Frag} {α : List Addr} {H : Hp} {S : Store} {x : PV} {v : V} {R : PV → List Addr → Store → Hp → Prop} {E : Exn → List Addr → Store → Hp → Prop} (o : StoreOk K α S H) (r : Rep K α H x v) (h : OD K α H (isL x S) R E) : tyV K "list" v H ∧ R x α S H := by
  cases x with
  | cell n =>
    cases r with
    | cell ea =>
      obtain ⟨c, e, h⟩ := getC_od (show OD K α H (getC n _ S) _ _ from h)
      cases q : c.items? with
      | none => rw [q] at h; exact h.elim
      | some xs =>
        rw [q] at h
        obtain ⟨vs, hq, hr⟩ := seqL o ea e xs (Cell.items_or q)
        exact ⟨.inl ⟨rfl, vs, hq⟩, ret_od o h⟩
  | _ => exact h.elim
theorem de_methL0 {r : V → List V → Hp → VK → Prop} {g : PV → List PV → M PV} {fo : PEnv → M PV} (slot : Slot "list" name id) (hty : typeOf (.builtin id) = pure (.type "method_descriptor")) (hm : MtR X id r) (hr : DenM X.K r g) (ho : DE X W o fo)
    (hbase : attributeBase o name X.env (eval o X.env) = eval o X.env := by rfl) (hline : (apos.endLine == cpos.line) = true := by rfl) : DE X W (.Call (.Attribute o name apos) [] [] cpos) (eMethL g fo eNil) := by
  refine PE_imp (pe_bm0 PySem.F.plainAttrs_list slot hty hm ho hbase hline) fun σ H Q ⟨α, S, ρ, so, sl, h⟩ => ?_
  refine ⟨α, S, ρ, so, sl, (OD.bind (o := fo ρ S) h).imp (fun x α1 S1 H1 m1 h1 v rv => ?_) fun _ _ _ _ _ q => q⟩
  obtain ⟨ty, h2⟩ := isL_od m1.ok rv (OD.bind (o := isL x S1) h1)
  exact ⟨ty, hr α1 S1 H1 x v [] [] Q _ m1.ok rv .nil h2⟩
theorem de_methL {r : V → List V → Hp → VK → Prop} {g : PV → List PV → M PV} {fo : PEnv → M PV} {fa : PEnv → M (List PV)} (slot : Slot "list" name id) (hty : typeOf (.builtin id) = pure (.type "method_descriptor")) (hm : MtR X id r) (hr : DenM X.K r g) (ho : DE X W o fo) (ha : DA X W (a :: es) fa)
    (hbase : attributeBase o name X.env (eval o X.env) = eval o X.env := by rfl)
    (hfew : ((backTo cpos (starEach (a :: es) X.env)).all (fun x => !x.1) && (backToKw cpos (keywordEach [] X.env)).all (fun x => x.1.isSome) && decide ((a :: es).length + ([] : List Keyword).length + (if ([] : List Keyword).isEmpty then 0 else 1) < 30)) = true := by rfl)
    (hline : (apos.endLine == cpos.line) = true := by rfl) (hs : starEach (a :: es) X.env = (false, eval a X.env) :: starEach es X.env := by rfl) (hplain : (backTo cpos (starEach es X.env)).any (·.1) = false := by rfl) : DE X W (.Call (.Attribute o name apos) (a :: es) [] cpos) (eMethL g fo fa) := by
  refine PE_imp (pe_bm PySem.F.plainAttrs_list slot hty hm ho ha hbase hfew hline hs hplain) fun σ H Q ⟨α, S, ρ, so, sl, h⟩ => ?_
  refine ⟨α, S, ρ, so, sl, (OD.bind (o := fo ρ S) h).imp (fun x α1 S1 H1 m1 h1 v rv => ?_) fun _ _ _ _ _ q => q⟩
  obtain ⟨ty, h2⟩ := isL_od m1.ok rv (OD.bind (o := isL x S1) h1)
  refine ⟨ty, α1, S1, ρ, m1.ok, sl.mv m1, (OD.bind (o := fa ρ S1) h2).imp (fun xs α2 S2 H2 m2 h3 vs rvs => ?_) fun _ _ _ _ _ q => q⟩
  exact hr α2 S2 H2 x v xs vs Q _ m2.ok (rv.mono m2.grow m2.le) rvs h3
end
section
variable {K : PySem.W.Frag}
/-- a list that may be written -/
def wlM {β : Type} (x : PV) (k : Nat → List PV → M β) : M β := match x with
  | .cell n => getC n fun c => match c with
    | .lst xs => k n xs
    | _ => M.bad
  | _ => M.bad
theorem wlM_od {β : Type} {α : List Addr} {H : Hp} {S : Store} {x : PV} {v : V} {k : Nat → List PV → M β} {R : β → List Addr → Store → Hp → Prop} {E : Exn → List Addr → Store → Hp → Prop} (o : StoreOk K α S H) (r : Rep K α H x v) (h : OD K α H (wlM x k S) R E) :
    ∃ n a xs vs, x = .cell n ∧ v = .ref a ∧ α[n]? = some a ∧ S[n]? = some (.lst xs) ∧ H a = some (.lst vs) ∧ Reps K α H xs vs ∧ OD K α H (k n xs S) R E := by
  cases x with
  | cell n =>
    cases r with
    | cell ea =>
      obtain ⟨c, e, h⟩ := getC_od (show OD K α H (getC n _ S) _ _ from h)
      cases c with
      | lst xs =>
        obtain ⟨vs, h1, r1⟩ := o.ok _ _ _ ea e
        exact ⟨n, _, xs, vs, rfl, rfl, ea, e, h1, r1, h⟩
      | _ => exact h.elim
  | _ => exact h.elim
def putL (n : Nat) (xs : List PV) (d : PV) : M PV := fun S => .ok d (S.set n (.lst xs))
def appendV : PV → List PV → M PV := fun x ys => match ys with
  | [y] => wlM x fun n xs => if xs.length < sizeLine then putL n (xs ++ [y]) .non else M.bad
  | _ => M.bad
theorem den_append : DenM K rAppend appendV := fun α S H x vx xs vs Q E o rx r h => by
  unfold appendV at h
  split at h
  · cases r with
    | cons r1 r2 =>
      cases r2
      obtain ⟨n, a, xs, ws, rfl, rfl, ea, e, h1, rr, h⟩ := wlM_od o rx h
      obtain ⟨hl, h⟩ := if_outM h
      exact ⟨a, ws, _, rfl, rfl, h1, by rw [← rr.length]; exact hl, h α _ (Mv.putL o ea e h1 (rr.append (.cons r1 .nil))) _ .non⟩
  · exact h.elim
def popV : PV → List PV → M PV := fun x ys => match ys with
  | [] => wlM x fun n xs => (optM xs.getLast?).bind fun y => putL n xs.dropLast y
  | _ => M.bad
theorem den_pop : DenM K rPop popV := fun α S H x vx xs vs Q E o rx r h => by
  unfold popV at h
  split at h
  · cases r
    obtain ⟨n, a, xs, ws, rfl, rfl, ea, e, h1, rr, h⟩ := wlM_od o rx h
    obtain ⟨y, e2, h⟩ := optM_od o (OD.bind (o := optM xs.getLast? S) h)
    have e3 : xs[xs.length - 1]? = some y := by rw [← List.getLast?_eq_getElem?]; exact e2
    obtain ⟨v, e4, rv⟩ := rr.get e3
    refine ⟨a, ws, v, rfl, rfl, h1, by rw [← rr.length]; exact e4, ?_⟩
    have mv := Mv.putL o ea e h1 rr.dropLast
    exact h α _ mv v (rv.mono mv.grow mv.le)
  · exact h.elim
def extendV : PV → List PV → M PV := fun x ys => match ys with
  | [y] => wlM x fun n xs => wlM y fun m zs => if xs.length + zs.length ≤ sizeLine then putL n (xs ++ zs) .non else M.bad
  | _ => M.bad
theorem den_extend : DenM K rExtend extendV := fun α S H x vx xs vs Q E o rx r h => by
  unfold extendV at h
  split at h
  · cases r with
    | cons r1 r2 =>
      cases r2
      obtain ⟨n, a, xs, ws, rfl, rfl, ea, e, h1, rr, h⟩ := wlM_od o rx h
      obtain ⟨m, b, ys, us, rfl, rfl, eb, e', h2, rr2, h⟩ := wlM_od o r1 h
      obtain ⟨hl, h⟩ := if_outM h
      exact ⟨a, b, ws, us, rfl, rfl, h1, h2, by rw [← rr.length, ← rr2.length]; exact hl, h α _ (Mv.putL o ea e h1 (rr.append rr2)) _ .non⟩
  · exact h.elim
end
end DL

/-! DLz: try that runs through, the law's end. -/
namespace DL
open PySem PySem.Spec PyProof.Rows L2
open Classical

section
variable {X : Cx} {W : WX} {body : List Stmt} {h₀ : ExceptHandler} {hs : List ExceptHandler} {pos : Pos}
/-- a try whose body lets nothing out -/
def sThru (g : SD) : SD := fun ρ => (g ρ).bind fun r => match r.1 with
  | .ex _ => M.bad
  | _ => M.ret r
theorem ds_tryThru {g : SD} (hb : DSs X.nox W0 body g) : DS X W (.Try body (h₀ :: hs) [] [] pos) (sThru g) := by
  refine PS_imp (ps_try_thru0 hb) fun D σ H ⟨α, S, ρ, o, sl, h⟩ => ?_
  refine ⟨α, S, ρ, o, sl, (OD.bind (o := g ρ S) h).imp (fun r α1 S1 H1 m1 h1 => ?_) fun _ _ _ _ _ q => q⟩
  obtain ⟨fl, ρ1⟩ := r
  cases fl with
  | nx => exact fun σ1 sl1 => h1 α1 H1 (.refl m1.ok) σ1 sl1
  | bk => exact fun σ1 sl1 => h1 α1 H1 (.refl m1.ok) σ1 sl1
  | ct => exact fun σ1 sl1 => h1 α1 H1 (.refl m1.ok) σ1 sl1
  | rt d => exact fun σ1 sl1 => h1 α1 H1 (.refl m1.ok) σ1 sl1
  | ex c => exact h1.elim
end

/-- the script's list in the store -/
theorem script_store {K : PySem.W.Frag} {H : Hp} {a : Addr} {ns : List Int} (hO : Only H) (h : SqL K H a (ns.map V.int)) : ∃ α S ds, ds = [PV.cell 0] ∧ S = [Cell.rls (ns.map PV.int)] ∧ StoreOk K α S H ∧ Reps K α H ds [.ref a] := by
  refine ⟨[a], _, _, rfl, rfl, ⟨rfl, fun i j b c d h1 h2 h3 h4 m1 m2 => ?_, fun i b c h1 h2 => ?_⟩, .cons (.cell rfl) .nil⟩
  · have : c = .rls (ns.map PV.int) := by
      cases i with
      | zero => simpa using h3.symm
      | succ i => simp at h3
    subst this
    cases m1
  · cases i with
    | zero =>
      simp at h1 h2
      subst h1; subst h2
      refine ⟨ns.map V.int, ?_, Reps.ints ns⟩
      rcases h with (h | ⟨o, h⟩) | h
      · rcases hO a with z | ⟨o, xs, z⟩
        · rw [z] at h; cases h
        · rw [z] at h; cases h
      · exact .inl ⟨o, h⟩
      · exact .inr h
    | succ i => simp at h1

section
variable {P : Program} {w : World} {K : PySem.W.Frag} {mg mb : Str → Option Value} {k : Nat} {fa a : Addr} {fd : FuncData} {x : Str} {s₁ : Shared} {vs : List Value} {ns : List Int} {F : FD}
/-- the law's call, from its promise -/
theorem law_G (KX : K.In s₁.heap) (hns : s₁.heap.Ns mainGlobals mg) (hb : s₁.heap.Ns builtinsNs mb) (hbb : ∀ x : Str, x ≠ "__name__" → mb x = bootBuiltins x) (hlim : s₁.heap.NoLimit) (hg : s₁.gens = #[])
    (ha : s₁.heap.get? a = some { cls := .type "list", data := .seq vs.toArray }) (hi : IntsAre vs ns) (hl : ns.length ≤ sizeLine) (hr : Room k callerA)
    (G : ∀ base : Heap, K.In base → base.Ns mainGlobals mg → FnG P w K mg base k fa fd [x] (spD K 1 F)) (hbind : ∀ (s : Shared) (u : Value), BindsTo s fd ⟨[u], []⟩ [(x, u)])
    (hF : ∃ S', F [.cell 0] [.rls (ns.map PV.int)] = .ok (.bl true) S') :
    codeAny (model P w) callerA (.call (.ref fa) ⟨[.ref a], []⟩) (fun r s' => r = .ok (.ret (.bool true)) ∧ OldK s₁.heap s'.heap ∧ s'.os = s₁.os ∧ AllBare s'.gens) s₁ := by
  have rv := vals_ints hi
  have lenV := hi.length
  have core : ∀ H : Hp, Only H → SqL K H a (ns.map V.int) → HOk P w H s₁.heap → (∀ b, H b ≠ none → b = a) → (H a ≠ none → K.lookup a = none) →
      codeAny (model P w) callerA (.call (.ref fa) ⟨[.ref a], []⟩) (fun r s' => r = .ok (.ret (.bool true)) ∧ OldK s₁.heap s'.heap ∧ s'.os = s₁.os ∧ AllBare s'.gens) s₁ := by
    intro H hO hS hok hA hK
    have noA : ∀ {b : Addr} {o : Obj}, s₁.heap.get? b = some o → (∀ vs n, o.data ≠ .seq vs n) → H b = none := fun {b o} e d => by
      cases q : H b with
      | none => rfl
      | some u =>
        obtain rfl : b = a := hA b (by simp [q])
        rw [ha] at e
        cases e
        exact absurd rfl (d _ _)
    have nsK : ∀ {b : Addr} {m : Str → Option Value}, s₁.heap.Ns b m → (hidT s₁.heap H).Ns b m := fun {b m} ⟨o, es, ep, e, d, r⟩ =>
      ⟨o, es, ep, hidT_get e (noA e fun _ _ z => by rw [d] at z; cases z), d, r⟩
    have hKb : K.In (hidT s₁.heap H) := fun b o e => by
      refine hidT_get (KX b o e) ?_
      cases q : H b with
      | none => rfl
      | some u =>
        obtain rfl : b = a := hA b (by simp [q])
        have z := hK (by simp [q])
        rw [z] at e; cases e
    have hM : Mod K mg (hidT s₁.heap H) := by
      obtain ⟨mc, l1, l2⟩ := hlim
      exact ⟨hKb, nsK hns, ⟨mb, nsK hb, hbb⟩, ⟨mc, nsK l1, l2⟩⟩
    have e0 : Env0 P w K mg (hidT s₁.heap H) callerA [] s₁ H := { frames := rfl, mod := hM, bs := fun b o e => of_hidT e, bsz := Nat.le_of_eq (hidT_size _ _), funs := trivial, frf := fun b hb => (List.not_mem_nil hb).elim, hok := hok, bare := .of_eq hg }
    obtain ⟨α, S, ds, rfl, rfl, so, rp⟩ := script_store hO hS
    obtain ⟨S', hF⟩ := hF
    have hsp : spD K 1 F [.ref a] H (fun v _ => v = .bl true) fun _ _ _ => False := by
      refine ⟨α, _, _, rfl, so, rp, ?_⟩
      rw [hF]
      intro α' H' m v r
      cases r
      rfl
    refine codeAny_mono ((G _ hKb (nsK hns)).run callerA [] s₁ H _ [.ref a] [.ref a] _ _ hr rfl e0 (hbind s₁ (.ref a)) (.cons rfl .nil) hsp) fun r s' h => ?_
    cases r with
    | error e =>
      obtain ⟨_, _, _, _, _, _, _, _, _, _, _, _, z⟩ := h
      exact z.elim
    | ok fl =>
      cases fl with
      | next => exact h.elim
      | brk => exact h.elim
      | cont => exact h.elim
      | ret u =>
        obtain ⟨v, H', os, bare, un, hok', r', q⟩ := h
        obtain rfl : v = .bl true := q
        obtain rfl : u = Value.bool true := r'
        refine ⟨rfl, OldK.of_keep fun b o e => ?_, os, bare⟩
        cases q : H b with
        | none => exact un.keep b o e q (fun z => List.not_mem_nil z) (fun z => List.not_mem_nil z)
        | some u =>
          rcases hO b with z | ⟨ob, xs, z⟩
          · rw [q] at z; cases z
          · have e1 := (hok b _ z).1
            have e2 := (hok' b _ (un.frzs b ob _ z)).1
            rw [e] at e1; cases e1
            exact e2
  cases hk : K.lookup a with
  | some o =>
    have e := KX a o hk
    rw [ha] at e
    cases e
    refine core (fun _ => none) (fun _ => .inl rfl) (.inr ⟨_, vs.toArray, _, hk, rfl, rfl, rfl, ?_, by simpa using rv⟩) (fun b u z => nomatch z) (fun b z => absurd rfl z) fun z => absurd rfl z
    rw [List.size_toArray, lenV]; exact hl
  | none =>
    let H : Hp := fun b => if b = a then some (.frz { cls := .type "list", data := .seq vs.toArray } (.lst (ns.map V.int))) else none
    have Ha : H a = some (.frz { cls := .type "list", data := .seq vs.toArray } (.lst (ns.map V.int))) := if_pos rfl
    have Hb : ∀ b, b ≠ a → H b = none := fun b z => if_neg z
    refine core H (fun b => ?_) (.inl (.inr ⟨_, Ha⟩)) (fun b u z => ?_) (fun b z => ?_) fun _ => hk
    · by_cases q : b = a
      · rw [q]; exact .inr ⟨_, _, Ha⟩
      · exact .inl (Hb b q)
    · by_cases q : b = a
      · rw [q] at z ⊢
        rw [Ha] at z
        cases z
        exact ⟨ha, by rw [List.length_map]; exact hl, vs, _, rv, ha⟩
      · rw [Hb b q] at z; cases z
    · by_cases q : b = a
      · exact q
      · exact absurd (Hb b q) z
end
theorem walk_G {l : PySem.W.OpenLaw} {n k : Nat} {q : Program} {loose : List Str} {XP : (Str → Option Value) → Heap → Prop} {YP : World → Heap → Prop} {d : DefRec} {K : Params → PySem.W.Frag} {x : Str}
    (hn : l.most = some n) (hn2 : n ≤ sizeLine) (hdf : d.params.defaults = []) (hr : Room k callerA) (hY : ∀ (w : World) (h : Heap), YP w h → (K w.params).In h)
    (G : ∀ (w : World) (mg : Str → Option Value) (fa : Addr) (h : Heap), (K w.params).In h → h.Ns mainGlobals mg → mg d.name = some (.ref fa) →
      ∃ (fd : FuncData) (F : FD), (∀ (s : Shared) (u : Value), BindsTo s fd ⟨[u], []⟩ [(x, u)]) ∧ (∀ base : Heap, (K w.params).In base → base.Ns mainGlobals mg → FnG l.prog w (K w.params) mg base k fa fd [x] (spD (K w.params) 1 F)) ∧
        ∀ ns : List Int, ns.length ≤ n → ∃ S', F [.cell 0] [.rls (ns.map PV.int)] = .ok (.bl true) S') :
    PySem.W.WalkO q loose XP YP l.row.toRowW d [] (fun f vs => PySem.call f vs) := by
  refine Att.attach_call hn hdf fun w s₀ s₁ mg mb fa o pm cd doc a vs ns T Y ho hd hcd hmg hobj hints hlen hg => ?_
  have KX := hY w _ Y
  obtain ⟨fd, F, hb, hG, hF⟩ := G w mg fa _ KX T.T.g hmg
  exact law_G KX T.T.g T.T.b T.T.builtins T.T.nolimit hg hobj hints (Nat.le_trans hlen hn2) hr hG hb (hF ns hlen)
end DL
namespace DL
open PySem PySem.Spec PyProof.Rows L2
/-- a def of the module where it stands -/
structure DefAt (K : PySem.W.Frag) (mg : Str → Option Value) (x : Str) (st : Stmt) (f : Addr) (fd : FuncData) (ps : List Str) : Prop where
  g : mg x = some (.ref f)
  F : L2.Fun K x x st f fd
  b : Binds K fd ps []
theorem bt_abs : bootBuiltins "abs" = some (.builtin "abs") := by decide +kernel
theorem bt_isinstance : bootBuiltins "isinstance" = some (.builtin "isinstance") := by decide +kernel
theorem bt_all : bootBuiltins "all" = some (.builtin "all") := by decide +kernel
theorem bt_any : bootBuiltins "any" = some (.builtin "any") := by decide +kernel
theorem bt_repr : bootBuiltins "repr" = some (.builtin "repr") := by decide +kernel
theorem bt_int : bootBuiltins "int" = some (.type "int") := by decide +kernel
theorem bt_bool : bootBuiltins "bool" = some (.type "bool") := by decide +kernel
theorem bt_str : bootBuiltins "str" = some (.type "str") := by decide +kernel
theorem bt_tuple : bootBuiltins "tuple" = some (.type "tuple") := by decide +kernel
theorem bt_list : bootBuiltins "list" = some (.type "list") := by decide +kernel
end DL
namespace L2.Room
theorem u64 {k : Nat} {A : PySem.Around} (r : L2.Room k A) : A.units + 64 < PySem.cLine := r.units
theorem u65 {k : Nat} {A : PySem.Around} (r : L2.Room k A) : A.units + 65 < PySem.cLine := by have := r.un; omega
end L2.Room
namespace DL
open PySem PySem.Spec PyProof.Rows L2
open Classical
noncomputable def ltA : PV → PV → M PV := fun x y => match x, y with
  | .int i, .int j => M.ret (.bl (decide (i < j)))
  | x, y => ltV x y
def rLtA (K : PySem.W.Frag) : R2 := fun x y H Q => (rI0 fun i j => .bl (decide (i < j))) x y H Q ∨ rLtD K x y H Q
theorem op_ltA {X : Cx} (hu : X.A.units + 64 < cLine) : OpR X (compareOp .Lt) (rLtA X.K) := OpR.or op_lt (op_ltD hu)
theorem den_ltA {K : PySem.W.Frag} : Den2 K (rLtA K) ltA := fun α S H x y vx vy Q E o rx ry h => by
  unfold ltA at h
  split at h
  · cases rx; cases ry
    exact .inl ⟨_, _, rfl, rfl, ret_od o h _ (.bl _)⟩
  · exact .inr (den_ltD α S H x y vx vy Q E o rx ry h)
end DL

/-! DLw: what a reading comes to, by its parts. -/
namespace DL
open PySem PySem.Spec PyProof.Rows L2
open Classical

def wpx {β : Type} (m : M β) (S : Store) (Q : β → Store → Prop) (E : Exn → Store → Prop) : Prop := match m S with
  | .ok b S' => Q b S'
  | .ex c S' => E c S'
  | .bad => False
section
variable {β γ : Type} {m : M β} {S : Store} {Q : β → Store → Prop} {E : Exn → Store → Prop}
theorem wpx_mono {Q' : β → Store → Prop} {E' : Exn → Store → Prop} (h : wpx m S Q E) (hq : ∀ b S', Q b S' → Q' b S') (he : ∀ c S', E c S' → E' c S') : wpx m S Q' E' := by
  unfold wpx at h ⊢
  cases q : m S with
  | ok b S' => rw [q] at h; exact hq _ _ h
  | ex c S' => rw [q] at h; exact he _ _ h
  | bad => rw [q] at h; exact h
theorem wpx_imp {Q' : β → Store → Prop} (h : wpx m S Q E) (hq : ∀ b S', Q b S' → Q' b S') : wpx m S Q' E := wpx_mono h hq fun _ _ e => e
theorem wpx_ret {b : β} : wpx (M.ret b) S Q E ↔ Q b S := Iff.rfl
theorem wpx_bad : wpx (M.bad : M β) S Q E ↔ False := Iff.rfl
theorem wpx_ok {b : β} {S' : Store} : wpx (fun _ => Out.ok b S') S Q E ↔ Q b S' := Iff.rfl
theorem wpx_bind {m : M γ} {k : γ → M β} : wpx (M.bind m k) S Q E ↔ wpx m S (fun c S' => wpx (k c) S' Q E) E := by
  unfold wpx M.bind Out.bind
  cases q : m S <;> simp
theorem wpx_obind {m : M γ} {k : γ → M β} : wpx (fun S => (m S).bind k) S Q E ↔ wpx m S (fun c S' => wpx (k c) S' Q E) E := wpx_bind
theorem wpx_ite {c : Prop} {dc : Decidable c} {n : M β} : wpx (if c then m else n) S Q E ↔ if c then wpx m S Q E else wpx n S Q E := by
  by_cases h : c
  · rw [if_pos h, if_pos h]
  · rw [if_neg h, if_neg h]
theorem wpx_optM {o : Option β} : wpx (optM o) S Q E ↔ ∃ b, o = some b ∧ Q b S := by
  cases o with
  | none => exact ⟨fun h => h.elim, fun ⟨_, h, _⟩ => nomatch h⟩
  | some b => exact ⟨fun h => ⟨b, rfl, h⟩, fun ⟨_, h, q⟩ => by cases h; exact q⟩
theorem wpx_getC {n : Nat} {k : Cell → M β} : wpx (getC n k) S Q E ↔ ∃ c, S[n]? = some c ∧ wpx (k c) S Q E := by
  unfold wpx getC
  cases q : S[n]? with
  | none => simp
  | some c => simp
theorem wpx_eq {b : β} {S' : Store} (h : m S = .ok b S') : wpx m S Q E ↔ Q b S' := by unfold wpx; rw [h]
theorem eq_of_wpx {b : β} (h : wpx m S (fun c S' => c = b) fun _ _ => False) : ∃ S', m S = .ok b S' := by
  unfold wpx at h
  cases q : m S with
  | ok c S' => rw [q] at h; exact ⟨S', by rw [h]⟩
  | ex c S' => rw [q] at h; exact h.elim
  | bad => rw [q] at h; exact h.elim
end
section
variable {ρ : PEnv} {S : Store} {Q : PV → Store → Prop} {QB : Bool → Store → Prop} {QL : List PV → Store → Prop} {E : Exn → Store → Prop} {f f1 f2 f3 : PEnv → M PV} {fa : PEnv → M (List PV)} {ft gt : PEnv → M Bool} {g g' : PV → PV → M PV}
theorem wv_var {i : Nat} : wpx (eVar i ρ) S Q E ↔ ∃ d, ρ[i]? = some (some d) ∧ Q d S := by
  unfold eVar
  cases q : ρ[i]? with
  | none => simp [wpx_bad]
  | some o => cases o <;> simp [wpx_bad, wpx_ret]
theorem wv_lit {d : PV} : wpx (eLit d ρ) S Q E ↔ Q d S := Iff.rfl
theorem wv_bin : wpx (eBin g f1 f2 ρ) S Q E ↔ wpx (f1 ρ) S (fun x S1 => wpx (f2 ρ) S1 (fun y S2 => wpx (g x y) S2 Q E) E) E := by unfold eBin; rw [wpx_bind]; simp only [wpx_bind]
theorem wv_un {g : PV → M PV} : wpx (eUn g f1 ρ) S Q E ↔ wpx (f1 ρ) S (fun x S1 => wpx (g x) S1 Q E) E := wpx_bind
theorem wv_nil : wpx (eNil ρ) S QL E ↔ QL [] S := Iff.rfl
theorem wv_cons : wpx (eCons f fa ρ) S QL E ↔ wpx (f ρ) S (fun x S1 => wpx (fa ρ) S1 (fun xs S2 => QL (x :: xs) S2) E) E := by unfold eCons; rw [wpx_bind]; simp only [wpx_bind, wpx_ret]
theorem wv_args {F : List PV → M PV} : wpx (eArgs F fa ρ) S Q E ↔ wpx (fa ρ) S (fun xs S1 => wpx (F xs) S1 Q E) E := wpx_bind
theorem wv_test : wpx (eTest f ρ) S QB E ↔ wpx (f ρ) S (fun x S1 => wpx (asB x) S1 QB E) E := wpx_bind
theorem wv_asB {b : Bool} : wpx (asB (.bl b)) S QB E ↔ QB b S := Iff.rfl
theorem wv_and : wpx (eAnd ft gt ρ) S QB E ↔ wpx (ft ρ) S (fun b S1 => if b = true then wpx (gt ρ) S1 QB E else QB false S1) E := by unfold eAnd; rw [wpx_bind]; simp only [wpx_ite, wpx_ret]
theorem wv_or : wpx (eOr ft gt ρ) S QB E ↔ wpx (ft ρ) S (fun b S1 => if b = true then QB true S1 else wpx (gt ρ) S1 QB E) E := by unfold eOr; rw [wpx_bind]; simp only [wpx_ite, wpx_ret]
theorem wv_not : wpx (eNot ft ρ) S QB E ↔ wpx (ft ρ) S (fun b S1 => QB (!b) S1) E := by unfold eNot; rw [wpx_bind]; simp only [wpx_ret]
theorem wv_andV : wpx (eAndV f1 f2 ρ) S Q E ↔ wpx (f1 ρ) S (fun x S1 => wpx (asB x) S1 (fun b S2 => if b = true then wpx (f2 ρ) S2 Q E else Q (.bl false) S2) E) E := by unfold eAndV; rw [wpx_bind]; simp only [wpx_bind, wpx_ite, wpx_ret]
theorem wv_orV : wpx (eOrV f1 f2 ρ) S Q E ↔ wpx (f1 ρ) S (fun x S1 => wpx (asB x) S1 (fun b S2 => if b = true then Q (.bl true) S2 else wpx (f2 ρ) S2 Q E) E) E := by unfold eOrV; rw [wpx_bind]; simp only [wpx_bind, wpx_ite, wpx_ret]
theorem wv_notV : wpx (eNotV f1 ρ) S Q E ↔ wpx (f1 ρ) S (fun x S1 => wpx (asB x) S1 (fun b S2 => Q (.bl (!b)) S2) E) E := by unfold eNotV; rw [wpx_bind]; simp only [wpx_bind, wpx_ret]
theorem wv_if : wpx (eIf ft f1 f2 ρ) S Q E ↔ wpx (ft ρ) S (fun b S1 => if b = true then wpx (f1 ρ) S1 Q E else wpx (f2 ρ) S1 Q E) E := by unfold eIf; rw [wpx_bind]; simp only [wpx_ite]
theorem wv_chain : wpx (eChain g g' f1 f2 f3 ρ) S Q E ↔ wpx (f1 ρ) S (fun x S1 => wpx (f2 ρ) S1 (fun y S2 => wpx (g x y) S2 (fun c S3 => wpx (asB c) S3 (fun b S4 => if b = true then wpx (f3 ρ) S4 (fun z S5 => wpx (g' y z) S5 Q E) E else Q (.bl false) S4) E) E) E) E := by
  unfold eChain; rw [wpx_bind]; simp only [wpx_bind, wpx_ite, wpx_ret]
theorem wv_noPart {Q : Option Int → Store → Prop} : wpx (eNoPart ρ) S Q E ↔ Q none S := Iff.rfl
theorem wv_part {Q : Option Int → Store → Prop} : wpx (ePart f ρ) S Q E ↔ wpx (f ρ) S (fun x S1 => wpx (asI x) S1 (fun i S2 => Q (some i) S2) E) E := by unfold ePart; rw [wpx_bind]; simp only [wpx_bind, wpx_ret]
theorem wv_asI {Q : Int → Store → Prop} {i : Int} : wpx (asI (.int i)) S Q E ↔ Q i S := Iff.rfl
theorem wv_slice {g : PV → Option Int → Option Int → M PV} {l u : PEnv → M (Option Int)} : wpx (eSlice g f l u ρ) S Q E ↔ wpx (f ρ) S (fun x S1 => wpx (l ρ) S1 (fun i S2 => wpx (u ρ) S2 (fun j S3 => wpx (g x i j) S3 Q E) E) E) E := by unfold eSlice; rw [wpx_bind]; simp only [wpx_bind]
theorem wv_mkTup {xs : List PV} : wpx (mkTup xs) S Q E ↔ xs.length ≤ sizeLine ∧ Q (.tup xs) S := by unfold mkTup; rw [wpx_ite]; simp [wpx_ret, wpx_bad]
theorem wv_mkLst {xs : List PV} : wpx (mkLst xs) S Q E ↔ xs.length ≤ sizeLine ∧ Q (.cell S.length) (S ++ [.lst xs]) := by
  unfold mkLst wpx
  by_cases h : xs.length ≤ sizeLine <;> simp [h]
theorem wv_chkL {np : Nat} {F : FD} {ds : List PV} (h : ds.length = np) : wpx (chkL np F ds) S Q E ↔ wpx (F ds) S Q E := by unfold chkL; rw [if_pos h]
theorem wv_methL {g : PV → List PV → M PV} : wpx (eMethL g f fa ρ) S Q E ↔ wpx (f ρ) S (fun x S1 => wpx (isL x) S1 (fun _ S2 => wpx (fa ρ) S2 (fun xs S3 => wpx (g x xs) S3 Q E) E) E) E := by unfold eMethL; rw [wpx_bind]; simp only [wpx_bind]
end

/-! ### statements: they end by Q alone -/
def wps (m : M (Fl × PEnv)) (S : Store) (Q : Fl × PEnv → Store → Prop) : Prop := wpx m S Q fun _ _ => False
section
variable {ρ : PEnv} {S : Store} {Q : Fl × PEnv → Store → Prop} {f fo fi : PEnv → M PV} {ft : PEnv → M Bool} {g h : SD}
theorem wps_mono {m : M (Fl × PEnv)} {Q' : Fl × PEnv → Store → Prop} (h : wps m S Q) (hq : ∀ r S', Q r S' → Q' r S') : wps m S Q' := wpx_imp h hq
theorem wps_ret {r : Fl × PEnv} : wps (M.ret r) S Q ↔ Q r S := Iff.rfl
theorem wps_lift {β : Type} {m : M β} {k : β → M (Fl × PEnv)} : wps (fun S => lift (m S) ρ k) S Q ↔ wpx m S (fun b S' => wps (k b) S' Q) (fun c S' => Q (.ex c, ρ) S') := by
  unfold wps wpx
  dsimp only
  unfold lift
  cases m S <;> exact Iff.rfl
theorem ws_nil : wps (sNil ρ) S Q ↔ Q (.nx, ρ) S := Iff.rfl
theorem ws_retN : wps (sRetN ρ) S Q ↔ Q (.rt .non, ρ) S := Iff.rfl
theorem ws_bk : wps (sBk ρ) S Q ↔ Q (.bk, ρ) S := Iff.rfl
theorem ws_ct : wps (sCt ρ) S Q ↔ Q (.ct, ρ) S := Iff.rfl
theorem ws_seq : wps (sSeq g h ρ) S Q ↔ wps (g ρ) S fun r S' => match r.1 with
  | .nx => wps (h r.2) S' Q
  | _ => Q r S' := by
  unfold sSeq wps
  rw [wpx_bind]
  constructor
  · intro z
    refine wpx_imp z fun r S' q => ?_
    obtain ⟨fl, ρ'⟩ := r
    cases fl <;> exact q
  · intro z
    refine wpx_imp z fun r S' q => ?_
    obtain ⟨fl, ρ'⟩ := r
    cases fl <;> exact q
theorem ws_expr : wps (sExpr f ρ) S Q ↔ wpx (f ρ) S (fun _ S' => Q (.nx, ρ) S') (fun c S' => Q (.ex c, ρ) S') := wps_lift
theorem ws_ret : wps (sRet f ρ) S Q ↔ wpx (f ρ) S (fun d S' => Q (.rt d, ρ) S') (fun c S' => Q (.ex c, ρ) S') := wps_lift
theorem ws_set {i : Nat} : wps (sSet i f ρ) S Q ↔ wpx (f ρ) S (fun d S' => Q (.nx, ρ.set i (some d)) S') (fun c S' => Q (.ex c, ρ) S') := wps_lift
theorem ws_if : wps (sIf ft g h ρ) S Q ↔ wpx (ft ρ) S (fun b S' => if b = true then wps (g ρ) S' Q else wps (h ρ) S' Q) (fun c S' => Q (.ex c, ρ) S') := by
  unfold sIf
  rw [wps_lift]
  constructor
  · intro z; refine wpx_imp z fun b S' q => ?_; cases b <;> exact q
  · intro z; refine wpx_imp z fun b S' q => ?_; cases b <;> exact q
theorem ws_asg {t : Tgt} : wps (sAsg t f ρ) S Q ↔ wpx (f ρ) S (fun d S' => ∃ ρ1, bindT t d ρ = some ρ1 ∧ Q (.nx, ρ1) S') (fun c S' => Q (.ex c, ρ) S') := by
  unfold sAsg
  rw [wps_lift]
  constructor
  · intro z
    refine wpx_imp z fun d S' q => ?_
    cases e : bindT t d ρ with
    | none => rw [e] at q; exact q.elim
    | some ρ1 => rw [e] at q; exact ⟨ρ1, rfl, q⟩
  · intro z
    refine wpx_imp z fun d S' q => ?_
    obtain ⟨ρ1, e, q⟩ := q
    rw [e]; exact q
theorem ws_sub {gs : PV → PV → PV → M Unit} : wps (sSub gs fo fi f ρ) S Q ↔ wpx (f ρ) S (fun d S1 => wpx (fo ρ) S1 (fun o S2 => wpx (fi ρ) S2 (fun i S3 => wpx (gs o i d) S3 (fun _ S4 => Q (.nx, ρ) S4) (fun c S' => Q (.ex c, ρ) S')) (fun c S' => Q (.ex c, ρ) S')) (fun c S' => Q (.ex c, ρ) S')) (fun c S' => Q (.ex c, ρ) S') := by
  unfold sSub
  rw [wps_lift]
  simp only [wps_lift, wps_ret]
theorem ws_aug {gp : PV → PV → M PV} {i : Nat} : wps (sAug gp i f ρ) S Q ↔ wpx (eVar i ρ) S (fun x S1 => wpx (f ρ) S1 (fun y S2 => wpx (gp x y) S2 (fun z S3 => Q (.nx, ρ.set i (some z)) S3) (fun c S' => Q (.ex c, ρ) S')) (fun c S' => Q (.ex c, ρ) S')) (fun c S' => Q (.ex c, ρ) S') := by
  unfold sAug
  rw [wps_lift]
  simp only [wps_lift, wps_ret]
theorem ws_thru : wps (sThru g ρ) S Q ↔ wps (g ρ) S fun r S' => (∀ c, r.1 ≠ .ex c) ∧ Q r S' := by
  unfold sThru wps
  rw [wpx_bind]
  constructor
  · intro z
    refine wpx_imp z fun r S' q => ?_
    obtain ⟨fl, ρ'⟩ := r
    cases fl with
    | ex c => exact q.elim
    | nx => exact ⟨fun c e => (nomatch e), q⟩
    | bk => exact ⟨fun c e => (nomatch e), q⟩
    | ct => exact ⟨fun c e => (nomatch e), q⟩
    | rt d => exact ⟨fun c e => (nomatch e), q⟩
  · intro z
    refine wpx_imp z fun r S' q => ?_
    obtain ⟨fl, ρ'⟩ := r
    cases fl with
    | ex c => exact absurd rfl (q.1 c)
    | _ => exact q.2
/-- a def's value -/
theorem wp_run {nn : Nat} {ds : List PV} {QV : PV → Store → Prop} {E : Exn → Store → Prop} (z : wps (g (ds.map some ++ List.replicate (nn - ds.length) none)) S fun r S' => match r.1 with
  | .nx => QV .non S'
  | .rt d => QV d S'
  | .ex c => E c S'
  | _ => False) : wpx (runF nn g ds) S QV E := by
  unfold wps wpx at z
  unfold wpx runF
  cases q : g (ds.map some ++ List.replicate (nn - ds.length) none) S with
  | ok r S' =>
    rw [q] at z
    obtain ⟨fl, ρ'⟩ := r
    cases fl <;> exact z
  | ex c S' => rw [q] at z; exact z.elim
  | bad => rw [q] at z; exact z.elim

/-! loops, by an invariant over what is left -/
theorem ws_for {fs : PEnv → M Src} {t : Tgt} : wps (sFor fs t g ρ) S Q ↔ wpx (fs ρ) S (fun src S' => wps (forGo src.chk t g src.items ρ) S' Q) (fun c S' => Q (.ex c, ρ) S') := by
  unfold sFor; exact wps_lift
theorem for_nil {chk : Store → Prop} {t : Tgt} (h : chk S) (q : Q (.nx, ρ) S) : wps (forGo chk t g [] ρ) S Q := by
  unfold wps wpx forGo
  rw [if_pos h]; exact q
theorem for_cons {chk : Store → Prop} {t : Tgt} {x : PV} {xs : List PV} {ρ1 : PEnv} (h : chk S) (e : bindT t x ρ = some ρ1) (q : wps (g ρ1) S fun r S' => match r.1 with
  | .nx => wps (forGo chk t g xs r.2) S' Q
  | .ct => wps (forGo chk t g xs r.2) S' Q
  | .bk => Q (.nx, r.2) S'
  | _ => Q r S') : wps (forGo chk t g (x :: xs) ρ) S Q := by
  have z : wps (fun S => (g ρ1 S).bind (kLoop (forGo chk t g xs))) S Q := by
    show wpx (M.bind (g ρ1) (kLoop (forGo chk t g xs))) S Q _
    rw [wpx_bind]
    refine wpx_imp q fun r S' q => ?_
    obtain ⟨fl, ρ'⟩ := r
    cases fl <;> exact q
  unfold wps wpx at z ⊢
  unfold forGo
  rw [if_pos h, e]
  exact z
/-- a loop: I by the items that are left, the slots and the store -/
theorem for_inv {chk : Store → Prop} {t : Tgt} (I : List PV → PEnv → Store → Prop) : ∀ (xs : List PV) (ρ : PEnv) (S : Store), I xs ρ S →
    (∀ xs ρ S, I xs ρ S → chk S) → (∀ ρ S, I [] ρ S → Q (.nx, ρ) S) →
    (∀ x xs ρ S, I (x :: xs) ρ S → ∃ ρ1, bindT t x ρ = some ρ1 ∧ wps (g ρ1) S fun r S' => match r.1 with
      | .nx => I xs r.2 S'
      | .ct => I xs r.2 S'
      | .bk => Q (.nx, r.2) S'
      | _ => Q r S') → wps (forGo chk t g xs ρ) S Q
  | [], ρ, S, h, hc, hn, hs => for_nil (hc _ _ _ h) (hn _ _ h)
  | x :: xs, ρ, S, h, hc, hn, hs => by
    obtain ⟨ρ1, e, q⟩ := hs x xs ρ S h
    refine for_cons (hc _ _ _ h) e (wps_mono q fun r S' q => ?_)
    obtain ⟨fl, ρ'⟩ := r
    cases fl with
    | nx => exact for_inv I xs _ _ q hc hn hs
    | ct => exact for_inv I xs _ _ q hc hn hs
    | bk => exact q
    | rt d => exact q
    | ex c => exact q
theorem whileN_succ {c : PEnv → M Bool} {k : Nat} : whileN c g (k + 1) ρ S = lift (c ρ S) ρ fun b => if b = true then fun S1 => (g ρ S1).bind (kLoop (whileN c g k)) else M.ret (.nx, ρ) := rfl
theorem while_inv {c : PEnv → M Bool} (I : Nat → PEnv → Store → Prop) : ∀ (n : Nat) (ρ : PEnv) (S : Store), I n ρ S →
    (∀ n ρ S, I n ρ S → wpx (c ρ) S (fun b S' => if b = true then wps (g ρ) S' (fun r S'' => match r.1 with
      | .nx => ∃ m, m < n ∧ I m r.2 S''
      | .ct => ∃ m, m < n ∧ I m r.2 S''
      | .bk => Q (.nx, r.2) S''
      | _ => Q r S'') else Q (.nx, ρ) S') (fun c S' => Q (.ex c, ρ) S')) → wps (sWhile c g ρ) S Q := by
  have key : ∀ (n : Nat) (ρ : PEnv) (S : Store), I n ρ S → (∀ n ρ S, I n ρ S → wpx (c ρ) S (fun b S' => if b = true then wps (g ρ) S' (fun r S'' => match r.1 with
      | .nx => ∃ m, m < n ∧ I m r.2 S''
      | .ct => ∃ m, m < n ∧ I m r.2 S''
      | .bk => Q (.nx, r.2) S''
      | _ => Q r S'') else Q (.nx, ρ) S') (fun c S' => Q (.ex c, ρ) S')) → ∃ k, wps (whileN c g k ρ) S Q := by
    intro n
    induction n using Nat.strongRecOn with
    | ind n ih =>
      intro ρ S hI hs
      have h1 := hs n ρ S hI
      unfold wpx at h1
      cases e : c ρ S with
      | bad => rw [e] at h1; exact h1.elim
      | ex x S' =>
        rw [e] at h1
        refine ⟨1, ?_⟩
        unfold wps wpx whileN
        rw [e]; exact h1
      | ok b S' =>
        rw [e] at h1
        cases b with
        | false =>
          refine ⟨1, ?_⟩
          unfold wps wpx whileN
          rw [e]; exact h1
        | true =>
          simp only [if_true] at h1
          unfold wps wpx at h1
          cases e2 : g ρ S' with
          | bad => rw [e2] at h1; exact h1.elim
          | ex x S'' => rw [e2] at h1; exact h1.elim
          | ok r S'' =>
            rw [e2] at h1
            obtain ⟨fl, ρ'⟩ := r
            have fin : ∀ k, (∀ (q : wps (kLoop (whileN c g k) (fl, ρ')) S'' Q), wps (whileN c g (k + 1) ρ) S Q) := fun k q => by
              have e3 : whileN c g (k + 1) ρ S = kLoop (whileN c g k) (fl, ρ') S'' := by
                rw [whileN_succ, e]
                show (g ρ S').bind (kLoop (whileN c g k)) = _
                rw [e2]; rfl
              unfold wps wpx at q ⊢
              rw [e3]; exact q
            cases fl with
            | nx =>
              obtain ⟨m, hm, hI'⟩ := h1
              obtain ⟨k, hk⟩ := ih m hm ρ' S'' hI' hs
              exact ⟨k + 1, fin k hk⟩
            | ct =>
              obtain ⟨m, hm, hI'⟩ := h1
              obtain ⟨k, hk⟩ := ih m hm ρ' S'' hI' hs
              exact ⟨k + 1, fin k hk⟩
            | bk => exact ⟨1, fin 0 h1⟩
            | rt d => exact ⟨1, fin 0 h1⟩
            | ex x => exact ⟨1, fin 0 h1⟩
  intro n ρ S hI hs
  obtain ⟨k, hk⟩ := key n ρ S hI hs
  have hg : (whileN c g k ρ S).good := by
    unfold wps wpx at hk
    cases e : whileN c g k ρ S with
    | bad => rw [e] at hk; exact hk.elim
    | _ => exact True.intro
  unfold wps wpx at hk ⊢
  rw [while_is hg]; exact hk
end
section
variable {ρ : PEnv} {S : Store} {E : Exn → Store → Prop}
theorem wsr_args {F : List PV → M Src} {fa : PEnv → M (List PV)} {Q : Src → Store → Prop} : wpx (sArgs F fa ρ) S Q E ↔ wpx (fa ρ) S (fun xs S1 => wpx (F xs) S1 Q E) E := wpx_bind
theorem wsr_range1 {j : Int} {Q : Src → Store → Prop} : wpx (range1M [.int j]) S Q E ↔ (-(2 ^ 62) ≤ j ∧ j < 2 ^ 62) ∧ Q (srcRange 0 j.toNat) S := by
  unfold range1M; rw [wpx_ite]; simp [wpx_ret, wpx_bad]
theorem wsr_range2 {i j : Int} {Q : Src → Store → Prop} : wpx (range2M [.int i, .int j]) S Q E ↔ (-(2 ^ 62) ≤ i ∧ i < 2 ^ 62 ∧ -(2 ^ 62) ≤ j ∧ j < 2 ^ 62) ∧ Q (srcRange i (j - i).toNat) S := by
  unfold range2M; rw [wpx_ite]; simp [wpx_ret, wpx_bad]
theorem wsr_seq {f : PEnv → M PV} {Q : Src → Store → Prop} : wpx (eSrc f ρ) S Q E ↔ wpx (f ρ) S (fun x S1 => wpx (seqM x) S1 Q E) E := wpx_bind
theorem wsr_tup {xs : List PV} {Q : Src → Store → Prop} : wpx (seqM (.tup xs)) S Q E ↔ Q ⟨xs, fun _ => True⟩ S := Iff.rfl
theorem wsr_cell {n : Nat} {c : Cell} {xs : List PV} {Q : Src → Store → Prop} (e : S[n]? = some c) (e2 : c.items? = some xs) : wpx (seqM (.cell n)) S Q E ↔ Q ⟨xs, fun S' => S'[n]? = some c⟩ S := by
  have : wpx (seqM (.cell n)) S Q E ↔ ∃ c, S[n]? = some c ∧ wpx (match c.items? with | some xs => M.ret ⟨xs, fun S' => S'[n]? = some c⟩ | none => M.bad) S Q E := wpx_getC
  rw [this]
  constructor
  · rintro ⟨d, h1, h2⟩
    rw [e] at h1; cases h1
    rw [e2] at h2; exact h2
  · intro h
    exact ⟨c, e, by rw [e2]; exact h⟩
/-! comprehensions -/
theorem wv_lc {fs : PEnv → M Src} {t : Tgt} {test : PEnv → M Bool} {elt : PEnv → M PV} {vs : List Nat} {Q : PV → Store → Prop} : wpx (eLc fs t test elt vs ρ) S Q E ↔ wpx (fs ρ) S (fun src S' => wpx (lcGo src.chk t test elt (wipeP ρ vs) S'.length src.items) (S' ++ [.lst []]) Q E) E := by
  unfold eLc; rw [wpx_bind]; rfl
theorem wpx_noEx {β : Type} {m : M β} {Q : β → Store → Prop} : wpx (fun S => noEx (m S)) S Q E ↔ wpx m S Q fun _ _ => False := by
  unfold wpx
  dsimp only
  unfold noEx
  cases m S <;> exact Iff.rfl
/-- I by the items that are left, what is made so far, and the store (the new list at n within it) -/
theorem lc_inv {chk : Store → Prop} {t : Tgt} {test : PEnv → M Bool} {elt : PEnv → M PV} {n : Nat} {Q : PV → Store → Prop} (I : List PV → List PV → Store → Prop) : ∀ (xs acc : List PV) (S : Store), I xs acc S →
    (∀ xs acc S, I xs acc S → chk S ∧ S[n]? = some (.lst acc)) → (∀ acc S, I [] acc S → Q (.cell n) S) →
    (∀ x xs acc S, I (x :: xs) acc S → ∃ ρ1, bindT t x ρ = some ρ1 ∧ wpx (test ρ1) S (fun b S1 => if b = true then wpx (elt ρ1) S1 (fun y S2 => S2[n]? = some (.lst acc) ∧ acc.length < sizeLine ∧ I xs (acc ++ [y]) (S2.set n (.lst (acc ++ [y])))) (fun _ _ => False) else I xs acc S1) (fun _ _ => False)) →
    wpx (lcGo chk t test elt ρ n xs) S Q E
  | [], acc, S, h, hc, hn, hs => by
    unfold wpx lcGo
    rw [if_pos (hc _ _ _ h).1]; exact hn _ _ h
  | x :: xs, acc, S, h, hc, hn, hs => by
    obtain ⟨ρ1, e, q⟩ := hs x xs acc S h
    have e0 : lcGo chk t test elt ρ n (x :: xs) S = M.bind (fun S => noEx (test ρ1 S)) (fun b => if b = true then M.bind (fun S1 => noEx (elt ρ1 S1)) (fun y => M.bind (appC n y) fun _ => lcGo chk t test elt ρ n xs) else lcGo chk t test elt ρ n xs) S := by
      rw [lcGo]
      simp only [if_pos (hc _ _ _ h).1, e]
      rfl
    have e4 : wpx (M.bind (fun S => noEx (test ρ1 S)) (fun b => if b = true then M.bind (fun S1 => noEx (elt ρ1 S1)) (fun y => M.bind (appC n y) fun _ => lcGo chk t test elt ρ n xs) else lcGo chk t test elt ρ n xs)) S Q E := by
      rw [wpx_bind]
      refine wpx_mono (wpx_noEx.mpr q) (fun b S1 q => ?_) fun _ _ z => z
      cases b with
      | false => exact lc_inv I xs acc S1 q hc hn hs
      | true =>
        rw [if_pos rfl] at q ⊢
        rw [wpx_bind]
        refine wpx_mono (wpx_noEx.mpr q) (fun y S2 q => ?_) fun _ _ z => z
        obtain ⟨q1, q2, q3⟩ := q
        rw [wpx_bind]
        have e3 : appC n y S2 = .ok () (S2.set n (.lst (acc ++ [y]))) := by
          unfold appC; rw [q1]; simp only [if_pos q2]
        exact (wpx_eq e3).mpr (lc_inv I xs (acc ++ [y]) _ q3 hc hn hs)
    unfold wpx at e4 ⊢
    rw [e0]; exact e4
end
end DL

/-! DLv: values, by their kinds. -/
namespace DL
open PySem PySem.Spec PyProof.Rows L2
open Classical
section
variable {S : Store} {Q : PV → Store → Prop} {QU : Unit → Store → Prop} {QB : Bool → Store → Prop} {E : Exn → Store → Prop} {i j : Int} {n : Nat} {xs ys : List PV} {d : PV}
theorem vv_add_int : wpx (addV (.int i) (.int j)) S Q E ↔ Q (.int (i + j)) S := Iff.rfl
theorem vv_add_tup : wpx (addV (.tup xs) (.tup ys)) S Q E ↔ xs.length + ys.length ≤ sizeLine ∧ Q (.tup (xs ++ ys)) S := by
  show wpx (if _ then _ else _) S Q E ↔ _
  rw [wpx_ite]; simp [wpx_ret, wpx_bad]
theorem vv_sub : wpx (subV (.int i) (.int j)) S Q E ↔ Q (.int (i - j)) S := Iff.rfl
theorem vv_mul : wpx (mulI (.int i) (.int j)) S Q E ↔ CMul i j ∧ Q (.int (i * j)) S := by
  show wpx (if _ then _ else _) S Q E ↔ _
  rw [wpx_ite]; simp [wpx_ret, wpx_bad]
theorem vv_div : wpx (divV (.int i) (.int j)) S Q E ↔ CDiv i j ∧ Q (.int (i / j)) S := by
  show wpx (if _ then _ else _) S Q E ↔ _
  rw [wpx_ite]; simp [wpx_ret, wpx_bad]
theorem vv_mod : wpx (modV (.int i) (.int j)) S Q E ↔ 0 < j ∧ Q (.int (i % j)) S := by
  show wpx (if _ then _ else _) S Q E ↔ _
  rw [wpx_ite]; simp [wpx_ret, wpx_bad]
theorem vv_pow : wpx (powV (.int i) (.int j)) S Q E ↔ CPow i j ∧ Q (.int (i ^ j.toNat)) S := by
  show wpx (if _ then _ else _) S Q E ↔ _
  rw [wpx_ite]; simp [wpx_ret, wpx_bad]
theorem vv_neg : wpx (negV (.int i)) S Q E ↔ Q (.int (-i)) S := Iff.rfl
theorem vv_gt : wpx (gtI (.int i) (.int j)) S Q E ↔ Q (.bl (decide (j < i))) S := Iff.rfl
theorem vv_ge : wpx (geI (.int i) (.int j)) S Q E ↔ Q (.bl (decide (j ≤ i))) S := Iff.rfl
theorem vv_le : wpx (leI (.int i) (.int j)) S Q E ↔ Q (.bl (decide (i ≤ j))) S := Iff.rfl
theorem vv_lt : wpx (ltA (.int i) (.int j)) S Q E ↔ Q (.bl (decide (i < j))) S := Iff.rfl
theorem toD_int {m : Nat} : toD S (m + 1) (.int i) = some (.int i) := rfl
theorem eqM_int : eqM (.int i) (.int j) S = .ok (i == j) S := by
  unfold eqM
  rw [show toD S 64 (.int i) = some (.int i) from rfl, show toD S 64 (.int j) = some (.int j) from rfl]
  have h : ∀ k : Int, SeqAt.shaped (.int k) = true := fun k => rfl
  simp only [h, and_self, if_true, PyData.eqv]
theorem vv_eq_int : wpx (eqV (.int i) (.int j)) S Q E ↔ Q (.bl (decide (i = j))) S := by
  unfold eqV; rw [wpx_bind, wpx_eq eqM_int, wpx_ret, Bool.beq_eq_decide_eq]
theorem vv_ne_int : wpx (neV (.int i) (.int j)) S Q E ↔ Q (.bl (!decide (i = j))) S := by
  unfold neV; rw [wpx_bind, wpx_eq eqM_int, wpx_ret, Bool.beq_eq_decide_eq]
theorem eqM_bl {a b : Bool} : eqM (.bl a) (.bl b) S = .ok (a == b) S := by
  unfold eqM
  rw [show toD S 64 (.bl a) = some (.bool a) from rfl, show toD S 64 (.bl b) = some (.bool b) from rfl]
  have h : ∀ k : Bool, SeqAt.shaped (.bool k) = true := fun k => rfl
  simp only [h, and_self, if_true, PyData.eqv]
theorem vv_eq_bl {a b : Bool} : wpx (eqV (.bl a) (.bl b)) S Q E ↔ Q (.bl (decide (a = b))) S := by
  unfold eqV; rw [wpx_bind, wpx_eq eqM_bl, wpx_ret, Bool.beq_eq_decide_eq]
theorem vv_ne_bl {a b : Bool} : wpx (neV (.bl a) (.bl b)) S Q E ↔ Q (.bl (!decide (a = b))) S := by
  unfold neV; rw [wpx_bind, wpx_eq eqM_bl, wpx_ret, Bool.beq_eq_decide_eq]
theorem vv_items_tup {β : Type} {k : List PV → M β} {Q : β → Store → Prop} : wpx (itemsM (.tup xs) k) S Q E ↔ wpx (k xs) S Q E := Iff.rfl
theorem vv_items_cell {β : Type} {k : List PV → M β} {Q : β → Store → Prop} : wpx (itemsM (.cell n) k) S Q E ↔ ∃ c, S[n]? = some c ∧ ∃ ys, c.items? = some ys ∧ wpx (k ys) S Q E := by
  show wpx (getC n _) S Q E ↔ _
  rw [wpx_getC]
  simp only [wpx_bind, wpx_optM]
theorem vv_ix_tup : wpx (ixV (.tup xs) (.int i)) S Q E ↔ ∃ d, L2.atI xs i = some d ∧ Q d S := wpx_optM
theorem vv_ix_cell : wpx (ixV (.cell n) (.int i)) S Q E ↔ ∃ c, S[n]? = some c ∧ ∃ ys, c.items? = some ys ∧ ∃ d, L2.atI ys i = some d ∧ Q d S := by
  show wpx (itemsM (.cell n) _) S Q E ↔ _
  rw [vv_items_cell]; simp only [wpx_optM]
theorem atI_pos {β : Type} {l : List β} (h : 0 ≤ i) : L2.atI l i = l[i.toNat]? := by
  unfold L2.atI L2.ixN
  rw [if_pos h]
  by_cases q : i < (l.length : Int)
  · rw [if_pos q]; rfl
  · rw [if_neg q, List.getElem?_eq_none (by omega)]; rfl
theorem ixN_pos {m : Nat} (h : 0 ≤ i) (h2 : i < m) : L2.ixN m i = some i.toNat := by
  unfold L2.ixN; rw [if_pos h, if_pos h2]
theorem vv_set : wpx (setV (.cell n) (.int i) d) S QU E ↔ ∃ ys, S[n]? = some (.lst ys) ∧ ∃ k, L2.ixN ys.length i = some k ∧ QU () (S.set n (.lst (ys.set k d))) := by
  show wpx (getC n _) S QU E ↔ _
  rw [wpx_getC]
  constructor
  · rintro ⟨c, h1, h2⟩
    cases c with
    | lst ys =>
      rw [wpx_bind, wpx_optM] at h2
      obtain ⟨k, h3, h4⟩ := h2
      exact ⟨ys, h1, k, h3, h4⟩
    | rls ys => exact h2.elim
    | ins C fs => exact h2.elim
  · rintro ⟨ys, h1, k, h2, h3⟩
    refine ⟨_, h1, ?_⟩
    rw [wpx_bind, wpx_optM]
    exact ⟨k, h2, h3⟩
theorem vv_len_tup : wpx (lenV [.tup xs]) S Q E ↔ Q (.int xs.length) S := Iff.rfl
theorem vv_len_cell : wpx (lenV [.cell n]) S Q E ↔ ∃ c, S[n]? = some c ∧ ∃ ys, c.items? = some ys ∧ Q (.int ys.length) S := by
  show wpx (itemsM (.cell n) _) S Q E ↔ _
  rw [vv_items_cell]; simp only [wpx_ret]
theorem vv_abs : wpx (absF [.int i]) S Q E ↔ Q (.int (if i < 0 then -i else i)) S := Iff.rfl
theorem vv_int_int : wpx (intF [.int i]) S Q E ↔ Q (.int i) S := Iff.rfl
theorem vv_int_bl {b : Bool} : wpx (intF [.bl b]) S Q E ↔ Q (.int (if b then 1 else 0)) S := Iff.rfl
theorem vv_tup_tup : wpx (tupF [.tup xs]) S Q E ↔ Q (.tup xs) S := Iff.rfl
theorem vv_tup_cell : wpx (tupF [.cell n]) S Q E ↔ ∃ c, S[n]? = some c ∧ ∃ ys, c.items? = some ys ∧ Q (.tup ys) S := by
  show wpx (itemsM (.cell n) _) S Q E ↔ _
  rw [vv_items_cell]; simp only [wpx_ret]
theorem vv_lst_tup : wpx (lstF [.tup xs]) S Q E ↔ Q (.cell S.length) (S ++ [.lst xs]) := Iff.rfl
theorem vv_lst_cell : wpx (lstF [.cell n]) S Q E ↔ ∃ c, S[n]? = some c ∧ ∃ ys, c.items? = some ys ∧ Q (.cell S.length) (S ++ [.lst ys]) := by
  show wpx (itemsM (.cell n) _) S Q E ↔ _
  rw [vv_items_cell]; rfl
theorem vv_slice_tup {lo hi : Option Int} : wpx (sliceV (.tup xs) lo hi) S Q E ↔ Q (.tup (cutP xs lo hi)) S := Iff.rfl
theorem vv_isN_non : wpx (isNV .non .non) S Q E ↔ Q (.bl true) S := Iff.rfl
theorem vv_isN_int : wpx (isNV (.int i) .non) S Q E ↔ Q (.bl false) S := Iff.rfl
theorem vv_isN_tup : wpx (isNV (.tup xs) .non) S Q E ↔ Q (.bl false) S := Iff.rfl
theorem vv_notN_non : wpx (notNV .non .non) S Q E ↔ Q (.bl false) S := Iff.rfl
theorem vv_notN_int : wpx (notNV (.int i) .non) S Q E ↔ Q (.bl true) S := Iff.rfl
theorem vv_notN_tup : wpx (notNV (.tup xs) .non) S Q E ↔ Q (.bl true) S := Iff.rfl
theorem items_lst : (Cell.lst xs).items? = some xs := rfl
theorem items_rls : (Cell.rls xs).items? = some xs := rfl
theorem vv_append : wpx (appendV (.cell n) [d]) S Q E ↔ ∃ ys, S[n]? = some (.lst ys) ∧ ys.length < sizeLine ∧ Q .non (S.set n (.lst (ys ++ [d]))) := by
  show wpx (getC n _) S Q E ↔ _
  rw [wpx_getC]
  constructor
  · rintro ⟨c, h1, h2⟩
    cases c with
    | lst ys =>
      have h3 := wpx_ite.mp h2
      by_cases q : ys.length < sizeLine
      · rw [if_pos q] at h3; exact ⟨ys, h1, q, h3⟩
      · rw [if_neg q] at h3; exact h3.elim
    | rls ys => exact h2.elim
    | ins C fs => exact h2.elim
  · rintro ⟨ys, h1, q, h3⟩
    refine ⟨_, h1, wpx_ite.mpr ?_⟩
    rw [if_pos q]; exact h3
theorem vv_isL : wpx (isL (.cell n)) S Q E ↔ ∃ c, S[n]? = some c ∧ ∃ ys, c.items? = some ys ∧ Q (.cell n) S := by
  show wpx (getC n _) S Q E ↔ _
  rw [wpx_getC]
  constructor
  · rintro ⟨c, h1, h2⟩
    cases z : c.items? with
    | none => rw [z] at h2; exact h2.elim
    | some ys => rw [z] at h2; exact ⟨c, h1, ys, z, h2⟩
  · rintro ⟨c, h1, ys, h2, h3⟩
    exact ⟨c, h1, by rw [h2]; exact h3⟩
section
variable {F : FD} {a b c e f g : PV}
theorem chkL0 : chkL 0 F [] = F [] := rfl
theorem chkL1 : chkL 1 F [a] = F [a] := rfl
theorem chkL2 : chkL 2 F [a, b] = F [a, b] := rfl
theorem chkL3 : chkL 3 F [a, b, c] = F [a, b, c] := rfl
theorem chkL4 : chkL 4 F [a, b, c, e] = F [a, b, c, e] := rfl
theorem chkL5 : chkL 5 F [a, b, c, e, f] = F [a, b, c, e, f] := rfl
theorem chkL6 : chkL 6 F [a, b, c, e, f, g] = F [a, b, c, e, f, g] := rfl
end
/-! kinds -/
def kindOf : PV → Option String
  | .non => some "NoneType"
  | .bl _ => some "bool"
  | .int _ => some "int"
  | .str _ => some "str"
  | .tup _ => some "tuple"
  | _ => none
theorem vv_isi {x : PV} {t T : String} (h : kindOf x = some t) {b : Bool} (hb : kitB t T = some b) : wpx (isiF [x, .con (.ty T)]) S Q E ↔ Q (.bl b) S := by
  have e0 : isiF [x, .con (.ty T)] = tyM x fun t => (optM (kitB t T)).bind fun b => M.ret (.bl b) := by
    unfold isiF; rfl
  rw [e0]
  have e : wpx (tyM x fun t => (optM (kitB t T)).bind fun b => M.ret (.bl b)) S Q E ↔ wpx ((optM (kitB t T)).bind fun b => M.ret (PV.bl b)) S Q E := by
    cases x <;> cases h <;> exact Iff.rfl
  rw [e, wpx_bind, wpx_optM, hb]
  constructor
  · rintro ⟨c, h1, h2⟩; cases h1; exact h2
  · intro h; exact ⟨b, rfl, h⟩
theorem vv_isi_cell {T : String} {b : Bool} {c : Cell} {ys : List PV} (h : S[n]? = some c) (hy : c.items? = some ys) (hb : kitB "list" T = some b) : wpx (isiF [.cell n, .con (.ty T)]) S Q E ↔ Q (.bl b) S := by
  show wpx (getC n _) S Q E ↔ _
  rw [wpx_getC]
  constructor
  · rintro ⟨c', h1, h2⟩
    rw [h] at h1; cases h1
    rw [hy] at h2
    have h3 := wpx_bind.mp h2
    rw [wpx_optM, hb] at h3
    obtain ⟨_, h4, h5⟩ := h3
    cases h4; exact h5
  · intro q
    refine ⟨c, h, ?_⟩
    rw [hy]
    refine wpx_bind.mpr ?_
    rw [wpx_optM, hb]
    exact ⟨b, rfl, q⟩
theorem kb_int_int : kitB "int" "int" = some true := by decide +kernel
theorem kb_int_bool : kitB "int" "bool" = some false := by decide +kernel
theorem kb_bool_bool : kitB "bool" "bool" = some true := by decide +kernel
theorem kb_bool_int : kitB "bool" "int" = some true := by decide +kernel
theorem kb_int_tuple : kitB "int" "tuple" = some false := by decide +kernel
theorem kb_bool_tuple : kitB "bool" "tuple" = some false := by decide +kernel
theorem kb_str_tuple : kitB "str" "tuple" = some false := by decide +kernel
theorem kb_none_tuple : kitB "NoneType" "tuple" = some false := by decide +kernel
theorem kb_list_tuple : kitB "list" "tuple" = some false := by decide +kernel
theorem kb_tuple_tuple : kitB "tuple" "tuple" = some true := by decide +kernel
theorem kb_str_int : kitB "str" "int" = some false := by decide +kernel
theorem kb_none_int : kitB "NoneType" "int" = some false := by decide +kernel
theorem kb_list_int : kitB "list" "int" = some false := by decide +kernel
theorem kb_tuple_int : kitB "tuple" "int" = some false := by decide +kernel
theorem kb_str_bool : kitB "str" "bool" = some false := by decide +kernel
theorem kb_none_bool : kitB "NoneType" "bool" = some false := by decide +kernel
theorem kb_list_bool : kitB "list" "bool" = some false := by decide +kernel
theorem kb_tuple_bool : kitB "tuple" "bool" = some false := by decide +kernel
theorem kb_int_list : kitB "int" "list" = some false := by decide +kernel
theorem kb_bool_list : kitB "bool" "list" = some false := by decide +kernel
theorem kb_str_list : kitB "str" "list" = some false := by decide +kernel
theorem kb_none_list : kitB "NoneType" "list" = some false := by decide +kernel
theorem kb_list_list : kitB "list" "list" = some true := by decide +kernel
theorem kb_tuple_list : kitB "tuple" "list" = some false := by decide +kernel
end
end DL

/-! DLt: typed values. -/
namespace DL
open PySem PySem.Spec PyProof.Rows L2 PySem.W
open Classical
class PVal (α : Type) [DecidableEq α] extends Datum α where
  pv : α → PV
  lay : ∀ a, (toD a).canLay0 = true
  rd : ∀ (S : Store) (n : Nat) (a : α), depth < n → DL.toD S n (pv a) = some (toD a)
open PVal (pv)
instance : PVal Int where
  pv := .int
  lay _ := rfl
  rd S n a h := by
    obtain ⟨m, rfl⟩ : ∃ m, n = m + 1 := ⟨n - 1, by omega⟩
    rfl
instance : PVal Bool where
  pv := .bl
  lay _ := rfl
  rd S n a h := by
    obtain ⟨m, rfl⟩ : ∃ m, n = m + 1 := ⟨n - 1, by omega⟩
    rfl
instance : PVal Unit where
  pv _ := .non
  lay _ := rfl
  rd S n a h := by
    obtain ⟨m, rfl⟩ : ∃ m, n = m + 1 := ⟨n - 1, by omega⟩
    rfl
section
variable {α β : Type} [DecidableEq α] [PVal α] [DecidableEq β] [PVal β]
theorem mapO_map {f : PV → Option PyData} {g : α → PV} {k : α → PyData} (h : ∀ a, f (g a) = some (k a)) : ∀ xs : List α, mapO f (xs.map g) = some (xs.map k)
  | [] => rfl
  | x :: xs => by rw [List.map_cons, mapO, h x, mapO_map h xs]; rfl
theorem layAll_map : ∀ xs : List α, PyData.canLayAll0 (xs.map Datum.toD) = true
  | [] => rfl
  | x :: xs => by rw [List.map_cons, PyData.canLayAll0, PVal.lay, layAll_map xs]; rfl
instance : PVal (Tup α) where
  pv t := .tup (t.items.map pv)
  lay t := by show PyData.canLay0 (.tuple _) = true; rw [PyData.canLay0]; exact layAll_map t.items
  rd S n a h := by
    obtain ⟨m, rfl⟩ : ∃ m, n = m + 1 := ⟨n - 1, by omega⟩
    have h' : Datum.depth α < m := by
      have : Datum.depth (Tup α) = Datum.depth α + 1 := rfl
      omega
    show (mapO (toD S m) (a.items.map pv)).map PyData.tuple = some (.tuple (a.items.map Datum.toD))
    rw [mapO_map (k := Datum.toD) fun x => PVal.rd S m x h']; rfl
instance : PVal (α × β) where
  pv p := .tup [pv p.1, pv p.2]
  lay p := by show PyData.canLay0 (.tuple _) = true; rw [PyData.canLay0, PyData.canLayAll0, PyData.canLayAll0, PVal.lay, PVal.lay]; rfl
  rd S n a h := by
    obtain ⟨m, rfl⟩ : ∃ m, n = m + 1 := ⟨n - 1, by omega⟩
    have hd : Datum.depth (α × β) = max (Datum.depth α) (Datum.depth β) + 1 := rfl
    have h1 : Datum.depth α < m := by omega
    have h2 : Datum.depth β < m := by omega
    show (mapO (toD S m) [pv a.1, pv a.2]).map PyData.tuple = some (.tuple [Datum.toD a.1, Datum.toD a.2])
    rw [mapO, PVal.rd S m a.1 h1, mapO, PVal.rd S m a.2 h2, mapO]; rfl
variable {S : Store} {Q : PV → Store → Prop} {QB : Bool → Store → Prop} {E : Exn → Store → Prop}
theorem shaped_of (a : α) (h : Datum.depth α ≤ 64) : SeqAt.shaped (Datum.toD a) = true := by
  unfold SeqAt.shaped
  rw [PVal.lay, Bool.true_and, decide_eq_true_eq]
  exact Nat.le_trans (Datum.depth_le a) h
theorem eqM_t (a b : α) (h : Datum.depth α < 64) : eqM (pv a) (pv b) S = .ok (decide (a = b)) S := by
  unfold eqM
  rw [PVal.rd S 64 a h, PVal.rd S 64 b h]
  simp only [shaped_of a (Nat.le_of_lt h), shaped_of b (Nat.le_of_lt h), and_self, if_true, Datum.eqv]
theorem vt_eq (a b : α) (h : Datum.depth α < 64) : wpx (eqV (pv a) (pv b)) S Q E ↔ Q (.bl (decide (a = b))) S := by
  unfold eqV; rw [wpx_bind, wpx_eq (eqM_t a b h), wpx_ret]
theorem vt_ne (a b : α) (h : Datum.depth α < 64) : wpx (neV (pv a) (pv b)) S Q E ↔ Q (.bl (!decide (a = b))) S := by
  unfold neV; rw [wpx_bind, wpx_eq (eqM_t a b h), wpx_ret]
end
section
variable {α : Type} [DecidableEq α] [PVal α] [o : DatumOrd α] {S : Store} {Q : PV → Store → Prop} {E : Exn → Store → Prop}
/-- < of two values whose data are ordered -/
theorem vt_lt (a b : α) {x y : PV} (hx : toD S 64 x = some (o.toD a)) (hy : toD S 64 y = some (o.toD b)) (hd : o.depth ≤ 64) : wpx (ltV x y) S Q E ↔ Q (.bl (DatumOrd.lt a b)) S := by
  have e : ltM x y S = .ok (DatumOrd.lt a b) S := by
    unfold ltM
    rw [hx, hy]
    have c : alike (o.toD a) (o.toD b) = true ∧ o.toD a ≠ .none ∧ (o.toD a).depth ≤ 64 := ⟨DatumOrd.alike a b, DatumOrd.notNone a, Nat.le_trans (o.depth_le a) hd⟩
    simp only [if_pos c, DatumOrd.lt_eq]
  unfold ltV
  rw [wpx_bind, wpx_eq e, wpx_ret]
end
/-- tuples of ints -/
abbrev tupI (ns : List Int) : PV := .tup (ns.map PV.int)
theorem tupI_pv (ns : List Int) : tupI ns = PVal.pv (Tup.mk ns) := rfl
end DL

/-! DLr: repr, a module's constants, reversed, divmod, min and max of two, what is never reached. -/
namespace DL
open PySem PySem.Spec PyProof.Rows L2 PySem.W
open Classical
section
variable {X : Cx} {W : WX} {tg a : Expr} {pos : Pos} {K : PySem.W.Frag}
/-! ### repr -/
structure ShowOk (d : PyData) : Prop where
  lay : d.canLay0 = true
  can : d.showable = true
  deep : d.depth ≤ 64
  size : d.shown.length ≤ sizeLine
def rReprD (K : PySem.W.Frag) : List V → Hp → VK → Prop := fun xs H Q => ∃ x d, xs = [x] ∧ Dp K H x d ∧ ShowOk d ∧ Q (.str d.shown) H
theorem call_repr (gd : X.A.guards = some []) (hu : X.A.units + 65 < cLine) : CallR X (.builtin "repr") (rReprD X.K) := by
  intro pins s σ H xs us Q I r h
  obtain ⟨x, d, rfl, hd, ok, q⟩ := h
  cases r with
  | cons rx rt =>
    cases rt
    rename_i u
    obtain ⟨as, r1⟩ := Dp.reads I d x u hd rx
    have hlt := ok.deep
    have hsz := ok.size
    have hcan := ok.can
    cases r1 with
    | none => exact P.repr_of_none ⟨.str _, H, I.tok _, ⟨_, rfl⟩, q⟩
    | bool b => exact P.repr_of_bool ⟨.str _, H, I.tok _, ⟨_, rfl⟩, q⟩
    | int i t => exact P.repr_of_int (by simpa only [PyData.showable, decide_eq_true_eq] using hcan) ⟨.str _, H, I.tok _, ⟨_, rfl⟩, q⟩
    | str y t => exact P.repr_of_str (hsz := hsz) ⟨.str _, H, I.tok _, ⟨_, rfl⟩, q⟩
    | list h1 h2 h3 h4 =>
      exact repr_of_reads' (.list h1 h2 h3 h4) ok.can (PyData.noDict_hsm (PyData.hasDict_of_canLay _ ok.lay)) gd (by omega) (fun _ _ e => e) (fun h' u tk hk => ⟨.str _, H, I.kept hk, ⟨_, rfl⟩, q⟩) hsz
    | tuple h1 h2 h3 h4 =>
      exact repr_of_reads' (.tuple h1 h2 h3 h4) ok.can (PyData.noDict_hsm (PyData.hasDict_of_canLay _ ok.lay)) gd (by omega) (fun _ _ e => e) (fun h' u tk hk => ⟨.str _, H, I.kept hk, ⟨_, rfl⟩, q⟩) hsz
    | dict h1 h2 h3 h4 h5 => exact absurd ok.lay (by simp [PyData.canLay0])
noncomputable def reprF : List PV → M PV
  | [x] => fun S => match toD S 64 x with
    | some d => if ShowOk d then .ok (.str d.shown) S else .bad
    | none => .bad
  | _ => M.bad
theorem den_repr : DenN K (rReprD K) reprF := fun α S H xs vs Q E o r h => by
  cases r with
  | nil => exact h.elim
  | cons r1 r2 =>
    rename_i x v xr vr
    cases r2 with
    | cons _ _ => exact h.elim
    | nil =>
      have h' : OD K α H (match toD S 64 x with | some d => if ShowOk d then Out.ok (PV.str d.shown) S else .bad | none => .bad) (fun d α' _ H' => ∀ v, Rep K α' H' d v → Q v H') E := h
      cases q1 : toD S 64 x with
      | none => rw [q1] at h'; exact h'.elim
      | some d =>
        rw [q1] at h'
        obtain ⟨z, h'⟩ := if_out h'
        exact ⟨v, d, rfl, toD_dp o _ _ _ _ q1 r1, z, h' α H (.refl o) _ (.str _)⟩
/-! ### a module's constant -/
theorem de_globI {x : Str} {i : Int} (hm : ∃ t, X.mg x = some (.int i t)) (hg : Gl X x := by rfl) (hd : (x == ("__debug__" : Str)) = false := by decide) : DE X W (.Name x pos) (eLit (.int i)) := by
  obtain ⟨t, hm⟩ := hm
  exact de_lit (v := .int i) (pe_glob hg hm ⟨_, rfl⟩ hd) fun _ _ => .int _
/-! ### reversed(a tuple) -/
theorem srcRev_ok {α : List Addr} {H : Hp} {a : Addr} {vs : List V} {xs : List PV} (h : ST K H a vs) (r : Reps K α H xs vs) : SrcOk K (RT.ItvT K a vs.length) α H ⟨xs.reverse, fun _ => True⟩ := by
  intro i α' S' H' m hk
  have hq := (m.grow.sT h).sq
  have r' := r.mono m.grow m.le
  have hl := r.length
  refine ⟨fun x ex => ?_, fun hl2 => ?_⟩
  · have hi : i < xs.length := by
      have := (List.getElem?_eq_some_iff.mp ex).1
      rwa [List.length_reverse] at this
    have ex' : xs[xs.length - 1 - i]? = some x := by rw [← List.getElem?_reverse hi]; exact ex
    obtain ⟨v, ev, rv⟩ := r'.get ex'
    rw [hl] at ev
    refine ⟨⟨by omega, vs, v, hq, ev⟩, fun w H'' y => ?_⟩
    obtain ⟨y1, y2⟩ := y
    subst y1
    have z := y2 vs hq
    rw [ev] at z
    cases z
    exact ⟨.refl m.ok, rv⟩
  · have hl' : xs.reverse.length ≤ i := hl2
    rw [List.length_reverse] at hl'
    show vs.length ≤ i
    omega
def revM : PV → M Src
  | .tup xs => M.ret ⟨xs.reverse, fun _ => True⟩
  | _ => M.bad
def eRev (f : PEnv → M PV) : PEnv → M Src := fun ρ => (f ρ).bind revM
theorem di_rev {p : Pos} {f : PEnv → M PV} (hm : X.mg "reversed" = none) (h : DE X W a f) (hg : Gl X "reversed" := by rfl) (hs : starEach [a] X.env = (false, eval a X.env) :: starEach [] X.env := by rfl) : DI X W tg (.Call (.Name "reversed" p) [a] [] pos) (eRev f) := by
  refine PI_imp (RT.pi_revA hg hm h hs) fun σ H R ⟨α, S, ρ, o, sl, h⟩ => ?_
  refine ⟨α, S, ρ, o, sl, (OD.bind (o := f ρ S) h).imp (fun x α1 S1 H1 m1 h1 v rv => ?_) fun _ _ _ _ _ q => q⟩
  cases x with
  | tup xs =>
    cases rv with
    | tup hs hr => exact ⟨_, _, rfl, .inr ⟨hs.sq, h1 α1 H1 (.refl m1.ok) _ (srcRev_ok hs hr)⟩⟩
  | _ => exact h1.elim
/-! ### divmod, max, min -/
noncomputable def dmF : List PV → M PV
  | [.int i, .int j] => if CDiv i j then M.ret (.tup [.int (i / j), .int (i % j)]) else M.bad
  | _ => M.bad
theorem den_dm : DenN K (fun xs H Q => ∃ i j, xs = [.int i, .int j] ∧ CDiv i j ∧ ∀ p, H p = none → Q (.ref p) (upd H p (.tup [.int (i / j), .int (i % j)]))) dmF := fun α S H xs vs Q E o r h => by
  unfold dmF at h
  split at h
  · rename_i i j
    cases r with
    | cons r1 r2 =>
      cases r2 with
      | cons r3 r4 =>
        cases r1; cases r3; cases r4
        obtain ⟨q, h⟩ := if_outM h
        exact ⟨i, j, rfl, q, fun p hp => h α _ (.new o hp) _ (.tup (.inl upd_same) (.cons (.int _) (.cons (.int _) .nil)))⟩
  · exact h.elim
def mxF : List PV → M PV
  | [.int i, .int j] => M.ret (.int (if j > i then j else i))
  | _ => M.bad
def mnF : List PV → M PV
  | [.int i, .int j] => M.ret (.int (if j < i then j else i))
  | _ => M.bad
theorem den_mx : DenN K (fun xs H Q => ∃ i j, xs = [.int i, .int j] ∧ Q (.int (if j > i then j else i)) H) mxF := fun α S H xs vs Q E o r h => by
  unfold mxF at h
  split at h
  · cases r with
    | cons r1 r2 => cases r2 with
      | cons r3 r4 => cases r1; cases r3; cases r4; exact ⟨_, _, rfl, ret_od o h _ (.int _)⟩
  · exact h.elim
theorem den_mn : DenN K (fun xs H Q => ∃ i j, xs = [.int i, .int j] ∧ Q (.int (if j < i then j else i)) H) mnF := fun α S H xs vs Q E o r h => by
  unfold mnF at h
  split at h
  · cases r with
    | cons r1 r2 => cases r2 with
      | cons r3 r4 => cases r1; cases r3; cases r4; exact ⟨_, _, rfl, ret_od o h _ (.int _)⟩
  · exact h.elim
/-! ### what is never reached -/
def sNo : SD := fun _ => M.bad
theorem ds_no {st : Stmt} : DS X W st sNo := ⟨fun pins s σ H Q I h => by
  obtain ⟨α, S, ρ, o, sl, h⟩ := h
  exact h.elim⟩
/-! ### str(), join -/
noncomputable def strF : List PV → M PV
  | [.int i] => if i.natAbs.log2 < 1920 then M.ret (.str (toString i)) else M.bad
  | [.str y] => M.ret (.str y)
  | _ => M.bad
def rStrA : List V → Hp → VK → Prop := fun xs H Q => (∃ i, xs = [.int i] ∧ i.natAbs.log2 < 1920 ∧ Q (.str (toString i)) H) ∨ ∃ y, xs = [.str y] ∧ Q (.str y) H
theorem call_strA : CallR X (.type "str") rStrA := CallR.or call_str_int SkE.call_str_str
theorem den_str : DenN K rStrA strF := fun α S H xs vs Q E o r h => by
  unfold strF at h
  split at h
  · cases r with
    | cons r1 r2 =>
      cases r1; cases r2
      obtain ⟨q, h⟩ := if_outM h
      exact .inl ⟨_, rfl, q, ret_od o h _ (.str _)⟩
  · cases r with
    | cons r1 r2 => cases r1; cases r2; exact .inr ⟨_, rfl, ret_od o h _ (.str _)⟩
  · exact h.elim
def strs? : List PV → Option (List Str)
  | [] => some []
  | .str y :: r => (strs? r).map (y :: ·)
  | _ => none
theorem strs_eq : ∀ {xs : List PV} {ys : List Str}, strs? xs = some ys → xs = ys.map PV.str
  | [], ys, h => by cases h; rfl
  | x :: r, ys, h => by
    cases x with
    | str y =>
      unfold strs? at h
      cases q : strs? r with
      | none => rw [q] at h; cases h
      | some zs => rw [q] at h; cases h; rw [strs_eq q]; rfl
    | _ => cases h
theorem Reps.strs {α : List Addr} {H : Hp} : ∀ {ys : List Str} {vs : List V}, Reps K α H (ys.map PV.str) vs → vs = ys.map V.str
  | [], _, r => by cases r; rfl
  | y :: ys, _, r => by
    cases r with
    | cons r1 r2 => cases r1; rw [Reps.strs r2]; rfl
noncomputable def joinM (y x : PV) : M PV := match y with
  | .str y => itemsM x fun xs => match strs? xs with
    | some ys => if (ys.map (·.length)).sum + ys.length * y.length ≤ 16777216 then M.ret (.str (Txt.join y ys)) else M.bad
    | none => M.bad
  | _ => M.bad
noncomputable def eJoin (fo fe : PEnv → M PV) : PEnv → M PV := fun ρ => (fo ρ).bind fun y => match y with
  | .str z => (fe ρ).bind fun x => joinM (.str z) x
  | _ => M.bad
theorem de_join {o e : Expr} {fo fe : PEnv → M PV} {apos pos : Pos} (ho : DE X W o fo) (he : DE X W e fe) (hs : starEach [e] X.env = [(false, eval e X.env)] := by rfl) (hbase : attributeBase o "join" X.env (eval o X.env) = eval o X.env := by rfl) (hline : (apos.endLine == pos.line) = true := by rfl) :
    DE X W (.Call (.Attribute o "join" apos) [e] [] pos) (eJoin fo fe) := by
  refine PE_imp (pe_join ho he hs hbase hline) fun σ H Q ⟨α, S, ρ, so, sl, h⟩ => ?_
  refine ⟨α, S, ρ, so, sl, (OD.bind (o := fo ρ S) h).imp (fun x α1 S1 H1 m1 h1 v rv => ?_) fun _ _ _ _ _ q => q⟩
  cases x with
  | str z =>
    cases rv
    refine ⟨⟨z, rfl⟩, α1, S1, ρ, m1.ok, sl.mv m1, (OD.bind (o := fe ρ S1) h1).imp (fun y α2 S2 H2 m2 h3 u ru => ?_) fun _ _ _ _ _ q => q⟩
    obtain ⟨a, xs, vs, rfl, hq, hr, h4, _⟩ := itemsM_od m2.ok ru (show OD X.K α2 H2 (itemsM y _ S2) _ _ from h3)
    cases q : strs? xs with
    | none => rw [q] at h4; exact h4.elim
    | some ys =>
      rw [q] at h4
      obtain ⟨z1, h5⟩ := if_outM h4
      have e1 := strs_eq q
      subst e1
      have e2 := Reps.strs hr
      subst e2
      exact ⟨z, a, ys, rfl, rfl, hq, z1, ret_od m2.ok h5 _ (.str _)⟩
  | _ => exact h1.elim
/-! ### == of texts too -/
def eqA : PV → PV → M PV := fun x y => match x, y with
  | .str a, .str b => M.ret (.bl (decide (a = b)))
  | x, y => eqV x y
def neA : PV → PV → M PV := fun x y => match x, y with
  | .str a, .str b => M.ret (.bl (!decide (a = b)))
  | x, y => neV x y
def rEqA (K : PySem.W.Frag) : R2 := fun x y H Q => rEq x y H Q ∨ rEqD K x y H Q
def rNeA (K : PySem.W.Frag) : R2 := fun x y H Q => rNe x y H Q ∨ rNeD K x y H Q
theorem op_eqA (hu : X.A.units + 64 < cLine) : OpR X (compareOp .Eq) (rEqA X.K) := OpR.or op_eq (op_eqD hu)
theorem op_neA (hu : X.A.units + 64 < cLine) : OpR X (compareOp .NotEq) (rNeA X.K) := OpR.or op_ne (op_neD hu)
theorem dec_strV {a b : Str} : decide (V.str a = V.str b) = decide (a = b) := decide_eq_decide.mpr (by rw [V.str.injEq])
theorem den_eqA : Den2 K (rEqA K) eqA := fun α S H x y vx vy Q E o rx ry h => by
  unfold eqA at h
  split at h
  · cases rx; cases ry
    refine .inl ⟨rfl, ?_⟩
    rw [dec_strV]
    exact ret_od o h _ (.bl _)
  · exact .inr (den_eq α S H x y vx vy Q E o rx ry h)
theorem den_neA : Den2 K (rNeA K) neA := fun α S H x y vx vy Q E o rx ry h => by
  unfold neA at h
  split at h
  · cases rx; cases ry
    refine .inl ⟨rfl, ?_⟩
    rw [dec_strV]
    exact ret_od o h _ (.bl _)
  · exact .inr (den_ne α S H x y vx vy Q E o rx ry h)
theorem bt_divmod : bootBuiltins "divmod" = some (.builtin "divmod") := by decide +kernel
theorem bt_max : bootBuiltins "max" = some (.builtin "max") := by decide +kernel
theorem bt_min : bootBuiltins "min" = some (.builtin "min") := by decide +kernel
end
end DL

/-! DLs: what DLr's readings come to. -/
namespace DL
open PySem PySem.Spec PyProof.Rows L2 PySem.W
open Classical
section
variable {S : Store} {Q : PV → Store → Prop} {QS : Src → Store → Prop} {E : Exn → Store → Prop} {i j : Int} {x : PV} {d : PyData} {ρ : PEnv}
theorem vv_repr (h : toD S 64 x = some d) (ok : ShowOk d) : wpx (reprF [x]) S Q E ↔ Q (.str d.shown) S := by
  refine wpx_eq ?_
  show (match toD S 64 x with | some d => if ShowOk d then Out.ok (PV.str d.shown) S else .bad | none => .bad) = _
  rw [h]
  simp only [if_pos ok]
theorem vv_dm : wpx (dmF [.int i, .int j]) S Q E ↔ CDiv i j ∧ Q (.tup [.int (i / j), .int (i % j)]) S := by
  show wpx (if _ then _ else _) S Q E ↔ _
  rw [wpx_ite]; simp [wpx_ret, wpx_bad]
theorem vv_mx : wpx (mxF [.int i, .int j]) S Q E ↔ Q (.int (if j > i then j else i)) S := Iff.rfl
theorem vv_mn : wpx (mnF [.int i, .int j]) S Q E ↔ Q (.int (if j < i then j else i)) S := Iff.rfl
theorem vv_str_int : wpx (strF [.int i]) S Q E ↔ i.natAbs.log2 < 1920 ∧ Q (.str (toString i)) S := by
  show wpx (if _ then _ else _) S Q E ↔ _
  rw [wpx_ite]; simp [wpx_ret, wpx_bad]
theorem ws_no {Q : Fl × PEnv → Store → Prop} : wps (sNo ρ) S Q ↔ False := Iff.rfl
theorem wsr_rev {f : PEnv → M PV} : wpx (eRev f ρ) S QS E ↔ wpx (f ρ) S (fun x S1 => wpx (revM x) S1 QS E) E := wpx_bind
theorem vv_rev_tup {xs : List PV} : wpx (revM (.tup xs)) S QS E ↔ QS ⟨xs.reverse, fun _ => True⟩ S := Iff.rfl
theorem vv_eqA_str {a b : Str} : wpx (eqA (.str a) (.str b)) S Q E ↔ Q (.bl (decide (a = b))) S := Iff.rfl
theorem vv_neA_str {a b : Str} : wpx (neA (.str a) (.str b)) S Q E ↔ Q (.bl (!decide (a = b))) S := Iff.rfl
theorem eqA_int : eqA (.int i) x = eqV (.int i) x := rfl
theorem neA_int : neA (.int i) x = neV (.int i) x := rfl
theorem eqA_bl {b : Bool} : eqA (.bl b) x = eqV (.bl b) x := rfl
theorem neA_bl {b : Bool} : neA (.bl b) x = neV (.bl b) x := rfl
theorem eqA_tup {xs : List PV} : eqA (.tup xs) x = eqV (.tup xs) x := rfl
theorem neA_tup {xs : List PV} : neA (.tup xs) x = neV (.tup xs) x := rfl
theorem eqA_cell {n : Nat} : eqA (.cell n) x = eqV (.cell n) x := rfl
theorem neA_cell {n : Nat} : neA (.cell n) x = neV (.cell n) x := rfl
theorem eqA_non : eqA .non x = eqV .non x := rfl
theorem neA_non : neA .non x = neV .non x := rfl
end
/-! ### data that are short enough to be shown -/
structure Sm (d : PyData) (w : Nat) : Prop where
  lay : d.canLay0 = true
  shrt : d.intsShort 13 = true
  can : d.showable = true
  wt : d.weight ≤ w
theorem Sm.ok {d : PyData} {w : Nat} (h : Sm d w) (hw : w ≤ 1048576) (hd : d.depth ≤ 64) : ShowOk d := ⟨h.lay, h.can, hd, PyData.shown_fits (by decide) (Nat.le_refl 13) (PyData.leavesShort_of_canLay0 13 d h.lay h.shrt) (Nat.le_trans h.wt hw)⟩
theorem sm_none : Sm .none 0 := ⟨rfl, rfl, rfl, Nat.le_refl _⟩
theorem sm_bool {b : Bool} : Sm (.bool b) 0 := ⟨rfl, rfl, rfl, Nat.le_refl _⟩
theorem sm_int {i : Int} (h : i.natAbs < 10 ^ 12) : Sm (.int i) 40 := by
  have hl : i.natAbs.log2 < 40 := by
    by_cases z : i.natAbs = 0
    · rw [z]; decide
    · rw [Nat.log2_lt z]; exact Nat.lt_trans h (by decide)
  refine ⟨rfl, ?_, ?_, ?_⟩
  · have e := int_text_length_le10 (k := 12) (by decide) h
    simp only [PyData.intsShort, decide_eq_true_eq]
    exact PyData.shown_int_le h
  · simp only [PyData.showable, decide_eq_true_eq]; omega
  · simp only [PyData.weight]
    split <;> omega
theorem sm_all {w : Nat} : ∀ {xs : List PyData}, (∀ x ∈ xs, Sm x w) → PyData.canLayAll0 xs = true ∧ PyData.intsShortAll 13 xs = true ∧ PyData.showableAll xs = true ∧ PyData.weightAll xs ≤ xs.length * (w + 1)
  | [], _ => ⟨rfl, rfl, rfl, Nat.zero_le _⟩
  | x :: xs, h => by
    obtain ⟨h1, h2, h3, h4⟩ := sm_all fun y hy => h y (List.mem_cons_of_mem _ hy)
    have k := h x List.mem_cons_self
    refine ⟨?_, ?_, ?_, ?_⟩
    · rw [PyData.canLayAll0, k.lay, h1]; rfl
    · rw [PyData.intsShortAll, k.shrt, h2]; rfl
    · rw [PyData.showableAll, k.can, h3]; rfl
    · rw [PyData.weightAll, List.length_cons, Nat.add_mul]
      have := k.wt
      omega
theorem Sm.mono {d : PyData} {w w' : Nat} (h : Sm d w) (hw : w ≤ w') : Sm d w' := ⟨h.lay, h.shrt, h.can, Nat.le_trans h.wt hw⟩
theorem sm_tup {w n : Nat} {xs : List PyData} (h : ∀ x ∈ xs, Sm x w) (hn : xs.length ≤ n) : Sm (.tuple xs) (n * (w + 1)) := by
  obtain ⟨h1, h2, h3, h4⟩ := sm_all h
  refine ⟨by rw [PyData.canLay0]; exact h1, by rw [PyData.intsShort]; exact h2, by rw [PyData.showable]; exact h3, ?_⟩
  rw [PyData.weight]
  exact Nat.le_trans h4 (Nat.mul_le_mul_right _ hn)
theorem sm_lst {w n : Nat} {xs : List PyData} (h : ∀ x ∈ xs, Sm x w) (hn : xs.length ≤ n) : Sm (.list xs) (n * (w + 1)) := by
  obtain ⟨h1, h2, h3, h4⟩ := sm_all h
  refine ⟨by rw [PyData.canLay0]; exact h1, by rw [PyData.intsShort]; exact h2, by rw [PyData.showable]; exact h3, ?_⟩
  rw [PyData.weight]
  exact Nat.le_trans h4 (Nat.mul_le_mul_right _ hn)
theorem tupI_toD {S : Store} (ns : List Int) : toD S 64 (tupI ns) = some (.tuple (ns.map PyData.int)) := PVal.rd S 64 (Tup.mk ns) (by decide)
theorem sm_tupI {ns : List Int} (h : ∀ x ∈ ns, x.natAbs < 10 ^ 12) (hn : ns.length ≤ 20000) : ShowOk (.tuple (ns.map PyData.int)) := by
  refine (sm_tup (w := 40) (n := 20000) (fun x hx => ?_) (by rw [List.length_map]; exact hn)).ok (by decide) ?_
  · obtain ⟨n, hn, rfl⟩ := List.mem_map.mp hx
    exact sm_int (h n hn)
  · exact Nat.le_trans (Datum.depth_le (Tup.mk ns)) (by decide)
end DL

/-! DLx: what only adds to the store; comprehensions that do so. -/
namespace DL
open PySem PySem.Spec PyProof.Rows L2 PySem.W
open Classical
/-- the store grows at its end alone -/
def Ext (S S' : Store) : Prop := ∃ T, S' = S ++ T
theorem Ext.refl (S : Store) : Ext S S := ⟨[], (List.append_nil S).symm⟩
theorem Ext.snoc (S : Store) (c : Cell) : Ext S (S ++ [c]) := ⟨[c], rfl⟩
theorem Ext.trans {S S1 S2 : Store} (a : Ext S S1) (b : Ext S1 S2) : Ext S S2 := by
  obtain ⟨T, rfl⟩ := a
  obtain ⟨U, rfl⟩ := b
  exact ⟨T ++ U, List.append_assoc _ _ _⟩
theorem Ext.len {S S' : Store} (a : Ext S S') : S.length ≤ S'.length := by obtain ⟨T, rfl⟩ := a; simp
theorem Ext.get {S S' : Store} (a : Ext S S') {n : Nat} {c : Cell} (h : S[n]? = some c) : S'[n]? = some c := by
  obtain ⟨T, rfl⟩ := a
  rw [List.getElem?_append_left (List.getElem?_eq_some_iff.mp h).1]; exact h
theorem Ext.put {S S' : Store} (a : Ext S S') {n : Nat} (h : S.length ≤ n) (c : Cell) : Ext S (S'.set n c) := by
  obtain ⟨T, rfl⟩ := a
  rw [List.set_append_right _ _ h]
  exact ⟨_, rfl⟩
section
variable {S : Store} {Q : PV → Store → Prop} {E : Exn → Store → Prop} {ρ : PEnv} {n : Nat}
/-- a comprehension whose items' values are f of them -/
theorem lc_pure {chk : Store → Prop} {t : Tgt} {elt : PEnv → M PV} {xs : List PV} (f : PV → PV) (hl : xs.length ≤ sizeLine) (hk : ∀ S', Ext S S' → chk S')
    (h : ∀ x ∈ xs, ∀ S', Ext S S' → ∃ ρ1, bindT t x ρ = some ρ1 ∧ wpx (elt ρ1) S' (fun y S2 => y = f x ∧ Ext S' S2) (fun _ _ => False))
    (q : ∀ S', Ext S S' → S'[S.length]? = some (.lst (xs.map f)) → Q (.cell S.length) S') : wpx (lcGo chk t tTrue elt ρ S.length xs) (S ++ [.lst []]) Q E := by
  refine lc_inv (fun ys acc S' => ∃ zs, zs ++ ys = xs ∧ acc = zs.map f ∧ Ext S S' ∧ S'[S.length]? = some (.lst acc)) xs [] _ ⟨[], rfl, rfl, .snoc _ _, by simp⟩ ?_ ?_ ?_
  · rintro ys acc S' ⟨zs, _, _, e, h1⟩
    exact ⟨hk _ e, h1⟩
  · rintro acc S' ⟨zs, h1, rfl, e, h2⟩
    rw [List.append_nil] at h1
    subst h1
    exact q S' e h2
  · rintro x ys acc S' ⟨zs, h1, rfl, e, h2⟩
    obtain ⟨ρ1, hb, hx⟩ := h x (by rw [← h1]; simp) S' e
    refine ⟨ρ1, hb, ?_⟩
    show wpx (M.ret true) S' _ _
    rw [wpx_ret, if_pos rfl]
    refine wpx_imp hx fun y S2 ⟨hy, e2⟩ => ?_
    subst hy
    refine ⟨e2.get h2, ?_, zs ++ [x], by rw [← h1]; simp, by simp, (e.trans e2).put (Nat.le_refl _) _, ?_⟩
    · rw [List.length_map]
      have : zs.length + (ys.length + 1) ≤ sizeLine := by rw [← h1] at hl; simpa using hl
      omega
    · have h3 := (List.getElem?_eq_some_iff.mp (e2.get h2)).1
      rw [List.getElem?_set_self h3]
theorem boolsOf_bl : ∀ bs : List Bool, boolsOf (bs.map PV.bl) = some bs
  | [] => rfl
  | b :: bs => by rw [List.map_cons, boolsOf, boolsOf_bl bs]; rfl
theorem vv_all {bs : List Bool} (h : S[n]? = some (.lst (bs.map PV.bl))) : wpx (allF [.cell n]) S Q E ↔ Q (.bl (bs.all id)) S := by
  show wpx (getC n _) S Q E ↔ _
  rw [wpx_getC]
  constructor
  · rintro ⟨c, h1, h2⟩
    rw [h] at h1; cases h1
    rw [wpx_bind, wpx_optM] at h2
    obtain ⟨b, h3, h4⟩ := h2
    have h5 : boolsOf (bs.map PV.bl) = some b := h3
    rw [boolsOf_bl] at h5; cases h5
    exact h4
  · intro q
    refine ⟨_, h, ?_⟩
    rw [wpx_bind, wpx_optM]
    exact ⟨bs, boolsOf_bl bs, q⟩
theorem any_false : ∀ bs : List Bool, ((bs.map PyData.bool).any fun z => PyData.eqv z (.bool false)) = !(bs.all id)
  | [] => rfl
  | b :: bs => by
    rw [List.map_cons, List.any_cons, List.all_cons, any_false bs]
    cases b <;> simp [PyData.eqv]
theorem mapO_bl {S : Store} {m : Nat} : ∀ bs : List Bool, mapO (toD S (m + 1)) (bs.map PV.bl) = some (bs.map PyData.bool)
  | [] => rfl
  | b :: bs => by
    rw [List.map_cons, mapO, mapO_bl bs]
    rfl
theorem shaped_bools (bs : List Bool) : SeqAt.shaped (.list (bs.map PyData.bool)) = true := by
  have h1 : PyData.canLay0 (.list (bs.map PyData.bool)) = true := by rw [PyData.canLay0]; exact layAll_map bs
  have h2 : PyData.depth (.list (bs.map PyData.bool)) ≤ 1 := Datum.depth_le (α := List Bool) bs
  unfold SeqAt.shaped
  rw [h1, Bool.true_and, decide_eq_true_eq]
  omega
theorem vv_notin {bs : List Bool} (h : S[n]? = some (.lst (bs.map PV.bl))) : wpx (notInV (.bl false) (.cell n)) S Q E ↔ Q (.bl (bs.all id)) S := by
  have e1 : toD S 64 (.cell n) = some (.list (bs.map PyData.bool)) := by
    show (S[n]?.bind Cell.items?).bind _ = _
    rw [h]
    show (mapO (toD S 63) (bs.map PV.bl)).map PyData.list = _
    rw [mapO_bl]; rfl
  have e2 : inM (.bl false) (.cell n) S = .ok (!(bs.all id)) S := by
    unfold inM
    simp only [e1, show toD S 64 (.bl false) = some (.bool false) from rfl]
    have h1 : SeqAt.shaped (.bool false) = true := rfl
    simp only [h1, shaped_bools, and_self, if_true, any_false]
  unfold notInV
  rw [wpx_bind, wpx_eq e2, wpx_ret, Bool.not_not]
theorem vv_pop {xs : List PV} {d : PV} (h : S[n]? = some (.lst (xs ++ [d]))) : wpx (popV (.cell n) []) S Q E ↔ Q d (S.set n (.lst xs)) := by
  show wpx (getC n _) S Q E ↔ _
  rw [wpx_getC]
  constructor
  · rintro ⟨c, h1, h2⟩
    rw [h] at h1; cases h1
    have h3 := wpx_bind.mp h2
    rw [wpx_optM] at h3
    obtain ⟨y, h4, h5⟩ := h3
    rw [List.getLast?_concat] at h4; cases h4
    have h6 : Q d (S.set n (.lst (xs ++ [d]).dropLast)) := h5
    rw [List.dropLast_concat] at h6
    exact h6
  · intro q
    refine ⟨_, h, wpx_bind.mpr ?_⟩
    rw [wpx_optM]
    refine ⟨d, List.getLast?_concat, ?_⟩
    show Q d (S.set n (.lst (xs ++ [d]).dropLast))
    rw [List.dropLast_concat]; exact q
theorem vv_append_eq {xs : List PV} {d : PV} (h : S[n]? = some (.lst xs)) (hl : xs.length < sizeLine) : wpx (appendV (.cell n) [d]) S Q E ↔ Q .non (S.set n (.lst (xs ++ [d]))) := by
  rw [vv_append]
  constructor
  · rintro ⟨ys, h1, _, h2⟩
    rw [h] at h1; cases h1; exact h2
  · intro q; exact ⟨xs, h, hl, q⟩
/-- x[-1] -/
theorem atI_end {β : Type} {xs : List β} {d : β} : L2.atI (xs ++ [d]) (-1) = some d := by
  exact L2.atI_last _ _
theorem isi_int_int {i : Int} : wpx (isiF [(.int i), .con (.ty "int")]) S Q E ↔ Q (.bl true) S := vv_isi (t := "int") rfl (by decide +kernel)
theorem isi_int_bool {i : Int} : wpx (isiF [(.int i), .con (.ty "bool")]) S Q E ↔ Q (.bl false) S := vv_isi (t := "int") rfl (by decide +kernel)
theorem isi_int_tuple {i : Int} : wpx (isiF [(.int i), .con (.ty "tuple")]) S Q E ↔ Q (.bl false) S := vv_isi (t := "int") rfl (by decide +kernel)
theorem isi_int_str {i : Int} : wpx (isiF [(.int i), .con (.ty "str")]) S Q E ↔ Q (.bl false) S := vv_isi (t := "int") rfl (by decide +kernel)
theorem isi_int_list {i : Int} : wpx (isiF [(.int i), .con (.ty "list")]) S Q E ↔ Q (.bl false) S := vv_isi (t := "int") rfl (by decide +kernel)
theorem isi_bool_int {b : Bool} : wpx (isiF [(.bl b), .con (.ty "int")]) S Q E ↔ Q (.bl true) S := vv_isi (t := "bool") rfl (by decide +kernel)
theorem isi_bool_bool {b : Bool} : wpx (isiF [(.bl b), .con (.ty "bool")]) S Q E ↔ Q (.bl true) S := vv_isi (t := "bool") rfl (by decide +kernel)
theorem isi_bool_tuple {b : Bool} : wpx (isiF [(.bl b), .con (.ty "tuple")]) S Q E ↔ Q (.bl false) S := vv_isi (t := "bool") rfl (by decide +kernel)
theorem isi_bool_str {b : Bool} : wpx (isiF [(.bl b), .con (.ty "str")]) S Q E ↔ Q (.bl false) S := vv_isi (t := "bool") rfl (by decide +kernel)
theorem isi_bool_list {b : Bool} : wpx (isiF [(.bl b), .con (.ty "list")]) S Q E ↔ Q (.bl false) S := vv_isi (t := "bool") rfl (by decide +kernel)
theorem isi_str_int {y : Str} : wpx (isiF [(.str y), .con (.ty "int")]) S Q E ↔ Q (.bl false) S := vv_isi (t := "str") rfl (by decide +kernel)
theorem isi_str_bool {y : Str} : wpx (isiF [(.str y), .con (.ty "bool")]) S Q E ↔ Q (.bl false) S := vv_isi (t := "str") rfl (by decide +kernel)
theorem isi_str_tuple {y : Str} : wpx (isiF [(.str y), .con (.ty "tuple")]) S Q E ↔ Q (.bl false) S := vv_isi (t := "str") rfl (by decide +kernel)
theorem isi_str_str {y : Str} : wpx (isiF [(.str y), .con (.ty "str")]) S Q E ↔ Q (.bl true) S := vv_isi (t := "str") rfl (by decide +kernel)
theorem isi_str_list {y : Str} : wpx (isiF [(.str y), .con (.ty "list")]) S Q E ↔ Q (.bl false) S := vv_isi (t := "str") rfl (by decide +kernel)
theorem isi_none_int  : wpx (isiF [.non, .con (.ty "int")]) S Q E ↔ Q (.bl false) S := vv_isi (t := "NoneType") rfl (by decide +kernel)
theorem isi_none_bool  : wpx (isiF [.non, .con (.ty "bool")]) S Q E ↔ Q (.bl false) S := vv_isi (t := "NoneType") rfl (by decide +kernel)
theorem isi_none_tuple  : wpx (isiF [.non, .con (.ty "tuple")]) S Q E ↔ Q (.bl false) S := vv_isi (t := "NoneType") rfl (by decide +kernel)
theorem isi_none_str  : wpx (isiF [.non, .con (.ty "str")]) S Q E ↔ Q (.bl false) S := vv_isi (t := "NoneType") rfl (by decide +kernel)
theorem isi_none_list  : wpx (isiF [.non, .con (.ty "list")]) S Q E ↔ Q (.bl false) S := vv_isi (t := "NoneType") rfl (by decide +kernel)
theorem isi_tuple_int {xs : List PV} : wpx (isiF [(.tup xs), .con (.ty "int")]) S Q E ↔ Q (.bl false) S := vv_isi (t := "tuple") rfl (by decide +kernel)
theorem isi_tuple_bool {xs : List PV} : wpx (isiF [(.tup xs), .con (.ty "bool")]) S Q E ↔ Q (.bl false) S := vv_isi (t := "tuple") rfl (by decide +kernel)
theorem isi_tuple_tuple {xs : List PV} : wpx (isiF [(.tup xs), .con (.ty "tuple")]) S Q E ↔ Q (.bl true) S := vv_isi (t := "tuple") rfl (by decide +kernel)
theorem isi_tuple_str {xs : List PV} : wpx (isiF [(.tup xs), .con (.ty "str")]) S Q E ↔ Q (.bl false) S := vv_isi (t := "tuple") rfl (by decide +kernel)
theorem isi_tuple_list {xs : List PV} : wpx (isiF [(.tup xs), .con (.ty "list")]) S Q E ↔ Q (.bl false) S := vv_isi (t := "tuple") rfl (by decide +kernel)
/-- a value that may be asked what it is -/
def Okv (S : Store) : PV → Prop
  | .con _ => False
  | .cell n => ∃ xs, S[n]? = some (.lst xs)
  | _ => True
theorem Okv.ext {S S' : Store} {x : PV} (h : Okv S x) (e : Ext S S') : Okv S' x := by
  cases x with
  | cell n => obtain ⟨xs, h⟩ := h; exact ⟨xs, e.get h⟩
  | con v => exact h.elim
  | _ => trivial
theorem isi_cell {T : String} {b : Bool} (h : Okv S (.cell n)) (hb : kitB "list" T = some b) : wpx (isiF [.cell n, .con (.ty T)]) S Q E ↔ Q (.bl b) S := by
  obtain ⟨xs, h⟩ := h
  exact vv_isi_cell h rfl hb
end
end DL

/-! DLy: zip of two tuples. -/
namespace DL
open PySem PySem.Spec PyProof.Rows L2 PySem.W
open Classical
section
variable {X : Cx} {W : WX} {a b : Expr} {pos tpos : Pos} {K : PySem.W.Frag}
def pairP (x y : PV) : PV := .tup [x, y]
theorem srcZip_ok {α : List Addr} {H : Hp} {a b : Addr} {vs ws : List V} {xs ys : List PV} (ha : ST K H a vs) (hb : ST K H b ws) (ra : Reps K α H xs vs) (rb : Reps K α H ys ws) : SrcOk K (RZ.ItzT K a b) α H ⟨List.zipWith pairP xs ys, fun _ => True⟩ := by
  intro i α' S' H' m hk
  have qa := (m.grow.sT ha).sq
  have qb := (m.grow.sT hb).sq
  have ra' := ra.mono m.grow m.le
  have rb' := rb.mono m.grow m.le
  refine ⟨fun x ex => ?_, fun hl => ⟨vs, ws, qa, qb, ?_⟩⟩
  · rw [List.getElem?_zipWith] at ex
    cases e1 : xs[i]? with
    | none => rw [e1] at ex; cases ex
    | some x1 =>
      cases e2 : ys[i]? with
      | none => rw [e1, e2] at ex; cases ex
      | some y1 =>
        rw [e1, e2] at ex
        cases ex
        obtain ⟨v1, f1, r1⟩ := ra'.get e1
        obtain ⟨v2, f2, r2⟩ := rb'.get e2
        refine ⟨⟨vs, ws, v1, v2, qa, qb, f1, f2⟩, fun w H'' y => ?_⟩
        obtain ⟨T, u1, u2, rfl, hT, rfl, g1, g2⟩ := y
        have z1 := g1 vs qa
        have z2 := g2 ws qb
        rw [f1] at z1; cases z1
        rw [f2] at z2; cases z2
        have mv := Mv.new m.ok hT (u := .tup [v1, v2])
        exact ⟨mv, .tup (.inl upd_same) (.cons (r1.mono mv.grow mv.le) (.cons (r2.mono mv.grow mv.le) .nil))⟩
  · have hl' : (List.zipWith pairP xs ys).length ≤ i := hl
    rw [List.length_zipWith] at hl'
    have h1 := ra.length
    have h2 := rb.length
    omega
def zipM : List PV → M Src
  | [.tup xs, .tup ys] => M.ret ⟨List.zipWith pairP xs ys, fun _ => True⟩
  | _ => M.bad
theorem di_zip {elts : List Expr} {kk : Nat} {p : Pos} {f : PEnv → M (List PV)} (hm : X.mg "zip" = none) (ha : DA X W [a, b] f) (hg : Gl X "zip" := by rfl) (hs : starEach [a, b] X.env = (false, eval a X.env) :: starEach [b] X.env := by rfl) (hpl : (backTo pos (starEach [b] X.env)).any (·.1) = false := by rfl) :
    DI X W (.Tuple elts kk tpos) (.Call (.Name "zip" p) [a, b] [] pos) (sArgs zipM f) := by
  refine PI_imp (RZ.pi_zipA hg hm ha hs hpl) fun σ H R ⟨α, S, ρ, o, sl, h⟩ => ?_
  refine ⟨α, S, ρ, o, sl, (OD.bind (o := f ρ S) h).imp (fun xs α1 S1 H1 m1 h1 vs rv => ?_) fun _ _ _ _ _ q => q⟩
  unfold zipM at h1
  split at h1
  · cases rv with
    | cons r1 r2 =>
      cases r2 with
      | cons r3 r4 =>
        cases r4
        cases r1 with
        | tup hs1 hr1 =>
          cases r3 with
          | tup hs2 hr2 => exact ⟨_, _, _, _, rfl, .inr ⟨hs1.sq, hs2.sq, h1 α1 H1 (.refl m1.ok) _ (srcZip_ok hs1 hs2 hr1 hr2)⟩⟩
  · exact h1.elim
theorem wsr_zip {S : Store} {E : Exn → Store → Prop} {xs ys : List PV} {Q : Src → Store → Prop} : wpx (zipM [.tup xs, .tup ys]) S Q E ↔ Q ⟨List.zipWith pairP xs ys, fun _ => True⟩ S := Iff.rfl
end
end DL

/-! DLm: a tuple taken some times, none and one too. -/
namespace DL
open PySem PySem.Spec PyProof.Rows L2 PySem.W
section
variable {b : Addr} {vv : Array Value} {nn : Nat} {dc : Option Addr} {ss : Array (Option Value)} {k : Int} {t : Tok}
theorem mul_none (k0 : (decide (k < -(2 ^ 63)) || decide (k ≥ 2 ^ 63)) = false) (k1 : (vv.isEmpty || k == 1) = false) (k2 : (decide (k ≤ 0) || vv.isEmpty) = true) :
    Meets (Builtin.«tuple.__mul__» ⟨[.ref b, .int k t], []⟩) (fun _ R s => s.heap.get? b = some { cls := .type "tuple", dict := dc, data := .seq vv nn, slots := ss } ∧ R (.ok (.ret (Value.ref s.heap.objs.size))) { s with heap := s.heap.push { cls := Value.type "tuple", data := Data.seq #[] }, toks := s.toks }) :=
  .of_wp fun P w A R s h => by
    obtain ⟨z1, z2, z3, z4, z5⟩ := s
    obtain ⟨hb, h⟩ := h
    have fx := AutoSeq1.idx_int
    wp_walk using wpAny_loadPart' hb
    repeat (first | (refine wpAny_ite_false (decide_eq_false (by rw [k0]; exact Bool.false_ne_true)) ?_; wp_walk using wpAny_loadPart' hb) | (refine wpAny_ite_false (decide_eq_false (by rw [k1]; exact Bool.false_ne_true)) ?_; wp_walk using wpAny_loadPart' hb) | (refine wpAny_ite_true (decide_eq_true k2) ?_; wp_walk using wpAny_loadPart' hb))
    exact ⟨_, rfl, h⟩
theorem mul_once (k0 : (decide (k < -(2 ^ 63)) || decide (k ≥ 2 ^ 63)) = false) (k1 : (vv.isEmpty || k == 1) = true) :
    Meets (Builtin.«tuple.__mul__» ⟨[.ref b, .int k t], []⟩) (fun _ R s => s.heap.get? b = some { cls := .type "tuple", dict := dc, data := .seq vv nn, slots := ss } ∧ R (.ok (.ret (Value.ref b))) s) :=
  .of_wp fun P w A R s h => by
    obtain ⟨z1, z2, z3, z4, z5⟩ := s
    obtain ⟨hb, h⟩ := h
    have fx := AutoSeq1.idx_int
    wp_walk using wpAny_loadPart' hb
    repeat (first | (refine wpAny_ite_false (decide_eq_false (by rw [k0]; exact Bool.false_ne_true)) ?_; wp_walk using wpAny_loadPart' hb) | (refine wpAny_ite_true (decide_eq_true k1) ?_; wp_walk using wpAny_loadPart' hb))
    exact ⟨_, rfl, h⟩
end
variable {X : Cx} {K : PySem.W.Frag}
def rRep01 (K : PySem.W.Frag) : R2 := fun x y H Q => ∃ l k xs, x = .ref l ∧ y = .int k ∧ SqT K H l xs ∧ xs ≠ [] ∧ -1000 ≤ k ∧ k ≤ 1 ∧ xs.length ≤ 1000 ∧ (k = 1 → Q (.ref l) H) ∧ (k ≠ 1 → ∀ p, H p = none → Q (.ref p) (upd H p (.tup [])))
theorem op_rep01 : OpR X (binaryOp .Mult) (rRep01 X.K) := by
  intro pins s σ H x y v u Q I rx ry h
  obtain ⟨l, k, xs, rfl, rfl, hT, hne, h0, h1, hz, q1, q2⟩ := h
  cases rx
  obtain ⟨t, rfl⟩ := ry
  obtain ⟨its, r, ⟨⟨cls, dd, data, sl⟩, ho, hc, n, hd⟩, hs⟩ := I.tuple hT
  simp only at hc hd
  subst hc hd
  have hle : its.length = xs.length := r.length.symm
  have hi : its.toArray.isEmpty = false := by
    cases its with
    | nil => exact absurd (List.eq_nil_of_length_eq_zero hle.symm) hne
    | cons a b => rfl
  have k0 : (decide (k < -(2 ^ 63)) || decide (k ≥ 2 ^ 63)) = false := by rw [decide_eq_false (by omega), decide_eq_false (by omega)] <;> rfl
  by_cases e : k = 1
  · have k1 : (its.toArray.isEmpty || k == 1) = true := by rw [e]; simp
    refine wpAny_binaryOp_repeat_ref (T := "tuple") (U := "int") (by decide) ⟨_, ho, rfl⟩ (fun s' => typeIs_int s' k t) noFill_tuple_mul F.fills_int_mul F.slot_int_rmul repeat_tuple F.slot_int_index.lookup
      (call_meets F.slot_int_rmul (typeIs_int s k t) F.entry_int_rmul (F.args_int_rmul_2 _ _) (int_rmul_tuple k t l its.toArray n dd sl) ⟨ho, rfl, ⟨_, ho, rfl⟩, call_meets F.slot_tuple_mul ⟨_, ho, rfl⟩ F.entry_tuple_mul (F.args_tuple_mul_2 _ _) (mul_once k0 k1) ⟨ho, ?_⟩⟩)
    exact ⟨.ref l, H, I, rfl, q1 e⟩
  · have k1 : (its.toArray.isEmpty || k == 1) = false := by rw [hi, Bool.false_or]; exact beq_eq_false_iff_ne.mpr e
    have k2 : (decide (k ≤ 0) || its.toArray.isEmpty) = true := by rw [decide_eq_true (by omega)]; rfl
    refine wpAny_binaryOp_repeat_ref (T := "tuple") (U := "int") (by decide) ⟨_, ho, rfl⟩ (fun s' => typeIs_int s' k t) noFill_tuple_mul F.fills_int_mul F.slot_int_rmul repeat_tuple F.slot_int_index.lookup
      (call_meets F.slot_int_rmul (typeIs_int s k t) F.entry_int_rmul (F.args_int_rmul_2 _ _) (int_rmul_tuple k t l its.toArray n dd sl) ⟨ho, rfl, ⟨_, ho, rfl⟩, call_meets F.slot_tuple_mul ⟨_, ho, rfl⟩ F.entry_tuple_mul (F.args_tuple_mul_2 _ _) (mul_none k0 k1 k2) ⟨ho, ?_⟩⟩)
    refine ⟨.ref s.heap.objs.size, _, I.laid (t' := s.toks) (o := .tup []) (fun b ob q => Heap.get?_push_of_some _ q) (Nat.le_refl _) ?_, rfl, q2 e _ (I.hok.fresh (Nat.le_refl _))⟩
    exact ⟨Nat.zero_le _, _, .nil, IsTup.new _ _⟩
/-- a tuple taken i times -/
noncomputable def mulA : PV → PV → M PV := fun x y => match x, y with
  | .tup xs, .int k => if xs ≠ [] ∧ -1000 ≤ k ∧ k ≤ 1000 ∧ xs.length ≤ 1000 then M.ret (.tup (List.replicate k.toNat xs).flatten) else M.bad
  | x, y => mulI x y
def rMulA (K : PySem.W.Frag) : R2 := fun x y H Q => (rI CMul fun i j => .int (i * j)) x y H Q ∨ rRepT K x y H Q ∨ rRep01 K x y H Q
theorem op_mulA : OpR X (binaryOp .Mult) (rMulA X.K) := OpR.or op_mul (OpR.or op_repT op_rep01)
theorem Reps.rep {α : List Addr} {H : Hp} {xs : List PV} {vs : List V} (r : Reps K α H xs vs) : ∀ n : Nat, Reps K α H (List.replicate n xs).flatten (List.replicate n vs).flatten
  | 0 => .nil
  | n + 1 => by
    rw [List.replicate_succ, List.replicate_succ, List.flatten_cons, List.flatten_cons]
    exact r.append (Reps.rep r n)
theorem den_mulA : Den2 K (rMulA K) mulA := fun α S H x y vx vy Q E o rx ry h => by
  unfold mulA at h
  split at h
  · rename_i xs k
    cases rx with
    | tup hs hr =>
      cases ry
      rename_i a vs
      obtain ⟨⟨z1, z2, z3, z4⟩, h⟩ := if_outM h
      have hl := hr.length
      have hne : vs ≠ [] := fun e => z1 (List.eq_nil_of_length_eq_zero (by rw [hl, e]; rfl))
      refine .inr ?_
      by_cases hk : 2 ≤ k
      · exact .inl ⟨a, k, vs, rfl, rfl, hs.sq, hne, hk, z3, by omega, fun p hp => h α _ (.new o hp) _ (.tup (.inl upd_same) ((Reps.rep hr k.toNat).mono (.new hp) (.refl α)))⟩
      · refine .inr ⟨a, k, vs, rfl, rfl, hs.sq, hne, z2, by omega, by omega, fun e => ?_, fun e p hp => ?_⟩
        · have e1 : (List.replicate k.toNat xs).flatten = xs := by rw [e]; simp
          rw [e1] at h
          exact h α H (.refl o) _ (.tup hs hr)
        · have e1 : (List.replicate k.toNat xs).flatten = [] := by rw [show k.toNat = 0 by omega]; rfl
          rw [e1] at h
          exact h α _ (.new o hp) _ (.tup (.inl upd_same) .nil)
  · exact .inl (den_mulI α S H x y vx vy Q E o rx ry h)
theorem vv_mulA_int {S : Store} {Q : PV → Store → Prop} {E : Exn → Store → Prop} {i j : Int} : wpx (mulA (.int i) (.int j)) S Q E ↔ CMul i j ∧ Q (.int (i * j)) S := vv_mul
theorem vv_mulA_tup {S : Store} {Q : PV → Store → Prop} {E : Exn → Store → Prop} {xs : List PV} {k : Int} : wpx (mulA (.tup xs) (.int k)) S Q E ↔ (xs ≠ [] ∧ -1000 ≤ k ∧ k ≤ 1000 ∧ xs.length ≤ 1000) ∧ Q (.tup (List.replicate k.toNat xs).flatten) S := by
  show wpx (if _ then _ else _) S Q E ↔ _
  rw [wpx_ite]; simp [wpx_ret, wpx_bad]
end DL

namespace KK
open PySem PySem.Spec PyProof.Rows L2 DL
def topS (i : Nat) : Stmt := PySem.Challenge.pw_normalwords_k14_side_by_side_and_back.main.body.getD i (.Pass ⟨0, 0, 0, 0⟩)
abbrev s_is_whole : Stmt := topS 4
theorem sc_is_whole : FnScope ["value"] ["value"] (defScope s_is_whole) := ⟨rfl, rfl, rfl, by decide +kernel, rfl, by decide +kernel, by decide +kernel⟩
abbrev s_is_number : Stmt := topS 5
theorem sc_is_number : FnScope ["value"] ["value"] (defScope s_is_number) := ⟨rfl, rfl, rfl, by decide +kernel, rfl, by decide +kernel, by decide +kernel⟩
abbrev s_is_word : Stmt := topS 7
theorem sc_is_word : FnScope ["value", "letters", "x"] ["value", "letters"] (defScope s_is_word) := ⟨rfl, rfl, rfl, by decide +kernel, rfl, by decide +kernel, by decide +kernel⟩
abbrev s_pair_letters : Stmt := topS 9
theorem sc_pair_letters : FnScope ["letters"] ["letters"] (defScope s_pair_letters) := ⟨rfl, rfl, rfl, by decide +kernel, rfl, by decide +kernel, by decide +kernel⟩
abbrev s_pair_letter : Stmt := topS 10
theorem sc_pair_letter : FnScope ["letters", "x", "y"] ["letters", "x", "y"] (defScope s_pair_letter) := ⟨rfl, rfl, rfl, by decide +kernel, rfl, by decide +kernel, by decide +kernel⟩
abbrev s_side_by_side : Stmt := topS 11
theorem sc_side_by_side : FnScope ["letters", "u", "v", "word", "length", "lefts", "rights", "x", "y"] ["letters", "u", "v"] (defScope s_side_by_side) := ⟨rfl, rfl, rfl, by decide +kernel, rfl, by decide +kernel, by decide +kernel⟩
abbrev s_sides : Stmt := topS 13
theorem sc_sides : FnScope ["letters", "row", "parts", "u", "v", "letter", "x", "_", "y"] ["letters", "row"] (defScope s_sides) := ⟨rfl, rfl, rfl, by decide +kernel, rfl, by decide +kernel, by decide +kernel⟩
abbrev s_read_pair : Stmt := topS 12
theorem sc_read_pair : FnScope ["letters", "row", "u", "v"] ["letters", "row"] (defScope s_read_pair) := ⟨rfl, rfl, rfl, by decide +kernel, rfl, by decide +kernel, by decide +kernel⟩
abbrev s__law_box : Stmt := topS 15
theorem sc__law_box : FnScope ["script", "cell"] ["script"] (defScope s__law_box) := ⟨rfl, rfl, rfl, by decide +kernel, rfl, by decide +kernel, by decide +kernel⟩
abbrev s__law_draw : Stmt := topS 16
theorem sc__law_draw : FnScope ["box", "limit", "cells", "k", "digit", "cell", "mixed"] ["box", "limit"] (defScope s__law_draw) := ⟨rfl, rfl, rfl, by decide +kernel, rfl, by decide +kernel, by decide +kernel⟩
abbrev s__law_word : Stmt := topS 17
theorem sc__law_word : FnScope ["box", "letters", "most", "k"] ["box", "letters", "most"] (defScope s__law_word) := ⟨rfl, rfl, rfl, by decide +kernel, rfl, by decide +kernel, by decide +kernel⟩
abbrev s__law_side : Stmt := topS 18
theorem sc__law_side : FnScope ["letters", "u", "v", "row", "k", "x", "y"] ["letters", "u", "v"] (defScope s__law_side) := ⟨rfl, rfl, rfl, by decide +kernel, rfl, by decide +kernel, by decide +kernel⟩
abbrev s__law_read : Stmt := topS 19
theorem sc__law_read : FnScope ["letters", "row", "u", "v", "z", "x", "y"] ["letters", "row"] (defScope s__law_read) := ⟨rfl, rfl, rfl, by decide +kernel, rfl, by decide +kernel, by decide +kernel⟩
abbrev s__law_words_right : Stmt := topS 20
theorem sc__law_words_right : FnScope ["box", "letters", "u", "v", "due", "row", "drawn", "one"] ["box", "letters"] (defScope s__law_words_right) := ⟨rfl, rfl, rfl, by decide +kernel, rfl, by decide +kernel, by decide +kernel⟩
abbrev s__law_all : Stmt := topS 21
theorem sc__law_all : FnScope ["script", "box", "k"] ["script"] (defScope s__law_all) := ⟨rfl, rfl, rfl, by decide +kernel, rfl, by decide +kernel, by decide +kernel⟩
abbrev s_law : Stmt := topS 22
theorem sc_law : FnScope ["script"] ["script"] (defScope s_law) := ⟨rfl, rfl, rfl, by decide +kernel, rfl, by decide +kernel, by decide +kernel⟩
noncomputable def g_is_whole : SD :=
  sRet (eAndV (eArgs isiF (eCons (eVar 0) (eCons (eLit (.con (.ty "int"))) eNil))) (eNotV (eArgs isiF (eCons (eVar 0) (eCons (eLit (.con (.ty "bool"))) eNil)))))
noncomputable def F_is_whole : FD := runF 1 g_is_whole
noncomputable def g_is_number : SD :=
  sRet (eAndV (eArgs (chkL 1 F_is_whole) (eCons (eVar 0) eNil)) (eBin geI (eVar 0) (eLit (.int 0))))
noncomputable def F_is_number : FD := runF 1 g_is_number
noncomputable def g_is_word : SD :=
  sRet (eAndV (eArgs isiF (eCons (eVar 0) (eCons (eLit (.con (.ty "tuple"))) eNil))) (eArgs allF (eCons (eLc (eSrc (eVar 0)) (.nm 2) tTrue (eAndV (eArgs (chkL 1 F_is_number) (eCons (eVar 2) eNil)) (eBin ltA (eVar 2) (eVar 1))) (List.map (·.2) ([("x", 2)] : List (Str × Nat)))) eNil)))
noncomputable def F_is_word : FD := runF 3 g_is_word
noncomputable def g_pair_letters : SD :=
  sRet (eBin subV (eBin mulA (eBin addV (eVar 0) (eLit (.int 1))) (eBin addV (eVar 0) (eLit (.int 1)))) (eLit (.int 1)))
noncomputable def F_pair_letters : FD := runF 1 g_pair_letters
noncomputable def g_pair_letter : SD :=
  sRet (eBin addV (eBin mulA (eVar 1) (eBin addV (eVar 0) (eLit (.int 1)))) (eVar 2))
noncomputable def F_pair_letter : FD := runF 3 g_pair_letter
noncomputable def g_side_by_side_B1 : SD :=
  sIf (eNot (eTest (eArgs (chkL 2 F_is_word) (eCons (eVar 3) (eCons (eVar 0) eNil))))) sNo sNil
noncomputable def g_side_by_side_R2 : SD :=
  sSeq (sSet 4 (eArgs mxF (eCons (eArgs lenV (eCons (eVar 1) eNil)) (eCons (eArgs lenV (eCons (eVar 2) eNil)) eNil)))) (sSeq (sSet 5 (eBin addV (eVar 1) (eBin mulA (eArgs mkTup (eCons (eVar 0) eNil)) (eBin subV (eVar 4) (eArgs lenV (eCons (eVar 1) eNil)))))) (sSeq (sSet 6 (eBin addV (eVar 2) (eBin mulA (eArgs mkTup (eCons (eVar 0) eNil)) (eBin subV (eVar 4) (eArgs lenV (eCons (eVar 2) eNil)))))) (sRet (eArgs tupF (eCons (eLc (sArgs zipM (eCons (eVar 5) (eCons (eVar 6) eNil))) (.tp [.nm 7, .nm 8]) tTrue (eArgs (chkL 3 F_pair_letter) (eCons (eVar 0) (eCons (eVar 7) (eCons (eVar 8) eNil)))) (List.map (·.2) ([("x", 7), ("y", 8)] : List (Str × Nat)))) eNil)))))
noncomputable def g_side_by_side : SD :=
  sSeq (sFor (eSrc (eArgs mkTup (eCons (eVar 1) (eCons (eVar 2) eNil)))) (.nm 3) g_side_by_side_B1) g_side_by_side_R2
noncomputable def F_side_by_side : FD := runF 9 g_side_by_side
noncomputable def g_sides : SD :=
  sSeq (sSet 2 (eLc (eSrc (eVar 1)) (.nm 5) tTrue (eArgs dmF (eCons (eVar 5) (eCons (eBin addV (eVar 0) (eLit (.int 1))) eNil))) (List.map (·.2) ([("letter", 5)] : List (Str × Nat))))) (sSeq (sSet 3 (eArgs tupF (eCons (eLc (eSrc (eVar 2)) (.tp [.nm 6, .nm 7]) (eTest (eBin ltA (eVar 6) (eVar 0))) (eVar 6) (List.map (·.2) ([("x", 6), ("_", 7)] : List (Str × Nat)))) eNil))) (sSeq (sSet 4 (eArgs tupF (eCons (eLc (eSrc (eVar 2)) (.tp [.nm 7, .nm 8]) (eTest (eBin ltA (eVar 8) (eVar 0))) (eVar 8) (List.map (·.2) ([("_", 7), ("y", 8)] : List (Str × Nat)))) eNil))) (sRet (eArgs mkTup (eCons (eVar 3) (eCons (eVar 4) eNil))))))
noncomputable def F_sides : FD := runF 9 g_sides
noncomputable def g_read_pair_R1 : SD :=
  sRet (eArgs mkTup (eCons (eVar 2) (eCons (eVar 3) eNil)))
noncomputable def g_read_pair_R2 : SD :=
  sSeq (sAsg (.tp [.nm 2, .nm 3]) (eArgs (chkL 2 F_sides) (eCons (eVar 0) (eCons (eVar 1) eNil)))) (sSeq (sIf (eTest (eBin neA (eArgs (chkL 3 F_side_by_side) (eCons (eVar 0) (eCons (eVar 2) (eCons (eVar 3) eNil)))) (eVar 1))) (sRet (eLit .non)) sNil) g_read_pair_R1)
noncomputable def g_read_pair : SD :=
  sSeq (sIf (eNot (eTest (eArgs (chkL 2 F_is_word) (eCons (eVar 1) (eCons (eArgs (chkL 1 F_pair_letters) (eCons (eVar 0) eNil)) eNil))))) sNo sNil) g_read_pair_R2
noncomputable def F_read_pair : FD := runF 4 g_read_pair
noncomputable def g__law_box : SD :=
  sRet (eArgs mkLst (eCons (eLc (eSrc (eVar 0)) (.nm 1) tTrue (eArgs intF (eCons (eVar 1) eNil)) (List.map (·.2) ([("cell", 1)] : List (Str × Nat)))) (eCons (eLit (.int 0)) (eCons (eLit (.int 0)) (eCons (eLit (.int 0)) eNil)))))
noncomputable def F__law_box : FD := runF 2 g__law_box
noncomputable def g__law_draw_R1 : SD :=
  sSub setV (eVar 0) (eLit (.int 3)) (eBin addV (eBin ixV (eVar 0) (eLit (.int 3))) (eLit (.int 1)))
noncomputable def g__law_draw_B2 : SD :=
  sIf (eAnd (eTest (eBin eqA (eBin ixV (eVar 0) (eLit (.int 2))) (eLit (.int 0)))) (eTest (eBin ltA (eBin ixV (eVar 0) (eLit (.int 3))) (eArgs lenV (eCons (eVar 2) eNil))))) (sSeq (sIf (eTest (eBin geI (eArgs absF (eCons (eBin ixV (eVar 2) (eBin ixV (eVar 0) (eLit (.int 3)))) eNil)) (eBin powV (eLit (.int 10)) (eLit (.int 18))))) (sSub setV (eVar 0) (eLit (.int 2)) (eArgs absF (eCons (eBin ixV (eVar 2) (eBin ixV (eVar 0) (eLit (.int 3)))) eNil))) sNil) g__law_draw_R1) sBk
noncomputable def g__law_draw_R3 : SD :=
  sSeq (sSet 6 (eBin modV (eArgs intF (eCons (eBin addV (eBin addV (eBin mulA (eVar 5) (eLit (.int 48271))) (eBin mulA (eBin ixV (eVar 0) (eLit (.int 1))) (eLit (.int 69621)))) (eLit (.int 7))) eNil)) (eLit (.int 2147483647)))) (sSeq (sSet 6 (eBin modV (eArgs intF (eCons (eBin addV (eBin addV (eBin mulA (eVar 6) (eVar 6)) (eBin mulA (eBin ixV (eVar 0) (eLit (.int 1))) (eLit (.int 7919)))) (eVar 5)) eNil)) (eLit (.int 1000003)))) (sSeq (sSet 6 (eBin modV (eArgs intF (eCons (eBin addV (eBin addV (eBin mulA (eBin mulA (eVar 6) (eVar 6)) (eLit (.int 16807))) (eBin divV (eVar 5) (eLit (.int 5)))) (eLit (.int 11))) eNil)) (eLit (.int 998244353)))) (sRet (eBin modV (eArgs intF (eCons (eBin divV (eVar 6) (eLit (.int 3))) eNil)) (eVar 1)))))
noncomputable def g__law_draw_R4 : SD :=
  sSeq (sSet 5 (eLit (.int 0))) (sSeq (sIf (eTest (eBin gtI (eArgs lenV (eCons (eVar 2) eNil)) (eLit (.int 0)))) (sSet 5 (eArgs absF (eCons (eBin ixV (eVar 2) (eBin modV (eArgs intF (eCons (eBin ixV (eVar 0) (eLit (.int 1))) eNil)) (eArgs lenV (eCons (eVar 2) eNil)))) eNil))) sNil) g__law_draw_R3)
noncomputable def g__law_draw_R5 : SD :=
  sSeq (sIf (eTest (eBin gtI (eBin ixV (eVar 0) (eLit (.int 2))) (eLit (.int 0)))) (sSeq (sSet 4 (eBin modV (eArgs intF (eCons (eBin ixV (eVar 0) (eLit (.int 2))) eNil)) (eVar 1))) (sSeq (sSub setV (eVar 0) (eLit (.int 2)) (eBin divV (eBin ixV (eVar 0) (eLit (.int 2))) (eVar 1))) (sRet (eVar 4)))) sNil) g__law_draw_R4
noncomputable def g__law_draw : SD :=
  sSeq (sSet 2 (eBin ixV (eVar 0) (eLit (.int 0)))) (sSeq (sSub setV (eVar 0) (eLit (.int 1)) (eBin addV (eBin ixV (eVar 0) (eLit (.int 1))) (eLit (.int 1)))) (sSeq (sFor (sArgs range1M (eCons (eArgs lenV (eCons (eVar 2) eNil)) eNil)) (.nm 3) g__law_draw_B2) g__law_draw_R5))
noncomputable def F__law_draw : FD := runF 7 g__law_draw
noncomputable def g__law_word : SD :=
  sRet (eArgs tupF (eCons (eLc (sArgs range1M (eCons (eArgs (chkL 2 F__law_draw) (eCons (eVar 0) (eCons (eBin addV (eVar 2) (eLit (.int 1))) eNil))) eNil)) (.nm 3) tTrue (eArgs (chkL 2 F__law_draw) (eCons (eVar 0) (eCons (eVar 1) eNil))) (List.map (·.2) ([("k", 3)] : List (Str × Nat)))) eNil))
noncomputable def F__law_word : FD := runF 4 g__law_word
noncomputable def g__law_side_R1 : SD :=
  sExpr (eMethL appendV (eVar 3) (eCons (eBin addV (eBin mulA (eVar 5) (eBin addV (eVar 0) (eLit (.int 1)))) (eVar 6)) eNil))
noncomputable def g__law_side_R2 : SD :=
  sSeq (sIf (eTest (eBin ltA (eVar 4) (eArgs lenV (eCons (eVar 2) eNil)))) (sSet 6 (eBin ixV (eVar 2) (eVar 4))) sNil) g__law_side_R1
noncomputable def g__law_side_B3 : SD :=
  sSeq (sSet 5 (eVar 0)) (sSeq (sSet 6 (eVar 0)) (sSeq (sIf (eTest (eBin ltA (eVar 4) (eArgs lenV (eCons (eVar 1) eNil)))) (sSet 5 (eBin ixV (eVar 1) (eVar 4))) sNil) g__law_side_R2))
noncomputable def g__law_side_R4 : SD :=
  sRet (eArgs tupF (eCons (eVar 3) eNil))
noncomputable def g__law_side : SD :=
  sSeq (sSet 3 (eArgs mkLst eNil)) (sSeq (sFor (sArgs range1M (eCons (eArgs mxF (eCons (eArgs lenV (eCons (eVar 1) eNil)) (eCons (eArgs lenV (eCons (eVar 2) eNil)) eNil))) eNil)) (.nm 4) g__law_side_B3) g__law_side_R4)
noncomputable def F__law_side : FD := runF 7 g__law_side
noncomputable def g__law_read_R1 : SD :=
  sIf (eAnd (eTest (eBin eqA (eArgs lenV (eCons (eVar 2) eNil)) (eArgs lenV (eCons (eVar 3) eNil)))) (eOr (eTest (eBin eqA (eVar 5) (eVar 0))) (eTest (eBin eqA (eVar 6) (eVar 0))))) (sRet (eLit .non)) sNil
noncomputable def g__law_read_R2 : SD :=
  sSeq (sIf (eTest (eBin ltA (eVar 6) (eVar 0))) (sExpr (eMethL appendV (eVar 3) (eCons (eVar 6) eNil))) sNil) g__law_read_R1
noncomputable def g__law_read_R3 : SD :=
  sSeq (sIf (eTest (eBin ltA (eVar 5) (eVar 0))) (sExpr (eMethL appendV (eVar 2) (eCons (eVar 5) eNil))) sNil) g__law_read_R2
noncomputable def g__law_read_B4 : SD :=
  sSeq (sSet 5 (eBin divV (eVar 4) (eBin addV (eVar 0) (eLit (.int 1))))) (sSeq (sSet 6 (eBin modV (eArgs intF (eCons (eVar 4) eNil)) (eBin addV (eVar 0) (eLit (.int 1))))) (sSeq (sIf (eOr (eAnd (eTest (eBin ltA (eVar 5) (eVar 0))) (eTest (eBin ltA (eArgs lenV (eCons (eVar 2) eNil)) (eArgs lenV (eCons (eVar 3) eNil))))) (eAnd (eTest (eBin ltA (eVar 6) (eVar 0))) (eTest (eBin ltA (eArgs lenV (eCons (eVar 3) eNil)) (eArgs lenV (eCons (eVar 2) eNil)))))) (sRet (eLit .non)) sNil) g__law_read_R3))
noncomputable def g__law_read_R5 : SD :=
  sRet (eArgs mkTup (eCons (eArgs tupF (eCons (eVar 2) eNil)) (eCons (eArgs tupF (eCons (eVar 3) eNil)) eNil)))
noncomputable def g__law_read_R6 : SD :=
  sSeq (sIf (eTest (eBin neA (eArgs (chkL 3 F__law_side) (eCons (eVar 0) (eCons (eArgs tupF (eCons (eVar 2) eNil)) (eCons (eArgs tupF (eCons (eVar 3) eNil)) eNil)))) (eArgs tupF (eCons (eVar 1) eNil)))) (sRet (eLit .non)) sNil) g__law_read_R5
noncomputable def g__law_read : SD :=
  sSeq (sSet 2 (eArgs mkLst eNil)) (sSeq (sSet 3 (eArgs mkLst eNil)) (sSeq (sFor (eSrc (eVar 1)) (.nm 4) g__law_read_B4) g__law_read_R6))
noncomputable def F__law_read : FD := runF 7 g__law_read
noncomputable def g__law_words_right_B1 : SD :=
  sIf (eTest (eBin neA (eArgs reprF (eCons (eArgs (chkL 2 F_read_pair) (eCons (eVar 1) (eCons (eVar 7) eNil))) eNil)) (eArgs reprF (eCons (eArgs (chkL 2 F__law_read) (eCons (eVar 1) (eCons (eVar 7) eNil))) eNil)))) (sRet (eLit (.bl false))) sNil
noncomputable def g__law_words_right_R2 : SD :=
  sRet (eLit (.bl true))
noncomputable def g__law_words_right_R3 : SD :=
  sSeq (sSet 6 (eArgs (chkL 3 F__law_word) (eCons (eVar 0) (eCons (eBin subV (eBin mulA (eBin addV (eVar 1) (eLit (.int 1))) (eBin addV (eVar 1) (eLit (.int 1)))) (eLit (.int 1))) (eCons (eLit (.int 5)) eNil))))) (sSeq (sFor (eSrc (eArgs mkLst (eCons (eArgs tupF (eCons (eVar 5) eNil)) (eCons (eVar 6) (eCons (eBin addV (eArgs tupF (eCons (eVar 5) eNil)) (eVar 6)) eNil))))) (.nm 7) g__law_words_right_B1) g__law_words_right_R2)
noncomputable def g__law_words_right_R4 : SD :=
  sSeq (sSet 5 (eArgs lstF (eCons (eSlice sliceV (eVar 4) eNoPart (ePart (eLit (.int 12)))) eNil))) (sSeq (sIf (eTest (eBin gtI (eArgs lenV (eCons (eVar 5) eNil)) (eLit (.int 0)))) (sSub setV (eVar 5) (eArgs (chkL 2 F__law_draw) (eCons (eVar 0) (eCons (eArgs lenV (eCons (eVar 5) eNil)) eNil))) (eArgs (chkL 2 F__law_draw) (eCons (eVar 0) (eCons (eBin subV (eBin mulA (eBin addV (eVar 1) (eLit (.int 1))) (eBin addV (eVar 1) (eLit (.int 1)))) (eLit (.int 1))) eNil)))) sNil) g__law_words_right_R3)
noncomputable def g__law_words_right_R5 : SD :=
  sSeq (sIf (eOr (eTest (eBin neA (eArgs reprF (eCons (eArgs (chkL 2 F_read_pair) (eCons (eVar 1) (eCons (eVar 4) eNil))) eNil)) (eArgs reprF (eCons (eArgs mkTup (eCons (eVar 2) (eCons (eVar 3) eNil))) eNil)))) (eTest (eBin neA (eArgs reprF (eCons (eArgs (fun zs => if zs.length = (["row", "letters"] : List Str).length then chkL 2 F_read_pair (pick [1, 0] zs) else M.bad) (eCons (eVar 4) (eCons (eVar 1) eNil))) eNil)) (eArgs reprF (eCons (eArgs mkTup (eCons (eVar 2) (eCons (eVar 3) eNil))) eNil))))) (sRet (eLit (.bl false))) sNil) g__law_words_right_R4
noncomputable def g__law_words_right_R6 : SD :=
  sSeq (sSet 4 (eArgs (chkL 3 F__law_side) (eCons (eVar 1) (eCons (eVar 2) (eCons (eVar 3) eNil))))) (sSeq (sIf (eOr (eTest (eBin neA (eArgs reprF (eCons (eArgs (chkL 3 F_side_by_side) (eCons (eVar 1) (eCons (eVar 2) (eCons (eVar 3) eNil)))) eNil)) (eArgs reprF (eCons (eVar 4) eNil)))) (eTest (eBin neA (eArgs reprF (eCons (eArgs (fun zs => if zs.length = (["v", "u", "letters"] : List Str).length then chkL 3 F_side_by_side (pick [2, 1, 0] zs) else M.bad) (eCons (eVar 3) (eCons (eVar 2) (eCons (eVar 1) eNil)))) eNil)) (eArgs reprF (eCons (eVar 4) eNil))))) (sRet (eLit (.bl false))) sNil) g__law_words_right_R5)
noncomputable def g__law_words_right : SD :=
  sSeq (sSet 2 (eArgs (chkL 3 F__law_word) (eCons (eVar 0) (eCons (eVar 1) (eCons (eBin ixV (eArgs mkLst (eCons (eLit (.int 3)) (eCons (eLit (.int 8)) (eCons (eLit (.int 40)) eNil)))) (eArgs (chkL 2 F__law_draw) (eCons (eVar 0) (eCons (eLit (.int 3)) eNil)))) eNil))))) (sSeq (sSet 3 (eArgs (chkL 3 F__law_word) (eCons (eVar 0) (eCons (eVar 1) (eCons (eBin ixV (eArgs mkLst (eCons (eLit (.int 3)) (eCons (eLit (.int 8)) (eCons (eLit (.int 40)) eNil)))) (eArgs (chkL 2 F__law_draw) (eCons (eVar 0) (eCons (eLit (.int 3)) eNil)))) eNil))))) (sSeq (sIf (eTest (eBin eqA (eArgs (chkL 2 F__law_draw) (eCons (eVar 0) (eCons (eLit (.int 4)) eNil))) (eLit (.int 0)))) (sSet 3 (eSlice sliceV (eVar 2) eNoPart (ePart (eArgs (chkL 2 F__law_draw) (eCons (eVar 0) (eCons (eBin addV (eArgs lenV (eCons (eVar 2) eNil)) (eLit (.int 1))) eNil)))))) sNil) g__law_words_right_R6))
noncomputable def F__law_words_right : FD := runF 8 g__law_words_right
noncomputable def g__law_all_B1 : SD :=
  sIf (eNot (eTest (eArgs (chkL 2 F__law_words_right) (eCons (eVar 1) (eCons (eBin addV (eLit (.int 1)) (eBin modV (eArgs intF (eCons (eVar 2) eNil)) (eLit (.int 4)))) eNil))))) (sRet (eLit (.bl false))) sNil
noncomputable def g__law_all_R2 : SD :=
  sRet (eAndV (eBin eqA (eArgs reprF (eCons (eArgs (chkL 3 F_side_by_side) (eCons (eLit (.int 2)) (eCons (eArgs mkTup eNil) (eCons (eArgs mkTup eNil) eNil)))) eNil)) (eArgs reprF (eCons (eArgs mkTup eNil) eNil))) (eBin eqA (eArgs reprF (eCons (eArgs (chkL 2 F_read_pair) (eCons (eLit (.int 2)) (eCons (eArgs mkTup eNil) eNil))) eNil)) (eArgs reprF (eCons (eArgs mkTup (eCons (eArgs mkTup eNil) (eCons (eArgs mkTup eNil) eNil))) eNil))))
noncomputable def g__law_all : SD :=
  sSeq (sSet 1 (eArgs (chkL 1 F__law_box) (eCons (eVar 0) eNil))) (sSeq (sFor (sArgs range1M (eCons (eLit (.int 8)) eNil)) (.nm 2) g__law_all_B1) g__law_all_R2)
noncomputable def F__law_all : FD := runF 3 g__law_all
noncomputable def g_law : SD :=
  sThru (sRet (eArgs (chkL 1 F__law_all) (eCons (eVar 0) eNil)))
noncomputable def F_law : FD := runF 1 g_law
structure TX (K : PySem.W.Frag) (mg : Str → Option Value) (a_is_whole : Addr) (fd_is_whole : FuncData) (a_is_number : Addr) (fd_is_number : FuncData) (a_is_word : Addr) (fd_is_word : FuncData) (a_pair_letters : Addr) (fd_pair_letters : FuncData) (a_pair_letter : Addr) (fd_pair_letter : FuncData) (a_side_by_side : Addr) (fd_side_by_side : FuncData) (a_sides : Addr) (fd_sides : FuncData) (a_read_pair : Addr) (fd_read_pair : FuncData) (a__law_box : Addr) (fd__law_box : FuncData) (a__law_draw : Addr) (fd__law_draw : FuncData) (a__law_word : Addr) (fd__law_word : FuncData) (a__law_side : Addr) (fd__law_side : FuncData) (a__law_read : Addr) (fd__law_read : FuncData) (a__law_words_right : Addr) (fd__law_words_right : FuncData) (a__law_all : Addr) (fd__law_all : FuncData) (a_law : Addr) (fd_law : FuncData) : Prop where
  z_abs : mg "abs" = none
  z_all : mg "all" = none
  z_bool : mg "bool" = none
  z_divmod : mg "divmod" = none
  z_int : mg "int" = none
  z_isinstance : mg "isinstance" = none
  z_len : mg "len" = none
  z_list : mg "list" = none
  z_max : mg "max" = none
  z_range : mg "range" = none
  z_repr : mg "repr" = none
  z_tuple : mg "tuple" = none
  z_zip : mg "zip" = none
  d_is_whole : DefAt K mg "is_whole" s_is_whole a_is_whole fd_is_whole ["value"]
  d_is_number : DefAt K mg "is_number" s_is_number a_is_number fd_is_number ["value"]
  d_is_word : DefAt K mg "is_word" s_is_word a_is_word fd_is_word ["value", "letters"]
  d_pair_letters : DefAt K mg "pair_letters" s_pair_letters a_pair_letters fd_pair_letters ["letters"]
  d_pair_letter : DefAt K mg "pair_letter" s_pair_letter a_pair_letter fd_pair_letter ["letters", "x", "y"]
  d_side_by_side : DefAt K mg "side_by_side" s_side_by_side a_side_by_side fd_side_by_side ["letters", "u", "v"]
  d_sides : DefAt K mg "sides" s_sides a_sides fd_sides ["letters", "row"]
  d_read_pair : DefAt K mg "read_pair" s_read_pair a_read_pair fd_read_pair ["letters", "row"]
  d__law_box : DefAt K mg "_law_box" s__law_box a__law_box fd__law_box ["script"]
  d__law_draw : DefAt K mg "_law_draw" s__law_draw a__law_draw fd__law_draw ["box", "limit"]
  d__law_word : DefAt K mg "_law_word" s__law_word a__law_word fd__law_word ["box", "letters", "most"]
  d__law_side : DefAt K mg "_law_side" s__law_side a__law_side fd__law_side ["letters", "u", "v"]
  d__law_read : DefAt K mg "_law_read" s__law_read a__law_read fd__law_read ["letters", "row"]
  d__law_words_right : DefAt K mg "_law_words_right" s__law_words_right a__law_words_right fd__law_words_right ["box", "letters"]
  d__law_all : DefAt K mg "_law_all" s__law_all a__law_all fd__law_all ["script"]
  d_law : DefAt K mg "law" s_law a_law fd_law ["script"]
  k_read_pair_row_letters : ∀ (s : Shared) (ws : List Value), ws.length = (["row", "letters"] : List Str).length → BindsTo s fd_read_pair ⟨[], (["row", "letters"] : List Str).zip ws⟩ ((["letters", "row"] : List Str).zip (pick [1, 0] ws))
  k_side_by_side_v_u_letters : ∀ (s : Shared) (ws : List Value), ws.length = (["v", "u", "letters"] : List Str).length → BindsTo s fd_side_by_side ⟨[], (["v", "u", "letters"] : List Str).zip ws⟩ ((["letters", "u", "v"] : List Str).zip (pick [2, 1, 0] ws))
section
variable {P : Program} {w : World} {K : PySem.W.Frag} {mg : Str → Option Value} {base : Heap} {a_is_whole : Addr} {fd_is_whole : FuncData} {a_is_number : Addr} {fd_is_number : FuncData} {a_is_word : Addr} {fd_is_word : FuncData} {a_pair_letters : Addr} {fd_pair_letters : FuncData} {a_pair_letter : Addr} {fd_pair_letter : FuncData} {a_side_by_side : Addr} {fd_side_by_side : FuncData} {a_sides : Addr} {fd_sides : FuncData} {a_read_pair : Addr} {fd_read_pair : FuncData} {a__law_box : Addr} {fd__law_box : FuncData} {a__law_draw : Addr} {fd__law_draw : FuncData} {a__law_word : Addr} {fd__law_word : FuncData} {a__law_side : Addr} {fd__law_side : FuncData} {a__law_read : Addr} {fd__law_read : FuncData} {a__law_words_right : Addr} {fd__law_words_right : FuncData} {a__law_all : Addr} {fd__law_all : FuncData} {a_law : Addr} {fd_law : FuncData}
theorem ok_is_whole (T : TX K mg a_is_whole fd_is_whole a_is_number fd_is_number a_is_word fd_is_word a_pair_letters fd_pair_letters a_pair_letter fd_pair_letter a_side_by_side fd_side_by_side a_sides fd_sides a_read_pair fd_read_pair a__law_box fd__law_box a__law_draw fd__law_draw a__law_word fd__law_word a__law_side fd__law_side a__law_read fd__law_read a__law_words_right fd__law_words_right a__law_all fd__law_all a_law fd_law) : FnG P w K mg base 2 a_is_whole fd_is_whole ["value"] (spD K 1 F_is_whole) := by
  have sc := sc_is_whole
  refine fnG_mk' ["value"] ["value"] 1 1 1 g_is_whole rfl rfl P w mg base T.d_is_whole.F sc (fun cdv A outer s H E hr gd => ?_)
  have tk := takes_of (X := cxOf (L2.CX P w) P w K mg base ["value"] "is_whole" (defScope s_is_whole) a_is_whole cdv A outer s H E) rfl rfl rfl rfl
  have po := passes_of (X := cxOf (L2.CX P w) P w K mg base ["value"] "is_whole" (defScope s_is_whole) a_is_whole cdv A outer s H E) rfl
  exact dss_one (ds_ret (de_and (de_callB call_isi den_isi T.z_isinstance bt_isinstance (da_cons (de_var 0) (da_cons (de_ty T.z_int bt_int) da_nil))) (de_and1 (de_not (de_callB call_isi den_isi T.z_isinstance bt_isinstance (da_cons (de_var 0) (da_cons (de_ty T.z_bool bt_bool) da_nil)))))))
theorem ok_is_number (T : TX K mg a_is_whole fd_is_whole a_is_number fd_is_number a_is_word fd_is_word a_pair_letters fd_pair_letters a_pair_letter fd_pair_letter a_side_by_side fd_side_by_side a_sides fd_sides a_read_pair fd_read_pair a__law_box fd__law_box a__law_draw fd__law_draw a__law_word fd__law_word a__law_side fd__law_side a__law_read fd__law_read a__law_words_right fd__law_words_right a__law_all fd__law_all a_law fd_law) : FnG P w K mg base 3 a_is_number fd_is_number ["value"] (spD K 1 F_is_number) := by
  have G_is_whole := ok_is_whole (P := P) (w := w) (base := base) T
  have sc := sc_is_number
  refine fnG_mk' ["value"] ["value"] 2 1 1 g_is_number rfl rfl P w mg base T.d_is_number.F sc (fun cdv A outer s H E hr gd => ?_)
  have tk := takes_of (X := cxOf (L2.CX P w) P w K mg base ["value"] "is_number" (defScope s_is_number) a_is_number cdv A outer s H E) rfl rfl rfl rfl
  have po := passes_of (X := cxOf (L2.CX P w) P w K mg base ["value"] "is_number" (defScope s_is_number) a_is_number cdv A outer s H E) rfl
  exact dss_one (ds_ret (de_and (de_call G_is_whole (hr.mono (by decide)) gd tk T.d_is_whole.g T.d_is_whole.F.kp T.d_is_whole.b (da_cons (de_var 0) da_nil)) (de_and1 (de_cmp op_ge den_geI (de_var 0) de_int))))
theorem ok_is_word (T : TX K mg a_is_whole fd_is_whole a_is_number fd_is_number a_is_word fd_is_word a_pair_letters fd_pair_letters a_pair_letter fd_pair_letter a_side_by_side fd_side_by_side a_sides fd_sides a_read_pair fd_read_pair a__law_box fd__law_box a__law_draw fd__law_draw a__law_word fd__law_word a__law_side fd__law_side a__law_read fd__law_read a__law_words_right fd__law_words_right a__law_all fd__law_all a_law fd_law) : FnG P w K mg base 4 a_is_word fd_is_word ["value", "letters"] (spD K 2 F_is_word) := by
  have G_is_number := ok_is_number (P := P) (w := w) (base := base) T
  have sc := sc_is_word
  refine fnG_mk' ["value", "letters", "x"] ["value", "letters"] 3 2 3 g_is_word rfl rfl P w mg base T.d_is_word.F sc (fun cdv A outer s H E hr gd => ?_)
  have tk := takes_of (X := cxOf (L2.CX P w) P w K mg base ["value", "letters", "x"] "is_word" (defScope s_is_word) a_is_word cdv A outer s H E) rfl rfl rfl rfl
  have po := passes_of (X := cxOf (L2.CX P w) P w K mg base ["value", "letters", "x"] "is_word" (defScope s_is_word) a_is_word cdv A outer s H E) rfl
  exact dss_one (ds_ret (de_and (de_callB call_isi den_isi T.z_isinstance bt_isinstance (da_cons (de_var 0) (da_cons (de_ty T.z_tuple bt_tuple) da_nil))) (de_and1 (de_callB (cr_all rfl) den_all T.z_all bt_all (da_cons (de_lc [("x", 2)] rfl sc.nd (di_seq (de_var 0)) (blkOk_by (N := ["value", "letters", "x"]) (sc := defScope s_is_word) (by decide +kernel)) (by decide) (fun _ _ _ _ _ => dg_name 2 sc.nd) (fun _ _ _ _ _ => pts_nilD) (fun _ _ _ _ _ => de_and (de_call G_is_number (hr.mono (by decide)) gd takes0 T.d_is_number.g T.d_is_number.F.kp T.d_is_number.b (da_cons (de_var 2) da_nil)) (de_and1 (de_cmp (op_ltA hr.u64) den_ltA (de_var 2) (de_var 1))))) da_nil)))))
theorem ok_pair_letters (T : TX K mg a_is_whole fd_is_whole a_is_number fd_is_number a_is_word fd_is_word a_pair_letters fd_pair_letters a_pair_letter fd_pair_letter a_side_by_side fd_side_by_side a_sides fd_sides a_read_pair fd_read_pair a__law_box fd__law_box a__law_draw fd__law_draw a__law_word fd__law_word a__law_side fd__law_side a__law_read fd__law_read a__law_words_right fd__law_words_right a__law_all fd__law_all a_law fd_law) : FnG P w K mg base 2 a_pair_letters fd_pair_letters ["letters"] (spD K 1 F_pair_letters) := by
  have sc := sc_pair_letters
  refine fnG_mk' ["letters"] ["letters"] 1 1 1 g_pair_letters rfl rfl P w mg base T.d_pair_letters.F sc (fun cdv A outer s H E hr gd => ?_)
  have tk := takes_of (X := cxOf (L2.CX P w) P w K mg base ["letters"] "pair_letters" (defScope s_pair_letters) a_pair_letters cdv A outer s H E) rfl rfl rfl rfl
  have po := passes_of (X := cxOf (L2.CX P w) P w K mg base ["letters"] "pair_letters" (defScope s_pair_letters) a_pair_letters cdv A outer s H E) rfl
  exact dss_one (ds_ret (de_op op_sub den_sub (de_op op_mulA den_mulA (de_op op_addA den_add (de_var 0) de_int) (de_op op_addA den_add (de_var 0) de_int)) de_int))
theorem ok_pair_letter (T : TX K mg a_is_whole fd_is_whole a_is_number fd_is_number a_is_word fd_is_word a_pair_letters fd_pair_letters a_pair_letter fd_pair_letter a_side_by_side fd_side_by_side a_sides fd_sides a_read_pair fd_read_pair a__law_box fd__law_box a__law_draw fd__law_draw a__law_word fd__law_word a__law_side fd__law_side a__law_read fd__law_read a__law_words_right fd__law_words_right a__law_all fd__law_all a_law fd_law) : FnG P w K mg base 2 a_pair_letter fd_pair_letter ["letters", "x", "y"] (spD K 3 F_pair_letter) := by
  have sc := sc_pair_letter
  refine fnG_mk' ["letters", "x", "y"] ["letters", "x", "y"] 1 3 3 g_pair_letter rfl rfl P w mg base T.d_pair_letter.F sc (fun cdv A outer s H E hr gd => ?_)
  have tk := takes_of (X := cxOf (L2.CX P w) P w K mg base ["letters", "x", "y"] "pair_letter" (defScope s_pair_letter) a_pair_letter cdv A outer s H E) rfl rfl rfl rfl
  have po := passes_of (X := cxOf (L2.CX P w) P w K mg base ["letters", "x", "y"] "pair_letter" (defScope s_pair_letter) a_pair_letter cdv A outer s H E) rfl
  exact dss_one (ds_ret (de_op op_addA den_add (de_op op_mulA den_mulA (de_var 1) (de_op op_addA den_add (de_var 0) de_int)) (de_var 2)))
theorem ok_side_by_side (T : TX K mg a_is_whole fd_is_whole a_is_number fd_is_number a_is_word fd_is_word a_pair_letters fd_pair_letters a_pair_letter fd_pair_letter a_side_by_side fd_side_by_side a_sides fd_sides a_read_pair fd_read_pair a__law_box fd__law_box a__law_draw fd__law_draw a__law_word fd__law_word a__law_side fd__law_side a__law_read fd__law_read a__law_words_right fd__law_words_right a__law_all fd__law_all a_law fd_law) : FnG P w K mg base 5 a_side_by_side fd_side_by_side ["letters", "u", "v"] (spD K 3 F_side_by_side) := by
  have G_is_word := ok_is_word (P := P) (w := w) (base := base) T
  have G_pair_letter := ok_pair_letter (P := P) (w := w) (base := base) T
  have sc := sc_side_by_side
  refine fnG_mk' ["letters", "u", "v", "word", "length", "lefts", "rights", "x", "y"] ["letters", "u", "v"] 4 3 9 g_side_by_side rfl rfl P w mg base T.d_side_by_side.F sc (fun cdv A outer s H E hr gd => ?_)
  have tk := takes_of (X := cxOf (L2.CX P w) P w K mg base ["letters", "u", "v", "word", "length", "lefts", "rights", "x", "y"] "side_by_side" (defScope s_side_by_side) a_side_by_side cdv A outer s H E) rfl rfl rfl rfl
  have po := passes_of (X := cxOf (L2.CX P w) P w K mg base ["letters", "u", "v", "word", "length", "lefts", "rights", "x", "y"] "side_by_side" (defScope s_side_by_side) a_side_by_side cdv A outer s H E) rfl
  exact dss_cons (ds_for po rfl (di_seq (de_tup (da_cons (de_var 1) (da_cons (de_var 2) da_nil)))) (dg_name 3 sc.nd) (dss_one (ds_if (dt_not (dt_val (de_call G_is_word (hr.mono (by decide)) gd tk T.d_is_word.g T.d_is_word.F.kp T.d_is_word.b (da_cons (de_var 3) (da_cons (de_var 0) da_nil))))) (dss_one ds_no) dss_nil))) (dss_cons (ds_set 4 (de_callB (call_max2 rfl) den_mx T.z_max bt_max (da_cons (de_callB call_lenA den_len T.z_len PySem.boot_len (da_cons (de_var 1) da_nil)) (da_cons (de_callB call_lenA den_len T.z_len PySem.boot_len (da_cons (de_var 2) da_nil)) da_nil))) sc.nd) (dss_cons (ds_set 5 (de_op op_addA den_add (de_var 1) (de_op op_mulA den_mulA (de_tup (da_cons (de_var 0) da_nil)) (de_op op_sub den_sub (de_var 4) (de_callB call_lenA den_len T.z_len PySem.boot_len (da_cons (de_var 1) da_nil))))) sc.nd) (dss_cons (ds_set 6 (de_op op_addA den_add (de_var 2) (de_op op_mulA den_mulA (de_tup (da_cons (de_var 0) da_nil)) (de_op op_sub den_sub (de_var 4) (de_callB call_lenA den_len T.z_len PySem.boot_len (da_cons (de_var 2) da_nil))))) sc.nd) (dss_one (ds_ret (de_callTy call_tuple_of den_tup T.z_tuple bt_tuple (da_cons (de_lc [("x", 7), ("y", 8)] rfl sc.nd (di_zip T.z_zip (da_cons (de_var 5) (da_cons (de_var 6) da_nil))) (blkOk_by (N := ["letters", "u", "v", "word", "length", "lefts", "rights", "x", "y"]) (sc := defScope s_side_by_side) (by decide +kernel)) (by decide) (fun _ _ _ _ _ => dg_tup rfl (dgs_cons (dg_name 7 sc.nd) (dgs_cons (dg_name 8 sc.nd) dgs_nil))) (fun _ _ _ _ _ => pts_nilD) (fun _ _ _ _ _ => de_call G_pair_letter (hr.mono (by decide)) gd takes0 T.d_pair_letter.g T.d_pair_letter.F.kp T.d_pair_letter.b (da_cons (de_var 0) (da_cons (de_var 7) (da_cons (de_var 8) da_nil))))) da_nil)))))))
theorem ok_sides (T : TX K mg a_is_whole fd_is_whole a_is_number fd_is_number a_is_word fd_is_word a_pair_letters fd_pair_letters a_pair_letter fd_pair_letter a_side_by_side fd_side_by_side a_sides fd_sides a_read_pair fd_read_pair a__law_box fd__law_box a__law_draw fd__law_draw a__law_word fd__law_word a__law_side fd__law_side a__law_read fd__law_read a__law_words_right fd__law_words_right a__law_all fd__law_all a_law fd_law) : FnG P w K mg base 2 a_sides fd_sides ["letters", "row"] (spD K 2 F_sides) := by
  have sc := sc_sides
  refine fnG_mk' ["letters", "row", "parts", "u", "v", "letter", "x", "_", "y"] ["letters", "row"] 1 2 9 g_sides rfl rfl P w mg base T.d_sides.F sc (fun cdv A outer s H E hr gd => ?_)
  have tk := takes_of (X := cxOf (L2.CX P w) P w K mg base ["letters", "row", "parts", "u", "v", "letter", "x", "_", "y"] "sides" (defScope s_sides) a_sides cdv A outer s H E) rfl rfl rfl rfl
  have po := passes_of (X := cxOf (L2.CX P w) P w K mg base ["letters", "row", "parts", "u", "v", "letter", "x", "_", "y"] "sides" (defScope s_sides) a_sides cdv A outer s H E) rfl
  exact dss_cons (ds_setLc 2 [("letter", 5)] rfl sc.nd (di_seq (de_var 1)) (blkOk_by (N := ["letters", "row", "parts", "u", "v", "letter", "x", "_", "y"]) (sc := defScope s_sides) (by decide +kernel)) (by decide) (fun _ _ _ _ _ => dg_name 5 sc.nd) (fun _ _ _ _ _ => pts_nilD) (fun _ _ _ _ _ => de_callB call_divmod den_dm T.z_divmod bt_divmod (da_cons (de_var 5) (da_cons (de_op op_addA den_add (de_var 0) de_int) da_nil))) (sw_true rfl rfl rfl (by decide +kernel))) (dss_cons (ds_set 3 (de_callTy call_tuple_of den_tup T.z_tuple bt_tuple (da_cons (de_lc [("x", 6), ("_", 7)] rfl sc.nd (di_seq (de_var 2)) (blkOk_by (N := ["letters", "row", "parts", "u", "v", "letter", "x", "_", "y"]) (sc := defScope s_sides) (by decide +kernel)) (by decide) (fun _ _ _ _ _ => dg_tup rfl (dgs_cons (dg_name 6 sc.nd) (dgs_cons (dg_name 7 sc.nd) dgs_nil))) (fun _ _ _ _ _ => pts_oneD (dt_cmp (op_ltA hr.u64) den_ltA (de_var 6) (de_var 0))) (fun _ _ _ _ _ => de_var 6)) da_nil)) sc.nd) (dss_cons (ds_set 4 (de_callTy call_tuple_of den_tup T.z_tuple bt_tuple (da_cons (de_lc [("_", 7), ("y", 8)] rfl sc.nd (di_seq (de_var 2)) (blkOk_by (N := ["letters", "row", "parts", "u", "v", "letter", "x", "_", "y"]) (sc := defScope s_sides) (by decide +kernel)) (by decide) (fun _ _ _ _ _ => dg_tup rfl (dgs_cons (dg_name 7 sc.nd) (dgs_cons (dg_name 8 sc.nd) dgs_nil))) (fun _ _ _ _ _ => pts_oneD (dt_cmp (op_ltA hr.u64) den_ltA (de_var 8) (de_var 0))) (fun _ _ _ _ _ => de_var 8)) da_nil)) sc.nd) (dss_one (ds_ret (de_tup (da_cons (de_var 3) (da_cons (de_var 4) da_nil)))))))
theorem ok_read_pair (T : TX K mg a_is_whole fd_is_whole a_is_number fd_is_number a_is_word fd_is_word a_pair_letters fd_pair_letters a_pair_letter fd_pair_letter a_side_by_side fd_side_by_side a_sides fd_sides a_read_pair fd_read_pair a__law_box fd__law_box a__law_draw fd__law_draw a__law_word fd__law_word a__law_side fd__law_side a__law_read fd__law_read a__law_words_right fd__law_words_right a__law_all fd__law_all a_law fd_law) : FnG P w K mg base 6 a_read_pair fd_read_pair ["letters", "row"] (spD K 2 F_read_pair) := by
  have G_is_word := ok_is_word (P := P) (w := w) (base := base) T
  have G_pair_letters := ok_pair_letters (P := P) (w := w) (base := base) T
  have G_side_by_side := ok_side_by_side (P := P) (w := w) (base := base) T
  have G_sides := ok_sides (P := P) (w := w) (base := base) T
  have sc := sc_read_pair
  refine fnG_mk' ["letters", "row", "u", "v"] ["letters", "row"] 5 2 4 g_read_pair rfl rfl P w mg base T.d_read_pair.F sc (fun cdv A outer s H E hr gd => ?_)
  have tk := takes_of (X := cxOf (L2.CX P w) P w K mg base ["letters", "row", "u", "v"] "read_pair" (defScope s_read_pair) a_read_pair cdv A outer s H E) rfl rfl rfl rfl
  have po := passes_of (X := cxOf (L2.CX P w) P w K mg base ["letters", "row", "u", "v"] "read_pair" (defScope s_read_pair) a_read_pair cdv A outer s H E) rfl
  exact dss_cons (ds_if (dt_not (dt_val (de_call G_is_word (hr.mono (by decide)) gd tk T.d_is_word.g T.d_is_word.F.kp T.d_is_word.b (da_cons (de_var 1) (da_cons (de_call G_pair_letters (hr.mono (by decide)) gd tk T.d_pair_letters.g T.d_pair_letters.F.kp T.d_pair_letters.b (da_cons (de_var 0) da_nil)) da_nil))))) (dss_one ds_no) dss_nil) (dss_cons (ds_asg (de_call G_sides (hr.mono (by decide)) gd tk T.d_sides.g T.d_sides.F.kp T.d_sides.b (da_cons (de_var 0) (da_cons (de_var 1) da_nil))) (dg_tup rfl (dgs_cons (dg_name 2 sc.nd) (dgs_cons (dg_name 3 sc.nd) dgs_nil)))) (dss_cons (ds_if (dt_cmp (op_neA hr.u64) den_neA (de_call G_side_by_side (hr.mono (by decide)) gd tk T.d_side_by_side.g T.d_side_by_side.F.kp T.d_side_by_side.b (da_cons (de_var 0) (da_cons (de_var 2) (da_cons (de_var 3) da_nil)))) (de_var 1)) (dss_one (ds_ret de_non)) dss_nil) (dss_one (ds_ret (de_tup (da_cons (de_var 2) (da_cons (de_var 3) da_nil)))))))
theorem ok__law_box (T : TX K mg a_is_whole fd_is_whole a_is_number fd_is_number a_is_word fd_is_word a_pair_letters fd_pair_letters a_pair_letter fd_pair_letter a_side_by_side fd_side_by_side a_sides fd_sides a_read_pair fd_read_pair a__law_box fd__law_box a__law_draw fd__law_draw a__law_word fd__law_word a__law_side fd__law_side a__law_read fd__law_read a__law_words_right fd__law_words_right a__law_all fd__law_all a_law fd_law) : FnG P w K mg base 2 a__law_box fd__law_box ["script"] (spD K 1 F__law_box) := by
  have sc := sc__law_box
  refine fnG_mk' ["script", "cell"] ["script"] 1 1 2 g__law_box rfl rfl P w mg base T.d__law_box.F sc (fun cdv A outer s H E hr gd => ?_)
  have tk := takes_of (X := cxOf (L2.CX P w) P w K mg base ["script", "cell"] "_law_box" (defScope s__law_box) a__law_box cdv A outer s H E) rfl rfl rfl rfl
  have po := passes_of (X := cxOf (L2.CX P w) P w K mg base ["script", "cell"] "_law_box" (defScope s__law_box) a__law_box cdv A outer s H E) rfl
  exact dss_one (ds_ret (de_lst (da_cons (de_lc [("cell", 1)] rfl sc.nd (di_seq (de_var 0)) (blkOk_by (N := ["script", "cell"]) (sc := defScope s__law_box) (by decide +kernel)) (by decide) (fun _ _ _ _ _ => dg_name 1 sc.nd) (fun _ _ _ _ _ => pts_nilD) (fun _ _ _ _ _ => de_callTy call_int1 den_int T.z_int bt_int (da_cons (de_var 1) da_nil))) (da_cons de_int (da_cons de_int (da_cons de_int da_nil))))))
theorem ok__law_draw (T : TX K mg a_is_whole fd_is_whole a_is_number fd_is_number a_is_word fd_is_word a_pair_letters fd_pair_letters a_pair_letter fd_pair_letter a_side_by_side fd_side_by_side a_sides fd_sides a_read_pair fd_read_pair a__law_box fd__law_box a__law_draw fd__law_draw a__law_word fd__law_word a__law_side fd__law_side a__law_read fd__law_read a__law_words_right fd__law_words_right a__law_all fd__law_all a_law fd_law) : FnG P w K mg base 2 a__law_draw fd__law_draw ["box", "limit"] (spD K 2 F__law_draw) := by
  have sc := sc__law_draw
  refine fnG_mk' ["box", "limit", "cells", "k", "digit", "cell", "mixed"] ["box", "limit"] 1 2 7 g__law_draw rfl rfl P w mg base T.d__law_draw.F sc (fun cdv A outer s H E hr gd => ?_)
  have tk := takes_of (X := cxOf (L2.CX P w) P w K mg base ["box", "limit", "cells", "k", "digit", "cell", "mixed"] "_law_draw" (defScope s__law_draw) a__law_draw cdv A outer s H E) rfl rfl rfl rfl
  have po := passes_of (X := cxOf (L2.CX P w) P w K mg base ["box", "limit", "cells", "k", "digit", "cell", "mixed"] "_law_draw" (defScope s__law_draw) a__law_draw cdv A outer s H E) rfl
  exact dss_cons (ds_set 2 (de_ix ix_seq den_ix (de_var 0) de_int) sc.nd) (dss_cons (ds_sub set_list den_set (de_op op_addA den_add (de_ix ix_seq den_ix (de_var 0) de_int) de_int) (de_var 0) de_int) (dss_cons (ds_for po rfl (di_range1 T.z_range (da_cons (de_callB call_lenA den_len T.z_len PySem.boot_len (da_cons (de_var 2) da_nil)) da_nil)) (dg_name 3 sc.nd) (dss_one (ds_if (dt_w (dw_and (dt_cmp (op_eqA hr.u64) den_eqA (de_ix ix_seq den_ix (de_var 0) de_int) de_int) (dw_and1 (dt_cmp (op_ltA hr.u64) den_ltA (de_ix ix_seq den_ix (de_var 0) de_int) (de_callB call_lenA den_len T.z_len PySem.boot_len (da_cons (de_var 2) da_nil)))))) (dss_cons (ds_if (dt_cmp op_ge den_geI (de_callB call_abs den_abs T.z_abs bt_abs (da_cons (de_ix ix_seq den_ix (de_var 2) (de_ix ix_seq den_ix (de_var 0) de_int)) da_nil)) (de_op op_pow den_pow de_int de_int)) (dss_one (ds_sub set_list den_set (de_callB call_abs den_abs T.z_abs bt_abs (da_cons (de_ix ix_seq den_ix (de_var 2) (de_ix ix_seq den_ix (de_var 0) de_int)) da_nil)) (de_var 0) de_int)) dss_nil) (dss_one (ds_sub set_list den_set (de_op op_addA den_add (de_ix ix_seq den_ix (de_var 0) de_int) de_int) (de_var 0) de_int))) (dss_one ds_break)))) (dss_cons (ds_if (dt_cmp op_gt den_gtI (de_ix ix_seq den_ix (de_var 0) de_int) de_int) (dss_cons (ds_set 4 (de_op op_mod den_mod (de_callTy call_int1 den_int T.z_int bt_int (da_cons (de_ix ix_seq den_ix (de_var 0) de_int) da_nil)) (de_var 1)) sc.nd) (dss_cons (ds_sub set_list den_set (de_op op_fdiv den_div (de_ix ix_seq den_ix (de_var 0) de_int) (de_var 1)) (de_var 0) de_int) (dss_one (ds_ret (de_var 4))))) dss_nil) (dss_cons (ds_set 5 de_int sc.nd) (dss_cons (ds_if (dt_cmp op_gt den_gtI (de_callB call_lenA den_len T.z_len PySem.boot_len (da_cons (de_var 2) da_nil)) de_int) (dss_one (ds_set 5 (de_callB call_abs den_abs T.z_abs bt_abs (da_cons (de_ix ix_seq den_ix (de_var 2) (de_op op_mod den_mod (de_callTy call_int1 den_int T.z_int bt_int (da_cons (de_ix ix_seq den_ix (de_var 0) de_int) da_nil)) (de_callB call_lenA den_len T.z_len PySem.boot_len (da_cons (de_var 2) da_nil)))) da_nil)) sc.nd)) dss_nil) (dss_cons (ds_set 6 (de_op op_mod den_mod (de_callTy call_int1 den_int T.z_int bt_int (da_cons (de_op op_addA den_add (de_op op_addA den_add (de_op op_mulA den_mulA (de_var 5) de_int) (de_op op_mulA den_mulA (de_ix ix_seq den_ix (de_var 0) de_int) de_int)) de_int) da_nil)) de_int) sc.nd) (dss_cons (ds_set 6 (de_op op_mod den_mod (de_callTy call_int1 den_int T.z_int bt_int (da_cons (de_op op_addA den_add (de_op op_addA den_add (de_op op_mulA den_mulA (de_var 6) (de_var 6)) (de_op op_mulA den_mulA (de_ix ix_seq den_ix (de_var 0) de_int) de_int)) (de_var 5)) da_nil)) de_int) sc.nd) (dss_cons (ds_set 6 (de_op op_mod den_mod (de_callTy call_int1 den_int T.z_int bt_int (da_cons (de_op op_addA den_add (de_op op_addA den_add (de_op op_mulA den_mulA (de_op op_mulA den_mulA (de_var 6) (de_var 6)) de_int) (de_op op_fdiv den_div (de_var 5) de_int)) de_int) da_nil)) de_int) sc.nd) (dss_one (ds_ret (de_op op_mod den_mod (de_callTy call_int1 den_int T.z_int bt_int (da_cons (de_op op_fdiv den_div (de_var 6) de_int) da_nil)) (de_var 1))))))))))))
theorem ok__law_word (T : TX K mg a_is_whole fd_is_whole a_is_number fd_is_number a_is_word fd_is_word a_pair_letters fd_pair_letters a_pair_letter fd_pair_letter a_side_by_side fd_side_by_side a_sides fd_sides a_read_pair fd_read_pair a__law_box fd__law_box a__law_draw fd__law_draw a__law_word fd__law_word a__law_side fd__law_side a__law_read fd__law_read a__law_words_right fd__law_words_right a__law_all fd__law_all a_law fd_law) : FnG P w K mg base 3 a__law_word fd__law_word ["box", "letters", "most"] (spD K 3 F__law_word) := by
  have G__law_draw := ok__law_draw (P := P) (w := w) (base := base) T
  have sc := sc__law_word
  refine fnG_mk' ["box", "letters", "most", "k"] ["box", "letters", "most"] 2 3 4 g__law_word rfl rfl P w mg base T.d__law_word.F sc (fun cdv A outer s H E hr gd => ?_)
  have tk := takes_of (X := cxOf (L2.CX P w) P w K mg base ["box", "letters", "most", "k"] "_law_word" (defScope s__law_word) a__law_word cdv A outer s H E) rfl rfl rfl rfl
  have po := passes_of (X := cxOf (L2.CX P w) P w K mg base ["box", "letters", "most", "k"] "_law_word" (defScope s__law_word) a__law_word cdv A outer s H E) rfl
  exact dss_one (ds_ret (de_callTy call_tuple_of den_tup T.z_tuple bt_tuple (da_cons (de_lc [("k", 3)] rfl sc.nd (di_range1 T.z_range (da_cons (de_call G__law_draw (hr.mono (by decide)) gd tk T.d__law_draw.g T.d__law_draw.F.kp T.d__law_draw.b (da_cons (de_var 0) (da_cons (de_op op_addA den_add (de_var 2) de_int) da_nil))) da_nil)) (blkOk_by (N := ["box", "letters", "most", "k"]) (sc := defScope s__law_word) (by decide +kernel)) (by decide) (fun _ _ _ _ _ => dg_name 3 sc.nd) (fun _ _ _ _ _ => pts_nilD) (fun _ _ _ _ _ => de_call G__law_draw (hr.mono (by decide)) gd takes0 T.d__law_draw.g T.d__law_draw.F.kp T.d__law_draw.b (da_cons (de_var 0) (da_cons (de_var 1) da_nil)))) da_nil)))
theorem ok__law_side (T : TX K mg a_is_whole fd_is_whole a_is_number fd_is_number a_is_word fd_is_word a_pair_letters fd_pair_letters a_pair_letter fd_pair_letter a_side_by_side fd_side_by_side a_sides fd_sides a_read_pair fd_read_pair a__law_box fd__law_box a__law_draw fd__law_draw a__law_word fd__law_word a__law_side fd__law_side a__law_read fd__law_read a__law_words_right fd__law_words_right a__law_all fd__law_all a_law fd_law) : FnG P w K mg base 2 a__law_side fd__law_side ["letters", "u", "v"] (spD K 3 F__law_side) := by
  have sc := sc__law_side
  refine fnG_mk' ["letters", "u", "v", "row", "k", "x", "y"] ["letters", "u", "v"] 1 3 7 g__law_side rfl rfl P w mg base T.d__law_side.F sc (fun cdv A outer s H E hr gd => ?_)
  have tk := takes_of (X := cxOf (L2.CX P w) P w K mg base ["letters", "u", "v", "row", "k", "x", "y"] "_law_side" (defScope s__law_side) a__law_side cdv A outer s H E) rfl rfl rfl rfl
  have po := passes_of (X := cxOf (L2.CX P w) P w K mg base ["letters", "u", "v", "row", "k", "x", "y"] "_law_side" (defScope s__law_side) a__law_side cdv A outer s H E) rfl
  exact dss_cons (ds_set 3 (de_lst da_nil) sc.nd) (dss_cons (ds_for po rfl (di_range1 T.z_range (da_cons (de_callB (call_max2 rfl) den_mx T.z_max bt_max (da_cons (de_callB call_lenA den_len T.z_len PySem.boot_len (da_cons (de_var 1) da_nil)) (da_cons (de_callB call_lenA den_len T.z_len PySem.boot_len (da_cons (de_var 2) da_nil)) da_nil))) da_nil)) (dg_name 4 sc.nd) (dss_cons (ds_set 5 (de_var 0) sc.nd) (dss_cons (ds_set 6 (de_var 0) sc.nd) (dss_cons (ds_if (dt_cmp (op_ltA hr.u64) den_ltA (de_var 4) (de_callB call_lenA den_len T.z_len PySem.boot_len (da_cons (de_var 1) da_nil))) (dss_one (ds_set 5 (de_ix ix_seq den_ix (de_var 1) (de_var 4)) sc.nd)) dss_nil) (dss_cons (ds_if (dt_cmp (op_ltA hr.u64) den_ltA (de_var 4) (de_callB call_lenA den_len T.z_len PySem.boot_len (da_cons (de_var 2) da_nil))) (dss_one (ds_set 6 (de_ix ix_seq den_ix (de_var 2) (de_var 4)) sc.nd)) dss_nil) (dss_one (ds_expr (de_methL PySem.F.slot_list_append PySem.F.type_list_append mt_append den_append (de_var 3) (da_cons (de_op op_addA den_add (de_op op_mulA den_mulA (de_var 5) (de_op op_addA den_add (de_var 0) de_int)) (de_var 6)) da_nil))))))))) (dss_one (ds_ret (de_callTy call_tuple_of den_tup T.z_tuple bt_tuple (da_cons (de_var 3) da_nil)))))
theorem ok__law_read (T : TX K mg a_is_whole fd_is_whole a_is_number fd_is_number a_is_word fd_is_word a_pair_letters fd_pair_letters a_pair_letter fd_pair_letter a_side_by_side fd_side_by_side a_sides fd_sides a_read_pair fd_read_pair a__law_box fd__law_box a__law_draw fd__law_draw a__law_word fd__law_word a__law_side fd__law_side a__law_read fd__law_read a__law_words_right fd__law_words_right a__law_all fd__law_all a_law fd_law) : FnG P w K mg base 3 a__law_read fd__law_read ["letters", "row"] (spD K 2 F__law_read) := by
  have G__law_side := ok__law_side (P := P) (w := w) (base := base) T
  have sc := sc__law_read
  refine fnG_mk' ["letters", "row", "u", "v", "z", "x", "y"] ["letters", "row"] 2 2 7 g__law_read rfl rfl P w mg base T.d__law_read.F sc (fun cdv A outer s H E hr gd => ?_)
  have tk := takes_of (X := cxOf (L2.CX P w) P w K mg base ["letters", "row", "u", "v", "z", "x", "y"] "_law_read" (defScope s__law_read) a__law_read cdv A outer s H E) rfl rfl rfl rfl
  have po := passes_of (X := cxOf (L2.CX P w) P w K mg base ["letters", "row", "u", "v", "z", "x", "y"] "_law_read" (defScope s__law_read) a__law_read cdv A outer s H E) rfl
  exact dss_cons (ds_set 2 (de_lst da_nil) sc.nd) (dss_cons (ds_set 3 (de_lst da_nil) sc.nd) (dss_cons (ds_for po rfl (di_seq (de_var 1)) (dg_name 4 sc.nd) (dss_cons (ds_set 5 (de_op op_fdiv den_div (de_var 4) (de_op op_addA den_add (de_var 0) de_int)) sc.nd) (dss_cons (ds_set 6 (de_op op_mod den_mod (de_callTy call_int1 den_int T.z_int bt_int (da_cons (de_var 4) da_nil)) (de_op op_addA den_add (de_var 0) de_int)) sc.nd) (dss_cons (ds_if (dt_w (dw_or (dt_w (dw_and (dt_cmp (op_ltA hr.u64) den_ltA (de_var 5) (de_var 0)) (dw_and1 (dt_cmp (op_ltA hr.u64) den_ltA (de_callB call_lenA den_len T.z_len PySem.boot_len (da_cons (de_var 2) da_nil)) (de_callB call_lenA den_len T.z_len PySem.boot_len (da_cons (de_var 3) da_nil)))))) (dw_or1 (dt_w (dw_and (dt_cmp (op_ltA hr.u64) den_ltA (de_var 6) (de_var 0)) (dw_and1 (dt_cmp (op_ltA hr.u64) den_ltA (de_callB call_lenA den_len T.z_len PySem.boot_len (da_cons (de_var 3) da_nil)) (de_callB call_lenA den_len T.z_len PySem.boot_len (da_cons (de_var 2) da_nil))))))))) (dss_one (ds_ret de_non)) dss_nil) (dss_cons (ds_if (dt_cmp (op_ltA hr.u64) den_ltA (de_var 5) (de_var 0)) (dss_one (ds_expr (de_methL PySem.F.slot_list_append PySem.F.type_list_append mt_append den_append (de_var 2) (da_cons (de_var 5) da_nil)))) dss_nil) (dss_cons (ds_if (dt_cmp (op_ltA hr.u64) den_ltA (de_var 6) (de_var 0)) (dss_one (ds_expr (de_methL PySem.F.slot_list_append PySem.F.type_list_append mt_append den_append (de_var 3) (da_cons (de_var 6) da_nil)))) dss_nil) (dss_one (ds_if (dt_w (dw_and (dt_cmp (op_eqA hr.u64) den_eqA (de_callB call_lenA den_len T.z_len PySem.boot_len (da_cons (de_var 2) da_nil)) (de_callB call_lenA den_len T.z_len PySem.boot_len (da_cons (de_var 3) da_nil))) (dw_and1 (dt_w (dw_or (dt_cmp (op_eqA hr.u64) den_eqA (de_var 5) (de_var 0)) (dw_or1 (dt_cmp (op_eqA hr.u64) den_eqA (de_var 6) (de_var 0)))))))) (dss_one (ds_ret de_non)) dss_nil)))))))) (dss_cons (ds_if (dt_cmp (op_neA hr.u64) den_neA (de_call G__law_side (hr.mono (by decide)) gd tk T.d__law_side.g T.d__law_side.F.kp T.d__law_side.b (da_cons (de_var 0) (da_cons (de_callTy call_tuple_of den_tup T.z_tuple bt_tuple (da_cons (de_var 2) da_nil)) (da_cons (de_callTy call_tuple_of den_tup T.z_tuple bt_tuple (da_cons (de_var 3) da_nil)) da_nil)))) (de_callTy call_tuple_of den_tup T.z_tuple bt_tuple (da_cons (de_var 1) da_nil))) (dss_one (ds_ret de_non)) dss_nil) (dss_one (ds_ret (de_tup (da_cons (de_callTy call_tuple_of den_tup T.z_tuple bt_tuple (da_cons (de_var 2) da_nil)) (da_cons (de_callTy call_tuple_of den_tup T.z_tuple bt_tuple (da_cons (de_var 3) da_nil)) da_nil))))))))
theorem ok__law_words_right (T : TX K mg a_is_whole fd_is_whole a_is_number fd_is_number a_is_word fd_is_word a_pair_letters fd_pair_letters a_pair_letter fd_pair_letter a_side_by_side fd_side_by_side a_sides fd_sides a_read_pair fd_read_pair a__law_box fd__law_box a__law_draw fd__law_draw a__law_word fd__law_word a__law_side fd__law_side a__law_read fd__law_read a__law_words_right fd__law_words_right a__law_all fd__law_all a_law fd_law) : FnG P w K mg base 7 a__law_words_right fd__law_words_right ["box", "letters"] (spD K 2 F__law_words_right) := by
  have G_side_by_side := ok_side_by_side (P := P) (w := w) (base := base) T
  have G_read_pair := ok_read_pair (P := P) (w := w) (base := base) T
  have G__law_draw := ok__law_draw (P := P) (w := w) (base := base) T
  have G__law_word := ok__law_word (P := P) (w := w) (base := base) T
  have G__law_side := ok__law_side (P := P) (w := w) (base := base) T
  have G__law_read := ok__law_read (P := P) (w := w) (base := base) T
  have sc := sc__law_words_right
  refine fnG_mk' ["box", "letters", "u", "v", "due", "row", "drawn", "one"] ["box", "letters"] 6 2 8 g__law_words_right rfl rfl P w mg base T.d__law_words_right.F sc (fun cdv A outer s H E hr gd => ?_)
  have tk := takes_of (X := cxOf (L2.CX P w) P w K mg base ["box", "letters", "u", "v", "due", "row", "drawn", "one"] "_law_words_right" (defScope s__law_words_right) a__law_words_right cdv A outer s H E) rfl rfl rfl rfl
  have po := passes_of (X := cxOf (L2.CX P w) P w K mg base ["box", "letters", "u", "v", "due", "row", "drawn", "one"] "_law_words_right" (defScope s__law_words_right) a__law_words_right cdv A outer s H E) rfl
  exact dss_cons (ds_set 2 (de_call G__law_word (hr.mono (by decide)) gd tk T.d__law_word.g T.d__law_word.F.kp T.d__law_word.b (da_cons (de_var 0) (da_cons (de_var 1) (da_cons (de_ix ix_seq den_ix (de_lst (da_cons de_int (da_cons de_int (da_cons de_int da_nil)))) (de_call G__law_draw (hr.mono (by decide)) gd tk T.d__law_draw.g T.d__law_draw.F.kp T.d__law_draw.b (da_cons (de_var 0) (da_cons de_int da_nil)))) da_nil)))) sc.nd) (dss_cons (ds_set 3 (de_call G__law_word (hr.mono (by decide)) gd tk T.d__law_word.g T.d__law_word.F.kp T.d__law_word.b (da_cons (de_var 0) (da_cons (de_var 1) (da_cons (de_ix ix_seq den_ix (de_lst (da_cons de_int (da_cons de_int (da_cons de_int da_nil)))) (de_call G__law_draw (hr.mono (by decide)) gd tk T.d__law_draw.g T.d__law_draw.F.kp T.d__law_draw.b (da_cons (de_var 0) (da_cons de_int da_nil)))) da_nil)))) sc.nd) (dss_cons (ds_if (dt_cmp (op_eqA hr.u64) den_eqA (de_call G__law_draw (hr.mono (by decide)) gd tk T.d__law_draw.g T.d__law_draw.F.kp T.d__law_draw.b (da_cons (de_var 0) (da_cons de_int da_nil))) de_int) (dss_one (ds_set 3 (de_slice sl_all den_slice (de_var 2) do_none (do_some (de_call G__law_draw (hr.mono (by decide)) gd tk T.d__law_draw.g T.d__law_draw.F.kp T.d__law_draw.b (da_cons (de_var 0) (da_cons (de_op op_addA den_add (de_callB call_lenA den_len T.z_len PySem.boot_len (da_cons (de_var 2) da_nil)) de_int) da_nil))))) sc.nd)) dss_nil) (dss_cons (ds_set 4 (de_call G__law_side (hr.mono (by decide)) gd tk T.d__law_side.g T.d__law_side.F.kp T.d__law_side.b (da_cons (de_var 1) (da_cons (de_var 2) (da_cons (de_var 3) da_nil)))) sc.nd) (dss_cons (ds_if (dt_w (dw_or (dt_cmp (op_neA hr.u64) den_neA (de_callB (call_repr gd hr.u65) den_repr T.z_repr bt_repr (da_cons (de_call G_side_by_side (hr.mono (by decide)) gd tk T.d_side_by_side.g T.d_side_by_side.F.kp T.d_side_by_side.b (da_cons (de_var 1) (da_cons (de_var 2) (da_cons (de_var 3) da_nil)))) da_nil)) (de_callB (call_repr gd hr.u65) den_repr T.z_repr bt_repr (da_cons (de_var 4) da_nil))) (dw_or1 (dt_cmp (op_neA hr.u64) den_neA (de_callB (call_repr gd hr.u65) den_repr T.z_repr bt_repr (da_cons (de_callK ["v", "u", "letters"] [2, 1, 0] G_side_by_side (hr.mono (by decide)) gd tk T.d_side_by_side.g T.d_side_by_side.F.kp T.k_side_by_side_v_u_letters (dk_cons (de_var 3) (dk_cons (de_var 2) (dk_cons (de_var 1) dk_nil)))) da_nil)) (de_callB (call_repr gd hr.u65) den_repr T.z_repr bt_repr (da_cons (de_var 4) da_nil)))))) (dss_one (ds_ret de_bl)) dss_nil) (dss_cons (ds_if (dt_w (dw_or (dt_cmp (op_neA hr.u64) den_neA (de_callB (call_repr gd hr.u65) den_repr T.z_repr bt_repr (da_cons (de_call G_read_pair (hr.mono (by decide)) gd tk T.d_read_pair.g T.d_read_pair.F.kp T.d_read_pair.b (da_cons (de_var 1) (da_cons (de_var 4) da_nil))) da_nil)) (de_callB (call_repr gd hr.u65) den_repr T.z_repr bt_repr (da_cons (de_tup (da_cons (de_var 2) (da_cons (de_var 3) da_nil))) da_nil))) (dw_or1 (dt_cmp (op_neA hr.u64) den_neA (de_callB (call_repr gd hr.u65) den_repr T.z_repr bt_repr (da_cons (de_callK ["row", "letters"] [1, 0] G_read_pair (hr.mono (by decide)) gd tk T.d_read_pair.g T.d_read_pair.F.kp T.k_read_pair_row_letters (dk_cons (de_var 4) (dk_cons (de_var 1) dk_nil))) da_nil)) (de_callB (call_repr gd hr.u65) den_repr T.z_repr bt_repr (da_cons (de_tup (da_cons (de_var 2) (da_cons (de_var 3) da_nil))) da_nil)))))) (dss_one (ds_ret de_bl)) dss_nil) (dss_cons (ds_set 5 (de_callTy call_list_of den_lst T.z_list bt_list (da_cons (de_slice sl_all den_slice (de_var 4) do_none (do_some de_int)) da_nil)) sc.nd) (dss_cons (ds_if (dt_cmp op_gt den_gtI (de_callB call_lenA den_len T.z_len PySem.boot_len (da_cons (de_var 5) da_nil)) de_int) (dss_one (ds_sub set_list den_set (de_call G__law_draw (hr.mono (by decide)) gd tk T.d__law_draw.g T.d__law_draw.F.kp T.d__law_draw.b (da_cons (de_var 0) (da_cons (de_op op_sub den_sub (de_op op_mulA den_mulA (de_op op_addA den_add (de_var 1) de_int) (de_op op_addA den_add (de_var 1) de_int)) de_int) da_nil))) (de_var 5) (de_call G__law_draw (hr.mono (by decide)) gd tk T.d__law_draw.g T.d__law_draw.F.kp T.d__law_draw.b (da_cons (de_var 0) (da_cons (de_callB call_lenA den_len T.z_len PySem.boot_len (da_cons (de_var 5) da_nil)) da_nil))))) dss_nil) (dss_cons (ds_set 6 (de_call G__law_word (hr.mono (by decide)) gd tk T.d__law_word.g T.d__law_word.F.kp T.d__law_word.b (da_cons (de_var 0) (da_cons (de_op op_sub den_sub (de_op op_mulA den_mulA (de_op op_addA den_add (de_var 1) de_int) (de_op op_addA den_add (de_var 1) de_int)) de_int) (da_cons de_int da_nil)))) sc.nd) (dss_cons (ds_for po rfl (di_seq (de_lst (da_cons (de_callTy call_tuple_of den_tup T.z_tuple bt_tuple (da_cons (de_var 5) da_nil)) (da_cons (de_var 6) (da_cons (de_op op_addA den_add (de_callTy call_tuple_of den_tup T.z_tuple bt_tuple (da_cons (de_var 5) da_nil)) (de_var 6)) da_nil))))) (dg_name 7 sc.nd) (dss_one (ds_if (dt_cmp (op_neA hr.u64) den_neA (de_callB (call_repr gd hr.u65) den_repr T.z_repr bt_repr (da_cons (de_call G_read_pair (hr.mono (by decide)) gd tk T.d_read_pair.g T.d_read_pair.F.kp T.d_read_pair.b (da_cons (de_var 1) (da_cons (de_var 7) da_nil))) da_nil)) (de_callB (call_repr gd hr.u65) den_repr T.z_repr bt_repr (da_cons (de_call G__law_read (hr.mono (by decide)) gd tk T.d__law_read.g T.d__law_read.F.kp T.d__law_read.b (da_cons (de_var 1) (da_cons (de_var 7) da_nil))) da_nil))) (dss_one (ds_ret de_bl)) dss_nil))) (dss_one (ds_ret de_bl)))))))))))
theorem ok__law_all (T : TX K mg a_is_whole fd_is_whole a_is_number fd_is_number a_is_word fd_is_word a_pair_letters fd_pair_letters a_pair_letter fd_pair_letter a_side_by_side fd_side_by_side a_sides fd_sides a_read_pair fd_read_pair a__law_box fd__law_box a__law_draw fd__law_draw a__law_word fd__law_word a__law_side fd__law_side a__law_read fd__law_read a__law_words_right fd__law_words_right a__law_all fd__law_all a_law fd_law) : FnG P w K mg base 8 a__law_all fd__law_all ["script"] (spD K 1 F__law_all) := by
  have G_side_by_side := ok_side_by_side (P := P) (w := w) (base := base) T
  have G_read_pair := ok_read_pair (P := P) (w := w) (base := base) T
  have G__law_box := ok__law_box (P := P) (w := w) (base := base) T
  have G__law_words_right := ok__law_words_right (P := P) (w := w) (base := base) T
  have sc := sc__law_all
  refine fnG_mk' ["script", "box", "k"] ["script"] 7 1 3 g__law_all rfl rfl P w mg base T.d__law_all.F sc (fun cdv A outer s H E hr gd => ?_)
  have tk := takes_of (X := cxOf (L2.CX P w) P w K mg base ["script", "box", "k"] "_law_all" (defScope s__law_all) a__law_all cdv A outer s H E) rfl rfl rfl rfl
  have po := passes_of (X := cxOf (L2.CX P w) P w K mg base ["script", "box", "k"] "_law_all" (defScope s__law_all) a__law_all cdv A outer s H E) rfl
  exact dss_cons (ds_set 1 (de_call G__law_box (hr.mono (by decide)) gd tk T.d__law_box.g T.d__law_box.F.kp T.d__law_box.b (da_cons (de_var 0) da_nil)) sc.nd) (dss_cons (ds_for po rfl (di_range1 T.z_range (da_cons de_int da_nil)) (dg_name 2 sc.nd) (dss_one (ds_if (dt_not (dt_val (de_call G__law_words_right (hr.mono (by decide)) gd tk T.d__law_words_right.g T.d__law_words_right.F.kp T.d__law_words_right.b (da_cons (de_var 1) (da_cons (de_op op_addA den_add de_int (de_op op_mod den_mod (de_callTy call_int1 den_int T.z_int bt_int (da_cons (de_var 2) da_nil)) de_int)) da_nil))))) (dss_one (ds_ret de_bl)) dss_nil))) (dss_one (ds_ret (de_and (de_cmp (op_eqA hr.u64) den_eqA (de_callB (call_repr gd hr.u65) den_repr T.z_repr bt_repr (da_cons (de_call G_side_by_side (hr.mono (by decide)) gd tk T.d_side_by_side.g T.d_side_by_side.F.kp T.d_side_by_side.b (da_cons de_int (da_cons (de_tup da_nil) (da_cons (de_tup da_nil) da_nil)))) da_nil)) (de_callB (call_repr gd hr.u65) den_repr T.z_repr bt_repr (da_cons (de_tup da_nil) da_nil))) (de_and1 (de_cmp (op_eqA hr.u64) den_eqA (de_callB (call_repr gd hr.u65) den_repr T.z_repr bt_repr (da_cons (de_call G_read_pair (hr.mono (by decide)) gd tk T.d_read_pair.g T.d_read_pair.F.kp T.d_read_pair.b (da_cons de_int (da_cons (de_tup da_nil) da_nil))) da_nil)) (de_callB (call_repr gd hr.u65) den_repr T.z_repr bt_repr (da_cons (de_tup (da_cons (de_tup da_nil) (da_cons (de_tup da_nil) da_nil))) da_nil))))))))
theorem ok_law (T : TX K mg a_is_whole fd_is_whole a_is_number fd_is_number a_is_word fd_is_word a_pair_letters fd_pair_letters a_pair_letter fd_pair_letter a_side_by_side fd_side_by_side a_sides fd_sides a_read_pair fd_read_pair a__law_box fd__law_box a__law_draw fd__law_draw a__law_word fd__law_word a__law_side fd__law_side a__law_read fd__law_read a__law_words_right fd__law_words_right a__law_all fd__law_all a_law fd_law) : FnG P w K mg base 9 a_law fd_law ["script"] (spD K 1 F_law) := by
  have G__law_all := ok__law_all (P := P) (w := w) (base := base) T
  have sc := sc_law
  refine fnG_mk' ["script"] ["script"] 8 1 1 g_law rfl rfl P w mg base T.d_law.F sc (fun cdv A outer s H E hr gd => ?_)
  have tk := takes_of (X := cxOf (L2.CX P w) P w K mg base ["script"] "law" (defScope s_law) a_law cdv A outer s H E) rfl rfl rfl rfl
  have po := passes_of (X := cxOf (L2.CX P w) P w K mg base ["script"] "law" (defScope s_law) a_law cdv A outer s H E) rfl
  exact dss_one (ds_tryThru (dss_one (ds_ret (de_call G__law_all (hr.mono (by decide)) gd takes0 T.d__law_all.g T.d__law_all.F.kp T.d__law_all.b (da_cons (de_var 0) da_nil)))))
end
end KK

namespace KK
open PySem PySem.Spec PyProof.Rows L2 DL
open Classical
theorem atI0 {β : Type} {a : β} {l : List β} : L2.atI (a :: l) 0 = some a := by rw [atI_pos (by decide)]; rfl
theorem atI1 {β : Type} {a b : β} {l : List β} : L2.atI (a :: b :: l) 1 = some b := by rw [atI_pos (by decide)]; rfl
theorem atI2 {β : Type} {a b c : β} {l : List β} : L2.atI (a :: b :: c :: l) 2 = some c := by rw [atI_pos (by decide)]; rfl
theorem atI3 {β : Type} {a b c d : β} {l : List β} : L2.atI (a :: b :: c :: d :: l) 3 = some d := by rw [atI_pos (by decide)]; rfl
theorem ix41 : L2.ixN 4 1 = some 1 := rfl
theorem ix42 : L2.ixN 4 2 = some 2 := rfl
theorem ix43 : L2.ixN 4 3 = some 3 := rfl
local macro_rules | `(tactic| walk_at "dw") => `(tactic| simp only [ws_seq, ws_nil, ws_retN, ws_bk, ws_ct, ws_expr, ws_ret, ws_set, ws_if, ws_asg, ws_sub, ws_aug, ws_for, ws_thru, wv_var, wv_lit, wv_bin, wv_un, wv_nil, wv_cons, wv_args, wv_test, wv_asB, wv_and, wv_or, wv_not, wv_andV, wv_orV, wv_notV, wv_if, wv_chain,
  wv_noPart, wv_part, wv_asI, wv_slice, wv_mkTup, wv_mkLst, wv_methL, wsr_args, wsr_range1, wsr_range2, wsr_seq, wsr_tup, wv_lc, wpx_ret, wpx_optM,
  vv_add_int, vv_add_tup, vv_sub, vv_mul, vv_mulA_int, vv_div, vv_mod, vv_pow, vv_neg, vv_gt, vv_ge, vv_le, vv_lt, vv_eq_int, vv_ne_int, eqA_int, neA_int, eqA_bl, neA_bl, eqA_tup, neA_tup, eqA_cell, neA_cell, eqA_non, neA_non, vv_eqA_str, vv_neA_str, vv_eq_bl, vv_ne_bl, vv_ix_tup, vv_ix_cell, vv_set, vv_len_tup, vv_len_cell, vv_abs, vv_int_int, vv_int_bl, vv_tup_tup, vv_tup_cell, vv_lst_tup, vv_lst_cell, vv_slice_tup,
  and_true, true_and, and_self, Cell.lst.injEq, items_lst, items_rls, vv_append, vv_isL, Option.some.injEq, exists_eq_left', exists_eq_left, List.map_cons, List.map_nil, List.length_cons, List.length_nil, List.length_map, List.replicate, List.cons_append, List.nil_append, List.getElem?_cons_zero, List.getElem?_cons_succ, List.set_cons_zero, List.set_cons_succ, bindT, atI0, atI1, atI2, atI3, ix41, ix42, ix43, Nat.reduceAdd, Nat.reduceSub, List.set_set, decide_true, decide_false, if_true, if_false, Bool.false_eq_true, decide_eq_true_eq, *])
/-! ### the box of draws: cell 2, its numbers in cell 1 -/
def box (i1 i2 i3 : Int) : Cell := .lst [.cell 1, .int i1, .int i2, .int i3]
structure Bx (ns : List Int) (S : Store) : Prop where
  few : ns.length ≤ 63
  c1 : S[1]? = some (.lst (ns.map PV.int))
  c2 : ∃ i1 i2 i3, 0 ≤ i3 ∧ S[2]? = some (box i1 i2 i3)
/-- all but the box stands; there may be more -/
structure Frm (S S' : Store) : Prop where
  len : S.length ≤ S'.length
  stay : ∀ (n : Nat), n ≠ 2 → n < S.length → S'[n]? = S[n]?
theorem Frm.refl (S : Store) : Frm S S := ⟨Nat.le_refl _, fun _ _ _ => rfl⟩
theorem Frm.trans {S S1 S2 : Store} (a : Frm S S1) (b : Frm S1 S2) : Frm S S2 := ⟨Nat.le_trans a.len b.len, fun n h1 h2 => (b.stay n h1 (Nat.lt_of_lt_of_le h2 a.len)).trans (a.stay n h1 h2)⟩
theorem Frm.get {S S' : Store} (a : Frm S S') {n : Nat} {c : Cell} (h : n ≠ 2) (e : S[n]? = some c) : S'[n]? = some c := (a.stay n h (List.getElem?_eq_some_iff.mp e).1).trans e
theorem Frm.snoc (S : Store) (c : Cell) : Frm S (S ++ [c]) := ⟨by simp, fun n _ h => List.getElem?_append_left h⟩
theorem Frm.box (S : Store) (c : Cell) : Frm S (S.set 2 c) := ⟨by simp, fun n h _ => List.getElem?_set_ne (Ne.symm h)⟩
theorem Bx.snoc {ns : List Int} {S : Store} (b : Bx ns S) (c : Cell) : Bx ns (S ++ [c]) := by
  obtain ⟨f, h1, i1, i2, i3, h3, h2⟩ := b
  refine ⟨f, ?_, i1, i2, i3, h3, ?_⟩
  · rw [List.getElem?_append_left (List.getElem?_eq_some_iff.mp h1).1]; exact h1
  · rw [List.getElem?_append_left (List.getElem?_eq_some_iff.mp h2).1]; exact h2
theorem Bx.put {ns : List Int} {S : Store} (b : Bx ns S) {n : Nat} (h : 3 ≤ n) (c : Cell) : Bx ns (S.set n c) := by
  obtain ⟨f, h1, i1, i2, i3, h3, h2⟩ := b
  exact ⟨f, by rw [List.getElem?_set_ne (by omega)]; exact h1, i1, i2, i3, h3, by rw [List.getElem?_set_ne (by omega)]; exact h2⟩
theorem digit {a l : Int} (h : 0 < l) : 0 ≤ a % l ∧ a % l < l := ⟨Int.emod_nonneg _ (by omega), Int.emod_lt_of_pos _ h⟩
theorem atI_map {ns : List Int} {i : Int} (h0 : 0 ≤ i) (h1 : i < ns.length) : ∃ z, L2.atI (ns.map PV.int) i = some (.int z) := by
  rw [atI_pos h0]
  have h2 : i.toNat < ns.length := by omega
  exact ⟨ns[i.toNat], by rw [List.getElem?_map, List.getElem?_eq_getElem h2]; rfl⟩
theorem cm_r {i j : Int} (h : -(2 ^ 64) < j ∧ j < 2 ^ 64) : CMul i j := .inr h
theorem cm_mod {x y m : Int} (h : 0 < m) (h2 : m < 2 ^ 64) : CMul (x % m) y := by
  have := digit (a := x) h
  exact .inl (by omega)
section
variable {ns : List Int} {S : Store} {i1 i2 i3 l : Int}
def DrawEnd (l : Int) (S : Store) (r : Fl × PEnv) (S' : Store) : Prop := ∃ v j1 j2 j3, r.1 = .rt (.int v) ∧ 0 ≤ v ∧ v < l ∧ 0 ≤ j3 ∧ S' = S.set 2 (box j1 j2 j3)
theorem draw_R3 {x3 x4 x6 : Option PV} {c : Int} (h2 : S[2]? = some (box i1 i2 i3)) (hi : 0 ≤ i3) (hl : 0 < l) : wps (g__law_draw_R3 [some (.cell 2), some (.int l), some (.cell 1), x3, x4, some (.int c), x6]) S fun r S' => ∃ v, r.1 = .rt (.int v) ∧ 0 ≤ v ∧ v < l ∧ S' = S := by
  unfold box at h2
  unfold g__law_draw_R3
  walk_at "dw"
  refine ⟨cm_r (by decide), cm_r (by decide), by decide, cm_mod (by decide) (by decide), cm_r (by decide), by decide, cm_mod (by decide) (by decide), cm_r (by decide), ⟨by decide, by decide⟩, by decide, ⟨by decide, by decide⟩, _, rfl, (digit hl).1, (digit hl).2⟩
theorem draw_R5 {x3 x4 x5 x6 : Option PV} (h1 : S[1]? = some (.lst (ns.map PV.int))) (h2 : S[2]? = some (box i1 i2 i3)) (hi : 0 ≤ i3) (hl : 0 < l) (hl2 : l < 1073741824) : wps (g__law_draw_R5 [some (.cell 2), some (.int l), some (.cell 1), x3, x4, x5, x6]) S (DrawEnd l S) := by
  have h2' := h2
  unfold box at h2
  have hd : ∀ a : Int, 0 ≤ a % l ∧ a % l < l := fun a => digit hl
  unfold g__law_draw_R5 g__law_draw_R4
  walk_at "dw"
  by_cases p1 : 0 < i2
  · simp only [p1, if_true]
    exact ⟨⟨hl, hl2⟩, _, i1, _, i3, rfl, (hd _).1, (hd _).2, hi, rfl⟩
  · simp only [p1, if_false]
    have fin : ∀ r S', (∃ v, r.1 = Fl.rt (.int v) ∧ 0 ≤ v ∧ v < l ∧ S' = S) → DrawEnd l S r S' := by
      rintro r S' ⟨v, e1, e2, e3, rfl⟩
      refine ⟨v, i1, i2, i3, e1, e2, e3, hi, ?_⟩
      apply List.ext_getElem?
      intro n
      by_cases z : n = 2
      · subst z
        rw [List.getElem?_set_self (List.getElem?_eq_some_iff.mp h2).1]; exact h2'
      · rw [List.getElem?_set_ne (Ne.symm z)]
    by_cases p2 : 0 < (ns.length : Int)
    · simp only [p2, if_true]
      have q := digit (a := i1) p2
      obtain ⟨z, hz⟩ := atI_map q.1 q.2
      simp only [hz, Option.some.injEq, exists_eq_left', vv_abs, true_and]
      exact wps_mono (draw_R3 h2' hi hl) fin
    · simp only [p2, if_false]
      exact wps_mono (draw_R3 h2' hi hl) fin
theorem draw_all {Q : PV → Store → Prop} {E : Exn → Store → Prop} (b : Bx ns S) (hl : 0 < l) (hl2 : l < 1073741824) (q : ∀ r S', 0 ≤ r → r < l → Bx ns S' → Frm S S' → S'.length = S.length → Q (.int r) S') : wpx (F__law_draw [.cell 2, .int l]) S Q E := by
  obtain ⟨few, h1, i1, i2, i3, hi, h2⟩ := b
  have hS : 2 < S.length := (List.getElem?_eq_some_iff.mp h2).1
  have g1 : ∀ c, (S.set 2 c)[1]? = some (.lst (ns.map PV.int)) := fun c => by rw [List.getElem?_set_ne (by decide)]; exact h1
  have g2 : ∀ c, (S.set 2 c)[2]? = some c := fun c => List.getElem?_set_self hS
  unfold box at h2
  unfold F__law_draw
  refine wp_run ?_
  unfold g__law_draw
  have lo : -(2 ^ 62) ≤ (ns.length : Int) ∧ (ns.length : Int) < 2 ^ 62 := by omega
  have lt : ((ns.length : Int)).toNat = ns.length := by omega
  walk_at "dw"
  have post : ∀ x j2 j3, 0 ≤ j3 → wps (g__law_draw_R5 [some (.cell 2), some (.int l), some (.cell 1), x, none, none, none]) (S.set 2 (.lst [.cell 1, .int (i1 + 1), .int j2, .int j3])) fun r S' => match r.1 with
      | .nx => Q .non S'
      | .rt d => Q d S'
      | .ex c => E c S'
      | _ => False := fun x j2 j3 h3 => by
    refine wps_mono (draw_R5 (g1 _) (g2 _) h3 hl hl2) fun r S' h => ?_
    obtain ⟨v, a1, a2, a3, e1, e2, e3, e4, e5⟩ := h
    obtain ⟨fl, ρ'⟩ := r
    simp only at e1
    subst e1
    rw [List.set_set] at e5
    subst e5
    exact q v _ e2 e3 ⟨few, g1 _, a1, a2, a3, e4, g2 _⟩ (Frm.box S _) (by simp)
  refine for_inv (fun xs ρ S' => ∃ x j2 j3, 0 ≤ j3 ∧ S' = S.set 2 (.lst [.cell 1, .int (i1 + 1), .int j2, .int j3]) ∧ ρ = [some (.cell 2), some (.int l), some (.cell 1), x, none, none, none]) _ _ _ ⟨none, i2, i3, hi, rfl, rfl⟩ (fun _ _ _ _ => trivial) ?_ ?_
  · rintro ρ S' ⟨x, j2, j3, h3, rfl, rfl⟩
    exact post x j2 j3 h3
  · rintro y xs ρ S' ⟨x, j2, j3, h3, rfl, rfl⟩
    refine ⟨_, rfl, ?_⟩
    unfold g__law_draw_B2 g__law_draw_R1
    walk_at "dw"
    have pw : CPow 10 18 := ⟨by decide, by decide, by decide⟩
    by_cases p1 : j2 = 0
    · simp only [p1, if_true]
      by_cases p2 : j3 < ns.length
      · simp only [p2, if_true]
        obtain ⟨z, hz⟩ := atI_map h3 p2
        simp only [hz, Option.some.injEq, exists_eq_left', vv_abs, vv_ge, wv_asB]
        refine ⟨pw, ?_⟩
        generalize (if z < 0 then -z else z) = az
        simp only [decide_eq_true_eq]
        by_cases p3 : (10 : Int) ^ Int.toNat 18 ≤ az
        all_goals simp only [p3, if_true, if_false]
        · walk_at "dw"
          exact ⟨_, _, _, by omega, rfl, rfl⟩
        · walk_at "dw"
          exact ⟨_, _, _, by omega, rfl, rfl⟩
      · simp only [p2, if_false]
        first | done | exact post _ _ _ h3
    · simp only [p1, if_false]
      first | done | exact post _ _ _ h3
end
end KK

namespace KK
open PySem PySem.Spec PyProof.Rows L2 DL PySem.W
open Classical
theorem pick10 {a b : PV} : pick [1, 0] [a, b] = [b, a] := rfl
theorem pick01 {a b : PV} : pick [0, 1] [a, b] = [a, b] := rfl
theorem pick0 {a : PV} : pick [0] [a] = [a] := rfl
local macro_rules | `(tactic| walk_at "dw") => `(tactic| try simp only [ws_seq, ws_nil, ws_retN, ws_bk, ws_ct, ws_expr, ws_ret, ws_set, ws_if, ws_asg, ws_sub, ws_aug, ws_for, ws_thru, ws_no, wv_var, wv_lit, wv_bin, wv_un, wv_nil, wv_cons, wv_args, wv_test, wv_asB, wv_and, wv_or, wv_not, wv_andV, wv_orV, wv_notV, wv_if, wv_chain,
  wv_noPart, wv_part, wv_asI, wv_slice, wv_mkTup, wv_mkLst, wv_methL, wsr_args, wsr_range1, wsr_range2, wsr_seq, wsr_tup, wsr_rev, wsr_zip, vv_rev_tup, wv_lc, wpx_ret, wpx_optM, tTrue, chkL1, chkL2, chkL3, chkL4,
  vv_add_int, vv_add_tup, vv_sub, vv_mul, vv_mulA_int, vv_div, vv_mod, vv_pow, vv_neg, vv_gt, vv_ge, vv_le, vv_lt, vv_eq_int, vv_ne_int, vv_eq_bl, vv_ne_bl, eqA_int, neA_int, eqA_bl, neA_bl, eqA_tup, neA_tup, eqA_cell, neA_cell, eqA_non, neA_non, vv_eqA_str, vv_neA_str, vv_ix_tup, vv_ix_cell, vv_set, vv_len_tup, vv_len_cell, vv_abs, vv_int_int, vv_int_bl, vv_tup_tup, vv_tup_cell, vv_lst_tup, vv_lst_cell, vv_slice_tup, vv_dm, vv_mx, vv_mn,
  isi_int_int, isi_int_bool, isi_int_tuple, isi_int_str, isi_int_list, isi_bool_int, isi_bool_bool, isi_bool_tuple, isi_bool_str, isi_bool_list, isi_str_int, isi_str_bool, isi_str_tuple, isi_str_str, isi_str_list, isi_none_int, isi_none_bool, isi_none_tuple, isi_none_str, isi_none_list, isi_tuple_int, isi_tuple_bool, isi_tuple_tuple, isi_tuple_str, isi_tuple_list,
  and_true, true_and, and_self, Cell.lst.injEq, items_lst, items_rls, vv_append, vv_isL, Option.some.injEq, exists_eq_left', exists_eq_left, List.map_cons, List.map_nil, List.length_cons, List.length_nil, List.length_map, List.replicate, List.cons_append, List.nil_append, List.getElem?_cons_zero, List.getElem?_cons_succ, List.set_cons_zero, List.set_cons_succ, bindT, atI0, atI1, atI2, atI3, ix41, ix42, ix43, Nat.reduceAdd, Nat.reduceSub, List.set_set, decide_true, decide_false, if_true, if_false, Bool.false_eq_true, decide_eq_true_eq, Bool.not_true, Bool.not_false, wpx_ite, eq_self, pick10, pick01, pick0, wipeP, *])
theorem line_ok {n : Nat} (h : n ≤ 1000000) : n ≤ sizeLine := by rw [sizeLine_eq]; omega
theorem line_lt {n : Nat} (h : n ≤ 1000000) : n < sizeLine := by rw [sizeLine_eq]; omega
theorem Bx.ext {ns : List Int} {S S' : Store} (b : Bx ns S) (e : Ext S S') : Bx ns S' := by
  obtain ⟨f, h1, i1, i2, i3, h3, h2⟩ := b
  exact ⟨f, e.get h1, i1, i2, i3, h3, e.get h2⟩
theorem Ext.frm {S S' : Store} (e : Ext S S') : Frm S S' := ⟨e.len, fun n _ h => by obtain ⟨T, rfl⟩ := e; rw [List.getElem?_append_left h]⟩
theorem Okv.frm {S S' : Store} {x : PV} (h : Okv S x) (f : Frm S S') (hx : x ≠ .cell 2) : Okv S' x := by
  cases x with
  | cell n => obtain ⟨xs, h⟩ := h; exact ⟨xs, f.get (fun e => hx (by rw [e])) h⟩
  | con v => exact h.elim
  | _ => trivial
/-! ### what is a word -/
def isNum : PV → Bool
  | .int _ => true
  | _ => false
theorem whole_is {S : Store} {Q : PV → Store → Prop} {E : Exn → Store → Prop} {x : PV} (h : Okv S x) (q : Q (.bl (isNum x)) S) : wpx (F_is_whole [x]) S Q E := by
  unfold F_is_whole
  refine wp_run ?_
  unfold g_is_whole
  cases x with
  | cell n =>
    walk_at "dw"
    rw [isi_cell h kb_list_int]
    walk_at "dw"
    exact q
  | con v => exact h.elim
  | _ => walk_at "dw"; exact q
def isPos : PV → Bool
  | .int i => decide (0 ≤ i)
  | _ => false
theorem pos_is {S : Store} {Q : PV → Store → Prop} {E : Exn → Store → Prop} {x : PV} (h : Okv S x) (q : Q (.bl (isPos x)) S) : wpx (F_is_number [x]) S Q E := by
  unfold F_is_number
  refine wp_run ?_
  unfold g_is_number
  walk_at "dw"
  refine whole_is h ?_
  cases x <;> simp only [isNum] <;> walk_at "dw" <;> exact q
def isLet (l : Int) : PV → Bool
  | .int i => decide (0 ≤ i) && decide (i < l)
  | _ => false
/-- what is a word over l letters -/
def isWd (l : Int) : PV → Bool
  | .tup xs => xs.all (isLet l)
  | _ => false
/-- a value whose parts may be asked too -/
def Okw (S : Store) : PV → Prop
  | .tup xs => xs.length ≤ 1000 ∧ ∀ x ∈ xs, Okv S x
  | x => Okv S x
theorem map_all {l : Int} (xs : List PV) : (xs.map (isLet l)).all id = xs.all (isLet l) := by
  induction xs with
  | nil => rfl
  | cons x xs ih => simp [ih]
theorem word_is {S : Store} {Q : PV → Store → Prop} {E : Exn → Store → Prop} {v : PV} {l : Int} (h : Okw S v) (q : ∀ S', Ext S S' → Q (.bl (isWd l v)) S') : wpx (F_is_word [v, .int l]) S Q E := by
  unfold F_is_word
  refine wp_run ?_
  unfold g_is_word
  cases v with
  | cell n =>
    walk_at "dw"
    rw [isi_cell h kb_list_tuple]
    walk_at "dw"
    exact q _ (.refl _)
  | con v => exact h.elim
  | tup xs =>
    obtain ⟨hl, hx⟩ := h
    walk_at "dw"
    refine lc_pure (fun x => .bl (isLet l x)) (line_ok (by omega)) (fun _ _ => trivial) (fun x hm S' e => ?_) fun S' e h1 => ?_
    · refine ⟨_, rfl, ?_⟩
      walk_at "dw"
      refine pos_is ((hx x hm).ext e) ?_
      cases x <;> simp only [isPos] <;> walk_at "dw"
      all_goals first
        | exact ⟨rfl, .refl _⟩
        | (split <;> refine ⟨?_, .refl _⟩ <;> rename_i i hi <;> simp [isLet, hi])
    · have h2 : S'[S.length]? = some (.lst ((xs.map (isLet l)).map PV.bl)) := by rw [h1, List.map_map]; rfl
      rw [vv_all h2, map_all]
      exact q S' e
  | _ => walk_at "dw"; exact q _ (.refl _)
theorem range_items (n : Nat) : (srcRange 0 n).items = (List.range n).map fun k : Nat => PV.int (k : Int) := by
  unfold srcRange
  simp
def gi (us : List Int) (x : Int) : Int := us[x.toNat]?.getD (-1)
theorem gi_at {us : List Int} {x : Int} (h0 : 0 ≤ x) (h1 : x < us.length) : L2.atI (us.map PV.int) x = some (.int (gi us x)) ∧ us[x.toNat]? = some (gi us x) := by
  have hk : x.toNat < us.length := by omega
  have e : us[x.toNat]? = some us[x.toNat] := List.getElem?_eq_getElem hk
  rw [atI_pos h0, List.getElem?_map]
  unfold gi
  rw [e]
  exact ⟨rfl, rfl⟩
def Let (l : Int) (ws : List Int) : Prop := ∀ x ∈ ws, 0 ≤ x ∧ x < l
theorem Let.gi {l : Int} {us : List Int} (h : Let l us) {x : Int} (h0 : 0 ≤ x) (h1 : x < us.length) : 0 ≤ gi us x ∧ KK.gi us x < l := h _ (List.mem_of_getElem? (gi_at h0 h1).2)
theorem isWd_let {l : Int} {ws : List Int} (h : Let l ws) : isWd l (tupI ws) = true := by
  show (ws.map PV.int).all (isLet l) = true
  rw [List.all_map, List.all_eq_true]
  intro x hx
  have := h x hx
  simp [isLet, this]
theorem okw_tupI {S : Store} {ws : List Int} (h : ws.length ≤ 1000) : Okw S (tupI ws) := ⟨by rw [List.length_map]; exact h, fun x hx => by
  obtain ⟨n, _, rfl⟩ := List.mem_map.mp hx
  trivial⟩
theorem box_spec {ns : List Int} {Q : PV → Store → Prop} {E : Exn → Store → Prop} (hn : ns.length ≤ 63) (q : ∀ S', S'.length = 3 → Bx ns S' → Q (.cell 2) S') : wpx (F__law_box [.cell 0]) [.rls (ns.map PV.int)] Q E := by
  unfold F__law_box
  refine wp_run ?_
  unfold g__law_box
  rw [ws_ret, wv_args, wv_cons, wv_lc, wsr_seq]
  simp only [List.map_cons, List.map_nil, List.cons_append, List.nil_append, wv_var, List.getElem?_cons_zero, Option.some.injEq, exists_eq_left']
  rw [wsr_cell (c := .rls (ns.map PV.int)) (xs := ns.map PV.int) rfl rfl]
  refine lc_inv (fun xs acc S => ∃ pre post : List Int, acc = pre.map PV.int ∧ xs = post.map PV.int ∧ pre ++ post = ns ∧ S = [.rls (ns.map PV.int), .lst (pre.map PV.int)]) _ [] _ ⟨[], ns, rfl, rfl, rfl, rfl⟩ ?_ ?_ ?_
  · rintro xs acc S ⟨pre, post, rfl, rfl, h, rfl⟩
    exact ⟨rfl, rfl⟩
  · rintro acc S ⟨pre, post, rfl, h2, h, rfl⟩
    have hp : post = [] := by simpa using h2.symm
    subst hp
    rw [List.append_nil] at h
    subst h
    clear h2
    walk_at "dw"
    refine ⟨line_ok (by omega), ?_⟩
    exact q _ rfl ⟨hn, rfl, 0, 0, 0, Int.le_refl 0, rfl⟩
  · rintro x xs acc S ⟨pre, post, rfl, h2, h, rfl⟩
    cases post with
    | nil => cases h2
    | cons z post =>
      rw [List.map_cons] at h2
      injection h2 with h3 h4
      subst h3; subst h4
      refine ⟨_, rfl, ?_⟩
      walk_at "dw"
      refine ⟨?_, pre ++ [z], post, by simp, rfl, by simp [← h], by simp⟩
      have : pre.length ≤ ns.length := by rw [← h]; simp
      exact line_lt (by omega)
theorem word_spec {ns : List Int} {S : Store} {Q : PV → Store → Prop} {E : Exn → Store → Prop} {l m : Int} (b : Bx ns S) (hl : 0 < l) (hl2 : l < 1073741824) (hm : 0 ≤ m) (hm2 : m < 1000000)
    (q : ∀ (ws : List Int) S', (∀ x ∈ ws, 0 ≤ x ∧ x < l) → ws.length ≤ m.toNat → Bx ns S' → Frm S S' → Q (tupI ws) S') : wpx (F__law_word [.cell 2, .int l, .int m]) S Q E := by
  unfold F__law_word
  refine wp_run ?_
  unfold g__law_word
  walk_at "dw"
  refine draw_all b (by omega) (by omega) fun r S1 hr0 hr1 b1 f1 e1 => ?_
  clear e1
  walk_at "dw"
  refine ⟨⟨by omega, by omega⟩, ?_⟩
  have h3 : 3 ≤ S1.length := by
    obtain ⟨_, _, _, _, h2⟩ := b1.c2
    have := (List.getElem?_eq_some_iff.mp h2).1
    omega
  refine lc_inv (fun xs acc S' => ∃ ws : List Int, acc = ws.map PV.int ∧ (∀ x ∈ ws, 0 ≤ x ∧ x < l) ∧ ws.length + xs.length = r.toNat ∧ Bx ns S' ∧ Frm S S' ∧ S'[S1.length]? = some (.lst (ws.map PV.int))) _ [] _ ⟨[], rfl, by simp, by simp [srcRange], b1.snoc _, f1.trans (Frm.snoc _ _), by simp⟩ ?_ ?_ ?_
  · rintro xs acc S' ⟨ws, rfl, _, _, _, _, h⟩
    exact ⟨trivial, h⟩
  · rintro acc S' ⟨ws, rfl, h1, h2, b2, f2, h⟩
    walk_at "dw"
    exact q ws S' h1 (by simp at h2; omega) b2 f2
  · rintro x xs acc S' ⟨ws, rfl, h1, h2, b2, f2, h⟩
    refine ⟨_, rfl, ?_⟩
    walk_at "dw"
    refine draw_all b2 hl hl2 fun z S2 hz0 hz1 b3 f3 e3 => ?_
    clear e3
    have hS : S1.length < S'.length := (List.getElem?_eq_some_iff.mp h).1
    refine ⟨f3.get (by omega) h, line_lt ?_, ws ++ [z], by simp, ?_, by simp at h2 ⊢; omega, b3.put h3 _, ?_, ?_⟩
    · simp at h2 ⊢; omega
    · intro y hy
      rcases List.mem_append.mp hy with hy | hy
      · exact h1 y hy
      · simp at hy; subst hy; exact ⟨hz0, hz1⟩
    · refine ⟨by rw [List.length_set]; have := f2.len; have := f3.len; omega, fun n hn hl => ?_⟩
      have : S.length ≤ S1.length := f1.len
      rw [List.getElem?_set_ne (by omega)]
      exact (f2.trans f3).stay n hn hl
    · rw [List.getElem?_set_self (by have := f3.len; omega)]; simp
/-! ### ahead -/
def ahead (a b : List Int) : Bool := if (a.length : Int) = b.length then listLt a b else decide ((a.length : Int) < b.length)
theorem Okv.frm2 {ns : List Int} {S S' : Store} {x : PV} (h : Okv S x) (f : Frm S S') (b : Bx ns S') : Okv S' x := by
  cases x with
  | cell n =>
    obtain ⟨xs, h⟩ := h
    by_cases e : n = 2
    · subst e
      obtain ⟨i1, i2, i3, _, h2⟩ := b.c2
      exact ⟨_, h2⟩
    · exact ⟨xs, f.get e h⟩
  | con v => exact h.elim
  | _ => trivial
theorem Okw.frm2 {ns : List Int} {S S' : Store} {x : PV} (h : Okw S x) (f : Frm S S') (b : Bx ns S') : Okw S' x := by
  cases x with
  | tup xs => exact ⟨h.1, fun y hy => Okv.frm2 (h.2 y hy) f b⟩
  | cell n => exact Okv.frm2 (x := .cell n) h f b
  | con v => exact h.elim
  | _ => trivial
theorem Okw.okv {S : Store} {x : PV} (h : Okw S x) : Okv S x := by
  cases x with
  | tup xs => trivial
  | _ => exact h
theorem mem_at {β : Type} {xs : List β} {i : Int} (h0 : 0 ≤ i) (h1 : i < xs.length) : ∃ x, L2.atI xs i = some x ∧ x ∈ xs := by
  have hk : i.toNat < xs.length := by omega
  rw [atI_pos h0]
  exact ⟨xs[i.toNat], List.getElem?_eq_getElem hk, List.getElem_mem hk⟩
theorem cut_len {β : Type} (xs : List β) (lo hi : Option Int) : (cutP xs lo hi).length ≤ xs.length := by
  unfold cutP
  rw [List.length_take, List.length_drop]
  omega
theorem cut_mem {β : Type} {xs : List β} {lo hi : Option Int} {x : β} (h : x ∈ cutP xs lo hi) : x ∈ xs := List.mem_of_mem_drop (List.mem_of_mem_take h)
/-- short words of small letters are shown -/
theorem show_let {l : Int} {ws : List Int} (h : Let l ws) (hl : l ≤ 1000) (hn : ws.length ≤ 20000) : ShowOk (.tuple (ws.map PyData.int)) := sm_tupI (fun x hx => by have := h x hx; omega) hn
theorem repr_is {S : Store} {Q : PV → Store → Prop} {E : Exn → Store → Prop} {ws : List Int} {l : Int} (h : Let l ws) (hl : l ≤ 1000) (hn : ws.length ≤ 20000) (q : Q (.str (PyData.tuple (ws.map PyData.int)).shown) S) : wpx (reprF [tupI ws]) S Q E := (vv_repr (tupI_toD ws) (show_let h hl hn)).mpr q
theorem let_cut {l : Int} {ws : List Int} (h : Let l ws) (lo hi : Option Int) : Let l (cutP ws lo hi) := fun x hx => h x (cut_mem hx)
theorem cut_map {β γ : Type} (f : β → γ) (xs : List β) (lo hi : Option Int) : cutP (xs.map f) lo hi = (cutP xs lo hi).map f := by
  unfold cutP
  rw [List.length_map, List.map_take, List.map_drop]
theorem cut_to {β : Type} (xs : List β) {n : Nat} : (cutP xs none (some (n : Int))).length ≤ n := by
  unfold cutP
  rw [HT.sIx_nat, List.length_take, HT.sIx_none]
  omega
theorem range_drop {n k : Nat} {y : PV} {ys : List PV} (h : (srcRange 0 n).items.drop k = y :: ys) : k < n ∧ y = .int k ∧ ys = (srcRange 0 n).items.drop (k + 1) := by
  have hk : k < n := by
    rcases Nat.lt_or_ge k n with z | z
    · exact z
    · rw [List.drop_eq_nil_of_le (by simpa [srcRange] using z)] at h; cases h
  refine ⟨hk, ?_, ?_⟩
  · have e := List.head?_drop (l := (srcRange 0 n).items) (i := k)
    rw [h] at e
    simp [srcRange, hk] at e
    exact e
  · have e := List.tail_drop (l := (srcRange 0 n).items) (i := k)
    rw [h] at e
    exact e
theorem range_nil {n k : Nat} (h : (srcRange 0 n).items.drop k = []) : n ≤ k := by
  have := List.drop_eq_nil_iff.mp h
  simpa [srcRange] using this
end KK

namespace KK
open PySem PySem.Spec PyProof.Rows L2 DL PySem.W
open Classical
local macro_rules | `(tactic| walk_at "dw") => `(tactic| try simp only [ws_seq, ws_nil, ws_retN, ws_bk, ws_ct, ws_expr, ws_ret, ws_set, ws_if, ws_asg, ws_sub, ws_aug, ws_for, ws_thru, ws_no, wv_var, wv_lit, wv_bin, wv_un, wv_nil, wv_cons, wv_args, wv_test, wv_asB, wv_and, wv_or, wv_not, wv_andV, wv_orV, wv_notV, wv_if, wv_chain,
  wv_noPart, wv_part, wv_asI, wv_slice, wv_mkTup, wv_mkLst, wv_methL, wsr_args, wsr_range1, wsr_range2, wsr_seq, wsr_tup, wsr_rev, wsr_zip, vv_rev_tup, wv_lc, wpx_ret, wpx_optM, tTrue, chkL1, chkL2, chkL3, chkL4,
  vv_add_int, vv_add_tup, vv_sub, vv_mul, vv_mulA_int, vv_div, vv_mod, vv_pow, vv_neg, vv_gt, vv_ge, vv_le, vv_lt, vv_eq_int, vv_ne_int, vv_eq_bl, vv_ne_bl, eqA_int, neA_int, eqA_bl, neA_bl, eqA_tup, neA_tup, eqA_cell, neA_cell, eqA_non, neA_non, vv_eqA_str, vv_neA_str, vv_ix_tup, vv_ix_cell, vv_set, vv_len_tup, vv_len_cell, vv_abs, vv_int_int, vv_int_bl, vv_tup_tup, vv_tup_cell, vv_lst_tup, vv_lst_cell, vv_slice_tup, vv_dm, vv_mx, vv_mn,
  isi_int_int, isi_int_bool, isi_int_tuple, isi_int_str, isi_int_list, isi_bool_int, isi_bool_bool, isi_bool_tuple, isi_bool_str, isi_bool_list, isi_str_int, isi_str_bool, isi_str_tuple, isi_str_str, isi_str_list, isi_none_int, isi_none_bool, isi_none_tuple, isi_none_str, isi_none_list, isi_tuple_int, isi_tuple_bool, isi_tuple_tuple, isi_tuple_str, isi_tuple_list,
  and_true, true_and, and_self, Cell.lst.injEq, items_lst, items_rls, vv_append, vv_isL, Option.some.injEq, exists_eq_left', exists_eq_left, List.map_cons, List.map_nil, List.length_cons, List.length_nil, List.length_map, List.replicate, List.cons_append, List.nil_append, List.getElem?_cons_zero, List.getElem?_cons_succ, List.set_cons_zero, List.set_cons_succ, bindT, atI0, atI1, atI2, atI3, ix41, ix42, ix43, Nat.reduceAdd, Nat.reduceSub, List.set_set, decide_true, decide_false, if_true, if_false, Bool.false_eq_true, decide_eq_true_eq, Bool.not_true, Bool.not_false, wpx_ite, eq_self, pick10, pick01, pick0, wipeP, *])
/-! ### side by side -/
def padL (l : Int) (n : Nat) (u : List Int) : List Int := u ++ List.replicate (n - u.length) l
def sideN (l : Int) (n : Nat) (u v : List Int) : List Int := List.zipWith (fun a b => a * (l + 1) + b) (padL l n u) (padL l n v)
def side (l : Int) (u v : List Int) : List Int := sideN l (max u.length v.length) u v
theorem padL_len {l : Int} {n : Nat} {u : List Int} (h : u.length ≤ n) : (padL l n u).length = n := by simp [padL]; omega
theorem padL_at {l : Int} {n k : Nat} {u : List Int} (hk : k < n) : (padL l n u)[k]? = some (u[k]?.getD l) := by
  unfold padL
  by_cases h : k < u.length
  · rw [List.getElem?_append_left h, List.getElem?_eq_getElem h]; rfl
  · rw [List.getElem?_append_right (by omega), List.getElem?_replicate, if_pos (by omega), List.getElem?_eq_none (by omega : u.length ≤ k)]; rfl
theorem side_len (l : Int) (u v : List Int) : (side l u v).length = max u.length v.length := by
  unfold side sideN
  rw [List.length_zipWith, padL_len (by omega), padL_len (by omega)]; omega
theorem side_at {l : Int} {u v : List Int} {k : Nat} (hk : k < max u.length v.length) : (side l u v)[k]? = some ((u[k]?.getD l) * (l + 1) + (v[k]?.getD l)) := by
  unfold side sideN
  rw [List.getElem?_zipWith, padL_at hk, padL_at hk]
def pairF (l : Int) : PV → PV
  | .tup [.int a, .int b] => .int (a * (l + 1) + b)
  | x => x
theorem zip_map (l : Int) : ∀ (A B : List Int), (List.zipWith pairP (A.map PV.int) (B.map PV.int)).map (pairF l) = (List.zipWith (fun a b => a * (l + 1) + b) A B).map PV.int
  | [], _ => by simp
  | _ :: _, [] => by simp
  | a :: A, b :: B => by
    simp only [List.map_cons, List.zipWith_cons_cons, zip_map l A B]
    rfl
theorem zip_mem : ∀ {A B : List Int} {x : PV}, x ∈ List.zipWith pairP (A.map PV.int) (B.map PV.int) → ∃ a b, x = pairP (.int a) (.int b)
  | [], _, _, h => by simp at h
  | _ :: _, [], _, h => by simp at h
  | a :: A, b :: B, x, h => by
    simp only [List.map_cons, List.zipWith_cons_cons, List.mem_cons] at h
    rcases h with rfl | h
    · exact ⟨a, b, rfl⟩
    · exact zip_mem h
theorem flat_one (n : Nat) (x : PV) : (List.replicate n [x]).flatten = List.replicate n x := by
  induction n with
  | zero => rfl
  | succ n ih => rw [List.replicate_succ, List.flatten_cons, ih]; rfl
theorem letter_is {S : Store} {Q : PV → Store → Prop} {E : Exn → Store → Prop} {l x y : Int} (h0 : 0 ≤ l) (h1 : l ≤ 100) (q : Q (.int (x * (l + 1) + y)) S) : wpx (F_pair_letter [.int l, .int x, .int y]) S Q E := by
  unfold F_pair_letter
  refine wp_run ?_
  unfold g_pair_letter
  walk_at "dw"
  first | exact cm_r ⟨by omega, by omega⟩ | exact ⟨cm_r ⟨by omega, by omega⟩, q⟩
theorem side_is {S : Store} {Q : PV → Store → Prop} {E : Exn → Store → Prop} {l : Int} {u v : List Int} (h0 : 0 ≤ l) (h1 : l ≤ 100) (hu : Let l u) (hv : Let l v) (lu : u.length ≤ 100) (lv : v.length ≤ 100) (q : ∀ S', Ext S S' → Q (tupI (side l u v)) S') : wpx (F_side_by_side [.int l, tupI u, tupI v]) S Q E := by
  unfold F_side_by_side
  refine wp_run ?_
  unfold g_side_by_side
  walk_at "dw"
  refine ⟨line_ok (by decide), ?_⟩
  refine for_cons trivial rfl ?_
  unfold g_side_by_side_B1
  walk_at "dw"
  refine word_is (okw_tupI (by omega)) fun S1 e1 => ?_
  rw [isWd_let hu]
  walk_at "dw"
  refine for_cons trivial rfl ?_
  walk_at "dw"
  refine word_is (okw_tupI (by omega)) fun S2 e2 => ?_
  rw [isWd_let hv]
  walk_at "dw"
  refine for_nil trivial ?_
  unfold g_side_by_side_R2
  walk_at "dw"
  have em : (if (v.length : Int) > u.length then (v.length : Int) else u.length) = ((max u.length v.length : Nat) : Int) := by
    split <;> omega
  rw [em]
  generalize hn : max u.length v.length = n at *
  have ln : n ≤ 100 := by omega
  have hun : u.length ≤ n := by omega
  have hvn : v.length ≤ n := by omega
  have ku : ((n : Int) - u.length).toNat = n - u.length := by omega
  have kv : ((n : Int) - v.length).toNat = n - v.length := by omega
  have pu : u.map PV.int ++ List.replicate (n - u.length) (PV.int l) = (padL l n u).map PV.int := by simp [padL]
  have pv : v.map PV.int ++ List.replicate (n - v.length) (PV.int l) = (padL l n v).map PV.int := by simp [padL]
  rw [vv_mulA_tup, flat_one, ku, vv_add_tup, pu]
  refine ⟨line_ok (by decide), ⟨by simp, by omega, by omega, by simp⟩, line_ok (by simp; omega), line_ok (by decide), ?_⟩
  rw [vv_mulA_tup, flat_one, kv, vv_add_tup, pv]
  refine ⟨⟨by simp, by omega, by omega, by simp⟩, line_ok (by simp; omega), ?_⟩
  rw [wsr_zip]
  refine lc_pure (pairF l) (line_ok (by rw [List.length_zipWith, List.length_map, padL_len hun]; omega)) (fun _ _ => trivial) (fun x hx S' e => ?_) fun S' e h3 => ?_
  · obtain ⟨a, b, rfl⟩ := zip_mem hx
    refine ⟨_, rfl, ?_⟩
    clear hx pu pv em
    walk_at "dw"
    refine letter_is h0 h1 ?_
    exact ⟨rfl, .refl _⟩
  · rw [zip_map] at h3
    have h4 := q S' ((e1.trans e2).trans e)
    unfold side sideN at h4
    rw [hn] at h4
    rw [vv_tup_cell]
    exact ⟨_, h3, _, rfl, h4⟩
theorem side_R1 {S : Store} {Q : Fl × PEnv → Store → Prop} {l x y : Int} {x1 x2 x4 : Option PV} {n : Nat} {zs : List PV} (h0 : 0 ≤ l) (h1 : l ≤ 100) (hc : S[n]? = some (.lst zs)) (hl : zs.length ≤ 100)
    (q : Q (.nx, [some (.int l), x1, x2, some (.cell n), x4, some (.int x), some (.int y)]) (S.set n (.lst (zs ++ [.int (x * (l + 1) + y)])))) : wps (g__law_side_R1 [some (.int l), x1, x2, some (.cell n), x4, some (.int x), some (.int y)]) S Q := by
  unfold g__law_side_R1
  walk_at "dw"
  first
    | exact ⟨cm_r ⟨by omega, by omega⟩, line_lt (by omega), q⟩
    | exact ⟨cm_r ⟨by omega, by omega⟩, line_lt (by omega)⟩
theorem law_side_is {S : Store} {Q : PV → Store → Prop} {E : Exn → Store → Prop} {l : Int} {u v : List Int} (h0 : 0 ≤ l) (h1 : l ≤ 100) (lu : u.length ≤ 100) (lv : v.length ≤ 100) (q : ∀ S', Ext S S' → Q (tupI (side l u v)) S') : wpx (F__law_side [.int l, tupI u, tupI v]) S Q E := by
  unfold F__law_side
  refine wp_run ?_
  unfold g__law_side
  walk_at "dw"
  have em : (if (v.length : Int) > u.length then (v.length : Int) else u.length) = ((max u.length v.length : Nat) : Int) := by
    split <;> omega
  refine ⟨line_ok (by decide), ?_⟩
  rw [em]
  refine ⟨⟨by omega, by omega⟩, ?_⟩
  rw [Int.toNat_natCast]
  have hs := side_len l u v
  refine for_inv (fun xs ρ S' => ∃ k x4 x5 x6, xs = (srcRange 0 (max u.length v.length)).items.drop k ∧ k ≤ max u.length v.length ∧ Ext S S' ∧ S'[S.length]? = some (.lst (((side l u v).take k).map PV.int)) ∧ ρ = [some (.int l), some (tupI u), some (tupI v), some (.cell S.length), x4, x5, x6]) _ _ _ ⟨0, none, none, none, by simp, by omega, .snoc _ _, by simp, rfl⟩ (fun _ _ _ _ => trivial) ?_ ?_
  · rintro ρ S' ⟨k, x4, x5, x6, h2, h3, e, hc, rfl⟩
    have hk := range_nil h2.symm
    rw [List.take_of_length_le (by omega)] at hc
    unfold g__law_side_R4
    clear h2 em hs
    walk_at "dw"
    first | done | exact q S' e
  · rintro y ys ρ S' ⟨k, x4, x5, x6, h2, h3, e, hc, rfl⟩
    obtain ⟨hk, rfl, h4⟩ := range_drop h2.symm
    clear h2
    refine ⟨_, rfl, ?_⟩
    have hlt := (List.getElem?_eq_some_iff.mp hc).1
    have fin : ∀ x y : Int, x = u[k]?.getD l → y = v[k]?.getD l → ∃ k' x4 x5 x6, ys = (srcRange 0 (max u.length v.length)).items.drop k' ∧ k' ≤ max u.length v.length ∧ Ext S (S'.set S.length (.lst (((side l u v).take k).map PV.int ++ [.int (x * (l + 1) + y)]))) ∧ (S'.set S.length (.lst (((side l u v).take k).map PV.int ++ [.int (x * (l + 1) + y)])))[S.length]? = some (.lst (((side l u v).take k').map PV.int)) ∧ [some (PV.int l), some (tupI u), some (tupI v), some (.cell S.length), some (.int k), some (.int x), some (.int y)] = [some (PV.int l), some (tupI u), some (tupI v), some (.cell S.length), x4, x5, x6] := fun x y ex ey => by
      refine ⟨k + 1, _, _, _, h4, by omega, e.put (Nat.le_refl _) _, ?_, rfl⟩
      rw [List.getElem?_set_self hlt, List.take_add_one, side_at hk, ← ex, ← ey]
      simp
    have lk : ((side l u v).take k).length ≤ 100 := by rw [List.length_take]; omega
    unfold g__law_side_B3
    clear h4 em hs
    have gt : ∀ w : List Int, k < w.length → L2.atI (w.map PV.int) (k : Int) = some (.int (w[k]?.getD l)) := fun w hw => by
      rw [atI_pos (by omega), Int.toNat_natCast, List.getElem?_map, List.getElem?_eq_getElem hw]; rfl
    have gn : ∀ w : List Int, ¬ k < w.length → w[k]?.getD l = l := fun w hw => by
      rw [List.getElem?_eq_none (by omega)]; rfl
    by_cases ku : k < u.length
    · have ku' : (k : Int) < u.length := by omega
      have gu := gt u ku
      by_cases kv : k < v.length
      · have kv' : (k : Int) < v.length := by omega
        have gv := gt v kv
        clear gt gn q
        walk_at "dw"
        unfold g__law_side_R2
        walk_at "dw"
        exact side_R1 h0 h1 hc (by rw [List.length_map]; exact lk) (fin _ _ rfl rfl)
      · have kv' : ¬ (k : Int) < v.length := by omega
        have gv := gn v kv
        clear gt gn q
        walk_at "dw"
        unfold g__law_side_R2
        walk_at "dw"
        exact side_R1 h0 h1 hc (by rw [List.length_map]; exact lk) (fin _ _ rfl gv.symm)
    · have ku' : ¬ (k : Int) < u.length := by omega
      have gu := gn u ku
      have kv : k < v.length := by omega
      have kv' : (k : Int) < v.length := by omega
      have gv := gt v kv
      clear gt gn q
      walk_at "dw"
      unfold g__law_side_R2
      walk_at "dw"
      exact side_R1 h0 h1 hc (by rw [List.length_map]; exact lk) (fin _ _ gu.symm rfl)
end KK

namespace KK
open PySem PySem.Spec PyProof.Rows L2 DL PySem.W
open Classical
local macro_rules | `(tactic| walk_at "dw") => `(tactic| try simp only [ws_seq, ws_nil, ws_retN, ws_bk, ws_ct, ws_expr, ws_ret, ws_set, ws_if, ws_asg, ws_sub, ws_aug, ws_for, ws_thru, ws_no, wv_var, wv_lit, wv_bin, wv_un, wv_nil, wv_cons, wv_args, wv_test, wv_asB, wv_and, wv_or, wv_not, wv_andV, wv_orV, wv_notV, wv_if, wv_chain,
  wv_noPart, wv_part, wv_asI, wv_slice, wv_mkTup, wv_mkLst, wv_methL, wsr_args, wsr_range1, wsr_range2, wsr_seq, wsr_tup, wsr_rev, wsr_zip, vv_rev_tup, wv_lc, wpx_ret, wpx_optM, tTrue, chkL1, chkL2, chkL3, chkL4,
  vv_add_int, vv_add_tup, vv_sub, vv_mul, vv_mulA_int, vv_div, vv_mod, vv_pow, vv_neg, vv_gt, vv_ge, vv_le, vv_lt, vv_eq_int, vv_ne_int, vv_eq_bl, vv_ne_bl, eqA_int, neA_int, eqA_bl, neA_bl, eqA_tup, neA_tup, eqA_cell, neA_cell, eqA_non, neA_non, vv_eqA_str, vv_neA_str, vv_ix_tup, vv_ix_cell, vv_set, vv_len_tup, vv_len_cell, vv_abs, vv_int_int, vv_int_bl, vv_tup_tup, vv_tup_cell, vv_lst_tup, vv_lst_cell, vv_slice_tup, vv_dm, vv_mx, vv_mn,
  isi_int_int, isi_int_bool, isi_int_tuple, isi_int_str, isi_int_list, isi_bool_int, isi_bool_bool, isi_bool_tuple, isi_bool_str, isi_bool_list, isi_str_int, isi_str_bool, isi_str_tuple, isi_str_str, isi_str_list, isi_none_int, isi_none_bool, isi_none_tuple, isi_none_str, isi_none_list, isi_tuple_int, isi_tuple_bool, isi_tuple_tuple, isi_tuple_str, isi_tuple_list,
  and_true, true_and, and_self, Cell.lst.injEq, items_lst, items_rls, vv_append, vv_isL, Option.some.injEq, exists_eq_left', exists_eq_left, List.map_cons, List.map_nil, List.length_cons, List.length_nil, List.length_map, List.replicate, List.cons_append, List.nil_append, List.getElem?_cons_zero, List.getElem?_cons_succ, List.set_cons_zero, List.set_cons_succ, bindT, atI0, atI1, atI2, atI3, ix41, ix42, ix43, Nat.reduceAdd, Nat.reduceSub, List.set_set, decide_true, decide_false, if_true, if_false, Bool.false_eq_true, decide_eq_true_eq, Bool.not_true, Bool.not_false, wpx_ite, eq_self, pick10, pick01, pick0, wipeP, *])
theorem lc_filt {S : Store} {Q : PV → Store → Prop} {E : Exn → Store → Prop} {ρ : PEnv} {chk : Store → Prop} {t : Tgt} {test : PEnv → M Bool} {elt : PEnv → M PV} {xs : List PV} (f : PV → PV) (p : PV → Bool) (hl : xs.length ≤ sizeLine) (hk : ∀ S', Ext S S' → chk S')
    (h : ∀ x ∈ xs, ∀ S', Ext S S' → ∃ ρ1, bindT t x ρ = some ρ1 ∧ wpx (test ρ1) S' (fun b S1 => b = p x ∧ Ext S' S1 ∧ (p x = true → wpx (elt ρ1) S1 (fun y S2 => y = f x ∧ Ext S1 S2) (fun _ _ => False))) (fun _ _ => False))
    (q : ∀ S', Ext S S' → S'[S.length]? = some (.lst ((xs.filter p).map f)) → Q (.cell S.length) S') : wpx (lcGo chk t test elt ρ S.length xs) (S ++ [.lst []]) Q E := by
  refine lc_inv (fun ys acc S' => ∃ zs, zs ++ ys = xs ∧ acc = (zs.filter p).map f ∧ Ext S S' ∧ S'[S.length]? = some (.lst acc)) xs [] _ ⟨[], rfl, rfl, .snoc _ _, by simp⟩ ?_ ?_ ?_
  · rintro ys acc S' ⟨zs, _, _, e, h1⟩
    exact ⟨hk _ e, h1⟩
  · rintro acc S' ⟨zs, h1, rfl, e, h2⟩
    rw [List.append_nil] at h1
    subst h1
    exact q S' e h2
  · rintro x ys acc S' ⟨zs, h1, rfl, e, h2⟩
    obtain ⟨ρ1, hb, hx⟩ := h x (by rw [← h1]; simp) S' e
    refine ⟨ρ1, hb, wpx_imp hx fun b S1 ⟨hb2, e1, hy⟩ => ?_⟩
    subst hb2
    cases hp : p x with
    | false =>
      rw [if_neg (by decide)]
      exact ⟨zs ++ [x], by rw [← h1]; simp, by rw [List.filter_append]; simp [hp], e.trans e1, e1.get h2⟩
    | true =>
      rw [if_pos rfl]
      refine wpx_imp (hy hp) fun y S2 ⟨hy2, e2⟩ => ?_
      subst hy2
      have h3 := e2.get (e1.get h2)
      refine ⟨h3, ?_, zs ++ [x], by rw [← h1]; simp, by rw [List.filter_append]; simp [hp], ((e.trans e1).trans e2).put (Nat.le_refl _) _, ?_⟩
      · rw [List.length_map]
        have h4 : (zs.filter p).length ≤ zs.length := List.length_filter_le _ _
        have : zs.length + (ys.length + 1) ≤ sizeLine := by rw [← h1] at hl; simpa using hl
        omega
      · rw [List.getElem?_set_self (List.getElem?_eq_some_iff.mp h3).1]
def Up (l : Int) (row : List Int) : List Int := (row.map fun z => z / (l + 1)).filter fun x => decide (x < l)
def Vp (l : Int) (row : List Int) : List Int := (row.map fun z => z % (l + 1)).filter fun x => decide (x < l)
noncomputable def readP (l : Int) (row : List Int) : PV := if side l (Up l row) (Vp l row) = row then .tup [tupI (Up l row), tupI (Vp l row)] else .non
theorem Up_let {l : Int} {row : List Int} (h0 : 0 ≤ l) (h : ∀ z ∈ row, 0 ≤ z) : Let l (Up l row) := fun x hx => by
  obtain ⟨h1, h2⟩ := List.mem_filter.mp hx
  obtain ⟨z, hz, rfl⟩ := List.mem_map.mp h1
  exact ⟨Int.ediv_nonneg (h z hz) (by omega), by simpa using h2⟩
theorem Vp_let {l : Int} {row : List Int} (h0 : 0 ≤ l) : Let l (Vp l row) := fun x hx => by
  obtain ⟨h1, h2⟩ := List.mem_filter.mp hx
  obtain ⟨z, hz, rfl⟩ := List.mem_map.mp h1
  exact ⟨Int.emod_nonneg _ (by omega), by simpa using h2⟩
theorem Up_len (l : Int) (row : List Int) : (Up l row).length ≤ row.length := by
  have := List.length_filter_le (fun x => decide (x < l)) (row.map fun z => z / (l + 1))
  rw [List.length_map] at this
  exact this
theorem Vp_len (l : Int) (row : List Int) : (Vp l row).length ≤ row.length := by
  have := List.length_filter_le (fun x => decide (x < l)) (row.map fun z => z % (l + 1))
  rw [List.length_map] at this
  exact this
theorem vv_ne_tupI {S : Store} {Q : PV → Store → Prop} {E : Exn → Store → Prop} {a b : List Int} : wpx (neV (tupI a) (tupI b)) S Q E ↔ Q (.bl (!decide (a = b))) S := by
  rw [tupI_pv, tupI_pv, vt_ne (Tup.mk a) (Tup.mk b) (by decide)]
  have e : decide (Tup.mk a = Tup.mk b) = decide (a = b) := decide_eq_decide.mpr (by rw [Tup.mk.injEq])
  rw [e]
def partP (l : Int) : PV → PV
  | .int z => .tup [.int (z / (l + 1)), .int (z % (l + 1))]
  | x => x
theorem letters_is {S : Store} {Q : PV → Store → Prop} {E : Exn → Store → Prop} {l : Int} (h0 : 0 ≤ l) (h1 : l ≤ 100) (q : Q (.int ((l + 1) * (l + 1) - 1)) S) : wpx (F_pair_letters [.int l]) S Q E := by
  unfold F_pair_letters
  refine wp_run ?_
  unfold g_pair_letters
  walk_at "dw"
  first | exact cm_r ⟨by omega, by omega⟩ | exact ⟨cm_r ⟨by omega, by omega⟩, q⟩
theorem sides_is {S : Store} {Q : PV → Store → Prop} {E : Exn → Store → Prop} {l : Int} {row : List Int} (h0 : 0 ≤ l) (h1 : l ≤ 100) (hr : Let ((l + 1) * (l + 1) - 1) row) (hl : row.length ≤ 100) (q : ∀ S', Ext S S' → Q (.tup [tupI (Up l row), tupI (Vp l row)]) S') : wpx (F_sides [.int l, tupI row]) S Q E := by
  unfold F_sides
  refine wp_run ?_
  unfold g_sides
  walk_at "dw"
  refine lc_pure (partP l) (line_ok (by rw [List.length_map]; omega)) (fun _ _ => trivial) (fun x hx S' e => ?_) fun S2 e2 h2 => ?_
  · obtain ⟨z, hz, rfl⟩ := List.mem_map.mp hx
    refine ⟨_, rfl, ?_⟩
    clear hx
    walk_at "dw"
    exact ⟨⟨by omega, by omega⟩, rfl, .refl _⟩
  · have hlen : ((row.map PV.int).map (partP l)).length ≤ sizeLine := line_ok (by simp; omega)
    have pt : ∀ x ∈ (row.map PV.int).map (partP l), ∃ z : Int, z ∈ row ∧ x = .tup [.int (z / (l + 1)), .int (z % (l + 1))] := fun x hx => by
      obtain ⟨y, hy, rfl⟩ := List.mem_map.mp hx
      obtain ⟨z, hz, rfl⟩ := List.mem_map.mp hy
      exact ⟨z, hz, rfl⟩
    have fU : (((row.map PV.int).map (partP l)).filter fun x => match x with | .tup [.int a, .int _] => decide (a < l) | _ => false).map (fun x => match x with | .tup [.int a, .int _] => .int a | x => x) = (Up l row).map PV.int := by
      unfold Up
      clear hr hl q h2 hlen pt
      induction row with
      | nil => rfl
      | cons z row ih =>
        simp only [List.map_cons, List.filter_cons, partP]
        by_cases p : z / (l + 1) < l
        · simp only [p, decide_true, if_true, List.map_cons, ih]
        · simp only [p, decide_false, Bool.false_eq_true, if_false, ih]
    have fV : (((row.map PV.int).map (partP l)).filter fun x => match x with | .tup [.int _, .int a] => decide (a < l) | _ => false).map (fun x => match x with | .tup [.int _, .int a] => .int a | x => x) = (Vp l row).map PV.int := by
      unfold Vp
      clear hr hl q h2 hlen pt fU
      induction row with
      | nil => rfl
      | cons z row ih =>
        simp only [List.map_cons, List.filter_cons, partP]
        by_cases p : z % (l + 1) < l
        · simp only [p, decide_true, if_true, List.map_cons, ih]
        · simp only [p, decide_false, Bool.false_eq_true, if_false, ih]
    have hpos : ∀ z ∈ row, 0 ≤ z := fun z hz => (hr z hz).1
    walk_at "dw"
    rw [wsr_cell h2 rfl]
    refine lc_filt (fun x => match x with | .tup [.int a, .int _] => .int a | x => x) (fun x => match x with | .tup [.int a, .int _] => decide (a < l) | _ => false) hlen (fun S' e => e.get h2) (fun x hx S' e => ?_) fun S3 e3 h3 => ?_
    · obtain ⟨z, hz, rfl⟩ := pt x hx
      refine ⟨_, rfl, ?_⟩
      clear hx h2 fU fV pt
      walk_at "dw"
      exact ⟨.refl _, fun _ => .refl _⟩
    · rw [fU] at h3
      rw [vv_tup_cell]
      refine ⟨_, h3, _, rfl, ?_⟩
      have h4 := e3.get h2
      rw [wsr_cell h4 rfl]
      refine lc_filt (fun x => match x with | .tup [.int _, .int a] => .int a | x => x) (fun x => match x with | .tup [.int _, .int a] => decide (a < l) | _ => false) hlen (fun S' e => e.get h4) (fun x hx S' e => ?_) fun S4 e4 h5 => ?_
      · obtain ⟨z, hz, rfl⟩ := pt x hx
        refine ⟨_, rfl, ?_⟩
        clear hx h2 h3 h4 fU fV pt
        walk_at "dw"
        exact ⟨.refl _, fun _ => .refl _⟩
      · rw [fV] at h5
        rw [vv_tup_cell]
        refine ⟨_, h5, _, rfl, ?_⟩
        have eE := (e2.trans e3).trans e4
        have q5 := q S4 eE
        clear h2 h3 h4 h5 fU fV pt hlen
        walk_at "dw"
        exact line_ok (by decide)
theorem read_is {S : Store} {Q : PV → Store → Prop} {E : Exn → Store → Prop} {l : Int} {row : List Int} (h0 : 0 ≤ l) (h1 : l ≤ 100) (hr : Let ((l + 1) * (l + 1) - 1) row) (hl : row.length ≤ 100) (q : ∀ S', Ext S S' → Q (readP l row) S') : wpx (F_read_pair [.int l, tupI row]) S Q E := by
  have l1 := Up_len l row
  have l2 := Vp_len l row
  have hpos : ∀ z ∈ row, 0 ≤ z := fun z hz => (hr z hz).1
  unfold F_read_pair
  refine wp_run ?_
  unfold g_read_pair
  walk_at "dw"
  refine letters_is h0 h1 ?_
  refine word_is (okw_tupI (by omega)) fun S1 e1 => ?_
  rw [isWd_let hr]
  walk_at "dw"
  unfold g_read_pair_R2
  walk_at "dw"
  refine sides_is h0 h1 hr hl fun S4 e4 => ?_
  simp only [bindT, bindTs, List.length_cons, List.length_nil, if_true, Option.bind_some, List.set_cons_zero, List.set_cons_succ, Option.some.injEq, exists_eq_left', List.getElem?_cons_zero, List.getElem?_cons_succ]
  refine side_is h0 h1 (Up_let h0 hpos) (Vp_let h0) (by omega) (by omega) fun S5 e5 => ?_
  have eE := (e1.trans e4).trans e5
  have q5 := q S5 eE
  rw [neA_tup, vv_ne_tupI, wv_asB]
  unfold readP at q5
  by_cases p : side l (Up l row) (Vp l row) = row
  · rw [if_pos p] at q5
    simp only [p, decide_true, Bool.not_true, Bool.false_eq_true, if_false]
    unfold g_read_pair_R1
    clear p
    walk_at "dw"
    exact line_ok (by decide)
  · rw [if_neg p] at q5
    simp only [p, decide_false, Bool.not_false, if_true]
    exact q5
end KK

namespace KK
open PySem PySem.Spec PyProof.Rows L2 DL PySem.W
open Classical
local macro_rules | `(tactic| walk_at "dw") => `(tactic| try simp only [ws_seq, ws_nil, ws_retN, ws_bk, ws_ct, ws_expr, ws_ret, ws_set, ws_if, ws_asg, ws_sub, ws_aug, ws_for, ws_thru, ws_no, wv_var, wv_lit, wv_bin, wv_un, wv_nil, wv_cons, wv_args, wv_test, wv_asB, wv_and, wv_or, wv_not, wv_andV, wv_orV, wv_notV, wv_if, wv_chain,
  wv_noPart, wv_part, wv_asI, wv_slice, wv_mkTup, wv_mkLst, wv_methL, wsr_args, wsr_range1, wsr_range2, wsr_seq, wsr_tup, wsr_rev, wsr_zip, vv_rev_tup, wv_lc, wpx_ret, wpx_optM, tTrue, chkL1, chkL2, chkL3, chkL4,
  vv_add_int, vv_add_tup, vv_sub, vv_mul, vv_mulA_int, vv_div, vv_mod, vv_pow, vv_neg, vv_gt, vv_ge, vv_le, vv_lt, vv_eq_int, vv_ne_int, vv_eq_bl, vv_ne_bl, eqA_int, neA_int, eqA_bl, neA_bl, eqA_tup, neA_tup, eqA_cell, neA_cell, eqA_non, neA_non, vv_eqA_str, vv_neA_str, vv_ix_tup, vv_ix_cell, vv_set, vv_len_tup, vv_len_cell, vv_abs, vv_int_int, vv_int_bl, vv_tup_tup, vv_tup_cell, vv_lst_tup, vv_lst_cell, vv_slice_tup, vv_dm, vv_mx, vv_mn,
  isi_int_int, isi_int_bool, isi_int_tuple, isi_int_str, isi_int_list, isi_bool_int, isi_bool_bool, isi_bool_tuple, isi_bool_str, isi_bool_list, isi_str_int, isi_str_bool, isi_str_tuple, isi_str_str, isi_str_list, isi_none_int, isi_none_bool, isi_none_tuple, isi_none_str, isi_none_list, isi_tuple_int, isi_tuple_bool, isi_tuple_tuple, isi_tuple_str, isi_tuple_list,
  and_true, true_and, and_self, Cell.lst.injEq, items_lst, items_rls, vv_append, vv_isL, Option.some.injEq, exists_eq_left', exists_eq_left, List.map_cons, List.map_nil, List.length_cons, List.length_nil, List.length_map, List.replicate, List.cons_append, List.nil_append, List.getElem?_cons_zero, List.getElem?_cons_succ, List.set_cons_zero, List.set_cons_succ, bindT, atI0, atI1, atI2, atI3, ix41, ix42, ix43, Nat.reduceAdd, Nat.reduceSub, List.set_set, decide_true, decide_false, if_true, if_false, Bool.false_eq_true, decide_eq_true_eq, Bool.not_true, Bool.not_false, wpx_ite, eq_self, pick10, pick01, pick0, wipeP, *])
/-! the law's own reading back -/
theorem Up_snoc {l : Int} {zs : List Int} {z : Int} : Up l (zs ++ [z]) = if z / (l + 1) < l then Up l zs ++ [z / (l + 1)] else Up l zs := by
  unfold Up
  rw [List.map_append, List.filter_append]
  by_cases p : z / (l + 1) < l <;> simp [p]
theorem Vp_snoc {l : Int} {zs : List Int} {z : Int} : Vp l (zs ++ [z]) = if z % (l + 1) < l then Vp l zs ++ [z % (l + 1)] else Vp l zs := by
  unfold Vp
  rw [List.map_append, List.filter_append]
  by_cases p : z % (l + 1) < l <;> simp [p]
theorem part_at {l : Int} {row A B : List Int} (h0 : 0 ≤ l) (hA : Let l A) (hB : Let l B) (h : side l A B = row) {k : Nat} {z : Int} (hz : row[k]? = some z) : z / (l + 1) = A[k]?.getD l ∧ z % (l + 1) = B[k]?.getD l := by
  have hk : k < max A.length B.length := by
    have := (List.getElem?_eq_some_iff.mp hz).1
    rw [← h, side_len] at this; exact this
  rw [← h, side_at hk] at hz
  have e := Option.some.inj hz
  have hb : 0 ≤ B[k]?.getD l ∧ B[k]?.getD l ≤ l := by
    cases q : B[k]? with
    | none => exact ⟨h0, Int.le_refl _⟩
    | some b => have := hB b (List.mem_of_getElem? q); exact ⟨this.1, by show b ≤ l; omega⟩
  generalize A[k]?.getD l = a at *
  generalize B[k]?.getD l = b at *
  subst e
  constructor
  · rw [Int.add_comm, Int.add_mul_ediv_right _ _ (by omega), Int.ediv_eq_zero_of_lt hb.1 (by omega)]; omega
  · rw [Int.add_comm, Int.add_mul_emod_self_right, Int.emod_eq_of_lt hb.1 (by omega)]
theorem get_lt {l : Int} {A : List Int} (hA : Let l A) {k : Nat} : (A[k]?.getD l < l ↔ k < A.length) ∧ (A[k]?.getD l = l ↔ A.length ≤ k) := by
  by_cases h : k < A.length
  · have h1 := hA A[k] (List.getElem_mem h)
    have e : A[k]?.getD l = A[k] := by rw [List.getElem?_eq_getElem h]; rfl
    rw [e]
    exact ⟨⟨fun _ => h, fun _ => h1.2⟩, ⟨fun z => by omega, fun z => by omega⟩⟩
  · have e : A[k]?.getD l = l := by rw [List.getElem?_eq_none (by omega)]; rfl
    rw [e]
    exact ⟨⟨fun z => by omega, fun z => absurd z h⟩, ⟨fun _ => by omega, fun _ => rfl⟩⟩
theorem lens {l : Int} {row A B : List Int} (h0 : 0 ≤ l) (hA : Let l A) (hB : Let l B) (h : side l A B = row) : ∀ (k : Nat), k ≤ row.length → (Up l (row.take k)).length = min k A.length ∧ (Vp l (row.take k)).length = min k B.length
  | 0, _ => by simp [Up, Vp]
  | k + 1, hk => by
    obtain ⟨h1, h2⟩ := lens h0 hA hB h k (by omega)
    have e : row[k]? = some row[k] := List.getElem?_eq_getElem (by omega)
    obtain ⟨p1, p2⟩ := part_at h0 hA hB h e
    rw [List.take_add_one, e]
    show (Up l (row.take k ++ [row[k]])).length = _ ∧ (Vp l (row.take k ++ [row[k]])).length = _
    rw [Up_snoc, Vp_snoc, p1, p2]
    have g1 := (get_lt hA (k := k)).1
    have g2 := (get_lt hB (k := k)).1
    constructor
    · by_cases c : k < A.length
      · rw [if_pos (g1.mpr c), List.length_append, List.length_singleton]; omega
      · rw [if_neg fun z => c (g1.mp z)]; omega
    · by_cases c : k < B.length
      · rw [if_pos (g2.mpr c), List.length_append, List.length_singleton]; omega
      · rw [if_neg fun z => c (g2.mp z)]; omega
/-- where the pair is there, no turn of the law's walk ends it -/
theorem no_end {l : Int} {row : List Int} (h0 : 0 ≤ l) (hr : ∀ z ∈ row, 0 ≤ z) (h : side l (Up l row) (Vp l row) = row) {zs rest : List Int} {z : Int} (e : zs ++ z :: rest = row) :
    ¬ (z / (l + 1) < l ∧ (Up l zs).length < (Vp l zs).length) ∧ ¬ (z % (l + 1) < l ∧ (Vp l zs).length < (Up l zs).length) ∧
    ¬ ((Up l (zs ++ [z])).length = (Vp l (zs ++ [z])).length ∧ (z / (l + 1) = l ∨ z % (l + 1) = l)) := by
  have hA := Up_let h0 hr
  have hB := Vp_let (row := row) h0
  generalize Up l row = A at *
  generalize Vp l row = B at *
  have hk : row[zs.length]? = some z := by rw [← e]; simp
  have hn : zs.length < row.length := (List.getElem?_eq_some_iff.mp hk).1
  have hmax : row.length = max A.length B.length := by rw [← h, side_len]
  have e1 : row.take zs.length = zs := by rw [← e]; simp
  have e2 : row.take (zs.length + 1) = zs ++ [z] := by rw [List.take_add_one, e1, hk]; rfl
  have l1 := lens h0 hA hB h zs.length (by omega)
  have l2 := lens h0 hA hB h (zs.length + 1) (by omega)
  rw [e1] at l1
  rw [e2] at l2
  obtain ⟨p1, p2⟩ := part_at h0 hA hB h hk
  have g1 := get_lt hA (k := zs.length)
  have g2 := get_lt hB (k := zs.length)
  rw [← p1] at g1
  rw [← p2] at g2
  refine ⟨fun ⟨a, b⟩ => ?_, fun ⟨a, b⟩ => ?_, fun ⟨a, b⟩ => ?_⟩
  · have := g1.1.mp a; omega
  · have := g2.1.mp a; omega
  · rcases b with b | b
    · have := g1.2.mp b; omega
    · have := g2.2.mp b; omega
theorem read_R1 {S : Store} {Q : Fl × PEnv → Store → Prop} {l x y : Int} {x1 x4 : Option PV} {n m : Nat} {us vs : List Int} (hu : S[n]? = some (.lst (us.map PV.int))) (hv : S[m]? = some (.lst (vs.map PV.int)))
    (q : if us.length = vs.length ∧ (x = l ∨ y = l) then Q (.rt .non, [some (.int l), x1, some (.cell n), some (.cell m), x4, some (.int x), some (.int y)]) S else Q (.nx, [some (.int l), x1, some (.cell n), some (.cell m), x4, some (.int x), some (.int y)]) S) :
    wps (g__law_read_R1 [some (.int l), x1, some (.cell n), some (.cell m), x4, some (.int x), some (.int y)]) S Q := by
  unfold g__law_read_R1
  have hc : ((us.length : Int) = vs.length) ↔ us.length = vs.length := by omega
  by_cases p1 : us.length = vs.length
  · have p1' : (us.length : Int) = vs.length := by omega
    by_cases p2 : x = l
    · rw [if_pos ⟨p1, .inl p2⟩] at q
      clear hc p1
      simp only [ws_if, wv_and, wv_or, wv_test, wv_bin, wv_args, wv_cons, wv_nil, wv_var, List.getElem?_cons_zero, List.getElem?_cons_succ, Option.some.injEq, exists_eq_left', vv_len_cell, hu, hv, items_lst, List.length_map, eqA_int, vv_eq_int, wv_asB, p1', p2, decide_true, if_true, ws_ret, wv_lit]
      simpa only [p2] using q
    · by_cases p3 : y = l
      · rw [if_pos ⟨p1, .inr p3⟩] at q
        clear hc p1
        simp only [ws_if, wv_and, wv_or, wv_test, wv_bin, wv_args, wv_cons, wv_nil, wv_var, List.getElem?_cons_zero, List.getElem?_cons_succ, Option.some.injEq, exists_eq_left', vv_len_cell, hu, hv, items_lst, List.length_map, eqA_int, vv_eq_int, wv_asB, p1', p2, p3, decide_true, decide_false, Bool.false_eq_true, if_false, if_true, ws_ret, wv_lit]
        simpa only [p3] using q
      · rw [if_neg fun z => z.2.elim p2 p3] at q
        clear hc p1
        simp only [ws_if, wv_and, wv_or, wv_test, wv_bin, wv_args, wv_cons, wv_nil, wv_var, List.getElem?_cons_zero, List.getElem?_cons_succ, Option.some.injEq, exists_eq_left', vv_len_cell, hu, hv, items_lst, List.length_map, eqA_int, vv_eq_int, wv_asB, p1', p2, p3, decide_true, decide_false, Bool.false_eq_true, if_false, if_true, ws_nil]
        exact q
  · have p1' : ¬ (us.length : Int) = vs.length := by omega
    rw [if_neg fun z => p1 z.1] at q
    clear hc
    simp only [ws_if, wv_and, wv_or, wv_test, wv_bin, wv_args, wv_cons, wv_nil, wv_var, List.getElem?_cons_zero, List.getElem?_cons_succ, Option.some.injEq, exists_eq_left', vv_len_cell, hu, hv, items_lst, List.length_map, eqA_int, vv_eq_int, wv_asB, p1', decide_false, Bool.false_eq_true, if_false, ws_nil]
    exact q
theorem read_R2 {S0 S : Store} {Q : Fl × PEnv → Store → Prop} {l x y : Int} {x1 x4 : Option PV} {n m : Nat} {us vs : List Int} (e : Ext S0 S) (hm : S0.length ≤ m) (nm : n ≠ m) (hu : S[n]? = some (.lst (us.map PV.int))) (hv : S[m]? = some (.lst (vs.map PV.int))) (lv : vs.length ≤ 1000)
    (q : ∀ S2, Ext S0 S2 → S2[n]? = some (.lst (us.map PV.int)) → S2[m]? = some (.lst ((if y < l then vs ++ [y] else vs).map PV.int)) → if us.length = (if y < l then vs ++ [y] else vs).length ∧ (x = l ∨ y = l) then Q (.rt .non, [some (.int l), x1, some (.cell n), some (.cell m), x4, some (.int x), some (.int y)]) S2 else Q (.nx, [some (.int l), x1, some (.cell n), some (.cell m), x4, some (.int x), some (.int y)]) S2) :
    wps (g__law_read_R2 [some (.int l), x1, some (.cell n), some (.cell m), x4, some (.int x), some (.int y)]) S Q := by
  unfold g__law_read_R2
  by_cases p : y < l
  · simp only [p, if_true] at q
    simp only [ws_seq, ws_if, wv_test, wv_bin, wv_var, List.getElem?_cons_zero, List.getElem?_cons_succ, Option.some.injEq, exists_eq_left', vv_lt, wv_asB, p, decide_true, if_true, ws_expr, wv_methL, vv_isL, hv, items_lst, wv_cons, wv_nil, vv_append, Cell.lst.injEq]
    have hlt := (List.getElem?_eq_some_iff.mp hv).1
    refine ⟨by rw [List.length_map]; exact line_lt (by omega), ?_⟩
    have h2 : (S.set m (.lst (vs.map PV.int ++ [.int y])))[m]? = some (.lst ((vs ++ [y]).map PV.int)) := by rw [List.getElem?_set_self hlt]; simp
    have h1 : (S.set m (.lst (vs.map PV.int ++ [.int y])))[n]? = some (.lst (us.map PV.int)) := by rw [List.getElem?_set_ne (by omega)]; exact hu
    exact read_R1 h1 h2 (q _ (e.put hm _) h1 h2)
  · simp only [p, if_false] at q
    simp only [ws_seq, ws_if, wv_test, wv_bin, wv_var, List.getElem?_cons_zero, List.getElem?_cons_succ, Option.some.injEq, exists_eq_left', vv_lt, wv_asB, p, decide_false, Bool.false_eq_true, if_false, ws_nil]
    exact read_R1 hu hv (q _ e hu hv)
theorem read_R3 {S0 S : Store} {Q : Fl × PEnv → Store → Prop} {l x y : Int} {x1 x4 : Option PV} {n m : Nat} {us vs : List Int} (e : Ext S0 S) (hn : S0.length ≤ n) (hm : S0.length ≤ m) (nm : n ≠ m) (hu : S[n]? = some (.lst (us.map PV.int))) (hv : S[m]? = some (.lst (vs.map PV.int))) (lu : us.length ≤ 1000) (lv : vs.length ≤ 1000)
    (q : ∀ S2, Ext S0 S2 → S2[n]? = some (.lst ((if x < l then us ++ [x] else us).map PV.int)) → S2[m]? = some (.lst ((if y < l then vs ++ [y] else vs).map PV.int)) → if (if x < l then us ++ [x] else us).length = (if y < l then vs ++ [y] else vs).length ∧ (x = l ∨ y = l) then Q (.rt .non, [some (.int l), x1, some (.cell n), some (.cell m), x4, some (.int x), some (.int y)]) S2 else Q (.nx, [some (.int l), x1, some (.cell n), some (.cell m), x4, some (.int x), some (.int y)]) S2) :
    wps (g__law_read_R3 [some (.int l), x1, some (.cell n), some (.cell m), x4, some (.int x), some (.int y)]) S Q := by
  unfold g__law_read_R3
  by_cases p : x < l
  · simp only [p, if_true] at q
    simp only [ws_seq, ws_if, wv_test, wv_bin, wv_var, List.getElem?_cons_zero, List.getElem?_cons_succ, Option.some.injEq, exists_eq_left', vv_lt, wv_asB, p, decide_true, if_true, ws_expr, wv_methL, vv_isL, hu, items_lst, wv_cons, wv_nil, vv_append, Cell.lst.injEq]
    have hlt := (List.getElem?_eq_some_iff.mp hu).1
    refine ⟨by rw [List.length_map]; exact line_lt (by omega), ?_⟩
    have h1 : (S.set n (.lst (us.map PV.int ++ [.int x])))[n]? = some (.lst ((us ++ [x]).map PV.int)) := by rw [List.getElem?_set_self hlt]; simp
    have h2 : (S.set n (.lst (us.map PV.int ++ [.int x])))[m]? = some (.lst (vs.map PV.int)) := by rw [List.getElem?_set_ne (by omega)]; exact hv
    exact read_R2 (e.put hn _) hm nm h1 h2 lv q
  · simp only [p, if_false] at q
    simp only [ws_seq, ws_if, wv_test, wv_bin, wv_var, List.getElem?_cons_zero, List.getElem?_cons_succ, Option.some.injEq, exists_eq_left', vv_lt, wv_asB, p, decide_false, Bool.false_eq_true, if_false, ws_nil]
    exact read_R2 e hm nm hu hv lv q
theorem law_read_is {S : Store} {Q : PV → Store → Prop} {E : Exn → Store → Prop} {l : Int} {row : List Int} (h0 : 0 ≤ l) (h1 : l ≤ 100) (hr : ∀ z ∈ row, 0 ≤ z) (hl : row.length ≤ 100) (q : ∀ S', Ext S S' → Q (readP l row) S') : wpx (F__law_read [.int l, tupI row]) S Q E := by
  unfold F__law_read
  refine wp_run ?_
  unfold g__law_read
  walk_at "dw"
  refine ⟨line_ok (by decide), line_ok (by decide), ?_⟩
  have at_end : ∀ (T : Store) (c : Cell), (T ++ [c])[T.length]? = some c := fun T c => by simp
  generalize hA : S ++ [Cell.lst []] = A at *
  have eA : Ext S A := ⟨_, hA.symm⟩
  have g1 : A[S.length]? = some (.lst []) := by rw [← hA]; exact at_end _ _
  have nn : S.length < A.length := by rw [← hA]; simp
  generalize hn : S.length = n at *
  generalize hm : A.length = m at *
  have out : side l (Up l row) (Vp l row) ≠ row → ∀ S', Ext S S' → Q .non S' := fun p S' e => by
    have := q S' e
    unfold readP at this
    rw [if_neg p] at this
    exact this
  refine for_inv (fun xs ρ S' => ∃ zs rest x4 x5 x6, zs ++ rest = row ∧ xs = rest.map PV.int ∧ Ext S S' ∧ S'[n]? = some (.lst ((Up l zs).map PV.int)) ∧ S'[m]? = some (.lst ((Vp l zs).map PV.int)) ∧ ρ = [some (.int l), some (tupI row), some (.cell n), some (.cell m), x4, x5, x6]) _ _ _
    ⟨[], row, none, none, none, rfl, rfl, eA.trans (.snoc _ _), (Ext.snoc A _).get g1, by rw [← hm]; exact at_end _ _, rfl⟩ (fun _ _ _ _ => trivial) ?_ ?_
  · rintro ρ S' ⟨zs, rest, x4, x5, x6, e1, e2, e, c1, c2, rfl⟩
    have h3 : rest = [] := by simpa using e2.symm
    subst h3
    rw [List.append_nil] at e1
    subst e1
    unfold g__law_read_R6
    clear e2
    have l1 := Up_len l zs
    have l2 := Vp_len l zs
    walk_at "dw"
    refine law_side_is h0 h1 (by omega) (by omega) fun S2 e5 => ?_
    rw [neA_tup, vv_ne_tupI, wv_asB]
    have q5 := q S2 (e.trans e5)
    unfold readP at q5
    by_cases p : side l (Up l zs) (Vp l zs) = zs
    · rw [if_pos p] at q5
      simp only [p, decide_true, Bool.not_true, Bool.false_eq_true, if_false]
      have d1 := e5.get c1
      have d2 := e5.get c2
      unfold g__law_read_R5
      clear c1 c2 l1 l2 out p hn hm g1 at_end
      walk_at "dw"
      first | exact line_ok (by decide) | exact ⟨line_ok (by decide), q5⟩
    · rw [if_neg p] at q5
      simp only [p, decide_false, Bool.not_false, if_true]
      exact q5
  · rintro y ys ρ S' ⟨zs, rest, x4, x5, x6, e1, e2, e, c1, c2, rfl⟩
    cases rest with
    | nil => cases e2
    | cons z rest =>
      rw [List.map_cons] at e2
      injection e2 with e3 e4
      subst e3; subst e4
      refine ⟨_, rfl, ?_⟩
      unfold g__law_read_B4
      walk_at "dw"
      refine ⟨⟨by omega, by omega⟩, by omega, ?_⟩
      have ends := fun h => no_end h0 hr h e1
      have lz : zs.length ≤ 100 := by rw [← e1] at hl; simp at hl; omega
      have l1 := Up_len l zs
      have l2 := Vp_len l zs
      have go : wps (g__law_read_R3 [some (PV.int l), some (tupI row), some (PV.cell n), some (PV.cell m), some (PV.int z), some (PV.int (z / (l + 1))), some (PV.int (z % (l + 1)))]) S' fun r S'' => match r.1 with
          | .nx => ∃ zs' rest' x4 x5 x6, zs' ++ rest' = row ∧ rest.map PV.int = rest'.map PV.int ∧ Ext S S'' ∧ S''[n]? = some (.lst ((Up l zs').map PV.int)) ∧ S''[m]? = some (.lst ((Vp l zs').map PV.int)) ∧ r.2 = [some (PV.int l), some (tupI row), some (PV.cell n), some (PV.cell m), x4, x5, x6]
          | .rt d => Q d S''
          | _ => False := by
        refine read_R3 e (by omega) (by omega) (by omega) c1 c2 (by omega) (by omega) fun S2 e2 d1 d2 => ?_
        rw [← Up_snoc] at d1 ⊢
        rw [← Vp_snoc] at d2 ⊢
        by_cases p : (Up l (zs ++ [z])).length = (Vp l (zs ++ [z])).length ∧ (z / (l + 1) = l ∨ z % (l + 1) = l)
        · rw [if_pos p]
          exact out (fun h => (ends h).2.2 p) S2 e2
        · rw [if_neg p]
          exact ⟨zs ++ [z], rest, _, _, _, by rw [← e1]; simp, rfl, e2, d1, d2, rfl⟩
      have go' := fun (QQ : Fl × PEnv → Store → Prop) (h : ∀ r S'', (match r.1 with
          | .nx => ∃ zs' rest' x4 x5 x6, zs' ++ rest' = row ∧ rest.map PV.int = rest'.map PV.int ∧ Ext S S'' ∧ S''[n]? = some (.lst ((Up l zs').map PV.int)) ∧ S''[m]? = some (.lst ((Vp l zs').map PV.int)) ∧ r.2 = [some (PV.int l), some (tupI row), some (PV.cell n), some (PV.cell m), x4, x5, x6]
          | .rt d => Q d S''
          | _ => False) → QQ r S'') => wps_mono go h
      clear go
      have none1 : z / (l + 1) < l → ((Up l zs).length : Int) < (Vp l zs).length → Q .non S' := fun a b => out (fun h => (ends h).1 ⟨a, by omega⟩) S' e
      have none2 : z % (l + 1) < l → ((Vp l zs).length : Int) < (Up l zs).length → Q .non S' := fun a b => out (fun h => (ends h).2.1 ⟨a, by omega⟩) S' e
      by_cases a1 : z / (l + 1) < l
      · rw [if_pos a1]
        by_cases a2 : ((Up l zs).length : Int) < (Vp l zs).length
        · rw [if_pos a2]; exact none1 a1 a2
        · rw [if_neg a2]
          by_cases a3 : z % (l + 1) < l
          · rw [if_pos a3]
            by_cases a4 : ((Vp l zs).length : Int) < (Up l zs).length
            · rw [if_pos a4]; exact none2 a3 a4
            · rw [if_neg a4]
              with_reducible refine go' _ fun r S'' h => ?_
              obtain ⟨fl, ρ'⟩ := r
              cases fl <;> first | exact h | exact h.elim
          · rw [if_neg a3]
            with_reducible refine go' _ fun r S'' h => ?_
            obtain ⟨fl, ρ'⟩ := r
            cases fl <;> first | exact h | exact h.elim
      · rw [if_neg a1]
        by_cases a3 : z % (l + 1) < l
        · rw [if_pos a3]
          by_cases a4 : ((Vp l zs).length : Int) < (Up l zs).length
          · rw [if_pos a4]; exact none2 a3 a4
          · rw [if_neg a4]
            with_reducible refine go' _ fun r S'' h => ?_
            obtain ⟨fl, ρ'⟩ := r
            cases fl <;> first | exact h | exact h.elim
        · rw [if_neg a3]
          with_reducible refine go' _ fun r S'' h => ?_
          obtain ⟨fl, ρ'⟩ := r
          cases fl <;> first | exact h | exact h.elim
end KK

namespace KK
open PySem PySem.Spec PyProof.Rows L2 DL PySem.W
open Classical
theorem pick210 {a b c : PV} : pick [2, 1, 0] [a, b, c] = [c, b, a] := rfl
local macro_rules | `(tactic| walk_at "dw") => `(tactic| try simp only [ws_seq, ws_nil, ws_retN, ws_bk, ws_ct, ws_expr, ws_ret, ws_set, ws_if, ws_asg, ws_sub, ws_aug, ws_for, ws_thru, ws_no, wv_var, wv_lit, wv_bin, wv_un, wv_nil, wv_cons, wv_args, wv_test, wv_asB, wv_and, wv_or, wv_not, wv_andV, wv_orV, wv_notV, wv_if, wv_chain,
  wv_noPart, wv_part, wv_asI, wv_slice, wv_mkTup, wv_mkLst, wv_methL, wsr_args, wsr_range1, wsr_range2, wsr_seq, wsr_tup, wsr_rev, wsr_zip, vv_rev_tup, wv_lc, wpx_ret, wpx_optM, tTrue, chkL1, chkL2, chkL3, chkL4,
  vv_add_int, vv_add_tup, vv_sub, vv_mul, vv_mulA_int, vv_div, vv_mod, vv_pow, vv_neg, vv_gt, vv_ge, vv_le, vv_lt, vv_eq_int, vv_ne_int, vv_eq_bl, vv_ne_bl, eqA_int, neA_int, eqA_bl, neA_bl, eqA_tup, neA_tup, eqA_cell, neA_cell, eqA_non, neA_non, vv_eqA_str, vv_neA_str, vv_ix_tup, vv_ix_cell, vv_set, vv_len_tup, vv_len_cell, vv_abs, vv_int_int, vv_int_bl, vv_tup_tup, vv_tup_cell, vv_lst_tup, vv_lst_cell, vv_slice_tup, vv_dm, vv_mx, vv_mn,
  isi_int_int, isi_int_bool, isi_int_tuple, isi_int_str, isi_int_list, isi_bool_int, isi_bool_bool, isi_bool_tuple, isi_bool_str, isi_bool_list, isi_str_int, isi_str_bool, isi_str_tuple, isi_str_str, isi_str_list, isi_none_int, isi_none_bool, isi_none_tuple, isi_none_str, isi_none_list, isi_tuple_int, isi_tuple_bool, isi_tuple_tuple, isi_tuple_str, isi_tuple_list,
  and_true, true_and, and_self, Cell.lst.injEq, items_lst, items_rls, vv_append, vv_isL, Option.some.injEq, exists_eq_left', exists_eq_left, List.map_cons, List.map_nil, List.length_cons, List.length_nil, List.length_map, List.replicate, List.cons_append, List.nil_append, List.getElem?_cons_zero, List.getElem?_cons_succ, List.set_cons_zero, List.set_cons_succ, bindT, atI0, atI1, atI2, atI3, ix41, ix42, ix43, Nat.reduceAdd, Nat.reduceSub, List.set_set, decide_true, decide_false, if_true, if_false, Bool.false_eq_true, decide_eq_true_eq, Bool.not_true, Bool.not_false, wpx_ite, eq_self, pick210, pick10, pick01, pick0, wipeP, *])
theorem filt_pad {l : Int} {u : List Int} (hu : Let l u) (n : Nat) : ((padL l n u).filter fun x => decide (x < l)) = u := by
  unfold padL
  rw [List.filter_append]
  have h1 : (u.filter fun x => decide (x < l)) = u := List.filter_eq_self.mpr fun x hx => by simpa using (hu x hx).2
  have h2 : ((List.replicate (n - u.length) l).filter fun x => decide (x < l)) = [] := List.filter_eq_nil_iff.mpr fun x hx => by
    rw [List.eq_of_mem_replicate hx]; simp
  rw [h1, h2, List.append_nil]
theorem parts_side {l : Int} {u v : List Int} (h0 : 0 ≤ l) (hu : Let l u) (hv : Let l v) : ((side l u v).map fun z => z / (l + 1)) = padL l (max u.length v.length) u ∧ ((side l u v).map fun z => z % (l + 1)) = padL l (max u.length v.length) v := by
  have hn := side_len l u v
  constructor
  · apply List.ext_getElem?
    intro k
    rw [List.getElem?_map]
    by_cases hk : k < max u.length v.length
    · have e := side_at (l := l) hk
      rw [e, padL_at hk]
      exact congrArg some (part_at h0 hu hv rfl e).1
    · rw [List.getElem?_eq_none (by omega), List.getElem?_eq_none (by rw [padL_len (by omega)]; omega)]; rfl
  · apply List.ext_getElem?
    intro k
    rw [List.getElem?_map]
    by_cases hk : k < max u.length v.length
    · have e := side_at (l := l) hk
      rw [e, padL_at hk]
      exact congrArg some (part_at h0 hu hv rfl e).2
    · rw [List.getElem?_eq_none (by omega), List.getElem?_eq_none (by rw [padL_len (by omega)]; omega)]; rfl
theorem read_side {l : Int} {u v : List Int} (h0 : 0 ≤ l) (hu : Let l u) (hv : Let l v) : readP l (side l u v) = .tup [tupI u, tupI v] := by
  obtain ⟨p1, p2⟩ := parts_side h0 hu hv
  have e1 : Up l (side l u v) = u := by unfold Up; rw [p1, filt_pad hu]
  have e2 : Vp l (side l u v) = v := by unfold Vp; rw [p2, filt_pad hv]
  unfold readP
  rw [e1, e2, if_pos rfl]
theorem side_let {l : Int} {u v : List Int} (h1 : 1 ≤ l) (h4 : l ≤ 4) (hu : Let l u) (hv : Let l v) : Let ((l + 1) * (l + 1) - 1) (side l u v) := fun z hz => by
  obtain ⟨k, hk⟩ := List.getElem?_of_mem hz
  have hk' : k < max u.length v.length := by
    have := (List.getElem?_eq_some_iff.mp hk).1
    rw [side_len] at this; exact this
  rw [side_at hk'] at hk
  have e := Option.some.inj hk
  have ga := get_lt hu (k := k)
  have gb := get_lt hv (k := k)
  have ba : ∀ w : List Int, Let l w → 0 ≤ w[k]?.getD l ∧ w[k]?.getD l ≤ l := fun w hw => by
    cases q : w[k]? with
    | none => exact ⟨by show 0 ≤ l; omega, Int.le_refl _⟩
    | some b => have := hw b (List.mem_of_getElem? q); exact ⟨this.1, by show b ≤ l; omega⟩
  have b1 := ba u hu
  have b2 := ba v hv
  generalize u[k]?.getD l = a at *
  generalize v[k]?.getD l = b at *
  have nab : ¬ (a = l ∧ b = l) := fun ⟨x, y⟩ => by
    have := ga.2.mp x
    have := gb.2.mp y
    omega
  subst e
  obtain rfl | rfl | rfl | rfl : l = 1 ∨ l = 2 ∨ l = 3 ∨ l = 4 := by omega
  all_goals omega
theorem big_is {l : Int} (h1 : 1 ≤ l) (h4 : l ≤ 4) : 0 < (l + 1) * (l + 1) - 1 ∧ (l + 1) * (l + 1) - 1 ≤ 24 := by
  obtain rfl | rfl | rfl | rfl : l = 1 ∨ l = 2 ∨ l = 3 ∨ l = 4 := by omega
  all_goals decide
/-! texts of what is read -/
theorem sm_word {ws : List Int} {l : Int} (h : Let l ws) (hl : l ≤ 1000) (hn : ws.length ≤ 100) : Sm (.tuple (ws.map PyData.int)) 4100 := by
  refine (sm_tup (w := 40) (n := 100) (fun x hx => ?_) (by rw [List.length_map]; exact hn)).mono (by decide)
  obtain ⟨k, hk, rfl⟩ := List.mem_map.mp hx
  have := h k hk
  exact sm_int (by omega)
theorem pair_toD {S : Store} (u v : List Int) : toD S 64 (.tup [tupI u, tupI v]) = some (.tuple [.tuple (u.map PyData.int), .tuple (v.map PyData.int)]) := PVal.rd S 64 ((Tup.mk u, Tup.mk v) : Tup Int × Tup Int) (by decide)
theorem pair_show {u v : List Int} {l : Int} (hu : Let l u) (hv : Let l v) (hl : l ≤ 1000) (lu : u.length ≤ 100) (lv : v.length ≤ 100) : ShowOk (.tuple [.tuple (u.map PyData.int), .tuple (v.map PyData.int)]) := by
  refine (sm_tup (w := 4100) (n := 2) (fun x hx => ?_) (by simp)).ok (by decide) ?_
  · rcases List.mem_cons.mp hx with rfl | hx
    · exact sm_word hu hl lu
    · rw [List.mem_singleton.mp hx]; exact sm_word hv hl lv
  · exact Nat.le_trans (Datum.depth_le ((Tup.mk u, Tup.mk v) : Tup Int × Tup Int)) (by decide)
theorem non_show : ShowOk .none := sm_none.ok (by decide) (by decide)
theorem read_show {l : Int} {row : List Int} (h0 : 0 ≤ l) (hl : l ≤ 1000) (hr : ∀ z ∈ row, 0 ≤ z) (hn : row.length ≤ 100) : ∃ d, (∀ S, toD S 64 (readP l row) = some d) ∧ ShowOk d := by
  unfold readP
  by_cases p : side l (Up l row) (Vp l row) = row
  · rw [if_pos p]
    exact ⟨_, fun S => pair_toD _ _, pair_show (Up_let h0 hr) (Vp_let h0) hl (Nat.le_trans (Up_len l row) hn) (Nat.le_trans (Vp_len l row) hn)⟩
  · rw [if_neg p]
    exact ⟨.none, fun S => rfl, non_show⟩
theorem right_B1 {S : Store} {Q : Fl × PEnv → Store → Prop} {x0 x2 x3 x4 x5 x6 : Option PV} {l : Int} {row : List Int} (h1 : 1 ≤ l) (h4 : l ≤ 4) (hr : Let ((l + 1) * (l + 1) - 1) row) (hn : row.length ≤ 100)
    (q : ∀ S', Ext S S' → Q (.nx, [x0, some (.int l), x2, x3, x4, x5, x6, some (tupI row)]) S') : wps (g__law_words_right_B1 [x0, some (.int l), x2, x3, x4, x5, x6, some (tupI row)]) S Q := by
  obtain ⟨d, hd, ok⟩ := read_show (l := l) (row := row) (by omega) (by omega) (fun z hz => (hr z hz).1) hn
  unfold g__law_words_right_B1
  walk_at "dw"
  refine read_is (by omega) (by omega) hr hn fun S1 e1 => ?_
  rw [vv_repr (hd S1) ok]
  walk_at "dw"
  refine law_read_is (by omega) (by omega) (fun z hz => (hr z hz).1) hn fun S2 e2 => ?_
  rw [vv_repr (hd S2) ok]
  clear hd
  walk_at "dw"
  exact q S2 (e1.trans e2)
end KK

namespace KK
open PySem PySem.Spec PyProof.Rows L2 DL PySem.W
open Classical
local macro_rules | `(tactic| walk_at "dw") => `(tactic| try simp only [ws_seq, ws_nil, ws_retN, ws_bk, ws_ct, ws_expr, ws_ret, ws_set, ws_if, ws_asg, ws_sub, ws_aug, ws_for, ws_thru, ws_no, wv_var, wv_lit, wv_bin, wv_un, wv_nil, wv_cons, wv_args, wv_test, wv_asB, wv_and, wv_or, wv_not, wv_andV, wv_orV, wv_notV, wv_if, wv_chain,
  wv_noPart, wv_part, wv_asI, wv_slice, wv_mkTup, wv_mkLst, wv_methL, wsr_args, wsr_range1, wsr_range2, wsr_seq, wsr_tup, wsr_rev, wsr_zip, vv_rev_tup, wv_lc, wpx_ret, wpx_optM, tTrue, chkL1, chkL2, chkL3, chkL4,
  vv_add_int, vv_add_tup, vv_sub, vv_mul, vv_mulA_int, vv_div, vv_mod, vv_pow, vv_neg, vv_gt, vv_ge, vv_le, vv_lt, vv_eq_int, vv_ne_int, vv_eq_bl, vv_ne_bl, eqA_int, neA_int, eqA_bl, neA_bl, eqA_tup, neA_tup, eqA_cell, neA_cell, eqA_non, neA_non, vv_eqA_str, vv_neA_str, vv_ix_tup, vv_ix_cell, vv_set, vv_len_tup, vv_len_cell, vv_abs, vv_int_int, vv_int_bl, vv_tup_tup, vv_tup_cell, vv_lst_tup, vv_lst_cell, vv_slice_tup, vv_dm, vv_mx, vv_mn,
  isi_int_int, isi_int_bool, isi_int_tuple, isi_int_str, isi_int_list, isi_bool_int, isi_bool_bool, isi_bool_tuple, isi_bool_str, isi_bool_list, isi_str_int, isi_str_bool, isi_str_tuple, isi_str_str, isi_str_list, isi_none_int, isi_none_bool, isi_none_tuple, isi_none_str, isi_none_list, isi_tuple_int, isi_tuple_bool, isi_tuple_tuple, isi_tuple_str, isi_tuple_list,
  and_true, true_and, and_self, Cell.lst.injEq, items_lst, items_rls, vv_append, vv_isL, Option.some.injEq, exists_eq_left', exists_eq_left, List.map_cons, List.map_nil, List.length_cons, List.length_nil, List.length_map, List.replicate, List.cons_append, List.nil_append, List.getElem?_cons_zero, List.getElem?_cons_succ, List.set_cons_zero, List.set_cons_succ, bindT, atI0, atI1, atI2, atI3, ix41, ix42, ix43, Nat.reduceAdd, Nat.reduceSub, List.set_set, decide_true, decide_false, if_true, if_false, Bool.false_eq_true, decide_eq_true_eq, Bool.not_true, Bool.not_false, wpx_ite, eq_self, pick210, pick10, pick01, pick0, wipeP, *])
/-- what a def's suite ends by -/
def Rts (Q : PV → Store → Prop) (E : Exn → Store → Prop) : Fl × PEnv → Store → Prop := fun r S' => match r.1 with
  | .nx => Q .non S'
  | .rt d => Q d S'
  | .ex c => E c S'
  | _ => False
theorem let_app {l : Int} {a b : List Int} (ha : Let l a) (hb : Let l b) : Let l (a ++ b) := fun x hx => (List.mem_append.mp hx).elim (ha x) (hb x)
theorem right_R3 {ns : List Int} {S : Store} {Q : PV → Store → Prop} {E : Exn → Store → Prop} {x2 x3 x4 x6 x7 : Option PV} {l : Int} {n : Nat} {rs : List Int} (b : Bx ns S) (h1 : 1 ≤ l) (h4 : l ≤ 4) (hn : n ≠ 2) (hc : S[n]? = some (.lst (rs.map PV.int))) (hr : Let ((l + 1) * (l + 1) - 1) rs) (hl : rs.length ≤ 12)
    (q : ∀ S', Bx ns S' → Frm S S' → Q (.bl true) S') : wps (g__law_words_right_R3 [some (.cell 2), some (.int l), x2, x3, x4, some (.cell n), x6, x7]) S (Rts Q E) := by
  have hL := big_is h1 h4
  unfold g__law_words_right_R3
  walk_at "dw"
  refine ⟨cm_r ⟨by omega, by omega⟩, ?_⟩
  refine word_spec b hL.1 (by omega) (by decide) (by decide) fun ds S1 db dl b1 f1 => ?_
  have dl' : ds.length ≤ 5 := by simpa using dl
  have db' : Let ((l + 1) * (l + 1) - 1) ds := db
  have hc1 := f1.get hn hc
  clear hc dl db
  walk_at "dw"
  refine ⟨line_ok (by omega), line_ok (by decide), ?_⟩
  rw [← List.map_append]
  have e : (S1 ++ [Cell.lst [.tup (rs.map PV.int), tupI ds, .tup ((rs ++ ds).map PV.int)]])[S1.length]? = some (.lst [tupI rs, tupI ds, tupI (rs ++ ds)]) := by simp
  rw [wsr_cell e rfl]
  clear hc1
  have e0 := Ext.snoc S1 (Cell.lst [.tup (rs.map PV.int), tupI ds, .tup ((rs ++ ds).map PV.int)])
  generalize S1 ++ [Cell.lst [.tup (rs.map PV.int), tupI ds, .tup ((rs ++ ds).map PV.int)]] = S2 at *
  refine for_cons e rfl (right_B1 h1 h4 hr (by omega) fun S3 e3 => ?_)
  refine for_cons (e3.get e) rfl (right_B1 h1 h4 db' (by omega) fun S4 e4 => ?_)
  refine for_cons ((e3.trans e4).get e) rfl (right_B1 h1 h4 (let_app hr db') (by rw [List.length_append]; omega) fun S5 e5 => ?_)
  refine for_nil (((e3.trans e4).trans e5).get e) ?_
  have eE := ((e0.trans e3).trans e4).trans e5
  unfold g__law_words_right_R2
  clear e
  walk_at "dw"
  exact q S5 (b1.ext eE) (f1.trans (Ext.frm eE))
theorem set_let {L : Int} {rs : List Int} (h : Let L rs) {k : Nat} {d : Int} (hd : 0 ≤ d ∧ d < L) : Let L (rs.set k d) := fun x hx => by
  rcases List.mem_or_eq_of_mem_set hx with hx | hx
  · exact h x hx
  · rw [hx]; exact hd
theorem right_R4 {ns : List Int} {S : Store} {Q : PV → Store → Prop} {E : Exn → Store → Prop} {x2 x3 x5 x6 x7 : Option PV} {l : Int} {due : List Int} (b : Bx ns S) (h1 : 1 ≤ l) (h4 : l ≤ 4) (hr : Let ((l + 1) * (l + 1) - 1) due)
    (q : ∀ S', Bx ns S' → Frm S S' → Q (.bl true) S') : wps (g__law_words_right_R4 [some (.cell 2), some (.int l), x2, x3, some (tupI due), x5, x6, x7]) S (Rts Q E) := by
  have hL := big_is h1 h4
  have hS : 3 ≤ S.length := by
    obtain ⟨_, _, _, _, h2⟩ := b.c2
    have := (List.getElem?_eq_some_iff.mp h2).1
    omega
  have hl12 : (cutP due none (some 12)).length ≤ 12 := cut_to (n := 12) due
  have hrc : Let ((l + 1) * (l + 1) - 1) (cutP due none (some 12)) := let_cut hr _ _
  unfold g__law_words_right_R4
  simp only [ws_seq, ws_set, wv_args, wv_cons, wv_nil, wv_slice, wv_var, wv_noPart, wv_part, wv_lit, wv_asI, List.getElem?_cons_zero, List.getElem?_cons_succ, List.set_cons_zero, List.set_cons_succ, Option.some.injEq, exists_eq_left', vv_slice_tup, vv_lst_tup, cut_map]
  generalize cutP due none (some 12) = rs at *
  have hc : (S ++ [Cell.lst (rs.map PV.int)])[S.length]? = some (.lst (rs.map PV.int)) := by simp
  have e0 := Ext.snoc S (Cell.lst (rs.map PV.int))
  have b0 := b.ext e0
  generalize S ++ [Cell.lst (rs.map PV.int)] = S1 at *
  generalize hn : S.length = n at *
  simp only [ws_if, wv_test, wv_bin, wv_args, wv_cons, wv_nil, wv_var, wv_lit, List.getElem?_cons_zero, List.getElem?_cons_succ, Option.some.injEq, exists_eq_left', vv_len_cell, hc, items_lst, List.length_map, vv_gt, wv_asB]
  by_cases p : (0 : Int) < rs.length
  · simp only [p, decide_true, if_true, ws_sub, wv_args, wv_cons, wv_bin, wv_var, wv_lit, wv_nil, List.getElem?_cons_zero, List.getElem?_cons_succ, Option.some.injEq, exists_eq_left', chkL2, vv_add_int, vv_mulA_int, vv_sub]
    refine ⟨cm_r ⟨by omega, by omega⟩, ?_⟩
    refine draw_all b0 hL.1 (by omega) fun d S2 d0 d1 b2 f2 e2 => ?_
    have hc2 := f2.get (by omega) hc
    clear e2
    simp only [wv_args, wv_cons, wv_nil, wv_var, List.getElem?_cons_zero, List.getElem?_cons_succ, Option.some.injEq, exists_eq_left', vv_len_cell, hc2, items_lst, List.length_map]
    refine draw_all b2 p (by omega) fun k S3 k0 k1 b3 f3 e3 => ?_
    have hc3 := f3.get (by omega) hc2
    clear e3
    rw [vv_set]
    refine ⟨_, hc3, k.toNat, ixN_pos k0 (by rw [List.length_map]; exact k1), ?_⟩
    have hlt := (List.getElem?_eq_some_iff.mp hc3).1
    refine right_R3 (rs := rs.set k.toNat d) (b3.put (by omega) _) h1 h4 (by omega) ?_ (set_let hrc ⟨d0, d1⟩) (by rw [List.length_set]; exact hl12) fun S' b' f' => q S' b' ?_
    · rw [List.getElem?_set_self hlt, List.map_set]
    · have f03 : Frm S S3 := ((Ext.frm e0).trans f2).trans f3
      refine Frm.trans ⟨by rw [List.length_set]; exact f03.len, fun j j2 jl => ?_⟩ f'
      rw [List.getElem?_set_ne (by omega)]; exact f03.stay j j2 jl
  · simp only [p, decide_false, Bool.false_eq_true, if_false, ws_nil]
    exact right_R3 b0 h1 h4 (by omega) hc hrc hl12 fun S' b' f' => q S' b' ((Ext.frm e0).trans f')
end KK

namespace KK
open PySem PySem.Spec PyProof.Rows L2 DL PySem.W
open Classical
local macro_rules | `(tactic| walk_at "dw") => `(tactic| try simp only [ws_seq, ws_nil, ws_retN, ws_bk, ws_ct, ws_expr, ws_ret, ws_set, ws_if, ws_asg, ws_sub, ws_aug, ws_for, ws_thru, ws_no, wv_var, wv_lit, wv_bin, wv_un, wv_nil, wv_cons, wv_args, wv_test, wv_asB, wv_and, wv_or, wv_not, wv_andV, wv_orV, wv_notV, wv_if, wv_chain,
  wv_noPart, wv_part, wv_asI, wv_slice, wv_mkTup, wv_mkLst, wv_methL, wsr_args, wsr_range1, wsr_range2, wsr_seq, wsr_tup, wsr_rev, wsr_zip, vv_rev_tup, wv_lc, wpx_ret, wpx_optM, tTrue, chkL1, chkL2, chkL3, chkL4,
  vv_add_int, vv_add_tup, vv_sub, vv_mul, vv_mulA_int, vv_div, vv_mod, vv_pow, vv_neg, vv_gt, vv_ge, vv_le, vv_lt, vv_eq_int, vv_ne_int, vv_eq_bl, vv_ne_bl, eqA_int, neA_int, eqA_bl, neA_bl, eqA_tup, neA_tup, eqA_cell, neA_cell, eqA_non, neA_non, vv_eqA_str, vv_neA_str, vv_ix_tup, vv_ix_cell, vv_set, vv_len_tup, vv_len_cell, vv_abs, vv_int_int, vv_int_bl, vv_tup_tup, vv_tup_cell, vv_lst_tup, vv_lst_cell, vv_slice_tup, vv_dm, vv_mx, vv_mn,
  isi_int_int, isi_int_bool, isi_int_tuple, isi_int_str, isi_int_list, isi_bool_int, isi_bool_bool, isi_bool_tuple, isi_bool_str, isi_bool_list, isi_str_int, isi_str_bool, isi_str_tuple, isi_str_str, isi_str_list, isi_none_int, isi_none_bool, isi_none_tuple, isi_none_str, isi_none_list, isi_tuple_int, isi_tuple_bool, isi_tuple_tuple, isi_tuple_str, isi_tuple_list,
  and_true, true_and, and_self, Cell.lst.injEq, items_lst, items_rls, vv_append, vv_isL, Option.some.injEq, exists_eq_left', exists_eq_left, List.map_cons, List.map_nil, List.length_cons, List.length_nil, List.length_map, List.replicate, List.cons_append, List.nil_append, List.getElem?_cons_zero, List.getElem?_cons_succ, List.set_cons_zero, List.set_cons_succ, bindT, atI0, atI1, atI2, atI3, ix41, ix42, ix43, Nat.reduceAdd, Nat.reduceSub, List.set_set, decide_true, decide_false, if_true, if_false, Bool.false_eq_true, decide_eq_true_eq, Bool.not_true, Bool.not_false, wpx_ite, eq_self, pick210, pick10, pick01, pick0, wipeP, *])
theorem right_R6 {ns : List Int} {S : Store} {Q : PV → Store → Prop} {E : Exn → Store → Prop} {x4 x5 x6 x7 : Option PV} {l : Int} {u v : List Int} (b : Bx ns S) (h1 : 1 ≤ l) (h4 : l ≤ 4) (hu : Let l u) (hv : Let l v) (lu : u.length ≤ 40) (lv : v.length ≤ 40)
    (q : ∀ S', Bx ns S' → Frm S S' → Q (.bl true) S') : wps (g__law_words_right_R6 [some (.cell 2), some (.int l), some (tupI u), some (tupI v), x4, x5, x6, x7]) S (Rts Q E) := by
  have hs := side_let h1 h4 hu hv
  have hsl : (side l u v).length ≤ 40 := by rw [side_len]; omega
  have hL := big_is h1 h4
  have sd : ShowOk (.tuple ((side l u v).map PyData.int)) := show_let hs (by omega) (by omega)
  have pd : ShowOk (.tuple [.tuple (u.map PyData.int), .tuple (v.map PyData.int)]) := pair_show hu hv (by omega) (by omega) (by omega)
  unfold g__law_words_right_R6
  walk_at "dw"
  refine law_side_is (by omega) (by omega) (by omega) (by omega) fun S1 e1 => ?_
  walk_at "dw"
  refine side_is (by omega) (by omega) hu hv (by omega) (by omega) fun S2 e2 => ?_
  rw [vv_repr (tupI_toD _) sd]
  walk_at "dw"
  rw [vv_repr (tupI_toD _) sd]
  walk_at "dw"
  refine side_is (by omega) (by omega) hu hv (by omega) (by omega) fun S3 e3 => ?_
  rw [vv_repr (tupI_toD _) sd]
  walk_at "dw"
  rw [vv_repr (tupI_toD _) sd]
  walk_at "dw"
  have eA := (e1.trans e2).trans e3
  unfold g__law_words_right_R5
  walk_at "dw"
  refine read_is (by omega) (by omega) hs (by omega) fun S4 e4 => ?_
  rw [read_side (by omega) hu hv, vv_repr (pair_toD _ _) pd]
  walk_at "dw"
  refine ⟨line_ok (by decide), ?_⟩
  rw [vv_repr (pair_toD _ _) pd]
  walk_at "dw"
  refine read_is (by omega) (by omega) hs (by omega) fun S5 e5 => ?_
  rw [read_side (by omega) hu hv, vv_repr (pair_toD _ _) pd]
  walk_at "dw"
  refine ⟨line_ok (by decide), ?_⟩
  rw [vv_repr (pair_toD _ _) pd]
  walk_at "dw"
  have eB := (eA.trans e4).trans e5
  exact right_R4 (b.ext eB) h1 h4 hs fun S' b' f' => q S' b' ((Ext.frm eB).trans f')
theorem drawn_word {ns : List Int} {S : Store} {Q : PV → Store → Prop} {E : Exn → Store → Prop} {r l : Int} {n : Nat} (b : Bx ns S) (hn : S[n]? = some (.lst [.int 3, .int 8, .int 40])) (h1 : 1 ≤ l) (h4 : l ≤ 4) (r0 : 0 ≤ r) (r1 : r < 3)
    (q : ∀ (ws : List Int) S', Let l ws → ws.length ≤ 40 → Bx ns S' → Frm S S' → Q (tupI ws) S') : wpx (ixV (.cell n) (.int r)) S (fun x S1 => wpx (F__law_word [.cell 2, .int l, x]) S1 Q E) E := by
  have hk : ∃ k : Int, L2.atI [PV.int 3, PV.int 8, PV.int 40] r = some (.int k) ∧ 0 ≤ k ∧ k ≤ 40 := by
    obtain rfl | rfl | rfl : r = 0 ∨ r = 1 ∨ r = 2 := by omega
    · exact ⟨3, atI0, by decide, by decide⟩
    · exact ⟨8, atI1, by decide, by decide⟩
    · exact ⟨40, atI2, by decide, by decide⟩
  obtain ⟨k, ek, k0, k1⟩ := hk
  rw [vv_ix_cell]
  refine ⟨_, hn, _, rfl, _, ek, ?_⟩
  exact word_spec b (by omega) (by omega) k0 (by omega) fun ws S2 wb wl b2 f2 => q ws S2 wb (by omega) b2 f2
theorem words_right_is {ns : List Int} {S : Store} {Q : PV → Store → Prop} {E : Exn → Store → Prop} {l : Int} (b : Bx ns S) (h1 : 1 ≤ l) (h4 : l ≤ 4)
    (q : ∀ S', Bx ns S' → Frm S S' → Q (.bl true) S') : wpx (F__law_words_right [.cell 2, .int l]) S Q E := by
  unfold F__law_words_right
  refine wp_run ?_
  show wps _ S (Rts Q E)
  have big3 : ∀ {T : Store}, Bx ns T → 3 ≤ T.length := fun {T} b => by
    obtain ⟨_, _, _, _, h2⟩ := b.c2
    have := (List.getElem?_eq_some_iff.mp h2).1
    omega
  unfold g__law_words_right
  walk_at "dw"
  refine ⟨line_ok (by decide), ?_⟩
  refine draw_all (b.snoc _) (by decide) (by decide) fun r S1 r0 r1 b1 f1 e1 => ?_
  clear e1
  have b3 := big3 b
  refine drawn_word b1 (f1.get (by omega) (by simp)) h1 h4 r0 r1 fun u S2 hu lu b2 f2 => ?_
  have f02 : Frm S S2 := ((Frm.snoc S _).trans f1).trans f2
  clear f1 f2 b1
  walk_at "dw"
  refine ⟨line_ok (by decide), ?_⟩
  refine draw_all (b2.snoc _) (by decide) (by decide) fun r' S3 r0' r1' b3' f3 e3 => ?_
  clear e3
  have b32 := big3 b2
  refine drawn_word b3' (f3.get (by omega) (by simp)) h1 h4 r0' r1' fun v S4 hv lv b4 f4 => ?_
  have f04 : Frm S S4 := ((f02.trans (Frm.snoc S2 _)).trans f3).trans f4
  clear f3 f4 b3'
  walk_at "dw"
  refine draw_all b4 (by decide) (by decide) fun t S5 t0 t1 b5 f5 e5 => ?_
  clear e5
  have f05 := f04.trans f5
  walk_at "dw"
  by_cases p : t = 0
  · simp only [p, decide_true, if_true]
    walk_at "dw"
    refine draw_all b5 (by omega) (by omega) fun z S6 z0 z1 b6 f6 e6 => ?_
    clear e6
    simp only [wv_asI, vv_slice_tup, cut_map]
    have lc := cut_len u none (some z)
    with_reducible refine right_R6 (Q := Q) (E := E) b6 h1 h4 hu (let_cut hu none (some z)) lu (Nat.le_trans lc lu) fun S' b' f' => q S' b' ((f05.trans f6).trans f')
  · simp only [p, decide_false, Bool.false_eq_true, if_false]
    with_reducible refine right_R6 (Q := Q) (E := E) b5 h1 h4 hu hv lu lv fun S' b' f' => q S' b' (f05.trans f')
theorem all_is {ns : List Int} {Q : PV → Store → Prop} {E : Exn → Store → Prop} (hn : ns.length ≤ 63) (q : ∀ S', Q (.bl true) S') : wpx (F__law_all [.cell 0]) [.rls (ns.map PV.int)] Q E := by
  unfold F__law_all
  refine wp_run ?_
  unfold g__law_all
  walk_at "dw"
  refine box_spec hn fun S1 l1 b1 => ?_
  walk_at "dw"
  refine ⟨⟨by decide, by decide⟩, ?_⟩
  have hmem : ∀ x ∈ (srcRange 0 (8 : Int).toNat).items, ∃ k : Int, x = .int k := fun x hx => by
    rw [range_items] at hx
    obtain ⟨k, hk, rfl⟩ := List.mem_map.mp hx
    exact ⟨k, rfl⟩
  refine for_inv (fun xs ρ S => (∀ x ∈ xs, ∃ k : Int, x = .int k) ∧ ∃ x2, ρ = [some (.cell 0), some (.cell 2), x2] ∧ Bx ns S) _ _ _ ⟨hmem, _, rfl, b1⟩ (fun _ _ _ _ => trivial) ?_ ?_
  · rintro ρ S ⟨_, x2, rfl, b⟩
    have n0 : Let 2 ([] : List Int) := fun x hx => by cases hx
    have n1 : Let ((2 + 1) * (2 + 1) - 1) ([] : List Int) := fun x hx => by cases hx
    have t0 : PV.tup [] = tupI [] := rfl
    have s0 : side 2 [] [] = [] := rfl
    have sd : ShowOk (.tuple (([] : List Int).map PyData.int)) := show_let n0 (by decide) (by decide)
    have pd : ShowOk (.tuple [.tuple (([] : List Int).map PyData.int), .tuple (([] : List Int).map PyData.int)]) := pair_show n0 n0 (by decide) (by decide) (by decide)
    have r0 : readP 2 [] = .tup [tupI [], tupI []] := by have := read_side (l := 2) (by decide) n0 n0; rw [s0] at this; exact this
    unfold g__law_all_R2
    walk_at "dw"
    refine ⟨line_ok (by decide), line_ok (by decide), ?_⟩
    refine side_is (by decide) (by decide) n0 n0 (by decide) (by decide) fun S2 e2 => ?_
    rw [s0, vv_repr (tupI_toD _) sd]
    refine ⟨line_ok (by decide), ?_⟩
    rw [vv_repr (tupI_toD _) sd, vv_eqA_str, wv_asB, decide_eq_true rfl, if_pos rfl]
    refine ⟨line_ok (by decide), ?_⟩
    refine read_is (by decide) (by decide) n1 (by decide) fun S3 e3 => ?_
    rw [r0, vv_repr (pair_toD _ _) pd]
    refine ⟨line_ok (by decide), line_ok (by decide), line_ok (by decide), ?_⟩
    rw [vv_repr (pair_toD _ _) pd, vv_eqA_str, decide_eq_true rfl]
    exact q _
  · rintro x xs ρ S ⟨h, x2, rfl, b⟩
    obtain ⟨k, rfl⟩ := h x List.mem_cons_self
    refine ⟨_, rfl, ?_⟩
    unfold g__law_all_B1
    walk_at "dw"
    refine ⟨by decide, ?_⟩
    have hd := digit (a := k) (l := 4) (by decide)
    refine words_right_is b (by omega) (by omega) fun S' b' f' => ?_
    walk_at "dw"
    exact ⟨fun y hy => h y (List.mem_cons_of_mem _ hy), _, rfl⟩
theorem law_ends {ns : List Int} (hn : ns.length ≤ 63) : ∃ S', F_law [.cell 0] [.rls (ns.map PV.int)] = .ok (.bl true) S' := by
  refine eq_of_wpx ?_
  unfold F_law
  refine wp_run ?_
  unfold g_law
  walk_at "dw"
  refine all_is hn fun S' => ?_
  exact ⟨fun c e => (nomatch e), rfl⟩
end KK

namespace KK
open PySem PySem.Spec PyProof.Rows L2 DL
/-! what the top has written -/
theorem all_mk {l : PySem.W.OpenLaw} {w : World} {K : PySem.W.Frag} {h : Heap} {mg : Str → Option Value} {fa f0 f1 f2 f3 f4 f5 f6 f7 f8 f9 f10 f11 f12 f13 f14 f15 : Addr} (X : K.In h) (G : h.Ns mainGlobals mg) (hfa : mg "law" = some (.ref fa))
    {od0 an0 od1 an1 od2 an2 od3 an3 od4 an4 od5 an5 od6 an6 od7 an7 od8 an8 od9 an9 od10 an10 od11 an11 od12 an12 od13 an13 od14 an14 od15 an15 : Option Addr} {sl0 sl1 sl2 sl3 sl4 sl5 sl6 sl7 sl8 sl9 sl10 sl11 sl12 sl13 sl14 sl15 : Array (Option Value)} {oc0 kV0 dc0 pm0 cd0 ct0 oc1 kV1 dc1 pm1 cd1 ct1 oc2 kV2 dc2 pm2 cd2 ct2 oc3 kV3 dc3 pm3 cd3 ct3 oc4 kV4 dc4 pm4 cd4 ct4 oc5 kV5 dc5 pm5 cd5 ct5 oc6 kV6 dc6 pm6 cd6 ct6 oc7 kV7 dc7 pm7 cd7 ct7 oc8 kV8 dc8 pm8 cd8 ct8 oc9 kV9 dc9 pm9 cd9 ct9 oc10 kV10 dc10 pm10 cd10 ct10 oc11 kV11 dc11 pm11 cd11 ct11 oc12 kV12 dc12 pm12 cd12 ct12 oc13 kV13 dc13 pm13 cd13 ct13 oc14 kV14 dc14 pm14 cd14 ct14 oc15 kV15 dc15 pm15 cd15 ct15 : Value}
    (a0 : PySem.W.nsIn K mainGlobals "is_whole" = some (some (.ref f0))) (l0 : K.lookup f0 = some ⟨oc0, od0, .func (PySem.W.fnOf "is_whole" "is_whole" (defArgs s_is_whole) (defBody s_is_whole) (defScope s_is_whole) .none kV0 dc0 pm0 an0 cd0 ct0), sl0⟩) (c0 : PySem.W.codeIn K cd0 "is_whole" = true) (k0 : PySem.W.keepIn K (.ref f0) = true)
    (a1 : PySem.W.nsIn K mainGlobals "is_number" = some (some (.ref f1))) (l1 : K.lookup f1 = some ⟨oc1, od1, .func (PySem.W.fnOf "is_number" "is_number" (defArgs s_is_number) (defBody s_is_number) (defScope s_is_number) .none kV1 dc1 pm1 an1 cd1 ct1), sl1⟩) (c1 : PySem.W.codeIn K cd1 "is_number" = true) (k1 : PySem.W.keepIn K (.ref f1) = true)
    (a2 : PySem.W.nsIn K mainGlobals "is_word" = some (some (.ref f2))) (l2 : K.lookup f2 = some ⟨oc2, od2, .func (PySem.W.fnOf "is_word" "is_word" (defArgs s_is_word) (defBody s_is_word) (defScope s_is_word) .none kV2 dc2 pm2 an2 cd2 ct2), sl2⟩) (c2 : PySem.W.codeIn K cd2 "is_word" = true) (k2 : PySem.W.keepIn K (.ref f2) = true)
    (a3 : PySem.W.nsIn K mainGlobals "pair_letters" = some (some (.ref f3))) (l3 : K.lookup f3 = some ⟨oc3, od3, .func (PySem.W.fnOf "pair_letters" "pair_letters" (defArgs s_pair_letters) (defBody s_pair_letters) (defScope s_pair_letters) .none kV3 dc3 pm3 an3 cd3 ct3), sl3⟩) (c3 : PySem.W.codeIn K cd3 "pair_letters" = true) (k3 : PySem.W.keepIn K (.ref f3) = true)
    (a4 : PySem.W.nsIn K mainGlobals "pair_letter" = some (some (.ref f4))) (l4 : K.lookup f4 = some ⟨oc4, od4, .func (PySem.W.fnOf "pair_letter" "pair_letter" (defArgs s_pair_letter) (defBody s_pair_letter) (defScope s_pair_letter) .none kV4 dc4 pm4 an4 cd4 ct4), sl4⟩) (c4 : PySem.W.codeIn K cd4 "pair_letter" = true) (k4 : PySem.W.keepIn K (.ref f4) = true)
    (a5 : PySem.W.nsIn K mainGlobals "side_by_side" = some (some (.ref f5))) (l5 : K.lookup f5 = some ⟨oc5, od5, .func (PySem.W.fnOf "side_by_side" "side_by_side" (defArgs s_side_by_side) (defBody s_side_by_side) (defScope s_side_by_side) .none kV5 dc5 pm5 an5 cd5 ct5), sl5⟩) (c5 : PySem.W.codeIn K cd5 "side_by_side" = true) (k5 : PySem.W.keepIn K (.ref f5) = true)
    (a6 : PySem.W.nsIn K mainGlobals "sides" = some (some (.ref f6))) (l6 : K.lookup f6 = some ⟨oc6, od6, .func (PySem.W.fnOf "sides" "sides" (defArgs s_sides) (defBody s_sides) (defScope s_sides) .none kV6 dc6 pm6 an6 cd6 ct6), sl6⟩) (c6 : PySem.W.codeIn K cd6 "sides" = true) (k6 : PySem.W.keepIn K (.ref f6) = true)
    (a7 : PySem.W.nsIn K mainGlobals "read_pair" = some (some (.ref f7))) (l7 : K.lookup f7 = some ⟨oc7, od7, .func (PySem.W.fnOf "read_pair" "read_pair" (defArgs s_read_pair) (defBody s_read_pair) (defScope s_read_pair) .none kV7 dc7 pm7 an7 cd7 ct7), sl7⟩) (c7 : PySem.W.codeIn K cd7 "read_pair" = true) (k7 : PySem.W.keepIn K (.ref f7) = true)
    (a8 : PySem.W.nsIn K mainGlobals "_law_box" = some (some (.ref f8))) (l8 : K.lookup f8 = some ⟨oc8, od8, .func (PySem.W.fnOf "_law_box" "_law_box" (defArgs s__law_box) (defBody s__law_box) (defScope s__law_box) .none kV8 dc8 pm8 an8 cd8 ct8), sl8⟩) (c8 : PySem.W.codeIn K cd8 "_law_box" = true) (k8 : PySem.W.keepIn K (.ref f8) = true)
    (a9 : PySem.W.nsIn K mainGlobals "_law_draw" = some (some (.ref f9))) (l9 : K.lookup f9 = some ⟨oc9, od9, .func (PySem.W.fnOf "_law_draw" "_law_draw" (defArgs s__law_draw) (defBody s__law_draw) (defScope s__law_draw) .none kV9 dc9 pm9 an9 cd9 ct9), sl9⟩) (c9 : PySem.W.codeIn K cd9 "_law_draw" = true) (k9 : PySem.W.keepIn K (.ref f9) = true)
    (a10 : PySem.W.nsIn K mainGlobals "_law_word" = some (some (.ref f10))) (l10 : K.lookup f10 = some ⟨oc10, od10, .func (PySem.W.fnOf "_law_word" "_law_word" (defArgs s__law_word) (defBody s__law_word) (defScope s__law_word) .none kV10 dc10 pm10 an10 cd10 ct10), sl10⟩) (c10 : PySem.W.codeIn K cd10 "_law_word" = true) (k10 : PySem.W.keepIn K (.ref f10) = true)
    (a11 : PySem.W.nsIn K mainGlobals "_law_side" = some (some (.ref f11))) (l11 : K.lookup f11 = some ⟨oc11, od11, .func (PySem.W.fnOf "_law_side" "_law_side" (defArgs s__law_side) (defBody s__law_side) (defScope s__law_side) .none kV11 dc11 pm11 an11 cd11 ct11), sl11⟩) (c11 : PySem.W.codeIn K cd11 "_law_side" = true) (k11 : PySem.W.keepIn K (.ref f11) = true)
    (a12 : PySem.W.nsIn K mainGlobals "_law_read" = some (some (.ref f12))) (l12 : K.lookup f12 = some ⟨oc12, od12, .func (PySem.W.fnOf "_law_read" "_law_read" (defArgs s__law_read) (defBody s__law_read) (defScope s__law_read) .none kV12 dc12 pm12 an12 cd12 ct12), sl12⟩) (c12 : PySem.W.codeIn K cd12 "_law_read" = true) (k12 : PySem.W.keepIn K (.ref f12) = true)
    (a13 : PySem.W.nsIn K mainGlobals "_law_words_right" = some (some (.ref f13))) (l13 : K.lookup f13 = some ⟨oc13, od13, .func (PySem.W.fnOf "_law_words_right" "_law_words_right" (defArgs s__law_words_right) (defBody s__law_words_right) (defScope s__law_words_right) .none kV13 dc13 pm13 an13 cd13 ct13), sl13⟩) (c13 : PySem.W.codeIn K cd13 "_law_words_right" = true) (k13 : PySem.W.keepIn K (.ref f13) = true)
    (a14 : PySem.W.nsIn K mainGlobals "_law_all" = some (some (.ref f14))) (l14 : K.lookup f14 = some ⟨oc14, od14, .func (PySem.W.fnOf "_law_all" "_law_all" (defArgs s__law_all) (defBody s__law_all) (defScope s__law_all) .none kV14 dc14 pm14 an14 cd14 ct14), sl14⟩) (c14 : PySem.W.codeIn K cd14 "_law_all" = true) (k14 : PySem.W.keepIn K (.ref f14) = true)
    (a15 : PySem.W.nsIn K mainGlobals "law" = some (some (.ref f15))) (l15 : K.lookup f15 = some ⟨oc15, od15, .func (PySem.W.fnOf "law" "law" (defArgs s_law) (defBody s_law) (defScope s_law) .none kV15 dc15 pm15 an15 cd15 ct15), sl15⟩) (c15 : PySem.W.codeIn K cd15 "law" = true) (k15 : PySem.W.keepIn K (.ref f15) = true)
    (z_abs : PySem.W.nsIn K mainGlobals "abs" = some none)
    (z_all : PySem.W.nsIn K mainGlobals "all" = some none)
    (z_bool : PySem.W.nsIn K mainGlobals "bool" = some none)
    (z_divmod : PySem.W.nsIn K mainGlobals "divmod" = some none)
    (z_int : PySem.W.nsIn K mainGlobals "int" = some none)
    (z_isinstance : PySem.W.nsIn K mainGlobals "isinstance" = some none)
    (z_len : PySem.W.nsIn K mainGlobals "len" = some none)
    (z_list : PySem.W.nsIn K mainGlobals "list" = some none)
    (z_max : PySem.W.nsIn K mainGlobals "max" = some none)
    (z_range : PySem.W.nsIn K mainGlobals "range" = some none)
    (z_repr : PySem.W.nsIn K mainGlobals "repr" = some none)
    (z_tuple : PySem.W.nsIn K mainGlobals "tuple" = some none)
    (z_zip : PySem.W.nsIn K mainGlobals "zip" = some none)
    : ∃ (fd : FuncData) (F : FD), (∀ (s : Shared) (u : Value), BindsTo s fd ⟨[u], []⟩ [("script", u)]) ∧ (∀ base : Heap, K.In base → base.Ns mainGlobals mg → FnG l.prog w K mg base 9 fa fd ["script"] (spD K 1 F)) ∧ ∀ ns : List Int, ns.length ≤ 63 → ∃ S, F [.cell 0] [.rls (ns.map PV.int)] = .ok (.bl true) S := by
  have e := hfa.symm.trans (PySem.W.mg_of X G a15)
  cases e
  have F0 := fun_mk (st := s_is_whole) l0 c0 k0
  have b0 := F0.binds (ps := ["value"]) fun _ _ _ _ _ _ us hl => match us, hl with | [_], _ => rfl
  have F1 := fun_mk (st := s_is_number) l1 c1 k1
  have b1 := F1.binds (ps := ["value"]) fun _ _ _ _ _ _ us hl => match us, hl with | [_], _ => rfl
  have F2 := fun_mk (st := s_is_word) l2 c2 k2
  have b2 := F2.binds (ps := ["value", "letters"]) fun _ _ _ _ _ _ us hl => match us, hl with | [_, _], _ => rfl
  have F3 := fun_mk (st := s_pair_letters) l3 c3 k3
  have b3 := F3.binds (ps := ["letters"]) fun _ _ _ _ _ _ us hl => match us, hl with | [_], _ => rfl
  have F4 := fun_mk (st := s_pair_letter) l4 c4 k4
  have b4 := F4.binds (ps := ["letters", "x", "y"]) fun _ _ _ _ _ _ us hl => match us, hl with | [_, _, _], _ => rfl
  have F5 := fun_mk (st := s_side_by_side) l5 c5 k5
  have b5 := F5.binds (ps := ["letters", "u", "v"]) fun _ _ _ _ _ _ us hl => match us, hl with | [_, _, _], _ => rfl
  have F6 := fun_mk (st := s_sides) l6 c6 k6
  have b6 := F6.binds (ps := ["letters", "row"]) fun _ _ _ _ _ _ us hl => match us, hl with | [_, _], _ => rfl
  have F7 := fun_mk (st := s_read_pair) l7 c7 k7
  have b7 := F7.binds (ps := ["letters", "row"]) fun _ _ _ _ _ _ us hl => match us, hl with | [_, _], _ => rfl
  have F8 := fun_mk (st := s__law_box) l8 c8 k8
  have b8 := F8.binds (ps := ["script"]) fun _ _ _ _ _ _ us hl => match us, hl with | [_], _ => rfl
  have F9 := fun_mk (st := s__law_draw) l9 c9 k9
  have b9 := F9.binds (ps := ["box", "limit"]) fun _ _ _ _ _ _ us hl => match us, hl with | [_, _], _ => rfl
  have F10 := fun_mk (st := s__law_word) l10 c10 k10
  have b10 := F10.binds (ps := ["box", "letters", "most"]) fun _ _ _ _ _ _ us hl => match us, hl with | [_, _, _], _ => rfl
  have F11 := fun_mk (st := s__law_side) l11 c11 k11
  have b11 := F11.binds (ps := ["letters", "u", "v"]) fun _ _ _ _ _ _ us hl => match us, hl with | [_, _, _], _ => rfl
  have F12 := fun_mk (st := s__law_read) l12 c12 k12
  have b12 := F12.binds (ps := ["letters", "row"]) fun _ _ _ _ _ _ us hl => match us, hl with | [_, _], _ => rfl
  have F13 := fun_mk (st := s__law_words_right) l13 c13 k13
  have b13 := F13.binds (ps := ["box", "letters"]) fun _ _ _ _ _ _ us hl => match us, hl with | [_, _], _ => rfl
  have F14 := fun_mk (st := s__law_all) l14 c14 k14
  have b14 := F14.binds (ps := ["script"]) fun _ _ _ _ _ _ us hl => match us, hl with | [_], _ => rfl
  have F15 := fun_mk (st := s_law) l15 c15 k15
  have b15 := F15.binds (ps := ["script"]) fun _ _ _ _ _ _ us hl => match us, hl with | [_], _ => rfl
  have T : TX K mg f0 _ f1 _ f2 _ f3 _ f4 _ f5 _ f6 _ f7 _ f8 _ f9 _ f10 _ f11 _ f12 _ f13 _ f14 _ fa _ := {
    z_abs := PySem.W.mg_none_of X G z_abs
    z_all := PySem.W.mg_none_of X G z_all
    z_bool := PySem.W.mg_none_of X G z_bool
    z_divmod := PySem.W.mg_none_of X G z_divmod
    z_int := PySem.W.mg_none_of X G z_int
    z_isinstance := PySem.W.mg_none_of X G z_isinstance
    z_len := PySem.W.mg_none_of X G z_len
    z_list := PySem.W.mg_none_of X G z_list
    z_max := PySem.W.mg_none_of X G z_max
    z_range := PySem.W.mg_none_of X G z_range
    z_repr := PySem.W.mg_none_of X G z_repr
    z_tuple := PySem.W.mg_none_of X G z_tuple
    z_zip := PySem.W.mg_none_of X G z_zip
    d_is_whole := ⟨PySem.W.mg_of X G a0, F0, b0⟩
    d_is_number := ⟨PySem.W.mg_of X G a1, F1, b1⟩
    d_is_word := ⟨PySem.W.mg_of X G a2, F2, b2⟩
    d_pair_letters := ⟨PySem.W.mg_of X G a3, F3, b3⟩
    d_pair_letter := ⟨PySem.W.mg_of X G a4, F4, b4⟩
    d_side_by_side := ⟨PySem.W.mg_of X G a5, F5, b5⟩
    d_sides := ⟨PySem.W.mg_of X G a6, F6, b6⟩
    d_read_pair := ⟨PySem.W.mg_of X G a7, F7, b7⟩
    d__law_box := ⟨PySem.W.mg_of X G a8, F8, b8⟩
    d__law_draw := ⟨PySem.W.mg_of X G a9, F9, b9⟩
    d__law_word := ⟨PySem.W.mg_of X G a10, F10, b10⟩
    d__law_side := ⟨PySem.W.mg_of X G a11, F11, b11⟩
    d__law_read := ⟨PySem.W.mg_of X G a12, F12, b12⟩
    d__law_words_right := ⟨PySem.W.mg_of X G a13, F13, b13⟩
    d__law_all := ⟨PySem.W.mg_of X G a14, F14, b14⟩
    d_law := ⟨PySem.W.mg_of X G a15, F15, b15⟩
    k_read_pair_row_letters := fun s ws h => match ws, h with | [_, _], _ => .of_eq rfl
    k_side_by_side_v_u_letters := fun s ws h => match ws, h with | [_, _, _], _ => .of_eq rfl }
  exact ⟨_, F_law, fun s v => .of_eq rfl, fun base _ _ => ok_law T, fun ns hn => law_ends hn⟩
end KK
open PySem PySem.W PyProof.Rows
set_option maxHeartbeats 0 in
theorem PySem.Challenge.cw_normalwords_k14_side_by_side_and_back_holds : PySem.Challenge.rw_normalwords_k14_side_by_side_and_back.Holds := by
  w_on; o_law; k_head; (case hw => w_witness2)
  k_fill
  refine DL.walk_G (l := PySem.Challenge.rw_normalwords_k14_side_by_side_and_back) (n := 63) (k := 9) (x := "script") rfl (by decide) rfl ⟨rfl, by decide, by decide⟩ (fun w h Y => PySem.W.kIn_of Y) ?F
  case F =>
    intro w mg fa h KX G hmg
    refine' KK.all_mk KX G hmg ?a0 ?l0 ?c0 ?k0 ?a1 ?l1 ?c1 ?k1 ?a2 ?l2 ?c2 ?k2 ?a3 ?l3 ?c3 ?k3 ?a4 ?l4 ?c4 ?k4 ?a5 ?l5 ?c5 ?k5 ?a6 ?l6 ?c6 ?k6 ?a7 ?l7 ?c7 ?k7 ?a8 ?l8 ?c8 ?k8 ?a9 ?l9 ?c9 ?k9 ?a10 ?l10 ?c10 ?k10 ?a11 ?l11 ?c11 ?k11 ?a12 ?l12 ?c12 ?k12 ?a13 ?l13 ?c13 ?k13 ?a14 ?l14 ?c14 ?k14 ?a15 ?l15 ?c15 ?k15 ?z_abs ?z_all ?z_bool ?z_divmod ?z_int ?z_isinstance ?z_len ?z_list ?z_max ?z_range ?z_repr ?z_tuple ?z_zip
    (case a0 => k_is); (case l0 => k_is); (case c0 => k_is); (case k0 => k_is); (case a1 => k_is); (case l1 => k_is); (case c1 => k_is); (case k1 => k_is); (case a2 => k_is); (case l2 => k_is); (case c2 => k_is); (case k2 => k_is); (case a3 => k_is); (case l3 => k_is); (case c3 => k_is); (case k3 => k_is); (case a4 => k_is); (case l4 => k_is); (case c4 => k_is); (case k4 => k_is); (case a5 => k_is); (case l5 => k_is); (case c5 => k_is); (case k5 => k_is); (case a6 => k_is); (case l6 => k_is); (case c6 => k_is); (case k6 => k_is); (case a7 => k_is); (case l7 => k_is); (case c7 => k_is); (case k7 => k_is); (case a8 => k_is); (case l8 => k_is); (case c8 => k_is); (case k8 => k_is); (case a9 => k_is); (case l9 => k_is); (case c9 => k_is); (case k9 => k_is); (case a10 => k_is); (case l10 => k_is); (case c10 => k_is); (case k10 => k_is); (case a11 => k_is); (case l11 => k_is); (case c11 => k_is); (case k11 => k_is); (case a12 => k_is); (case l12 => k_is); (case c12 => k_is); (case k12 => k_is); (case a13 => k_is); (case l13 => k_is); (case c13 => k_is); (case k13 => k_is); (case a14 => k_is); (case l14 => k_is); (case c14 => k_is); (case k14 => k_is); (case a15 => k_is); (case l15 => k_is); (case c15 => k_is); (case k15 => k_is); (case z_abs => k_is); (case z_all => k_is); (case z_bool => k_is); (case z_divmod => k_is); (case z_int => k_is); (case z_isinstance => k_is); (case z_len => k_is); (case z_list => k_is); (case z_max => k_is); (case z_range => k_is); (case z_repr => k_is); (case z_tuple => k_is); (case z_zip => k_is)

