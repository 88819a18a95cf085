/- Rings: the closure that walks them. -/
import Derived.Test.YthanjncpgcmnaaaLckWtr
namespace Go.Proofs.Ythanjncpgcmnaaa
open Go.ChangeShapes Go.WideShapes Go.ChangeAt Go.RowKit

/-- One waits for another, or for others that do. -/
inductive TE (S : St) : Nat → Nat → Prop
  | one {a b : Nat} : Edge S a b → TE S a b
  | snoc {a b c : Nat} : TE S a b → Edge S b c → TE S a c
theorem TE.head {S : St} {a b c : Nat} (h : Edge S a b) (k : TE S b c) : TE S a c := by
  induction k with
  | one k => exact .snoc (.one h) k
  | snoc _ k ih => exact .snoc ih k
/-- From a walk to the next: who is met, who is the greatest, whether there is a ring. -/
structure Vic (S : St) (id : Nat) (B : Nat → Prop) (a : Nat) (us : List Nat) (M : Nat → Prop) (G : Nat) (R : Bool) (M' : Nat → Prop) (G' : Nat) (R' : Bool) : Prop where
  sub : ∀ z, M z → M' z
  succ : ∀ u ∈ us, M' u
  only : ∀ z, M' z → M z ∨ TE S a z
  closed : ∀ z, M' z → M z ∨ (B z → ∀ u, Edge S z u → M' u)
  ring : R' = true ↔ R = true ∨ id ∈ us ∨ ∃ z, M' z ∧ ¬ M z ∧ B z ∧ Edge S z id
  ge : G ≤ G'
  all : ∀ z, M' z → ¬ M z → B z → z ≤ G'
  great : G' = G ∨ (M' G' ∧ ¬ M G' ∧ B G')
theorem vic_start {S : St} {id : Nat} {B : Nat → Prop} {a : Nat} {M : Nat → Prop} {G : Nat} {R : Bool} : Vic S id B a [] M G R M G R :=
  ⟨fun _ h => h, (fun u h => by cases h), fun _ h => .inl h, fun _ h => .inl h, ⟨fun h => .inl h, fun h => by
    rcases h with h | h | ⟨z, h1, h2, _⟩
    · exact h
    · cases h
    · exact absurd h1 h2⟩, Nat.le_refl _, fun z h1 h2 => absurd h1 h2, .inl rfl⟩
theorem vic_met {S : St} {id : Nat} {B : Nat → Prop} {a u : Nat} {us : List Nat} {M M1 : Nat → Prop} {G G1 : Nat} {R R1 R2 : Bool} (h : Vic S id B a us M G R M1 G1 R1) (hu : M1 u) (hr : R2 = true ↔ R1 = true ∨ u = id) : Vic S id B a (us ++ [u]) M G R M1 G1 R2 :=
  ⟨h.sub, fun z hz => by
    rcases List.mem_append.1 hz with hz | hz
    · exact h.succ z hz
    · rw [List.mem_singleton] at hz; subst hz; exact hu, h.only, h.closed, by
    rw [hr, h.ring, List.mem_append, List.mem_singleton]
    constructor
    · rintro ((h | h | h) | h)
      · exact .inl h
      · exact .inr (.inl (.inl h))
      · exact .inr (.inr h)
      · exact .inr (.inl (.inr h.symm))
    · rintro (h | (h | h) | h)
      · exact .inl (.inl h)
      · exact .inl (.inr (.inl h))
      · exact .inr h.symm
      · exact .inl (.inr (.inr h)), h.ge, h.all, h.great⟩
theorem vic_leaf {S : St} {id : Nat} {B : Nat → Prop} {a u : Nat} {us : List Nat} {M M1 : Nat → Prop} {G G1 : Nat} {R R1 R2 : Bool} (h : Vic S id B a us M G R M1 G1 R1) (he : Edge S a u) (hb : ¬ B u) (hr : R2 = true ↔ R1 = true ∨ u = id) : Vic S id B a (us ++ [u]) M G R (fun z => M1 z ∨ z = u) G1 R2 :=
  ⟨fun z hz => .inl (h.sub z hz), fun z hz => by
    rcases List.mem_append.1 hz with hz | hz
    · exact .inl (h.succ z hz)
    · rw [List.mem_singleton] at hz; exact .inr hz, fun z hz => by
    rcases hz with hz | hz
    · exact h.only z hz
    · subst hz; exact .inr (.one he), fun z hz => by
    rcases hz with hz | hz
    · rcases h.closed z hz with h | h
      · exact .inl h
      · exact .inr (fun hb u hu => .inl (h hb u hu))
    · subst hz; exact .inr (fun h => absurd h hb), by
    rw [hr, h.ring, List.mem_append, List.mem_singleton]
    constructor
    · rintro ((h | h | ⟨z, h1, h2, h3⟩) | h)
      · exact .inl h
      · exact .inr (.inl (.inl h))
      · exact .inr (.inr ⟨z, .inl h1, h2, h3⟩)
      · exact .inr (.inl (.inr h.symm))
    · rintro (h | (h | h) | ⟨z, h1 | h1, h2, h3, h4⟩)
      · exact .inl (.inl h)
      · exact .inl (.inr (.inl h))
      · exact .inr h.symm
      · exact .inl (.inr (.inr ⟨z, h1, h2, h3, h4⟩))
      · subst h1; exact absurd h3 hb, h.ge, fun z hz h2 h3 => by
    rcases hz with hz | hz
    · exact h.all z hz h2 h3
    · subst hz; exact absurd h3 hb, by
    rcases h.great with h | ⟨h1, h2, h3⟩
    · exact .inl h
    · exact .inr ⟨.inl h1, h2, h3⟩⟩
theorem vic_walk {S : St} {id : Nat} {B : Nat → Prop} {a u : Nat} {us vs : List Nat} {M M1 M3 : Nat → Prop} {G G1 G3 : Nat} {R R1 R2 R3 : Bool} (h : Vic S id B a us M G R M1 G1 R1) (he : Edge S a u) (hb : B u) (hm : ¬ M1 u) (hr : R2 = true ↔ R1 = true ∨ u = id)
    (hvs : ∀ v, v ∈ vs ↔ Edge S u v) (k : Vic S id B u vs (fun z => M1 z ∨ z = u) (max G1 u) R2 M3 G3 R3) : Vic S id B a (us ++ [u]) M G R M3 G3 R3 := by
  have hu : M3 u := k.sub u (.inr rfl)
  have hmu : ¬ M u := fun h' => hm (h.sub u h')
  have h1 : ∀ z, M1 z → M3 z := fun z hz => k.sub z (.inl hz)
  have h2 : ∀ z, ¬ (M1 z ∨ z = u) → ¬ M z := fun z hz h' => hz (.inl (h.sub z h'))
  refine ⟨fun z hz => h1 z (h.sub z hz), fun z hz => ?_, fun z hz => ?_, fun z hz => ?_, ?_, ?_, fun z hz hn hbz => ?_, ?_⟩
  · rcases List.mem_append.1 hz with hz | hz
    · exact h1 z (h.succ z hz)
    · rw [List.mem_singleton] at hz; subst hz; exact hu
  · rcases k.only z hz with (hz | hz) | hz
    · exact h.only z hz
    · subst hz; exact .inr (.one he)
    · exact .inr (TE.head he hz)
  · rcases k.closed z hz with (hz | hz) | hz
    · rcases h.closed z hz with h' | h'
      · exact .inl h'
      · exact .inr (fun hb v hv => h1 v (h' hb v hv))
    · subst hz; exact .inr (fun _ v hv => k.succ v ((hvs v).2 hv))
    · exact .inr hz
  · rw [k.ring, hr, h.ring, hvs, List.mem_append, List.mem_singleton]
    constructor
    · rintro (((h' | h' | ⟨z, z1, z2, z3⟩) | h') | h' | ⟨z, z1, z2, z3⟩)
      · exact .inl h'
      · exact .inr (.inl (.inl h'))
      · exact .inr (.inr ⟨z, h1 z z1, z2, z3⟩)
      · exact .inr (.inl (.inr h'.symm))
      · exact .inr (.inr ⟨u, hu, hmu, hb, h'⟩)
      · exact .inr (.inr ⟨z, z1, h2 z z2, z3⟩)
    · rintro (h' | (h' | h') | ⟨z, z1, z2, z3, z4⟩)
      · exact .inl (.inl (.inl h'))
      · exact .inl (.inl (.inr (.inl h')))
      · exact .inl (.inr h'.symm)
      · by_cases e1 : M1 z
        · exact .inl (.inl (.inr (.inr ⟨z, e1, z2, z3, z4⟩)))
        · by_cases e2 : z = u
          · subst e2; exact .inr (.inl z4)
          · exact .inr (.inr ⟨z, z1, fun h' => h'.elim e1 e2, z3, z4⟩)
  · have := h.ge; have := k.ge; have := Nat.le_max_left G1 u; omega
  · by_cases e1 : M1 z
    · have := h.all z e1 hn hbz; have := k.ge; have := Nat.le_max_left G1 u; omega
    · by_cases e2 : z = u
      · subst e2; have := k.ge; have := Nat.le_max_right G1 z; omega
      · exact k.all z hz (fun h' => h'.elim e1 e2) hbz
  · rcases k.great with e | ⟨z1, z2, z3⟩
    · by_cases e1 : u ≤ G1
      · rw [Nat.max_eq_left e1] at e
        rcases h.great with h' | ⟨z1, z2, z3⟩
        · exact .inl (e.trans h')
        · rw [e]; exact .inr ⟨h1 _ z1, z2, z3⟩
      · rw [Nat.max_eq_right (by omega)] at e
        rw [e]; exact .inr ⟨hu, hmu, hb⟩
    · exact .inr ⟨z1, h2 _ z2, z3⟩
/-- What is told. -/
theorem vic_end {S : St} {id : Nat} {B : Nat → Prop} {vs : List Nat} {M : Nat → Prop} {G : Nat} {R : Bool} (hB : ∀ z, TE S id z → (B z ↔ TE S z id)) (hvs : ∀ v, v ∈ vs ↔ Edge S id v) (h : Vic S id B id vs (fun _ => False) id false M G R) :
    (R = true ↔ TE S id id) ∧ (G = id ∨ (TE S id G ∧ TE S G id)) ∧ ∀ z, TE S id z → TE S z id → z ≤ G := by
  have only : ∀ z, M z → TE S id z := fun z hz => (h.only z hz).resolve_left (fun h => h)
  have key : ∀ z, TE S id z → TE S z id → M z := fun z hz => by
    generalize hi : id = i at hz
    induction hz with
    | one e => subst hi; exact fun _ => h.succ _ ((hvs _).2 e)
    | snoc hy e ih =>
      subst hi
      intro hz
      have hyi := TE.head e hz
      exact ((h.closed _ (ih hyi)).resolve_left (fun h => h)) ((hB _ hy).2 hyi) _ e
  refine ⟨?_, ?_, fun z h1 h2 => h.all z (key z h1 h2) (fun h => h) ((hB z h1).2 h2)⟩
  · rw [h.ring, hvs]
    constructor
    · rintro (h' | h' | ⟨z, z1, _, _, z4⟩)
      · cases h'
      · exact .one h'
      · exact .snoc (only z z1) z4
    · intro hc
      have hcc := hc
      generalize hi : id = i at hcc
      cases hcc with
      | one e => subst hi; exact .inr (.inl e)
      | snoc hy e =>
        subst hi
        exact .inr (.inr ⟨_, key _ hy (.one e), fun h => h, (hB _ hy).2 (.one e), e⟩)
  · rcases h.great with e | ⟨h1, _, h3⟩
    · exact .inl e
    · exact .inr ⟨only G h1, (hB G (only G h1)).1 h3⟩
theorem reach_te {S : St} {L : Nat → List Nat} (hL : ∀ u y, y ∈ L u ↔ y < top ∧ Edge S y u) {a z : Nat} (h : Reach L a z) : TE S z a := by
  induction h with
  | one h => exact .one ((hL _ _).1 h).2
  | more h _ ih => exact .snoc ih ((hL _ _).1 h).2
theorem te_reach {S : St} {L : Nat → List Nat} (hL : ∀ u y, y ∈ L u ↔ y < top ∧ Edge S y u) (ht : ∀ a b, Edge S a b → b < top) {a z : Nat} (hz : z < top) (h : TE S z a) : Reach L a z := by
  induction h with
  | one h => exact .one ((hL _ _).2 ⟨hz, h⟩)
  | snoc k h ih =>
    refine .more ((hL _ _).2 ⟨?_, h⟩) ih
    cases k with
    | one k => exact ht _ _ k
    | snoc _ k => exact ht _ _ k
end Go.Proofs.Ythanjncpgcmnaaa
