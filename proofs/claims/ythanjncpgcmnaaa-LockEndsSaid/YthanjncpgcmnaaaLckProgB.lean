/- Where there is no ring, rounds end: counting who waits. -/
import Derived.Test.YthanjncpgcmnaaaLckProg
namespace Go.Proofs.Ythanjncpgcmnaaa
open Go.ChangeShapes Go.WideShapes Go.ChangeAt Go.RowKit

def wt (S : St) (o : Nat) : Bool := decide ((S.waits o).2 ≠ 0)
theorem wt_iff {S : St} {o : Nat} : wt S o = true ↔ (S.waits o).2 ≠ 0 := by simp [wt]
def cntW (S : St) (ows : List Nat) : Nat := ows.countP (wt S)
theorem cnt_le {p q : Nat → Bool} {l : List Nat} (h : ∀ a ∈ l, q a = true → p a = true) : l.countP q ≤ l.countP p := List.countP_mono_left h
theorem cnt_lt {p q : Nat → Bool} {l : List Nat} (h : ∀ a ∈ l, q a = true → p a = true) {v : Nat} (hv : v ∈ l) (hp : p v = true) (hq : q v = false) : l.countP q < l.countP p := by
  induction l with
  | nil => cases hv
  | cons a r ih =>
    have h' : ∀ b ∈ r, q b = true → p b = true := fun b hb => h b (List.mem_cons_of_mem _ hb)
    rw [List.countP_cons, List.countP_cons]
    by_cases e : v = a
    · subst e
      rw [hp, hq]
      have := cnt_le h'
      simp; omega
    · have h1 := ih h' ((List.mem_cons.1 hv).resolve_left e)
      by_cases ha : q a = true
      · rw [ha, h a (by simp) ha]; omega
      · have ha' : q a = false := by simpa using ha
        rw [ha']; simp; omega
def Act2 (S : St) (o : Nat) : Prop := (S.waits o).2 ≠ 0 ∨ ∃ n, S.hold n o ≠ 0
def Known (S : St) (ows : List Nat) : Prop := ∀ o, Act2 S o → o ∈ ows
theorem act_granted {S : St} {o m a : Nat} {n : ByteArray} (h : Act2 (granted S o n m) a) : a = o ∨ Act2 S a := by
  by_cases e : a = o
  · exact .inl e
  · refine .inr ?_
    rcases h with h | ⟨n', h⟩
    · have h : (upd S.waits o (⟨#[]⟩, 0) a).2 ≠ 0 := h
      rw [upd_other _ _ e] at h; exact .inl h
    · have h : upd S.hold n (upd (S.hold n) o m) n' a ≠ 0 := h
      by_cases en : n' = n
      · subst en; rw [upd_same, upd_other _ _ e] at h; exact .inr ⟨n', h⟩
      · rw [upd_other _ _ en] at h; exact .inr ⟨n', h⟩
theorem act_lined {S : St} {o m i a : Nat} {n : ByteArray} (h : Act2 (linedAt S o n i m) a) : a = o ∨ Act2 S a := by
  by_cases e : a = o
  · exact .inl e
  · refine .inr ?_
    rcases h with h | h
    · have h : (upd S.waits o (n, m) a).2 ≠ 0 := h
      rw [upd_other _ _ e] at h; exact .inl h
    · exact .inr h
theorem act_ask {S : St} {o a : Nat} {n : ByteArray} {m : Int} (h : Act2 (askF S o n m).1 a) : a = o ∨ Act2 S a := by
  unfold askF at h
  split at h
  · exact .inr h
  · split at h
    · exact .inr h
    · split at h
      · exact .inr h
      · split at h
        · exact act_granted h
        · exact act_lined h
theorem act_freed {S : St} {id a : Nat} (h : Act2 (freedG S id) a) : Act2 S a := by
  rcases h with h | ⟨n, h⟩
  · have h : (upd S.waits id (⟨#[]⟩, 0) a).2 ≠ 0 := h
    by_cases e : a = id
    · subst e; rw [upd_same] at h; exact absurd rfl h
    · rw [upd_other _ _ e] at h; exact .inl h
  · have h : (if a = id then 0 else S.hold n a) ≠ 0 := h
    by_cases e : a = id
    · rw [if_pos e] at h; exact absurd rfl h
    · rw [if_neg e] at h; exact .inr ⟨n, h⟩
theorem act_path {nm : ByteArray} {S S' : St} {outs : List Nat} (I : Inv S) (h : Path nm S S' outs) {a : Nat} (k : Act2 S' a) : Act2 S a := by
  induction h with
  | start => exact k
  | @snoc S1 outs o m r hp hq hL ih =>
    have I1 := (served_path I hp).inv
    have hw : (S1.waits o).2 ≠ 0 := by
      have h1 := I1.wf.waits nm o m (by rw [hq]; simp)
      have h2 := I1.pos nm o m (by rw [hq]; simp)
      rw [h1]; simp only; omega
    by_cases e : a = o
    · subst e; exact ih (.inl hw)
    · refine ih ?_
      rcases k with k | ⟨n, k⟩
      · have k : (upd S1.waits o (⟨#[]⟩, 0) a).2 ≠ 0 := k
        rw [upd_other _ _ e] at k; exact .inl k
      · have k : upd S1.hold nm (upd (S1.hold nm) o m) n a ≠ 0 := k
        by_cases en : n = nm
        · subst en; rw [upd_same, upd_other _ _ e] at k; exact .inr ⟨n, k⟩
        · rw [upd_other _ _ en] at k; exact .inr ⟨n, k⟩
theorem act_all {ns : List ByteArray} {S S' : St} {outs : List Nat} (I : Inv S) (h : All ns S S' outs) {a : Nat} (k : Act2 S' a) : Act2 S a := by
  induction h with
  | start => exact k
  | snoc h hp _ ih => exact ih I (act_path (served_all I h).inv hp k)
theorem path_len0 {nm : ByteArray} {S S' : St} {outs : List Nat} (h : Path nm S S' outs) (e : outs = []) : S' = S := by
  cases h with
  | start => rfl
  | snoc _ _ _ => exact absurd (congrArg List.length e) (by simp)
theorem all_none {ns : List ByteArray} {S S' : St} {outs : List Nat} (h : All ns S S' outs) (e : outs = []) : S' = S := by
  induction h with
  | start => rfl
  | snoc h hp _ ih =>
    obtain ⟨e1, e2⟩ := List.append_eq_nil_iff.1 e
    rw [path_len0 hp e2, ih e1]
/-- What a Free does to who waits, who holds. -/
structure FreeRes (S : St) (id : Nat) (S' : St) : Prop where
  inv : Inv S'
  sub : Sub S' S
  stuck : Stuck S → Stuck S'
  act : ∀ a, Act2 S' a → Act2 S a
  less : ∀ a, (S'.waits a).2 ≠ 0 → (S.waits a).2 ≠ 0
  gone : (S'.waits id).2 = 0
  some : (∃ v, (S.waits v).2 ≠ 0 ∧ (S'.waits v).2 = 0) ∨ S' = freedG S id
theorem free_res {S S' : St} (I : Inv S) {id : Nat} {ns : List ByteArray} {outs : List Nat} (h1 : Names (want S id) ns) (h2 : All ns (freedG S id) S' outs) : FreeRes S id S' := by
  have IF := inv_freed I id
  have hs := served_all IF h2
  have hf : ∀ a, ((freedG S id).waits a).2 ≠ 0 → a ≠ id ∧ (S.waits a).2 ≠ 0 := fun a h => by
    have h : (upd S.waits id (⟨#[]⟩, 0) a).2 ≠ 0 := h
    by_cases e : a = id
    · subst e; rw [upd_same] at h; exact absurd rfl h
    · rw [upd_other _ _ e] at h; exact ⟨e, h⟩
  have hl : ∀ a, (S'.waits a).2 ≠ 0 → a ≠ id ∧ (S.waits a).2 ≠ 0 := fun a h => hf a (by rw [← hs.less a h]; exact h)
  refine ⟨hs.inv, sub_trans (sub_all IF h2) (sub_freed S id), fun k => stuck_free I k h1 h2, fun a h => act_freed (act_all IF h2 h), fun a h => (hl a h).2, Classical.byContradiction fun h => (hl id h).1 rfl, ?_⟩
  cases outs with
  | nil => exact .inr (all_none h2 rfl)
  | cons v l =>
    have := hs.was v (by simp)
    exact .inl ⟨v, (hf v this.1).2, this.2⟩
theorem cnt_free {S S' : St} {id : Nat} {ows : List Nat} (h : FreeRes S id S') : cntW S' ows ≤ cntW S ows := cnt_le (fun a _ k => wt_iff.2 (h.less a (wt_iff.1 k)))
theorem cnt_free_lt {S S' : St} {id : Nat} {ows : List Nat} (h : FreeRes S id S') (hk : Known S ows) {v : Nat} (h1 : (S.waits v).2 ≠ 0) (h2 : (S'.waits v).2 = 0) : cntW S' ows < cntW S ows :=
  cnt_lt (v := v) (fun a _ k => wt_iff.2 (h.less a (wt_iff.1 k))) (hk v (.inl h1)) (wt_iff.2 h1) (by
    cases e : wt S' v
    · rfl
    · exact absurd h2 (wt_iff.1 e))
/-- Nobody waits, nobody holds. -/
def Fin0 (S : St) : Prop := ∀ o, (S.waits o).2 = 0 ∧ ∀ n, S.hold n o = 0
open Classical in
theorem stuck_end {S : St} (I : Inv S) (k : Stuck S) (ac : Acyc S) {ows : List Nat} (hk : Known S ows) (hn : ∀ o, (S.waits o).2 = 0 → ∀ n, S.hold n o = 0) : ∀ o, (S.waits o).2 = 0 := by
  have next : ∀ w, (S.waits w).2 ≠ 0 → ∃ b, (S.waits b).2 ≠ 0 ∧ Edge S w b := fun w hw => by
    have hb := I.back w hw
    rcases k (S.waits w).1 with hq | ⟨a, m, r, hq, hL⟩
    · rw [hq] at hb; cases hb
    · have ha1 := I.wf.waits _ a m (by rw [hq]; simp)
      have ha2 := I.pos _ a m (by rw [hq]; simp)
      by_cases e : a = w
      · subst e
        have hm : m = (S.waits a).2 := by rw [ha1]
        obtain ⟨c, hc1, hc2, hc3⟩ := lets_not hL
        refine ⟨c, fun h0 => hc2 (hn c h0 _), hw, .inl ⟨hc1, hc2, ?_⟩⟩
        rw [← hm]; exact hc3
      · refine ⟨a, by rw [ha1]; simp only; omega, hw, .inr ?_⟩
        rw [hq]
        unfold ahead
        rw [List.map_cons, List.takeWhile_cons_of_pos (by simpa using e)]
        simp
  have key : ∀ (c : Nat) (w : Nat), (S.waits w).2 ≠ 0 → ows.countP (fun z => decide (TE S w z)) ≤ c → False := by
    intro c
    induction c with
    | zero =>
      intro w hw hc
      obtain ⟨b, hb, he⟩ := next w hw
      have := cnt_lt (p := fun z => decide (TE S w z)) (q := fun _ => false) (l := ows) (v := b) (fun _ _ h => by cases h) (hk b (.inl hb)) (decide_eq_true (.one he)) rfl
      omega
    | succ c ih =>
      intro w hw hc
      obtain ⟨b, hb, he⟩ := next w hw
      have := cnt_lt (p := fun z => decide (TE S w z)) (q := fun z => decide (TE S b z)) (l := ows) (v := b) (fun z _ h => decide_eq_true (te_trans (.one he) (of_decide_eq_true h))) (hk b (.inl hb)) (decide_eq_true (.one he)) (decide_eq_false (ac b))
      exact ih b hb (by omega)
  exact fun o => Classical.byContradiction fun h => key _ o h (Nat.le_refl _)
/-- What holds of a table at the end of its deeds. -/
structure Good (S : St) (ows : List Nat) : Prop where
  inv : Inv S
  stuck : Stuck S
  ac : Acyc S
  known : Known S ows
theorem good_free {S S' : St} {id : Nat} {ows : List Nat} (G : Good S ows) (h : FreeRes S id S') : Good S' ows := ⟨h.inv, h.stuck G.stuck, acyc_sub h.sub G.ac, fun o k => G.known o (h.act o k)⟩
/-- In a round that began at R. -/
structure Rnd (R S : St) (ows : List Nat) (i : Nat) : Prop where
  good : Good S ows
  le : cntW S ows ≤ cntW R ows
  way : cntW S ows < cntW R ows ∨ ∀ k, k < i → ∀ o, ows[k]? = some o → (S.waits o).2 = 0 → ∀ n, S.hold n o = 0
theorem rnd_start {S : St} {ows : List Nat} (G : Good S ows) : Rnd S S ows 0 := ⟨G, Nat.le_refl _, .inr (fun _ h => absurd h (Nat.not_lt_zero _))⟩
theorem rnd_skip {R S : St} {ows : List Nat} {i v : Nat} (h : Rnd R S ows i) (hv : ows[i]? = some v) (hw : (S.waits v).2 ≠ 0) : Rnd R S ows (i + 1) :=
  ⟨h.good, h.le, h.way.imp (fun h => h) (fun h1 k hk o ho hw' => by
    by_cases e : k = i
    · subst e; rw [hv] at ho; cases ho; exact absurd hw' hw
    · exact h1 k (by omega) o ho hw')⟩
theorem rnd_free {R S S' : St} {ows : List Nat} {i v : Nat} (h : Rnd R S ows i) (hv : ows[i]? = some v) (_hw : (S.waits v).2 = 0) (hf : FreeRes S v S') : Rnd R S' ows (i + 1) := by
  have hle := cnt_free (ows := ows) hf
  refine ⟨good_free h.good hf, Nat.le_trans hle h.le, ?_⟩
  rcases h.way with h1 | h1
  · exact .inl (Nat.lt_of_le_of_lt hle h1)
  · rcases hf.some with ⟨a, ha, hb⟩ | rfl
    · exact .inl (Nat.lt_of_lt_of_le (cnt_free_lt hf h.good.known ha hb) h.le)
    · refine .inr (fun k hk o ho hw' n => ?_)
      show (if o = v then 0 else S.hold n o) = 0
      by_cases e : o = v
      · rw [if_pos e]
      · rw [if_neg e]
        have hw2 : (upd S.waits v (⟨#[]⟩, 0) o).2 = 0 := hw'
        rw [upd_other _ _ e] at hw2
        by_cases ek : k = i
        · subst ek; rw [hv] at ho; cases ho; exact absurd rfl e
        · exact h1 k (by omega) o ho hw2 n
/-- Between rounds. -/
structure Rnds (S : St) (ows : List Nat) (r : Nat) : Prop where
  good : Good S ows
  way : cntW S ows + r ≤ ows.length ∨ Fin0 S
theorem rnds_next {R S : St} {ows : List Nat} {r : Nat} (h : Rnds R ows r) (k : Rnd R S ows ows.length) : Rnds S ows (r + 1) := by
  refine ⟨k.good, ?_⟩
  have fin : (∀ k, k < ows.length → ∀ o, ows[k]? = some o → (S.waits o).2 = 0 → ∀ n, S.hold n o = 0) → Fin0 S := fun h1 => by
    have hn : ∀ o, (S.waits o).2 = 0 → ∀ n, S.hold n o = 0 := fun o hw n => Classical.byContradiction fun h0 => by
      have hm := k.good.known o (.inr ⟨n, h0⟩)
      obtain ⟨i, hi, he⟩ := List.mem_iff_getElem.1 hm
      exact h0 (h1 i hi o (by rw [List.getElem?_eq_getElem hi, he]) hw n)
    have hw := stuck_end k.good.inv k.good.stuck k.good.ac k.good.known hn
    exact fun o => ⟨hw o, hn o (hw o)⟩
  rcases k.way with h1 | h1
  · rcases h.way with h2 | h2
    · exact .inl (by omega)
    · have : cntW R ows = 0 := List.countP_eq_zero.2 (fun a _ hw => wt_iff.1 hw (h2 a).1)
      omega
  · exact .inr (fin h1)
theorem rnds_end {S : St} {ows : List Nat} (h : Rnds S ows (ows.length + 1)) : Fin0 S := h.way.resolve_left (fun h => by omega)
theorem rnds_start {S : St} {ows : List Nat} (G : Good S ows) : Rnds S ows 0 := ⟨G, .inl (by unfold cntW; rw [Nat.add_zero]; exact List.countP_le_length)⟩
theorem good_S0 : Good S0 [] := ⟨inv_S0, fun _ => .inl rfl, fun z h => te_head h rfl, fun o h => by
  rcases h with h | ⟨n, h⟩
  · exact absurd rfl h
  · exact absurd rfl h⟩
/-- While victims are freed behind what o asked for. -/
structure Vics (S0' S : St) (ows : List Nat) (o r : Nat) : Prop where
  inv : Inv S
  stuck : Stuck S
  known : Known S ows
  ac : Acyc S0'
  near : Near S S0' o
  cnt : cntW S ows + r ≤ ows.length
theorem known_more {S : St} {ows : List Nat} (h : Known S ows) (o : Nat) (l : List Nat) (hl : ∀ a, a ∈ ows → a ∈ l) (_ho : o ∈ l) : Known S l := fun a k => hl a (h a k)
theorem good_ask {S : St} {ows : List Nat} (G : Good S ows) (hl : ∀ n o, S.hold n o ≤ 4) {o : Nat} (ho : o ∈ ows) (n : ByteArray) (m : Int) (h : (askF S o n m).2 ≠ 10) : Good (askF S o n m).1 ows :=
  ⟨inv_ask G.inv hl o n m, stuck_ask G.inv G.stuck hl o n m, acyc_ask G.ac o n m h, fun a k => (act_ask k).elim (fun e => e ▸ ho) (G.known a)⟩
theorem vics_start {S : St} {ows : List Nat} (G : Good S ows) (hl : ∀ n o, S.hold n o ≤ 4) {o : Nat} (ho : o ∈ ows) (n : ByteArray) (m : Int) : Vics S (askF S o n m).1 ows o 0 :=
  ⟨inv_ask G.inv hl o n m, stuck_ask G.inv G.stuck hl o n m, fun a k => (act_ask k).elim (fun e => e ▸ ho) (G.known a), G.ac, near_ask S o n m, by unfold cntW; rw [Nat.add_zero]; exact List.countP_le_length⟩
theorem vics_end {S0' S : St} {ows : List Nat} {o r : Nat} (h : Vics S0' S ows o r) (ho : ¬ TE S o o) : Good S ows := ⟨h.inv, h.stuck, near_acyc h.near h.ac ho, h.known⟩
theorem vics_lt {S0' S : St} {ows : List Nat} {o r v : Nat} (h : Vics S0' S ows o r) (hv : (S.waits v).2 ≠ 0) : r < ows.length := by
  have := cnt_lt (p := wt S) (q := fun _ => false) (l := ows) (v := v) (fun _ _ h => by cases h) (h.known v (.inl hv)) (wt_iff.2 hv) rfl
  have := h.cnt
  unfold cntW at this
  omega
theorem vics_next {S0' S S' : St} {ows : List Nat} {o r v : Nat} (h : Vics S0' S ows o r) (hv : (S.waits v).2 ≠ 0) (hf : FreeRes S v S') : Vics S0' S' ows o (r + 1) :=
  ⟨hf.inv, hf.stuck h.stuck, fun a k => h.known a (hf.act a k), h.ac, near_sub hf.sub h.near, by have := cnt_free_lt hf h.known hv hf.gone; have := h.cnt; omega⟩
end Go.Proofs.Ythanjncpgcmnaaa
