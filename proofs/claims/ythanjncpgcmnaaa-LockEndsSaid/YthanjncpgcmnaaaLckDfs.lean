/- Who waits for one, or for others that do: the closure that calls itself. -/
import Derived.Test.YthanjncpgcmnaaaLckEdge
namespace Go.Proofs.Ythanjncpgcmnaaa
open Go.ChangeShapes Go.WideShapes Go.ChangeAt Go.RowKit

/-- How an element reads: as itself. -/
def asV (v : Value) : Option (DataW Value × List MemPlace) := some (.held v, [])
open Classical in
/-- A set of numbers. -/
noncomputable def marks (M : Nat → Prop) (a : Nat) : Option (DataW Value) := if M a then some (.held (.agg #[])) else none
def SetAt (w : World) (b n : Nat) (M : Nat → Prop) : Prop := MapAt w 27 asV b n kU (· < top) (marks M)
theorem zeroE (w : World) : (zeroValue 92).run Try.prog w = .ok (.agg #[]) w := by kernel_rfl
theorem zeroR (w : World) : (zeroValue 29).run Try.prog w = .ok (.slice none 0 0) w := by kernel_rfl
open Classical in
theorem set_look {w : World} {b n : Nat} {M : Nat → Prop} (h : SetAt w b n M) {a : Nat} (ha : a < top) : (Instr.lookup 89 (.map (some b)) (.int .u64 (a : Int)) true).run Try.prog w = .ok (.tuple #[.agg #[], .bool (decide (M a))]) w := by
  obtain ⟨v, ps, hr, hv⟩ := MapAt.look_ok h keysU Try.underlying89 (zeroE w) (zd := .held (.agg #[])) (zp := []) rfl (a := a) ha (hkU ha)
  have e : (marks M a).isSome = decide (M a) := by unfold marks; by_cases e : M a <;> simp [e]
  have e2 : v = .agg #[] := by
    unfold asV marks at hv
    by_cases e : M a <;> simp [e] at hv <;> exact hv.1
  rw [hr, e, e2]
open Classical in
theorem set_in {w : World} {b n : Nat} {M : Nat → Prop} (h : SetAt w b n M) {a : Nat} (ha : a < top) (hm : M a) : (Instr.lookup 89 (.map (some b)) (.int .u64 (a : Int)) true).run Try.prog w = .ok (.tuple #[.agg #[], .bool true]) w := by
  rw [set_look h ha, decide_eq_true hm]
open Classical in
theorem set_out {w : World} {b n : Nat} {M : Nat → Prop} (h : SetAt w b n M) {a : Nat} (ha : a < top) (hm : ¬ M a) : (Instr.lookup 89 (.map (some b)) (.int .u64 (a : Int)) true).run Try.prog w = .ok (.tuple #[.agg #[], .bool false]) w := by
  rw [set_look h ha, decide_eq_false hm]
theorem set_put {w : World} {b n : Nat} {M : Nat → Prop} (h : SetAt w b n M) (hn : n < maxLen) {a : Nat} (ha : a < top) : ∃ w', (Instr.mapUpdate 89 (.map (some b)) (.int .u64 (a : Int)) (.agg #[])).run Try.prog w = .ok () w' ∧ SetAt w' b (n + 1) (fun z => M z ∨ z = a) ∧ Turned (fun k => k = b) w w' :=
  MapAt.put h keysU Try.underlying89 hn (hkU ha) rfl (fun _ e => kU_inj e) (kU_key _) (f' := marks fun z => M z ∨ z = a) (by simp [marks]) (fun a' e => by unfold marks; by_cases h : M a' <;> simp [h, e])
theorem set_kept {w w' : World} {b n : Nat} {M : Nat → Prop} (h : SetAt w b n M) (hk : w'.heap[b]? = w.heap[b]?) : SetAt w' b n M := MapAt.kept h hk
theorem set_made (w : World) : SetAt (w.alloc (.map #[] 0)) w.heap.size 0 (fun _ => False) := (mapAt_made w).congr (fun a _ => by simp [marks])
/-- From one to another. -/
inductive Reach (L : Nat → List Nat) : Nat → Nat → Prop
  | one {a b : Nat} : b ∈ L a → Reach L a b
  | more {a b c : Nat} : b ∈ L a → Reach L b c → Reach L a c
/-- So far: the first of at's are marked, and whatever is behind them. -/
structure Part2 (L : Nat → List Nat) (at' : Nat) (us : List Nat) (M M' : Nat → Prop) : Prop where
  sub : ∀ z, M z → M' z
  succ : ∀ u ∈ us, M' u
  only : ∀ z, M' z → M z ∨ Reach L at' z
  closed : ∀ z, M' z → M z ∨ ∀ u ∈ L z, M' u
theorem part2_skip {L : Nat → List Nat} {a u : Nat} {us : List Nat} {M M' : Nat → Prop} (h : Part2 L a us M M') (hu : M' u) : Part2 L a (us ++ [u]) M M' :=
  ⟨h.sub, fun z hz => by
    rcases List.mem_append.1 hz with hz | hz
    · exact h.succ z hz
    · rw [List.mem_singleton] at hz; subst hz; exact hu, h.only, h.closed⟩
theorem part2_walk {L : Nat → List Nat} {a u : Nat} {us : List Nat} {M M1 M2 : Nat → Prop} (h : Part2 L a us M M1) (hu : u ∈ L a) (k : Part2 L u (L u) (fun z => M1 z ∨ z = u) M2) : Part2 L a (us ++ [u]) M M2 :=
  ⟨fun z hz => k.sub z (.inl (h.sub z hz)), fun z hz => by
    rcases List.mem_append.1 hz with hz | hz
    · exact k.sub z (.inl (h.succ z hz))
    · rw [List.mem_singleton] at hz; subst hz; exact k.sub z (.inr rfl),
  fun z hz => by
    rcases k.only z hz with (hz | hz) | hz
    · exact h.only z hz
    · subst hz; exact .inr (.one hu)
    · exact .inr (.more hu hz),
  fun z hz => by
    rcases k.closed z hz with (hz | hz) | hz
    · rcases h.closed z hz with hz | hz
      · exact .inl hz
      · exact .inr (fun v hv => k.sub v (.inl (hz v hv)))
    · subst hz; exact .inr k.succ
    · exact .inr hz⟩
open Classical in
/-- How many are left. -/
noncomputable def rest (U : List Nat) (M : Nat → Prop) : Nat := (U.filter fun z => decide (¬ M z)).length
theorem rest_nil {M : Nat → Prop} : rest [] M = 0 := rfl
theorem rest_in {M : Nat → Prop} {a : Nat} {r : List Nat} (h : M a) : rest (a :: r) M = rest r M := by unfold rest; rw [List.filter_cons_of_neg (by simpa using h)]
theorem rest_out {M : Nat → Prop} {a : Nat} {r : List Nat} (h : ¬ M a) : rest (a :: r) M = rest r M + 1 := by unfold rest; rw [List.filter_cons_of_pos (by simpa using h), List.length_cons]
theorem rest_le {U : List Nat} {M M' : Nat → Prop} (h : ∀ z, M z → M' z) : rest U M' ≤ rest U M := by
  induction U with
  | nil => exact Nat.le_refl _
  | cons a r ih =>
    by_cases e : M a
    · rw [rest_in e, rest_in (h a e)]; exact ih
    · by_cases e' : M' a
      · rw [rest_out e, rest_in e']; omega
      · rw [rest_out e, rest_out e']; omega
theorem rest_lt {U : List Nat} {M : Nat → Prop} {a : Nat} (ha : a ∈ U) (hm : ¬ M a) : rest U (fun z => M z ∨ z = a) < rest U M := by
  induction U with
  | nil => cases ha
  | cons b r ih =>
    have hle := rest_le (U := r) (M := M) (M' := fun z => M z ∨ z = a) (fun z hz => .inl hz)
    by_cases e : b = a
    · subst e
      rw [rest_out hm, rest_in (M := fun z => M z ∨ z = b) (.inr rfl)]; omega
    · have := ih ((List.mem_cons.1 ha).resolve_left (fun e' => e e'.symm))
      by_cases e' : M b
      · rw [rest_in e', rest_in (M := fun z => M z ∨ z = a) (.inl e')]; exact this
      · rw [rest_out e', rest_out (M := fun z => M z ∨ z = a) (fun h => h.elim e' e)]; omega
/-- A map of rows of numbers; none of its blocks is mO. -/
structure Grp (w : World) (mA mO : Nat) (L : Nat → List Nat) : Prop where
  ex : ∃ (n : Nat) (f : Nat → Option (DataW Value)) (bo : Nat → Option Nat) (v : Nat → Value), MapAt w 27 asV mA n kU (· < top) f ∧ (∀ a, (f a = some (.held (v a)) ∨ (f a = none ∧ v a = .slice none 0 0)) ∧ Slc w (bo a) 1 (v a) (L a).length (u64s (L a)) ∧ bo a ≠ some mO)
  ne : mA ≠ mO
theorem grp_turned {w w' : World} {mA mO : Nat} {L : Nat → List Nat} (h : Grp w mA mO L) (ht : Turned (fun b => b = mO) w w') : Grp w' mA mO L := by
  obtain ⟨n, f, bo, v, h1, h2⟩ := h.ex
  exact ⟨⟨n, f, bo, v, h1.kept (ht.block _ h1.lt h.ne), fun a => ⟨(h2 a).1, slc_turned (h2 a).2.1 ht (fun b e e' => (h2 a).2.2 (by rw [e, e'])), (h2 a).2.2⟩⟩, h.ne⟩
theorem grp_look {w : World} {mA mO : Nat} {L : Nat → List Nat} (h : Grp w mA mO L) {a : Nat} (ha : a < top) : ∃ v bo, (Instr.lookup 126 (.map (some mA)) (.int .u64 (a : Int)) false).run Try.prog w = .ok v w ∧ Slc w bo 1 v (L a).length (u64s (L a)) ∧ bo ≠ some mO := by
  obtain ⟨n, f, bo, v, h1, h2⟩ := h.ex
  obtain ⟨u, ps, hr, hv⟩ := h1.look keysU Try.underlying126 (zeroR w) (zd := .held (.slice none 0 0)) (zp := []) rfl (a := a) ha (hkU ha)
  have e : u = v a := by
    unfold asV at hv
    rcases (h2 a).1 with h | ⟨h, h'⟩
    · rw [h] at hv; simp at hv; exact hv.1
    · rw [h] at hv; simp at hv; rw [h']; exact hv.1
  subst e
  exact ⟨_, bo a, hr, (h2 a).2.1, (h2 a).2.2⟩
/-- What the closure lies on. -/
structure Env (w : World) (ca cb cc mA mO : Nat) (L : Nat → List Nat) : Prop where
  c1 : w.cell? ⟨ca, 0, none⟩ = some (.map (some mA))
  c2 : w.cell? ⟨cb, 0, none⟩ = some (.map (some mO))
  c3 : w.cell? ⟨cc, 0, none⟩ = some (.func (.func 64) #[] #[.pointer (some ⟨ca, 0, none⟩), .pointer (some ⟨cb, 0, none⟩), .pointer (some ⟨cc, 0, none⟩)])
  grp : Grp w mA mO L
  n1 : ca ≠ mO
  n2 : cb ≠ mO
  n3 : cc ≠ mO
theorem env_turned {w w' : World} {ca cb cc mA mO : Nat} {L : Nat → List Nat} (h : Env w ca cb cc mA mO L) (ht : Turned (fun b => b = mO) w w') : Env w' ca cb cc mA mO L :=
  ⟨cell_turned h.c1 ht h.n1, cell_turned h.c2 ht h.n2, cell_turned h.c3 ht h.n3, grp_turned h.grp ht, h.n1, h.n2, h.n3⟩
/-- What a walk from one leaves. -/
def DfsEnd (w : World) (mO n : Nat) (U : List Nat) (L : Nat → List Nat) (a : Nat) (M : Nat → Prop) (e : Ending) (w' : World) : Prop :=
  e = .returned (.tuple #[]) ∧ ∃ n' M', SetAt w' mO n' M' ∧ Turned (fun b => b = mO) w w' ∧ Part2 L a (L a) M M' ∧ n' + rest U M' ≤ n + rest U M
set_option maxRecDepth 100000 in
set_option maxHeartbeats 4000000 in
theorem dfs_any {U : List Nat} {L : Nat → List Nat} {ca cb cc mA mO : Nat} (hU : ∀ a, (L a).length < 17592186044416 ∧ ∀ u ∈ L a, u < top ∧ u ∈ U) : ∀ (d : Nat) (w : World) (a n : Nat) (M : Nat → Prop), Env w ca cb cc mA mO L → SetAt w mO n M → rest U M < d → n + rest U M ≤ 8796093022208 → a < top →
    Calls Try.prog 64 #[.int .u64 (a : Int), .pointer (some ⟨ca, 0, none⟩), .pointer (some ⟨cb, 0, none⟩), .pointer (some ⟨cc, 0, none⟩)] w (DfsEnd w mO n U L a M) := by
  have HU := Lib.hid hU
  clear hU
  intro d
  induction d with
  | zero => intro w a n M _ _ h; exact absurd h (Nat.not_lt_zero _)
  | succ d ih =>
    intro w a n M henv hset hd hn ha
    have HIH := Lib.hid ih
    clear ih
    obtain ⟨v, bo, hlk, hsl, hbo⟩ := grp_look henv.grp ha
    obtain ⟨l, hl⟩ : ∃ l, l = (L a).length := ⟨_, rfl⟩
    have hl40 : l < 17592186044416 := by rw [hl]; exact (HU.out a).1
    rw [← hl] at hsl
    obtain ⟨ao, cap, rfl, -, hcap, -⟩ := slc_form hsl
    unfold maxLen at hcap
    have c1 := henv.c1
    have HEV := Lib.hid henv; have HST := Lib.hid hset; have HSL := Lib.hid hsl; have HBO := Lib.hid hbo; have HLL := Lib.hid hl; have HD := Lib.hid hd; have HNN := Lib.hid hn
    generalize hR : DfsEnd w mO n U L a M = R
    have HR := Lib.hid hR
    clear henv hset hsl hbo hl hR ha hd
    go_enter Try.func64, Try.ntmps64
    go_wp2_with fail
    clear c1 hlk
    go_loopw [13] (fun i wr => ∃ (j n1 : Nat) (M1 : Nat → Prop), j ≤ l ∧ i = .int .i64 (j : Int) ∧ Hid (SetAt wr mO n1 M1) ∧ Hid (Turned (fun b => b = mO) w wr) ∧ Hid (Part2 L a ((L a).take j) M M1) ∧ n1 + rest U M1 ≤ n + rest U M) (fun i _ => l - (intOf i).toNat)
    case atStart => exact ⟨0, n, M, Nat.zero_le _, rfl, HST, Lib.hid (Turned.refl _ _), Lib.hid ⟨fun _ h => h, fun u hu => by simp at hu, fun z h => .inl h, fun z h => .inl h⟩, Nat.le_refl _⟩
    case round =>
      obtain ⟨j, n1, M1, hj, rfl, hs, ht, hp, hnr⟩ := hrel
      by_cases hlt : j < l
      · have hjl : j < (L a).length := by rw [← HLL.out]; exact hlt
        obtain ⟨b, off, rfl, hcell⟩ := slc_at (slc_turned HSL.out ht.out (fun b e e' => HBO.out (by rw [e, e']))) (j := j) (u := .int .u64 ((L a)[j] : Int)) (by rw [u64s, List.getElem?_map, List.getElem?_eq_getElem hjl]; rfl) hlt
        have htk : (L a).take (j + 1) = (L a).take j ++ [(L a)[j]] := by rw [List.take_add_one, List.getElem?_eq_getElem hjl]; rfl
        have hmem := List.getElem_mem hjl
        generalize (L a)[j] = u at hcell htk hmem
        obtain ⟨hu, huU⟩ := (HU.out a).2 u hmem
        have hev := env_turned HEV.out ht.out
        have c2 := hev.c2
        have HTK := Lib.hid htk; have HMEM := Lib.hid hmem; have HUU := Lib.hid huU; have HU2 := Lib.hid hu; have HEV2 := Lib.hid hev
        by_cases hm : M1 u
        · have hlook := set_in hs.out hu hm
          have HM := Lib.hid hm
          clear hm htk hmem hu huU hev hjl
          go_wp2_with fail
          go_roundw
          case rel => exact ⟨j + 1, n1, M1, by omega, by go_num, Lib.hid (set_kept hs.out ((below_alloc wr _).block _ (MapAt.lt hs.out))), Lib.hid (ht.out.alloc _), by rw [HTK.out]; exact Lib.hid (part2_skip hp.out HM.out), hnr⟩
          case measure => simp [intOf]; omega
        · have hlook := set_out hs.out hu hm
          have hset' := set_kept hs.out ((below_alloc wr (.cells #[] 92)).block _ (MapAt.lt hs.out))
          obtain ⟨w2, hput, s2, t2⟩ := set_put hset' (by unfold maxLen; omega) hu
          have t2' := (ht.out.alloc (.cells #[] 92)).trans t2 (Grows.refl _ _)
          have hev3 := env_turned HEV.out t2'
          have c3 := hev3.c3
          have c22 := (env_turned hev ((Turned.refl (fun b => b = mO) wr).alloc (.cells #[] 92))).c2
          have hrl := rest_lt huU hm
          have hrm := rest_le (U := U) hp.out.sub
          have HC := Lib.hid (HIH.out w2 u (n1 + 1) _ hev3 s2 (by have := HD.out; omega) (by omega) hu)
          have HT2 := Lib.hid t2'
          have HRL := Lib.hid hrl
          clear hm htk hmem hu huU hev hjl hset' s2 t2 t2' hev3 hrm hrl
          go_wp2_with (go_at_call 64; refine HC.out.mono ?_; rintro e w3 ⟨rfl, n3, M3, s3, t3, p3, r3⟩; have HS3 := Lib.hid s3; have HT3 := Lib.hid (HT2.out.trans t3 (Grows.refl _ _)); have HP3 := Lib.hid p3; have HR3 := Lib.hid r3; clear s3 t3 p3 r3)
          go_roundw
          case rel => exact ⟨j + 1, n3, M3, by omega, by go_num, HS3, HT3, by rw [HTK.out]; exact Lib.hid (part2_walk hp.out HMEM.out HP3.out), by have := HR3.out; have := HRL.out; omega⟩
          case measure => simp [intOf]; omega
      · have hjn : l = j := by omega
        subst hjn
        have HX : Hid (DfsEnd w mO n U L a M (.returned (.tuple #[])) wr) := Lib.hid ⟨rfl, n1, M1, hs.out, ht.out, by have := hp.out; rw [List.take_of_length_le (by rw [HLL.out]; exact Nat.le_refl _)] at this; exact this, hnr⟩
        go_wp2_with fail
        go_end0
        rw [← HR.out]
        exact HX.out
end Go.Proofs.Ythanjncpgcmnaaa
