/- A device's log and its mark: contracts. -/
import Derived.Test.YtikcanbhdickgaaDskGet
import Derived.WalkSpells
namespace Go.Proofs.Ytikcanbhdickgaa
open Go.ChangeShapes Go.WideShapes Go.ChangeAt Go.RowKit

theorem infoU8 : (Try.prog.info? 5).map (fun i => (i.zero, i.size, i.bytes)) = some (some (.int .u8 0), 1, 1) := by kernel_rfl
theorem rowU8 : ∃ i, Rowy Try.prog 28 5 i (.int .u8 0) 1 1 := by
  obtain ⟨i0, hi, hz0, hz1, hz2⟩ := info_parts infoU8
  exact ⟨i0, Try.underlying28, hi, hz0, hz1, hz2, rfl⟩
/-- A new slice with these cells. -/
def NewSlc (w : World) (sz n : Nat) (xs : List Value) (e : Ending) (w' : World) : Prop := ∃ ao cap bo, e = .returned (.slice ao n cap) ∧ Slc w' bo sz (.slice ao n cap) n xs ∧ Below w.heap.size w w' ∧ ∀ b, bo = some b → w.heap.size ≤ b
theorem clone_bytes {a : Option Addr} {n cap : Nat} {l : List Nat} {w : World} (hb : BytesAt w a l) (hl : l.length = n) (hs : n ≤ 140737488355328) :
    Calls Try.prog 38 #[.slice a n cap] w (NewSlc w 1 n (u8s l)) := by
  obtain ⟨i0, R⟩ := rowU8
  have HB := Lib.hid hb
  have HL := Lib.hid hl
  have HR := Lib.hid R
  clear hb hl R
  cases a with
  | none =>
    obtain rfl := bytes_none HB.out
    obtain rfl := HL.out
    have e1 := fun (w : World) => Lib.run_eql_slice_nil (P := Try.prog) w 28 5 none 0 cap 0 0 Try.underlying28
    simp only [Option.isNone_none] at e1
    go_enter Try.func38, Try.ntmps38
    go_wp2
    go_ret
    exact ⟨none, 0, none, rfl, slc_nil w 1, Below.refl _ _, fun b e => by cases e⟩
  | some ad =>
    have e1 := fun (w : World) => Lib.run_eql_slice_nil (P := Try.prog) w 28 5 (some ad) n cap 0 0 Try.underlying28
    simp only [Option.isNone_some] at e1
    go_enter Try.func38, Try.ntmps38
    go_wp2_with (at_builtin; refine wpList_slc HR.out rfl (.tmp 5) (.tmp 6) 28 rfl rfl rfl (slc_fresh w 5 1) (bytes_src Try.underlying28 (bytes_below HB.out (below_alloc w _)) HL.out) (Nat.zero_add n) (by unfold maxLen; omega) (by omega) ?_; intro ao cap' bo w1 h1 h2 h3; have HS := Lib.hid h1; have HT := Lib.hid h2; have HO := Lib.hid h3; clear h1 h2 h3)
    go_ret
    refine ⟨ao, cap', bo, rfl, HS.out, Turned.none_below ?_, fun b e => ?_⟩
    · exact ((Turned.refl _ w).alloc _).trans HT.out (fun k hk => by cases hk; exact .inr (Nat.le_refl _))
    · rcases HO.out with h | h
      · rw [h] at e; cases e; exact Nat.le_refl _
      · rw [h] at e; cases e; simp
/-- What stands from a place on, up to a place. -/
theorem slc_from {w : World} {bo : Option Nat} {ao : Option Addr} {n cap j : Nat} {xs : List Value} (h : Slc w bo 1 (.slice ao n cap) n xs) (hj : j ≤ n) :
    ∃ a2 c2, (∀ V, (Instr.slice 28 (.slice ao n cap) (some (.int .i64 (j : Int))) none none).run Try.prog V = .ok (.slice a2 (n - j) c2) V) ∧ Slc w bo 1 (.slice a2 (n - j) c2) (n - j) (xs.drop j) := by
  have hl : xs.length = n := by have := h.1; omega
  obtain ⟨h1, h2, ⟨rfl, e, rfl⟩ | ⟨b, off, cap, rfl, e, hb, hn, hc, hx, hsp⟩⟩ := h
  · cases e
    obtain rfl : j = 0 := by omega
    obtain rfl : xs = [] := List.length_eq_zero_iff.1 hl
    refine ⟨none, 0, fun V => ?_, slc_nil w 1⟩
    simp [go_sem, Try.underlying28]
  · cases e
    by_cases e : cap = j
    · subst e
      have e0 : n - cap = 0 := by omega
      refine ⟨some ⟨b, off, none⟩, 0, fun V => ?_, by rw [List.length_drop, hl, Nat.mul_one], fun u hu => h2 u (List.mem_of_mem_drop hu), .inr ⟨b, off, 0, rfl, rfl, hb, by omega, Nat.zero_le _, fun k u hu => ?_, fun k hk => by omega⟩⟩
      · simp [go_sem, Try.underlying28, hj, e0]
      · rw [List.drop_eq_nil_of_le (by omega)] at hu
        simp at hu
    · refine ⟨some ⟨b, off + j, none⟩, cap - j, fun V => ?_, by rw [List.length_drop, hl, Nat.mul_one], fun u hu => h2 u (List.mem_of_mem_drop hu), .inr ⟨b, off + j, cap - j, rfl, rfl, hb, by omega, by omega, fun k u hu => ?_, fun k hk => ?_⟩⟩
      · simp [go_sem, Try.underlying28, hj, e]
      · rw [List.getElem?_drop] at hu
        rw [Nat.add_assoc]; exact hx (j + k) u hu
      · rw [Nat.add_assoc]; exact hsp (j + k) (by omega)
theorem slc_upto {w : World} {bo : Option Nat} {ao : Option Addr} {n cap j : Nat} {xs : List Value} (h : Slc w bo 1 (.slice ao n cap) n xs) (hj : j ≤ n) :
    (∀ V, (Instr.slice 28 (.slice ao n cap) none (some (.int .i64 (j : Int))) none).run Try.prog V = .ok (.slice ao j cap) V) ∧ Slc w bo 1 (.slice ao j cap) j (xs.take j) := by
  have hl : xs.length = n := by have := h.1; omega
  obtain ⟨h1, h2, ⟨rfl, e, rfl⟩ | ⟨b, off, cap, rfl, e, hb, hn, hc, hx, hsp⟩⟩ := h
  · cases e
    obtain rfl : j = 0 := by omega
    obtain rfl : xs = [] := List.length_eq_zero_iff.1 hl
    refine ⟨fun V => ?_, slc_nil w 1⟩
    simp [go_sem, Try.underlying28]
  · cases e
    have hjc : j ≤ cap := by omega
    refine ⟨fun V => ?_, by rw [List.length_take, hl, Nat.mul_one, Nat.min_eq_left hj], fun u hu => h2 u (List.mem_of_mem_take hu), .inr ⟨b, off, cap, rfl, rfl, hb, hjc, hc, fun k u hu => ?_, hsp⟩⟩
    · simp [go_sem, Try.underlying28, hjc]
    · rw [List.getElem?_take] at hu
      split at hu
      · exact hx k u hu
      · cases hu
section
variable {w w' : World} {S : Dsk} {x : Gh}
/-- The log has turned. -/
theorem dev_log (h : Dev w S x) (ht : Turned (fun k => k = x.g ∨ x.lb = some k) w w') {bo : Option Nat} {v : Value} {l : List Nat} {kept' : Nat}
    (hc : Cells w' x.g 68 #[x.sv, .map (some x.mb), x.wv, tornV x.T, v, .int .i64 (S.room : Int), .int .i64 (kept' : Int), x.hv, x.kv, .bool S.fuse.isSome, .int .i64 x.left, .int .i64 (S.ops : Int), .bool S.dead])
    (hs : Slc w' bo 1 v l.length (u8s l)) (hz : ∀ c ∈ l, c < 256) (hbo : bo = x.lb ∨ ∀ b, bo = some b → w.heap.size ≤ b) (hl : S.half.length + l.length ≤ S.room) (hk : kept' ≤ l.length) :
    Dev w' { S with log := l, kept := kept' } { x with lb := bo, lv := v } := by
  obtain ⟨a1, a2, a3, a4, a5, a6, a7, a8, a9, a10⟩ := h.apart
  have hsz := dev_size h
  have hI : ∀ k, x.I k → w'.heap[k]? = w.heap[k]? := fun k hk => ht.block k (h.out k hk).2.2.2.2.2 (fun e => by
    rcases e with e | e
    · exact (h.out k hk).1 e
    · exact (h.out k hk).2.2.2.2.1 e)
  have hS : ∀ b, x.sb = some b → w'.heap[b]? = w.heap[b]? := fun b e => ht.block b (hsz b (.inr (.inr (.inl e)))) (fun e' => by
    rcases e' with e' | e'
    · exact a2 (by rw [e, e'])
    · rcases a9 with a | a
      · rw [a] at e; cases e
      · exact a (by rw [e, e']))
  have hW : ∀ b, x.wb = some b → w'.heap[b]? = w.heap[b]? := fun b e => ht.block b (hsz b (.inr (.inr (.inr (.inl e))))) (fun e' => by
    rcases e' with e' | e'
    · exact a4 (by rw [e, e'])
    · rcases a10 with a | a
      · rw [a] at e; cases e
      · exact a (by rw [e, e']))
  have hM : w'.heap[x.mb]? = w.heap[x.mb]? := ht.block _ (hsz _ (.inr (.inl rfl))) (fun e' => by
    rcases e' with e' | e'
    · exact a1 e'.symm
    · exact a7 e')
  have hno : ∀ k, k < w.heap.size → x.lb ≠ some k → bo ≠ some k := fun k hk hn e => by
    rcases hbo with e' | e'
    · exact hn (by rw [← e', e])
    · have := e' k e; omega
  exact {
    cells := hc
    sure := dsure_kept h.sure ht.size hS hI
    last := dlast_kept h.last hM
    wait := dwait_kept h.wait ht.size hW hI
    torn := dtorn_kept h.torn hI
    log := ⟨hs, hz⟩
    half := dbyte_kept h.half ht.size (fun b e => hI b (h.keptI.1 b e))
    mark := dbyte_kept h.mark ht.size (fun b e => hI b (h.keptI.2 b e))
    keptI := h.keptI
    num := ⟨by show l.length ≤ S.room; omega, h.num.2.1, hk, hl, h.num.2.2.2.2⟩
    left := h.left
    apart := ⟨a1, a2, a3, a4, a5, hno _ (hsz _ (.inl rfl)) a6, hno _ (hsz _ (.inr (.inl rfl))) a7, a8, by
      cases hsb : x.sb with
      | none => exact .inl rfl
      | some b => exact .inr (fun e => hno b (hsz b (.inr (.inr (.inl hsb)))) (fun e' => by
          rcases a9 with a | a
          · rw [a] at hsb; cases hsb
          · exact a (by rw [hsb, e'])) e.symm), by
      cases hwb : x.wb with
      | none => exact .inl rfl
      | some b => exact .inr (fun e => hno b (hsz b (.inr (.inr (.inr (.inl hwb))))) (fun e' => by
          rcases a10 with a | a
          · rw [a] at hwb; cases hwb
          · exact a (by rw [hwb, e'])) e.symm)⟩
    out := fun k hk => by obtain ⟨h1, h2, h3, h4, h5, h6⟩ := h.out k hk; exact ⟨h1, h2, h3, h4, hno k h6 h5, Nat.lt_of_lt_of_le h6 ht.size⟩ }
/-- Bytes that the device died at, or the mark, have turned. -/
theorem dev_half (h : Dev w S x) (ht : Turned (fun k => k = x.g) w w') {bo : Option Nat} {v : Value} {l : List Nat}
    (hc : Cells w' x.g 68 #[x.sv, .map (some x.mb), x.wv, tornV x.T, x.lv, .int .i64 (S.room : Int), .int .i64 (S.kept : Int), v, x.kv, .bool S.fuse.isSome, .int .i64 x.left, .int .i64 (S.ops : Int), .bool S.dead])
    (hs : Slc w' bo 1 v l.length (u8s l)) (hz : ∀ c ∈ l, c < 256) (hbo : ∀ b, bo = some b → ¬ Ex x b) (hl : l.length + S.log.length ≤ S.room) :
    Dev w' { S with half := l } { x with hb := bo, hv := v, I := fun k => x.I k ∨ bo = some k } := by
  obtain ⟨a1, a2, a3, a4, a5, a6, a7, a8, a9, a10⟩ := h.apart
  have hI : ∀ k, x.I k → w'.heap[k]? = w.heap[k]? := fun k hk => ht.block k (h.out k hk).2.2.2.2.2 (fun e => (h.out k hk).1 e)
  have hne : ∀ {bo : Option Nat}, bo ≠ some x.g → (∀ b, bo = some b → b < w.heap.size) → ∀ b, bo = some b → w'.heap[b]? = w.heap[b]? := fun hn hs b e => ht.block b (hs b e) (fun e' => hn (by rw [e, e']))
  have hS := dsure_kept h.sure ht.size (hne a2 (slc_lt h.sure.slc)) hI
  have hW := dwait_kept h.wait ht.size (hne a4 (slc_lt h.wait.slc)) hI
  have hT := dtorn_kept h.torn hI
  exact {
    cells := hc
    sure := ⟨hS.slc, fun p hp => by
      rcases hS.leaf p hp with h1 | ⟨b, h1, h2, h3⟩
      · exact .inl h1
      · exact .inr ⟨b, h1, h2, .inl h3⟩, hS.is, hS.few⟩
    last := dlast_kept h.last (ht.block _ h.last.own.lt (fun e => a1 e.symm))
    wait := ⟨hW.slc, fun y hy => by obtain ⟨h1, h2, h3⟩ := hW.leaf y hy; exact ⟨h1, h2, .inl h3⟩, hW.is⟩
    torn := ⟨fun t ht => by obtain ⟨h1, h2, h3, h4, h5⟩ := hT.at' t ht; exact ⟨h1, .inl h2, h3, .inl h4, h5⟩, hT.is⟩
    log := dbyte_kept h.log ht.size (hne a6 (slc_lt h.log.slc))
    half := ⟨hs, hz⟩
    mark := dbyte_kept h.mark ht.size (fun b e => hI b (h.keptI.2 b e))
    keptI := ⟨fun b e => .inr e, fun b e => .inl (h.keptI.2 b e)⟩
    num := ⟨h.num.1, h.num.2.1, h.num.2.2.1, hl, h.num.2.2.2.2⟩
    left := h.left
    apart := h.apart
    out := fun k hk => by
      rcases hk with hk | hk
      · obtain ⟨h1, h2, h3, h4, h5, h6⟩ := h.out k hk; exact ⟨h1, h2, h3, h4, h5, Nat.lt_of_lt_of_le h6 ht.size⟩
      · have h1 := hbo k hk
        exact ⟨fun e => h1 (.inl e), fun e => h1 (.inr (.inl e)), fun e => h1 (.inr (.inr (.inl e))), fun e => h1 (.inr (.inr (.inr (.inl e)))), fun e => h1 (.inr (.inr (.inr (.inr e)))), slc_lt hs k hk⟩ }
theorem dev_mark (h : Dev w S x) (ht : Turned (fun k => k = x.g) w w') {bo : Option Nat} {v : Value} {l : List Nat}
    (hc : Cells w' x.g 68 #[x.sv, .map (some x.mb), x.wv, tornV x.T, x.lv, .int .i64 (S.room : Int), .int .i64 (S.kept : Int), x.hv, v, .bool S.fuse.isSome, .int .i64 x.left, .int .i64 (S.ops : Int), .bool S.dead])
    (hs : Slc w' bo 1 v l.length (u8s l)) (hz : ∀ c ∈ l, c < 256) (hbo : ∀ b, bo = some b → ¬ Ex x b) (hl : l.length ≤ 64) :
    Dev w' { S with mark := l } { x with kb := bo, kv := v, I := fun k => x.I k ∨ bo = some k } := by
  obtain ⟨a1, a2, a3, a4, a5, a6, a7, a8, a9, a10⟩ := h.apart
  have hI : ∀ k, x.I k → w'.heap[k]? = w.heap[k]? := fun k hk => ht.block k (h.out k hk).2.2.2.2.2 (fun e => (h.out k hk).1 e)
  have hne : ∀ {bo : Option Nat}, bo ≠ some x.g → (∀ b, bo = some b → b < w.heap.size) → ∀ b, bo = some b → w'.heap[b]? = w.heap[b]? := fun hn hs b e => ht.block b (hs b e) (fun e' => hn (by rw [e, e']))
  have hS := dsure_kept h.sure ht.size (hne a2 (slc_lt h.sure.slc)) hI
  have hW := dwait_kept h.wait ht.size (hne a4 (slc_lt h.wait.slc)) hI
  have hT := dtorn_kept h.torn hI
  exact {
    cells := hc
    sure := ⟨hS.slc, fun p hp => by
      rcases hS.leaf p hp with h1 | ⟨b, h1, h2, h3⟩
      · exact .inl h1
      · exact .inr ⟨b, h1, h2, .inl h3⟩, hS.is, hS.few⟩
    last := dlast_kept h.last (ht.block _ h.last.own.lt (fun e => a1 e.symm))
    wait := ⟨hW.slc, fun y hy => by obtain ⟨h1, h2, h3⟩ := hW.leaf y hy; exact ⟨h1, h2, .inl h3⟩, hW.is⟩
    torn := ⟨fun t ht => by obtain ⟨h1, h2, h3, h4, h5⟩ := hT.at' t ht; exact ⟨h1, .inl h2, h3, .inl h4, h5⟩, hT.is⟩
    log := dbyte_kept h.log ht.size (hne a6 (slc_lt h.log.slc))
    half := dbyte_kept h.half ht.size (fun b e => hI b (h.keptI.1 b e))
    mark := ⟨hs, hz⟩
    keptI := ⟨fun b e => .inl (h.keptI.1 b e), fun b e => .inr e⟩
    num := ⟨h.num.1, h.num.2.1, h.num.2.2.1, h.num.2.2.2.1, hl, h.num.2.2.2.2.2⟩
    left := h.left
    apart := h.apart
    out := fun k hk => by
      rcases hk with hk | hk
      · obtain ⟨h1, h2, h3, h4, h5, h6⟩ := h.out k hk; exact ⟨h1, h2, h3, h4, h5, Nat.lt_of_lt_of_le h6 ht.size⟩
      · have h1 := hbo k hk
        exact ⟨fun e => h1 (.inl e), fun e => h1 (.inr (.inl e)), fun e => h1 (.inr (.inr (.inl e))), fun e => h1 (.inr (.inr (.inr (.inl e)))), fun e => h1 (.inr (.inr (.inr (.inr e)))), slc_lt hs k hk⟩ }
end
end Go.Proofs.Ytikcanbhdickgaa
