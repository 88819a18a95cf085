/- What a device tells of itself; its fuse: contracts. -/
import Derived.Test.YtikcanbhdickgaaDskDev
namespace Go.Proofs.Ytikcanbhdickgaa
open Go.ChangeShapes Go.WideShapes Go.ChangeAt Go.RowKit

theorem row13 {w : World} {g : Nat} {t : TypeId} {c0 c1 c2 c3 c4 c5 c6 c7 c8 c9 c10 c11 c12 : Value} (h : Cells w g t #[c0, c1, c2, c3, c4, c5, c6, c7, c8, c9, c10, c11, c12]) :
    w.cell? ⟨g, 0, none⟩ = some c0 ∧ w.cell? ⟨g, 1, none⟩ = some c1 ∧ w.cell? ⟨g, 2, none⟩ = some c2 ∧ w.cell? ⟨g, 3, none⟩ = some c3 ∧ w.cell? ⟨g, 4, none⟩ = some c4 ∧ w.cell? ⟨g, 5, none⟩ = some c5 ∧ w.cell? ⟨g, 6, none⟩ = some c6 ∧
    w.cell? ⟨g, 7, none⟩ = some c7 ∧ w.cell? ⟨g, 8, none⟩ = some c8 ∧ w.cell? ⟨g, 9, none⟩ = some c9 ∧ w.cell? ⟨g, 10, none⟩ = some c10 ∧ w.cell? ⟨g, 11, none⟩ = some c11 ∧ w.cell? ⟨g, 12, none⟩ = some c12 ∧ ∀ j, w.frozen? ⟨g, j, none⟩ = false := by
  refine ⟨?_, ?_, ?_, ?_, ?_, ?_, ?_, ?_, ?_, ?_, ?_, ?_, ?_, fun j => frozen_of_row w g j _ _ h⟩ <;> (rw [cell_of_row w g _ _ _ _ h]; rfl)
/-- Numbers alone have turned. -/
theorem dev_nums {w w' : World} {S : Dsk} {x : Gh} (h : Dev w S x) (ht : Turned (fun k => k = x.g) w w') {kept' ops' : Nat} {left' : Int} {fuse' : Option Nat} {dead' : Bool}
    (hc : Cells w' x.g 68 #[x.sv, .map (some x.mb), x.wv, tornV x.T, x.lv, .int .i64 (S.room : Int), .int .i64 (kept' : Int), x.hv, x.kv, .bool fuse'.isSome, .int .i64 left', .int .i64 (ops' : Int), .bool dead'])
    (hk : kept' ≤ S.log.length) (ho : S.wait.length ≤ ops') (hl : (-9223372036854775808 ≤ left' ∧ left' ≤ 9223372036854775807) ∧ ∀ n, fuse' = some n → left' = n) :
    Dev w' { S with kept := kept', fuse := fuse', ops := ops', dead := dead' } { x with left := left' } := by
  have hI : ∀ k, x.I k → w'.heap[k]? = w.heap[k]? := fun k hk => ht.block k (h.out k hk).2.2.2.2.2 (fun e => (h.out k hk).1 e)
  have hne : ∀ {bo : Option Nat}, bo ≠ some x.g → (∀ b, bo = some b → b < w.heap.size) → ∀ b, bo = some b → w'.heap[b]? = w.heap[b]? := fun hn hs b e => ht.block b (hs b e) (fun e' => hn (by rw [e, e']))
  obtain ⟨a1, a2, a3, a4, a5, a6, a7, a8, a9, a10⟩ := h.apart
  exact {
    cells := hc
    sure := dsure_kept h.sure ht.size (hne a2 (slc_lt h.sure.slc)) hI
    last := dlast_kept h.last (ht.block _ h.last.own.lt (fun e => a1 e.symm))
    wait := dwait_kept h.wait ht.size (hne a4 (slc_lt h.wait.slc)) hI
    torn := dtorn_kept h.torn hI
    log := dbyte_kept h.log ht.size (hne a6 (slc_lt h.log.slc))
    half := dbyte_kept h.half ht.size (fun b e => hI b (h.keptI.1 b e))
    mark := dbyte_kept h.mark ht.size (fun b e => hI b (h.keptI.2 b e))
    keptI := h.keptI
    num := ⟨h.num.1, h.num.2.1, hk, h.num.2.2.2.1, h.num.2.2.2.2.1, ho⟩
    left := hl
    apart := h.apart
    out := fun k hk => by obtain ⟨h1, h2, h3, h4, h5, h6⟩ := h.out k hk; exact ⟨h1, h2, h3, h4, h5, Nat.lt_of_lt_of_le h6 ht.size⟩ }
theorem turned_g {w : World} {g o : Nat} (v : Value) : Turned (fun k => k = g) w (w.setCell ⟨g, o, none⟩ v) := (Turned.refl (fun k => k = g) w).setCell (p := ⟨g, o, none⟩) (.inl rfl) v
theorem turned_gg {a w : World} {g o : Nat} (h : Turned (fun k => k = g) a w) (v : Value) : Turned (fun k => k = g) a (w.setCell ⟨g, o, none⟩ v) := h.setCell (.inl rfl) v
/-- Done, the blocks being the same. -/
theorem did_same {w w' : World} {x x' : Gh} {S' : Dsk} {r : Value} (hd : Dev w' S' x') (hg : x'.g = x.g) (ht : Turned (Ex x) w w') (hE : ∀ k, Ex x' k → Ex x k) (hI : ∀ k, x'.I k → x.I k) : Did w x S' r (.returned r) w' :=
  ⟨x', rfl, hd, hg, ht, fun k h => .inl (hE k h), fun k h => .inl (hI k h)⟩

section
variable {w : World} {S : Dsk} {x : Gh} (h : Dev w S x)
include h
theorem dead_any : Calls Try.prog 20 #[.pointer (some ⟨x.g, 0, none⟩)] w fun e w' => e = .returned (.bool S.dead) ∧ w = w' := by
  obtain ⟨f0, f1, f2, f3, f4, f5, f6, f7, f8, f9, f10, f11, f12, fz⟩ := row13 h.cells
  clear f0 f1 f2 f3 f4 f5 f6 f7 f8 f9 f10 f11 fz h
  go_enter Try.func20, Try.ntmps20
  go_wp2
  go_ret
  exact ⟨rfl, rfl⟩
theorem pages_any : Calls Try.prog 21 #[.pointer (some ⟨x.g, 0, none⟩)] w fun e w' => e = .returned (.int .i64 (S.pages.length : Int)) ∧ w = w' := by
  obtain ⟨f0, f1, f2, f3, f4, f5, f6, f7, f8, f9, f10, f11, f12, fz⟩ := row13 h.cells
  have hl : S.pages.length = x.P.length := by rw [← h.sure.is, List.length_map]
  obtain ⟨ao, cap, hv, _⟩ := slc_form h.sure.slc
  rw [hl]
  rw [hv] at f0
  generalize x.P.length = n at f0 ⊢
  clear f1 f2 f3 f4 f5 f6 f7 f8 f9 f10 f11 f12 fz h hl hv
  go_enter Try.func21, Try.ntmps21
  go_wp2
  go_ret
  exact ⟨rfl, rfl⟩
theorem room_any : Calls Try.prog 22 #[.pointer (some ⟨x.g, 0, none⟩)] w fun e w' => e = .returned (.int .i64 (S.room : Int)) ∧ w = w' := by
  obtain ⟨f0, f1, f2, f3, f4, f5, f6, f7, f8, f9, f10, f11, f12, fz⟩ := row13 h.cells
  clear f0 f1 f2 f3 f4 f6 f7 f8 f9 f10 f11 f12 fz h
  go_enter Try.func22, Try.ntmps22
  go_wp2
  go_ret
  exact ⟨rfl, rfl⟩
theorem certain_any : Calls Try.prog 30 #[.pointer (some ⟨x.g, 0, none⟩)] w fun e w' => e = .returned (.int .i64 (S.kept : Int)) ∧ w = w' := by
  obtain ⟨f0, f1, f2, f3, f4, f5, f6, f7, f8, f9, f10, f11, f12, fz⟩ := row13 h.cells
  clear f0 f1 f2 f3 f4 f5 f7 f8 f9 f10 f11 f12 fz h
  go_enter Try.func30, Try.ntmps30
  go_wp2
  go_ret
  exact ⟨rfl, rfl⟩
theorem ops_any : Calls Try.prog 33 #[.pointer (some ⟨x.g, 0, none⟩)] w fun e w' => e = .returned (.int .i64 (S.ops : Int)) ∧ w = w' := by
  obtain ⟨f0, f1, f2, f3, f4, f5, f6, f7, f8, f9, f10, f11, f12, fz⟩ := row13 h.cells
  clear f0 f1 f2 f3 f4 f5 f6 f7 f8 f9 f10 f12 fz h
  go_enter Try.func33, Try.ntmps33
  go_wp2
  go_ret
  exact ⟨rfl, rfl⟩
theorem fuse_any (n : Int) (hn : -9223372036854775808 ≤ n ∧ n ≤ 9223372036854775807) : Calls Try.prog 19 #[.pointer (some ⟨x.g, 0, none⟩), .int .i64 n] w (Did w x { S with fuse := if n < 0 then none else some n.toNat } (.tuple #[])) := by
  obtain ⟨f0, f1, f2, f3, f4, f5, f6, f7, f8, f9, f10, f11, f12, fz⟩ := row13 h.cells
  have H := Lib.hid h
  clear f0 f1 f2 f3 f4 f5 f6 f7 f8 f11 f12 h
  by_cases h0 : n < 0
  · have d : decide (0 ≤ n) = false := decide_eq_false (by omega)
    go_enter Try.func19, Try.ntmps19
    go_wp2
    go_end0
    try rw [if_pos h0]
    refine did_same (x' := { x with left := n }) ?_ rfl ((((Turned.refl _ w).setCell (.inl (.inl rfl)) _).setCell (.inl (.inl rfl)) _)) (fun k hk => hk) (fun k hk => hk)
    exact dev_nums (kept' := S.kept) (ops' := S.ops) (fuse' := none) (dead' := S.dead) H.out (turned_gg (turned_g _) _) (cells_setCell (cells_setCell H.out.cells)) H.out.num.2.2.1 H.out.num.2.2.2.2.2 ⟨hn, fun m e => by cases e⟩
  · have d : decide (0 ≤ n) = true := decide_eq_true (by omega)
    go_enter Try.func19, Try.ntmps19
    go_wp2
    go_end0
    try rw [if_neg (by omega)]
    refine did_same (x' := { x with left := n }) ?_ rfl ((((Turned.refl _ w).setCell (.inl (.inl rfl)) _).setCell (.inl (.inl rfl)) _)) (fun k hk => hk) (fun k hk => hk)
    exact dev_nums (kept' := S.kept) (ops' := S.ops) (fuse' := some n.toNat) (dead' := S.dead) H.out (turned_gg (turned_g _) _) (cells_setCell (cells_setCell H.out.cells)) H.out.num.2.2.1 H.out.num.2.2.2.2.2 ⟨hn, fun m e => by cases e; omega⟩
theorem alive_dies (hf : S.fuse = some 0) : Calls Try.prog 36 #[.pointer (some ⟨x.g, 0, none⟩)] w fun e w' => e = .returned (.bool false) ∧ Dev w' { S with dead := true } x ∧ Turned (fun k => k = x.g) w w' := by
  obtain ⟨f0, f1, f2, f3, f4, f5, f6, f7, f8, f9, f10, f11, f12, fz⟩ := row13 h.cells
  have H := Lib.hid h
  have hl := h.left.2 0 hf
  rw [hf] at f9
  rw [hl] at f10
  simp only [Option.isSome_some] at f9
  have HF := Lib.hid hf
  clear f0 f1 f2 f3 f4 f5 f6 f7 f8 f11 h hl hf
  go_enter Try.func36, Try.ntmps36
  go_wp2
  go_ret
  refine ⟨rfl, ?_, turned_g _⟩
  exact dev_nums (kept' := S.kept) (ops' := S.ops) (fuse' := S.fuse) (left' := x.left) (dead' := true) H.out (turned_g _) (cells_setCell H.out.cells) H.out.num.2.2.1 H.out.num.2.2.2.2.2 H.out.left
theorem alive_lives (hf : S.fuse ≠ some 0) (ho : S.ops < 4611686018427387904) : Calls Try.prog 36 #[.pointer (some ⟨x.g, 0, none⟩)] w fun e w' => e = .returned (.bool true) ∧ (∃ l, Dev w' { S with fuse := S.fuse.map (· - 1), ops := S.ops + 1 } { x with left := l }) ∧ Turned (fun k => k = x.g) w w' := by
  obtain ⟨f0, f1, f2, f3, f4, f5, f6, f7, f8, f9, f10, f11, f12, fz⟩ := row13 h.cells
  have H := Lib.hid h
  clear f0 f1 f2 f3 f4 f5 f6 f7 f8 f12
  obtain ⟨l, hl⟩ : ∃ l, l = x.left := ⟨_, rfl⟩
  have hb := h.left.1
  rw [← hl] at f10 hb
  obtain ⟨hb1, hb2⟩ := hb
  obtain ⟨n, hn⟩ : ∃ n, n = S.ops := ⟨_, rfl⟩
  rw [← hn] at f11 ho
  have hn1 : IntKind.i64.wrap ((n : Int) + 1) = ((n + 1 : Nat) : Int) := by rw [IntWalk.i64_in _ (by omega)]; rfl
  have key : ∀ l', (-9223372036854775808 ≤ l' ∧ l' ≤ 9223372036854775807) → (∀ m, S.fuse = some m → l' = (m : Int) - 1) → ∀ w', Turned (fun k => k = x.g) w w' → Cells w' x.g 68 #[x.sv, .map (some x.mb), x.wv, tornV x.T, x.lv, .int .i64 (S.room : Int), .int .i64 (S.kept : Int), x.hv, x.kv, .bool S.fuse.isSome, .int .i64 l', .int .i64 ((n + 1 : Nat) : Int), .bool S.dead] →
      ((∃ l, Dev w' { S with fuse := S.fuse.map (· - 1), ops := S.ops + 1 } { x with left := l }) ∧ Turned (fun k => k = x.g) w w') := by
    intro l' hl1 hl2 w' ht hc
    refine ⟨⟨l', ?_⟩, ht⟩
    refine dev_nums (kept' := S.kept) (ops' := S.ops + 1) (fuse' := S.fuse.map (· - 1)) (left' := l') (dead' := S.dead) h ht ?_ h.num.2.2.1 (by have := h.num.2.2.2.2.2; omega) ⟨hl1, fun m e => ?_⟩
    · rw [hn] at hc
      rw [Option.isSome_map]
      exact hc
    · obtain ⟨q, hq, hq2⟩ := Option.map_eq_some_iff.1 e
      have := hl2 q hq
      have : q ≠ 0 := fun e0 => hf (by rw [hq, e0])
      omega
  have HKEY := Lib.hid key
  have HC : Hid (Cells w x.g 68 #[x.sv, .map (some x.mb), x.wv, tornV x.T, x.lv, .int .i64 (S.room : Int), .int .i64 (S.kept : Int), x.hv, x.kv, .bool S.fuse.isSome, .int .i64 l, .int .i64 (n : Int), .bool S.dead]) := Lib.hid (by rw [hl, hn]; exact h.cells)
  have HL : Hid (∀ m, S.fuse = some m → l = (m : Int)) := Lib.hid (fun m e => by rw [hl]; exact h.left.2 m e)
  obtain ⟨l', hl'⟩ : ∃ l', l' = IntKind.i64.wrap (l - 1) := ⟨_, rfl⟩
  have HW : Hid (-9223372036854775808 ≤ l' ∧ l' ≤ 9223372036854775807) := Lib.hid (by rw [hl', IntKind.wrap_i64]; omega)
  have hl2 : IntKind.i64.wrap (l - 1) = l' := hl'.symm
  have HL2 : Hid (∀ m, S.fuse = some m → l' = (m : Int) - 1) := Lib.hid (fun m e => by
    have h1 := h.left.2 m e
    rw [hl', IntWalk.i64_in _ (by omega)]
    omega)
  have hnz : S.fuse.isSome = true → ((l : Int) == 0) = false := fun hs => by
    obtain ⟨m, hm⟩ := Option.isSome_iff_exists.1 hs
    have h1 := HL.out m hm
    have : m ≠ 0 := fun e0 => hf (by rw [hm, e0])
    exact beq_eq_false_iff_ne.2 (by omega)
  have HO1 := Lib.hid hn1
  clear hn hl h key hf hl' hn1 HL
  cases hb : S.fuse.isSome with
  | false =>
    rw [hb] at f9
    clear hnz
    have HBB := Lib.hid hb
    clear hb
    go_enter Try.func36, Try.ntmps36
    go_wp2
    go_ret
    have hc := cells_setCell (o := 11) (v := .int .i64 ((n : Int) + 1)) (cells_setCell (o := 10) (v := .int .i64 l') HC.out)
    rw [HBB.out] at hc
    have hk := HKEY.out l' HW.out HL2.out _ (turned_gg (turned_g _) _) (by rw [HBB.out]; exact hc)
    exact ⟨rfl, hk⟩
  | true =>
    rw [hb] at f9
    have hz := hnz hb
    clear hnz
    have HBB := Lib.hid hb
    clear hb
    go_enter Try.func36, Try.ntmps36
    go_wp2
    go_ret
    have hc := cells_setCell (o := 11) (v := .int .i64 ((n : Int) + 1)) (cells_setCell (o := 10) (v := .int .i64 l') HC.out)
    rw [HBB.out] at hc
    have hk := HKEY.out l' HW.out HL2.out _ (turned_gg (turned_g _) _) (by rw [HBB.out]; exact hc)
    exact ⟨rfl, hk⟩
end
end Go.Proofs.Ytikcanbhdickgaa
