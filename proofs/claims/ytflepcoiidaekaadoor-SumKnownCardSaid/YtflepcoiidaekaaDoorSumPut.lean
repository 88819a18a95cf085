/- A copy of bytes; a number laid into bytes: contracts. -/
import Derived.Test.YtflepcoiidaekaaDoorSumGet
import Derived.Laws.AppendOwnNone
import Derived.Laws.OwnMore
namespace Go.Proofs.YtflepcoiidaekaaDoor
open Go.ChangeShapes Go.WideShapes Go.ChangeAt Go.RowKit

theorem info5 : (Tryd.prog.info? 5).map (fun i => (i.zero, i.size, i.bytes)) = some (some (.int .u8 0), 1, 1) := by kernel_rfl
/-- The bytes as cells. -/
def u8s (zs : List Nat) : List Value := zs.map fun z : Nat => Value.int .u8 (z : Int)
theorem u8s_length (zs : List Nat) : (u8s zs).length = zs.length := by simp [u8s]
theorem u8s_one (zs : List Nat) : ∀ u ∈ u8s zs, u.oneCell' = true := by
  intro u hu
  simp only [u8s, List.mem_map] at hu
  obtain ⟨z, _, rfl⟩ := hu
  rfl
theorem u8s_get {zs : List Nat} {j : Nat} {u : Value} (h : (u8s zs)[j]? = some u) : ∃ h' : j < zs.length, u = .int .u8 (zs[j] : Int) := by
  simp only [u8s, List.getElem?_map, Option.map_eq_some_iff] at h
  obtain ⟨z, hz, rfl⟩ := h
  obtain ⟨h', rfl⟩ := List.getElem?_eq_some_iff.1 hz
  exact ⟨h', rfl⟩
theorem bytes_cells {w : World} {ad : Addr} {zs : List Nat} (hb : BytesAt w (some ad) zs) : ∀ j u, (u8s zs)[j]? = some u → w.cell? (ad.add j) = some u := by
  intro j u hu
  obtain ⟨h', rfl⟩ := u8s_get hu
  obtain ⟨b, off, e, hc⟩ := hb.2.2 j h'
  simp only [Option.some.injEq] at e
  subst e
  rw [Addr.add]
  split
  · rename_i h0
    have h0' : j = 0 := by simpa using h0
    subst h0'
    simpa using hc
  · exact hc

theorem cell_alloc {w : World} {a : Addr} {v : Value} (h : w.cell? a = some v) (o : Obj) : (w.alloc o).cell? a = some v := by
  have hl := World.block_lt_of_cell? w a h
  first | (rw [World.cell?_alloc_lt _ _ _ hl]; exact h) | (rw [World.cell?_alloc_lt _ _ hl]; exact h) | (rw [World.cell?_alloc_lt _ hl]; exact h)
/-- What a clone leaves. -/
def Cloned (w : World) (zs : List Nat) (e : Ending) (w' : World) : Prop :=
  ∃ g cap', e = .returned (.slice (some ⟨g, 0, none⟩) zs.length cap') ∧ w'.ownsRow w.heap.size 5 1 (.slice (some ⟨g, 0, none⟩) zs.length cap') zs.length (u8s zs) ∧ Below w.heap.size w w'

theorem own_form {w : World} {base : Nat} {v : Value} {n : Nat} {xs : List Value} (h : w.ownsRow base 5 1 v n xs) (hv : v ≠ .slice none 0 0) : ∃ g cap, v = .slice (some ⟨g, 0, none⟩) n cap ∧ base ≤ g := by
  rcases h.2 with ⟨rfl, _⟩ | ⟨g, cap, cur, rfl, hb, _⟩
  · exact absurd rfl hv
  · exact ⟨g, cap, rfl, hb⟩

set_option maxHeartbeats 400000 in
theorem clone_some (ad : Addr) (cap : Nat) (zs : List Nat) (w : World) (hb : BytesAt w (some ad) zs) (hreach : zs.length ≤ 140737488355328) :
    Calls Tryd.prog 19 #[.slice (some ad) zs.length cap] w (Cloned w zs) := by
  obtain ⟨i0, hi, hz0, hz1, hz2⟩ := info_parts info5
  have hq := fun (w : World) => Lib.run_eql_slice_nil (P := Tryd.prog) w 27 5 (some ad) zs.length cap 0 0 Tryd.underlying27
  have hcs := bytes_cells hb
  have HB := Lib.hid hb; clear hb
  have HCS : Hid (∀ j u, (u8s zs)[j]? = some u → (w.alloc (.cells #[] 5)).cell? (ad.add j) = some u) := Lib.hid (fun j u h => (cell_alloc (hcs j u h) _))
  clear hcs
  have HO : Hid ((w.alloc (.cells #[] 5)).ownsRow w.heap.size 5 1 (.slice (some ⟨w.heap.size, 0, none⟩) 0 0) 0 []) := Lib.hid (World.ownsRow_made w #[] 0 (Nat.le_refl _) (Nat.zero_le _) rfl)
  go_enter Tryd.func19, Tryd.ntmps19
  go_wp2_with (at_builtin; refine wpList_append_own _ rfl _ _ 27 rfl w.heap.size 5 i0 (.int .u8 0) 1 1 Tryd.underlying27 hi hz0 hz1 hz2 rfl (by decide) _ _ _ rfl HO.out ad zs.length cap (u8s zs) rfl (by simp [u8s]) HCS.out (u8s_one zs) (by unfold maxLen; omega) (by omega) (by simp) ?_)
  intro v' w1 hown hgrow hnil
  have hv : v' ≠ .slice none 0 0 := hnil
  clear hnil
  obtain ⟨g, c', rfl, hg⟩ := own_form hown hv
  clear hv
  have HW : Hid (Below w.heap.size w w1) := Lib.hid (((Below.refl _ _).alloc (Nat.le_refl _) _).grown hgrow (by simp) (by intro k hk; simp [Value.ownBlock] at hk; omega))
  have HOW := Lib.hid hown
  clear hgrow hown
  go_wp2
  go_ret
  exact ⟨g, c', rfl, HOW.out, HW.out⟩
theorem clip_any (ao : Option Addr) (n c : Nat) (hn : n ≤ c) (_hm : n ≤ maxLen) (w : World) :
    Calls Tryd.prog 20 #[.slice ao n c] w fun e w' => e = .returned (.slice ao n n) ∧ w = w' := by
  go_enter Tryd.func20, Tryd.ntmps20
  go_wp2
  go_ret
  exact ⟨rfl, rfl⟩

/-- The bytes of n, the lowest first, laid from q on: k of them. -/
def lay (zs : List Nat) (q n : Nat) : Nat → List Nat
  | 0 => zs
  | k + 1 => (lay zs q n k).set (q + k) (n / 2 ^ (8 * k) % 256)
theorem lay_length (zs : List Nat) (q n k : Nat) : (lay zs q n k).length = zs.length := by
  induction k with
  | zero => rfl
  | succ k ih => simp [lay, ih]

/-- What Put leaves, where it lays. -/
def Laid (w : World) (l : List Nat) (e : Ending) (w' : World) : Prop :=
  ∃ g c, e = .returned (.tuple #[.slice (some ⟨g, 0, none⟩) l.length l.length, .int .i64 0]) ∧ l.length ≤ c ∧ w'.ownsRow w.heap.size 5 1 (.slice (some ⟨g, 0, none⟩) l.length c) l.length (u8s l) ∧ Below w.heap.size w w'
theorem u8s_set (l : List Nat) (j c : Nat) : u8s (l.set j c) = (u8s l).set j (.int .u8 (c : Int)) := by simp [u8s, List.map_set]
theorem lay_step {w : World} {B g c q n k : Nat} {zs : List Nat} {x : Int} (h : w.ownsRow B 5 1 (.slice (some ⟨g, 0, none⟩) zs.length c) zs.length (u8s (lay zs q n k))) (hx : x = ((n / 2 ^ (8 * k) % 256 : Nat) : Int)) :
    (w.setCell ⟨g, q + k, none⟩ (.int .u8 x)).ownsRow B 5 1 (.slice (some ⟨g, 0, none⟩) zs.length c) zs.length (u8s (lay zs q n (k + 1))) := by
  have := (h.stored (q + k) (.int .u8 x)).1
  rw [lay, u8s_set, ← hx]
  exact this
theorem shr_cast (n k : Nat) : (n : Int) / 2 ^ (8 * k) % 256 = ((n / 2 ^ (8 * k) % 256 : Nat) : Int) := by rw [Int.natCast_emod, Int.natCast_ediv, Int.natCast_pow]; rfl
theorem row_base {w : World} {B g c n : Nat} {xs : List Value} (h : w.ownsRow B 5 1 (.slice (some ⟨g, 0, none⟩) n c) n xs) : B ≤ g ∧ n ≤ c := by
  rcases h.2 with ⟨h', _⟩ | ⟨g', cap', cur, h', hb, _, hnc, _⟩
  · simp at h'
  · simp only [Value.slice.injEq, Option.some.injEq, Addr.mk.injEq, and_true, true_and] at h'
    obtain ⟨rfl, rfl⟩ := h'
    exact ⟨hb, hnc⟩
set_option maxHeartbeats 1000000 in
theorem put_1 (ad : Addr) (cap : Nat) (zs : List Nat) (q n : Nat) (w : World) (hb : BytesAt w (some ad) zs) (hreach : zs.length ≤ 140737488355328) (h1 : (q : Int) + 1 ≤ zs.length) (hn : n < 256) :
    Calls Tryd.prog 9 #[.slice (some ad) zs.length cap, .int .i64 (q : Int), .int .i64 1, .int .u64 (n : Int)] w (Laid w (lay zs q n 1)) := by
  have hm' := hb.2.1
  have HY := Lib.hid (within_yes (some ad) zs.length cap q 1 w hm' (by omega) (by omega) h1)
  have HCl := Lib.hid (clone_some ad cap zs w hb hreach)
  clear hb
  have hm := hm'; unfold maxLen at hm
  have HM := Lib.hid hm'; clear hm'
  obtain ⟨B, hB⟩ : ∃ B, B = w.heap.size := ⟨_, rfl⟩
  have HBB := Lib.hid hB; clear hB
  go_enter Tryd.func9, Tryd.ntmps9
  go_wp2_with (first | (go_at_call 18; refine HY.out.mono ?_; rintro e w' ⟨rfl, rfl⟩) | (go_at_call 19; refine HCl.out.mono ?_; rintro e w1 ⟨g, c', rfl, hown, hbel⟩; have HO := Lib.hid hown; clear hown; have HB := Lib.hid hbel; clear hbel))
  go_loopw [11, 29] (fun _ i wr => ∃ k : Nat, (k : Int) ≤ 1 ∧ i = .int .i64 k ∧ Hid (wr.ownsRow B 5 1 (.slice (some ⟨g, 0, none⟩) zs.length c') zs.length (u8s (lay zs q n k))) ∧ Hid (Below B w wr)) (fun _ i _ => (1 - (intOf i)).toNat)
  case atStart => exact ⟨0, by omega, rfl, by rw [HBB.out]; exact HO, by rw [HBB.out]; exact HB⟩
  case round =>
    obtain ⟨k, hk, rfl, HOr, HBr⟩ := hrel
    by_cases hlt : (k : Int) < 1
    · have hold := HOr.out.cellAt (q + k) (by omega)
      rw [List.getElem?_eq_getElem (by simp [u8s, lay_length]; omega)] at hold
      have hfz := HOr.out.frozenAt (q + k)
      have HX := Lib.hid (shr_cast n k)
      have HG := Lib.hid (row_base HOr.out).1
      clear hn
      go_wp2
      go_roundw
      case rel => exact ⟨k + 1, by omega, by go_num, Lib.hid (lay_step HOr.out HX.out), Lib.hid (HBr.out.setCell HG.out _)⟩
      case measure => simp [intOf]; omega
    · obtain rfl : k = 1 := by omega
      have HGC := row_base HOr.out
      have HCp := Lib.hid (clip_any (some ⟨g, 0, none⟩) zs.length c' HGC.2 HM.out)
      have HE : Hid (Laid w (lay zs q n 1) (.returned (.tuple #[.slice (some ⟨g, 0, none⟩) zs.length zs.length, .int .i64 0])) wr) := by
        refine Lib.hid ⟨g, c', ?_, ?_, ?_, ?_⟩
        · rw [lay_length]
        · rw [lay_length]; exact HGC.2
        · have := HOr.out; rw [HBB.out] at this; rwa [lay_length]
        · have := HBr.out; rwa [HBB.out] at this
      clear HGC
      go_wp2_with (go_at_call 20; refine (HCp.out _).mono ?_; rintro e w' ⟨rfl, rfl⟩)
      go_ret2
      exact HE.out
set_option maxHeartbeats 1000000 in
theorem put_2 (ad : Addr) (cap : Nat) (zs : List Nat) (q n : Nat) (w : World) (hb : BytesAt w (some ad) zs) (hreach : zs.length ≤ 140737488355328) (h1 : (q : Int) + 2 ≤ zs.length) (hn : n < 65536) :
    Calls Tryd.prog 9 #[.slice (some ad) zs.length cap, .int .i64 (q : Int), .int .i64 2, .int .u64 (n : Int)] w (Laid w (lay zs q n 2)) := by
  have hm' := hb.2.1
  have HY := Lib.hid (within_yes (some ad) zs.length cap q 2 w hm' (by omega) (by omega) h1)
  have HCl := Lib.hid (clone_some ad cap zs w hb hreach)
  clear hb
  have hm := hm'; unfold maxLen at hm
  have HM := Lib.hid hm'; clear hm'
  obtain ⟨B, hB⟩ : ∃ B, B = w.heap.size := ⟨_, rfl⟩
  have HBB := Lib.hid hB; clear hB
  go_enter Tryd.func9, Tryd.ntmps9
  go_wp2_with (first | (go_at_call 18; refine HY.out.mono ?_; rintro e w' ⟨rfl, rfl⟩) | (go_at_call 19; refine HCl.out.mono ?_; rintro e w1 ⟨g, c', rfl, hown, hbel⟩; have HO := Lib.hid hown; clear hown; have HB := Lib.hid hbel; clear hbel))
  go_loopw [11, 29] (fun _ i wr => ∃ k : Nat, (k : Int) ≤ 2 ∧ i = .int .i64 k ∧ Hid (wr.ownsRow B 5 1 (.slice (some ⟨g, 0, none⟩) zs.length c') zs.length (u8s (lay zs q n k))) ∧ Hid (Below B w wr)) (fun _ i _ => (2 - (intOf i)).toNat)
  case atStart => exact ⟨0, by omega, rfl, by rw [HBB.out]; exact HO, by rw [HBB.out]; exact HB⟩
  case round =>
    obtain ⟨k, hk, rfl, HOr, HBr⟩ := hrel
    by_cases hlt : (k : Int) < 2
    · have hold := HOr.out.cellAt (q + k) (by omega)
      rw [List.getElem?_eq_getElem (by simp [u8s, lay_length]; omega)] at hold
      have hfz := HOr.out.frozenAt (q + k)
      have HX := Lib.hid (shr_cast n k)
      have HG := Lib.hid (row_base HOr.out).1
      clear hn
      go_wp2
      go_roundw
      case rel => exact ⟨k + 1, by omega, by go_num, Lib.hid (lay_step HOr.out HX.out), Lib.hid (HBr.out.setCell HG.out _)⟩
      case measure => simp [intOf]; omega
    · obtain rfl : k = 2 := by omega
      have HGC := row_base HOr.out
      have HCp := Lib.hid (clip_any (some ⟨g, 0, none⟩) zs.length c' HGC.2 HM.out)
      have HE : Hid (Laid w (lay zs q n 2) (.returned (.tuple #[.slice (some ⟨g, 0, none⟩) zs.length zs.length, .int .i64 0])) wr) := by
        refine Lib.hid ⟨g, c', ?_, ?_, ?_, ?_⟩
        · rw [lay_length]
        · rw [lay_length]; exact HGC.2
        · have := HOr.out; rw [HBB.out] at this; rwa [lay_length]
        · have := HBr.out; rwa [HBB.out] at this
      clear HGC
      go_wp2_with (go_at_call 20; refine (HCp.out _).mono ?_; rintro e w' ⟨rfl, rfl⟩)
      go_ret2
      exact HE.out
set_option maxHeartbeats 1000000 in
theorem put_4 (ad : Addr) (cap : Nat) (zs : List Nat) (q n : Nat) (w : World) (hb : BytesAt w (some ad) zs) (hreach : zs.length ≤ 140737488355328) (h1 : (q : Int) + 4 ≤ zs.length) (hn : n < 4294967296) :
    Calls Tryd.prog 9 #[.slice (some ad) zs.length cap, .int .i64 (q : Int), .int .i64 4, .int .u64 (n : Int)] w (Laid w (lay zs q n 4)) := by
  have hm' := hb.2.1
  have HY := Lib.hid (within_yes (some ad) zs.length cap q 4 w hm' (by omega) (by omega) h1)
  have HCl := Lib.hid (clone_some ad cap zs w hb hreach)
  clear hb
  have hm := hm'; unfold maxLen at hm
  have HM := Lib.hid hm'; clear hm'
  obtain ⟨B, hB⟩ : ∃ B, B = w.heap.size := ⟨_, rfl⟩
  have HBB := Lib.hid hB; clear hB
  go_enter Tryd.func9, Tryd.ntmps9
  go_wp2_with (first | (go_at_call 18; refine HY.out.mono ?_; rintro e w' ⟨rfl, rfl⟩) | (go_at_call 19; refine HCl.out.mono ?_; rintro e w1 ⟨g, c', rfl, hown, hbel⟩; have HO := Lib.hid hown; clear hown; have HB := Lib.hid hbel; clear hbel))
  go_loopw [11, 29] (fun _ i wr => ∃ k : Nat, (k : Int) ≤ 4 ∧ i = .int .i64 k ∧ Hid (wr.ownsRow B 5 1 (.slice (some ⟨g, 0, none⟩) zs.length c') zs.length (u8s (lay zs q n k))) ∧ Hid (Below B w wr)) (fun _ i _ => (4 - (intOf i)).toNat)
  case atStart => exact ⟨0, by omega, rfl, by rw [HBB.out]; exact HO, by rw [HBB.out]; exact HB⟩
  case round =>
    obtain ⟨k, hk, rfl, HOr, HBr⟩ := hrel
    by_cases hlt : (k : Int) < 4
    · have hold := HOr.out.cellAt (q + k) (by omega)
      rw [List.getElem?_eq_getElem (by simp [u8s, lay_length]; omega)] at hold
      have hfz := HOr.out.frozenAt (q + k)
      have HX := Lib.hid (shr_cast n k)
      have HG := Lib.hid (row_base HOr.out).1
      clear hn
      go_wp2
      go_roundw
      case rel => exact ⟨k + 1, by omega, by go_num, Lib.hid (lay_step HOr.out HX.out), Lib.hid (HBr.out.setCell HG.out _)⟩
      case measure => simp [intOf]; omega
    · obtain rfl : k = 4 := by omega
      have HGC := row_base HOr.out
      have HCp := Lib.hid (clip_any (some ⟨g, 0, none⟩) zs.length c' HGC.2 HM.out)
      have HE : Hid (Laid w (lay zs q n 4) (.returned (.tuple #[.slice (some ⟨g, 0, none⟩) zs.length zs.length, .int .i64 0])) wr) := by
        refine Lib.hid ⟨g, c', ?_, ?_, ?_, ?_⟩
        · rw [lay_length]
        · rw [lay_length]; exact HGC.2
        · have := HOr.out; rw [HBB.out] at this; rwa [lay_length]
        · have := HBr.out; rwa [HBB.out] at this
      clear HGC
      go_wp2_with (go_at_call 20; refine (HCp.out _).mono ?_; rintro e w' ⟨rfl, rfl⟩)
      go_ret2
      exact HE.out
set_option maxHeartbeats 1000000 in
theorem put_8 (ad : Addr) (cap : Nat) (zs : List Nat) (q n : Nat) (w : World) (hb : BytesAt w (some ad) zs) (hreach : zs.length ≤ 140737488355328) (h1 : (q : Int) + 8 ≤ zs.length) (_hn : n < 18446744073709551616) :
    Calls Tryd.prog 9 #[.slice (some ad) zs.length cap, .int .i64 (q : Int), .int .i64 8, .int .u64 (n : Int)] w (Laid w (lay zs q n 8)) := by
  have hm' := hb.2.1
  have HY := Lib.hid (within_yes (some ad) zs.length cap q 8 w hm' (by omega) (by omega) h1)
  have HCl := Lib.hid (clone_some ad cap zs w hb hreach)
  clear hb
  have hm := hm'; unfold maxLen at hm
  have HM := Lib.hid hm'; clear hm'
  obtain ⟨B, hB⟩ : ∃ B, B = w.heap.size := ⟨_, rfl⟩
  have HBB := Lib.hid hB; clear hB
  go_enter Tryd.func9, Tryd.ntmps9
  go_wp2_with (first | (go_at_call 18; refine HY.out.mono ?_; rintro e w' ⟨rfl, rfl⟩) | (go_at_call 19; refine HCl.out.mono ?_; rintro e w1 ⟨g, c', rfl, hown, hbel⟩; have HO := Lib.hid hown; clear hown; have HB := Lib.hid hbel; clear hbel))
  go_loopw [11, 29] (fun _ i wr => ∃ k : Nat, (k : Int) ≤ 8 ∧ i = .int .i64 k ∧ Hid (wr.ownsRow B 5 1 (.slice (some ⟨g, 0, none⟩) zs.length c') zs.length (u8s (lay zs q n k))) ∧ Hid (Below B w wr)) (fun _ i _ => (8 - (intOf i)).toNat)
  case atStart => exact ⟨0, by omega, rfl, by rw [HBB.out]; exact HO, by rw [HBB.out]; exact HB⟩
  case round =>
    obtain ⟨k, hk, rfl, HOr, HBr⟩ := hrel
    by_cases hlt : (k : Int) < 8
    · have hold := HOr.out.cellAt (q + k) (by omega)
      rw [List.getElem?_eq_getElem (by simp [u8s, lay_length]; omega)] at hold
      have hfz := HOr.out.frozenAt (q + k)
      have HX := Lib.hid (shr_cast n k)
      have HG := Lib.hid (row_base HOr.out).1
      clear _hn
      go_wp2
      go_roundw
      case rel => exact ⟨k + 1, by omega, by go_num, Lib.hid (lay_step HOr.out HX.out), Lib.hid (HBr.out.setCell HG.out _)⟩
      case measure => simp [intOf]; omega
    · obtain rfl : k = 8 := by omega
      have HGC := row_base HOr.out
      have HCp := Lib.hid (clip_any (some ⟨g, 0, none⟩) zs.length c' HGC.2 HM.out)
      have HE : Hid (Laid w (lay zs q n 8) (.returned (.tuple #[.slice (some ⟨g, 0, none⟩) zs.length zs.length, .int .i64 0])) wr) := by
        refine Lib.hid ⟨g, c', ?_, ?_, ?_, ?_⟩
        · rw [lay_length]
        · rw [lay_length]; exact HGC.2
        · have := HOr.out; rw [HBB.out] at this; rwa [lay_length]
        · have := HBr.out; rwa [HBB.out] at this
      clear HGC
      go_wp2_with (go_at_call 20; refine (HCp.out _).mono ?_; rintro e w' ⟨rfl, rfl⟩)
      go_ret2
      exact HE.out
end Go.Proofs.YtflepcoiidaekaaDoor
