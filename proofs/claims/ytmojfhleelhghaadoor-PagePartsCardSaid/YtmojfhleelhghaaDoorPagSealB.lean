/- A good page is sealed: a contract. -/
import Derived.Test.YtmojfhleelhghaaDoorPagSeal
namespace Go.Proofs.YtmojfhleelhghaaDoor
open Go.ChangeShapes Go.WideShapes Go.ChangeAt Go.RowKit

theorem info5 : (Tryd.prog.info? 5).map (fun i => (i.zero, i.size, i.bytes)) = some (some (.int .u8 0), 1, 1) := by kernel_rfl
def u8s (zs : List Nat) : List Value := zs.map fun z : Nat => Value.int .u8 (z : Int)
theorem u8s_one (zs : List Nat) : ∀ u ∈ u8s zs, u.oneCell' = true := by
  intro u hu
  simp only [u8s, List.mem_map] at hu
  obtain ⟨z, _, rfl⟩ := hu
  rfl
theorem bytes_cells {w : World} {ad : Addr} {zs : List Nat} (hb : BytesAt w (some ad) zs) : ∀ j u, (u8s zs)[j]? = some u → w.cell? (ad.add j) = some u := by
  intro j u hu
  simp only [u8s, List.getElem?_map, Option.map_eq_some_iff] at hu
  obtain ⟨z, hz, rfl⟩ := hu
  obtain ⟨h', rfl⟩ := List.getElem?_eq_some_iff.1 hz
  obtain ⟨b, off, e, hc⟩ := hb.2.2 j h'
  simp only [Option.some.injEq] at e
  subst e
  rw [Addr.add]
  split
  · rename_i h0
    have h0' : j = 0 := by simpa using h0
    subst h0'
    simpa using hc
  · exact hc
theorem own_cells {w : World} {B g n : Nat} {zs : List Nat} (h : w.ownsRow B 5 1 (.slice (some ⟨g, 0, none⟩) n n) n (u8s zs)) : Cells w g 5 (u8c zs) := by
  rcases h.2 with ⟨h', _⟩ | ⟨g', cap', cur, h', _, hg, _, _, hcs, htake⟩
  · simp at h'
  · simp only [Value.slice.injEq, Option.some.injEq, Addr.mk.injEq, and_true, true_and] at h'
    obtain ⟨rfl, rfl⟩ := h'
    rw [List.take_of_length_le (by simp; omega)] at htake
    have e : cur = u8c zs := by
      rw [← Array.toArray_toList (xs := cur), htake]; rfl
    rw [← e]
    exact hg
theorem bytes_drop {w : World} {g : Nat} {zs : List Nat} (h : BytesAt w (some ⟨g, 0, none⟩) zs) (k : Nat) : BytesAt w (some ⟨g, k, none⟩) (zs.drop k) :=
  ⟨fun c hc => h.1 c (List.mem_of_mem_drop hc), Nat.le_trans (by simp) h.2.1, fun j hj => by
    have hj' : k + j < zs.length := by simp at hj; omega
    obtain ⟨b, off, e, hc⟩ := h.2.2 (k + j) hj'
    cases e
    refine ⟨g, k, rfl, ?_⟩
    rw [List.getElem_drop, ← hc, Nat.zero_add]⟩

/-- A page with another LSN and the right sum. -/
def sealed (p : List Nat) (x : Nat) : List Nat :=
  wr (wr p { hdOf p with lsn := x }) { hdOf p with lsn := x, sum := more 0 ((wr p { hdOf p with lsn := x }).drop 4) }
theorem hdOf_fits {p : List Nat} (hz : ∀ c ∈ p, c < 256) (hl : 26 ≤ p.length) : (hdOf p).Fits :=
  ⟨rd4 hz 0 (by omega), rd4 hz 18 (by omega), rd4 hz 22 (by omega), rd8 hz 4 (by omega), by
    show p.getD 12 0 < 256
    rw [List.getD_eq_getElem?_getD, List.getElem?_eq_getElem (by omega)]; exact hz _ (List.getElem_mem _), by
    show p.getD 13 0 < 256
    rw [List.getD_eq_getElem?_getD, List.getElem?_eq_getElem (by omega)]; exact hz _ (List.getElem_mem _), rd2 hz 14 (by omega), rd2 hz 16 (by omega)⟩
theorem set_bytes {p : List Nat} (hz : ∀ c ∈ p, c < 256) (j c : Nat) (hc : c < 256) : ∀ d ∈ p.set j c, d < 256 := fun d hd => by
  rcases List.mem_or_eq_of_mem_set hd with h | h
  · exact hz d h
  · rw [h]; exact hc
theorem wr_bytes {p : List Nat} (hz : ∀ c ∈ p, c < 256) {h : Hd} (hF : h.Fits) : ∀ c ∈ wr p h, c < 256 :=
  lay_bytes _ _ (lay_bytes _ _ (lay_bytes _ _ (lay_bytes _ _ (set_bytes (set_bytes (lay_bytes _ _ (lay_bytes _ _ hz _) _) _ _ hF.2.2.2.2.1) _ _ hF.2.2.2.2.2.1) _) _) _) _
/-- What an answer that is a page says: new memory. -/
def PageOut (w : World) (l : List Nat) (e : Ending) (w' : World) : Prop :=
  ∃ g, e = .returned (.tuple #[.slice (some ⟨g, 0, none⟩) 512 512, .int .i64 0]) ∧ Cells w' g 5 (u8c l) ∧ w.heap.size ≤ g ∧ Below w.heap.size w w'

theorem cells_grown {w w' : World} {g : Nat} {row : Option Nat} {t : TypeId} {cs : Array Value} (h : Cells w g t cs) (hw : w.grownBy w' row) (hne : some g ≠ row) : Cells w' g t cs := by
  unfold Cells
  rw [hw.block g (Array.getElem?_eq_some_iff.1 h).1 hne]
  exact h

set_option maxHeartbeats 2000000 in
theorem seal_good {ad : Addr} {cap : Nat} {zs : List Nat} (x : Nat) (hx : x < 18446744073709551616) {w : World} (hb : BytesAt w (some ad) zs) (hg : Good zs) (hT : TabAt w) :
    Calls Tryd.prog 12 #[.slice (some ad) 512 cap, .int .u64 (x : Int)] w (PageOut w (sealed zs x)) := by
  obtain ⟨i0, hi, hz0, hz1, hz2⟩ := info_parts info5
  have hl : zs.length = 512 := hg.1
  have HO : Hid (Calls Tryd.prog 37 #[.slice (some ad) 512 cap] w (OpenedGood w zs)) := by
    have := open_good (cap := cap) hb hg
    rw [hl] at this
    exact Lib.hid this
  have HONE := Lib.hid (hd_one (hdOf zs))
  have HL := Lib.hid hl; clear hl
  have HF := Lib.hid (hdOf_fits hb.1 (by have := HL.out; omega))
  have HU : Hid ((u8s zs).length = 512 * 1) := Lib.hid (by simp [u8s]; exact HL.out)
  have HBY := Lib.hid hb
  have HT := Lib.hid hT
  have hbt : i0.bytes * 512 ≤ 281474976710656 := by rw [hz2]; decide
  have HBT := Lib.hid hbt
  clear hb hg hT hbt
  go_enter Tryd.func12, Tryd.ntmps12
  go_wp2_with (first | (go_at_call 37; refine HO.out.mono ?_; rintro e w' ⟨rfl, hbel⟩; have HB := Lib.hid hbel; clear hbel) | (refine wpList_store_row rfl 58 (.tmp 6) _ rfl w'.heap.size (hdOf zs).cells rfl rfl 58 _ (cells_new w' 58 head0) (size58 _ rfl) rfl HONE.out ?_; have HH1 := Lib.hid (show Cells _ _ _ _ from setRow_heap _ _ _ (hdOf zs).cells _ _ (cells_new w' 58 head0)); have HB1 := Lib.hid (below_head HB.out HB.out.size (hdOf zs).cells)) | (at_make; refine wpList_make_own _ rfl _ _ 22 rfl _ 5 i0 (.int .u8 0) 1 Tryd.underlying22 hi hz0 hz1 .i64 .i64 512 512 rfl rfl rfl HBT.out (by unfold maxLen; decide) (Nat.le_refl _) ?_; intro w2 ho2 hg2; simp only [size_setRow, World.size_alloc] at ho2; have HO2 := Lib.hid ho2; have HH2 := Lib.hid (cells_grown HH1.out hg2 (by simp)); have HB2 := Lib.hid (HB1.out.grown hg2 HB1.out.size (fun k hk => by cases hk)); clear ho2 hg2) | (at_builtin; refine wpList_append_fits _ rfl (.tmp 16) (.tmp 17) 22 rfl _ 5 i0 1 Tryd.underlying22 hi hz1 _ 0 512 [] rfl HO2.out ad 512 cap (u8s zs) rfl HU.out (bytes_cells (bytes_below HBY.out HB2.out)) (u8s_one _) (by decide) ?_; intro w3 ho3 hg3; simp only [Nat.zero_add, List.nil_append] at ho3; have HC3 := Lib.hid (own_cells ho3); have HH3 := Lib.hid (cells_grown HH2.out hg3 (by simp)); have HB3 := Lib.hid (HB2.out.grown hg3 HB2.out.size (fun k hk => by cases hk; exact Nat.le_succ_of_le HB.out.size)); have hold3 : w3.cell? ⟨w'.heap.size, 3, none⟩ = some (.int .u64 ((hdOf zs).lsn : Int)) := (cell_of_row w3 w'.heap.size 3 _ _ _ HH3.out).trans rfl; have hfz3 := frozen_of_row w3 w'.heap.size 3 _ _ HH3.out; clear ho3 hg3))
  have HC4 : Hid (Cells (w3.setCell ⟨w'.heap.size, 3, none⟩ (.int .u64 (x : Int))) (w'.heap.size + 1) 5 (u8c zs)) := Lib.hid (cells_setOther HC3.out (by omega))
  have HH4 : Hid (Cells (w3.setCell ⟨w'.heap.size, 3, none⟩ (.int .u64 (x : Int))) w'.heap.size 58 ({ hdOf zs with lsn := x } : Hd).cells) := Lib.hid (cells_setCell HH3.out)
  have HB4 : Hid (Below w.heap.size w (w3.setCell ⟨w'.heap.size, 3, none⟩ (.int .u64 (x : Int)))) := Lib.hid (HB3.out.setCell HB.out.size _)
  have hF4 : ({ hdOf zs with lsn := x } : Hd).Fits := ⟨HF.out.1, HF.out.2.1, HF.out.2.2.1, hx, HF.out.2.2.2.2⟩
  have hbz := wr_bytes HBY.out.1 hF4
  have hlz : (wr zs { hdOf zs with lsn := x }).length = 512 := by rw [wr_length]; exact HL.out
  refine (write_any w'.heap.size (w'.heap.size + 1) 512 512 { hdOf zs with lsn := x } zs _ hF4 (by omega) HL.out (by omega) HH4.out HC4.out).mono ?_
  rintro e w5 ⟨rfl, hc5, hw5⟩
  have HH5 := Lib.hid (cells_wrote HH4.out hw5 (by omega))
  have HB5 := Lib.hid (below_wrote HB4.out hw5 (Nat.le_succ_of_le HB.out.size) HB4.out.size)
  have HC5 := Lib.hid hc5
  clear hc5 hw5 hold3 hfz3
  have hby5 := cells_bytes HC5.out hbz (by rw [hlz]; unfold maxLen; decide)
  obtain ⟨q0, hq0⟩ : ∃ q0, q0 = wr zs { hdOf zs with lsn := x } := ⟨_, rfl⟩
  rw [← hq0] at HC5 hby5 hbz hlz
  have hof : Calls Tryd.prog 42 #[.slice (some ⟨w'.heap.size + 1, 4, none⟩) 508 508] w5 fun e w' => e = .returned (.int .u32 ((more 0 (q0.drop 4) : Nat) : Int)) ∧ w5 = w' := by
    have := of_any (some ⟨w'.heap.size + 1, 4, none⟩) 508 (q0.drop 4) w5 (bytes_drop hby5 4) (tab_below HT.out HB5.out)
    rw [List.length_drop, hlz] at this
    exact this
  have HOF := Lib.hid hof
  have hml := more_lt (s := 0) (by decide) (q0.drop 4) (fun c hc => hbz c (List.mem_of_mem_drop hc))
  obtain ⟨S, hS⟩ : ∃ S, S = more 0 (q0.drop 4) := ⟨_, rfl⟩
  rw [← hS] at HOF hml
  have hold5 : w5.cell? ⟨w'.heap.size, 0, none⟩ = some (.int .u32 ((hdOf zs).sum : Int)) := (cell_of_row w5 w'.heap.size 0 _ _ _ HH5.out).trans rfl
  have hfz5 := frozen_of_row w5 w'.heap.size 0 _ _ HH5.out
  have HQ := Lib.hid hq0
  have HSS := Lib.hid hS
  have HLZ := Lib.hid hlz
  clear hof hby5 hq0 hS hlz
  go_wp2_with (go_at_call 42; refine HOF.out.mono ?_; rintro e w' ⟨rfl, rfl⟩)
  have HC6 : Hid (Cells (w5.setCell ⟨w'.heap.size, 0, none⟩ (.int .u32 (S : Int))) (w'.heap.size + 1) 5 (u8c q0)) := Lib.hid (cells_setOther HC5.out (by omega))
  have HH6 : Hid (Cells (w5.setCell ⟨w'.heap.size, 0, none⟩ (.int .u32 (S : Int))) w'.heap.size 58 ({ hdOf zs with lsn := x, sum := S } : Hd).cells) := Lib.hid (cells_setCell HH5.out)
  have HB6 : Hid (Below w.heap.size w (w5.setCell ⟨w'.heap.size, 0, none⟩ (.int .u32 (S : Int)))) := Lib.hid (HB5.out.setCell HB.out.size _)
  have hF6 : ({ hdOf zs with lsn := x, sum := S } : Hd).Fits := ⟨hml, HF.out.2.1, HF.out.2.2.1, hx, HF.out.2.2.2.2⟩
  refine (write_any w'.heap.size (w'.heap.size + 1) 512 512 { hdOf zs with lsn := x, sum := S } q0 _ hF6 (by omega) HLZ.out (by omega) HH6.out HC6.out).mono ?_
  rintro e w7 ⟨rfl, hc7, hw7⟩
  have hB7 := below_wrote HB6.out hw7 (Nat.le_succ_of_le HB.out.size) HB6.out.size
  have hsz := HB.out.size
  have hE : PageOut w (sealed zs x) (.returned (.tuple #[.slice (some ⟨w'.heap.size + 1, 0, none⟩) 512 512, .int .i64 0])) w7 := by
    refine ⟨w'.heap.size + 1, rfl, ?_, Nat.le_succ_of_le hsz, hB7⟩
    rw [sealed, ← HQ.out, ← HSS.out]
    exact hc7
  have HE := Lib.hid hE
  clear hE hc7 hw7 hB7 hsz hold5 hfz5
  go_wp2
  go_ret2
  exact HE.out
end Go.Proofs.YtmojfhleelhghaaDoor
