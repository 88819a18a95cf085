/- Two lists of byte slices that say the same: a contract. -/
import Derived.Test.YtaadeoobmclpcaaPagCells
import Derived.Laws.BytesArg
namespace Go.Proofs.Ytaadeoobmclpcaa
open Go.ChangeShapes Go.WideShapes Go.ChangeAt Go.RowKit

/-- The text of these bytes. -/
def str (zs : List Nat) : ByteArray := ⟨(zs.map UInt8.ofNat).toArray⟩
theorem conv_bytes {w : World} {ad : Addr} {zs : List Nat} (hb : BytesAt w (some ad) zs) (cap : Nat) :
    (convert 24 9 (.slice (some ad) zs.length cap)).run Try.prog w = .ok (.string (str zs)) w := by
  have := run_convert_bytes_back (P := Try.prog) w 24 9 5 ad cap (zs.map UInt8.ofNat) Try.underlying24 Try.underlying5 Try.underlying9 (fun j hj => by
    have hj' : j < zs.length := by simpa using hj
    have hcell := bytes_cells hb j (.int .u8 (zs[j] : Int)) (by simp [u8s, hj'])
    rw [hcell]
    have := hb.1 _ (List.getElem_mem hj')
    simp
    omega)
  rw [List.length_map] at this
  exact this
theorem rowsPart_get {w : World} {G c : Nat} {xs : List (Nat × List Nat)} (h : RowsPart w G c xs) {k : Nat} (hk : k < xs.length) :
    w.cell? ⟨G, k, none⟩ = some (Value.slice (some ⟨xs[k].1, 0, none⟩) xs[k].2.length xs[k].2.length) ∧ Cells w xs[k].1 5 (u8c xs[k].2) := by
  refine ⟨?_, (h.2 _ (List.getElem_mem hk)).1⟩
  rw [cell_of_row w G k _ _ _ h.1, List.getElem?_toArray, List.getElem?_append_left (by simp [rowsL]; exact hk)]
  simp [rowsL, hk]
/-- What a list of bytes may be. -/
def Short (ls : List (List Nat)) : Prop := ∀ l ∈ ls, (∀ c ∈ l, c < 256) ∧ l.length ≤ 512
set_option maxHeartbeats 1000000 in
theorem lists_same {A B c : Nat} {xs ys : List (Nat × List Nat)} {w : World} (hA : RowsPart w A c xs) (hB : RowsPart w B c ys) (hxc : xs.length = c) (hyc : ys.length = c) (heq : xs.map (·.2) = ys.map (·.2)) (hs : Short (xs.map (·.2))) (hcm : c ≤ 1000) :
    Calls Try.prog 13 #[.slice (some ⟨A, 0, none⟩) c c, .slice (some ⟨B, 0, none⟩) c c] w fun e w' => e = .returned (.bool true) ∧ Below w.heap.size w w' := by
  have HK : Hid (∀ V k, Below w.heap.size w V → k < c → ∃ g1 g2 l, V.cell? ⟨A, k, none⟩ = some (Value.slice (some ⟨g1, 0, none⟩) l.length l.length) ∧ V.cell? ⟨B, k, none⟩ = some (Value.slice (some ⟨g2, 0, none⟩) l.length l.length) ∧ BytesAt V (some ⟨g1, 0, none⟩) l ∧ BytesAt V (some ⟨g2, 0, none⟩) l) := by
    refine Lib.hid (fun V k hV hk => ?_)
    obtain ⟨a1, a2⟩ := rowsPart_get (rowsPart_below hA hV) (k := k) (by omega)
    obtain ⟨b1, b2⟩ := rowsPart_get (rowsPart_below hB hV) (k := k) (by omega)
    have e : xs[k].2 = ys[k].2 := by
      have h1 : (xs.map (·.2))[k]? = some xs[k].2 := by rw [List.getElem?_map, List.getElem?_eq_getElem (by omega)]; rfl
      have h2 : (ys.map (·.2))[k]? = some ys[k].2 := by rw [List.getElem?_map, List.getElem?_eq_getElem (by omega)]; rfl
      rw [heq, h2] at h1
      exact (Option.some.inj h1).symm
    have hsh := hs xs[k].2 (List.mem_map.2 ⟨xs[k], List.getElem_mem _, rfl⟩)
    have hml : xs[k].2.length ≤ maxLen := by have := hsh.2; unfold maxLen; omega
    refine ⟨xs[k].1, ys[k].1, xs[k].2, a1, by rw [e]; exact b1, cells_bytes a2 hsh.1 hml, cells_bytes (by rw [e]; exact b2) hsh.1 hml⟩
  clear hA hB hxc hyc heq hs
  go_enter Try.func13, Try.ntmps13
  go_wp2
  go_loopw [5] (fun i wr => ∃ k : Nat, k ≤ c ∧ i = .int .i64 k ∧ Hid (Below w.heap.size w wr)) (fun i _ => (c - (intOf i)).toNat)
  case atStart => exact ⟨0, by omega, rfl, Lib.hid (Below.refl _ _)⟩
  case round =>
    obtain ⟨k, hk, rfl, HBr⟩ := hrel
    by_cases hlt : k < c
    · obtain ⟨g1, g2, l, hcA, hcB, b1, b2⟩ := HK.out wr k HBr.out hlt
      have hn : ∀ n, Below wr.heap.size wr (wr.drewN n) := fun n => below_drewN (Below.refl _ _) n
      have k1 : ∀ n, (convert 24 9 (.slice (some ⟨g1, 0, none⟩) l.length l.length)).run Try.prog (wr.drewN n) = .ok (.string (str l)) (wr.drewN n) := fun n => conv_bytes (bytes_below b1 (hn n)) l.length
      have k2 : ∀ n, (convert 24 9 (.slice (some ⟨g2, 0, none⟩) l.length l.length)).run Try.prog (wr.drewN n) = .ok (.string (str l)) (wr.drewN n) := fun n => conv_bytes (bytes_below b2 (hn n)) l.length
      obtain ⟨m, hm⟩ : ∃ m, m = l.length := ⟨_, rfl⟩
      obtain ⟨s, hs⟩ : ∃ s, s = str l := ⟨_, rfl⟩
      rw [← hm] at hcA hcB k1 k2
      rw [← hs] at k1 k2
      clear hm hs b1 b2 hn
      go_wp2
      go_quiet (fail)
      have HB5 : Hid (Below w.heap.size w (wr.drewN nq)) := Lib.hid (below_drewN HBr.out nq)
      go_wp2
      go_roundw
      case rel => exact ⟨k + 1, by omega, by go_num, HB5⟩
      case measure => simp [intOf]; omega
    · obtain rfl : k = c := by omega
      go_wp2
      go_ret
      exact ⟨rfl, HBr.out⟩
end Go.Proofs.Ytaadeoobmclpcaa
