/- Whether a page may have been read; a good page's head: contracts. -/
import Derived.Test.YtmojfhleelhghaaDoorPagCheckA
namespace Go.Proofs.YtmojfhleelhghaaDoor
open Go.ChangeShapes Go.WideShapes Go.ChangeAt Go.RowKit

set_option maxHeartbeats 1000000 in
theorem head_good {a : Option Addr} {cap : Nat} {zs : List Nat} {w : World} (hb : BytesAt w a zs) (hg : Good zs) : Calls Tryd.prog 26 #[.slice a zs.length cap] w fun e w' => e = .returned (.tuple #[.int .i64 ((hdOf zs).kind : Int), .int .u64 ((hdOf zs).lsn : Int), .int .i64 ((hdOf zs).link : Int), .int .i64 ((hdOf zs).extra : Int), .int .i64 0]) ∧ Below w.heap.size w w' := by
  have HO := Lib.hid (open_good (cap := cap) hb hg)
  have HONE := Lib.hid (hd_one (hdOf zs))
  obtain ⟨b0, b1, b2, b3, b4, b5, b6, b7⟩ := hdOf_fits hb.1 (by have := hg.1; omega)
  clear hb hg
  go_enter Tryd.func26, Tryd.ntmps26
  go_wp2_with (first | (go_at_call 37; refine HO.out.mono ?_; rintro e w' ⟨rfl, hbel⟩; have HB := Lib.hid hbel; clear hbel) | (refine wpList_store_row rfl 58 (.tmp 7) _ rfl w'.heap.size (hdOf zs).cells rfl rfl 58 _ (cells_new w' 58 head0) (size58 _ rfl) rfl HONE.out ?_; have HH1 : Hid (Cells ((w'.alloc (.cells #[.int .u32 0, .int .u32 0, .int .u32 0, .int .u64 0, .int .u8 0, .int .u8 0, .int .i64 0, .int .i64 0] 58)).setRow w'.heap.size (hdOf zs).cells) w'.heap.size 58 (hdOf zs).cells) := Lib.hid (setRow_heap _ _ _ (hdOf zs).cells _ _ (cells_new w' 58 head0)); have HB1 : Hid (Below w.heap.size w ((w'.alloc (.cells #[.int .u32 0, .int .u32 0, .int .u32 0, .int .u64 0, .int .u8 0, .int .u8 0, .int .i64 0, .int .i64 0] 58)).setRow w'.heap.size (hdOf zs).cells)) := Lib.hid (below_head HB.out HB.out.size (hdOf zs).cells); generalize (w'.alloc (.cells #[.int .u32 0, .int .u32 0, .int .u32 0, .int .u64 0, .int .u8 0, .int .u8 0, .int .i64 0, .int .i64 0] 58)).setRow w'.heap.size (hdOf zs).cells = V at HH1 HB1 ⊢))
  have c4 : V.cell? ⟨w'.heap.size, 4, none⟩ = some (.int .u8 ((hdOf zs).kind : Int)) := (cell_of_row V w'.heap.size 4 _ _ _ HH1.out).trans rfl
  have c3 : V.cell? ⟨w'.heap.size, 3, none⟩ = some (.int .u64 ((hdOf zs).lsn : Int)) := (cell_of_row V w'.heap.size 3 _ _ _ HH1.out).trans rfl
  have c1 : V.cell? ⟨w'.heap.size, 1, none⟩ = some (.int .u32 ((hdOf zs).link : Int)) := (cell_of_row V w'.heap.size 1 _ _ _ HH1.out).trans rfl
  have c2 : V.cell? ⟨w'.heap.size, 2, none⟩ = some (.int .u32 ((hdOf zs).extra : Int)) := (cell_of_row V w'.heap.size 2 _ _ _ HH1.out).trans rfl
  go_wp2
  go_quiet (fail)
  go_wp2
  exact bodyPost_ret (v := .tuple #[.int .i64 ((hdOf zs).kind : Int), .int .u64 ((hdOf zs).lsn : Int), .int .i64 ((hdOf zs).link : Int), .int .i64 ((hdOf zs).extra : Int), .int .i64 0]) (by simp [results, Tryd.results26, go_sem]) rfl ⟨rfl, below_drewN HB1.out nq⟩

theorem bytes_sub {w : World} {g off : Nat} {zs : List Nat} (h : BytesAt w (some ⟨g, off, none⟩) zs) (k : Nat) : BytesAt w (some ⟨g, off + k, none⟩) (zs.drop k) :=
  ⟨fun c hc => h.1 c (List.mem_of_mem_drop hc), Nat.le_trans (by simp) h.2.1, fun j hj => by
    have hj' : k + j < zs.length := by simp at hj; omega
    obtain ⟨b, o, e, hc⟩ := h.2.2 (k + j) hj'
    cases e
    refine ⟨g, off + k, rfl, ?_⟩
    rw [List.getElem_drop, ← hc, Nat.add_assoc]⟩
/-- What Check tells. -/
def checkOf (zs : List Nat) (e : Int) : Prop := (zs = noughts ∧ e = 0) ∨ (zs ≠ noughts ∧ ¬ Good zs ∧ e = 4) ∨ (zs ≠ noughts ∧ Good zs ∧ rd zs 0 4 ≠ more 0 (zs.drop 4) ∧ e = 8) ∨ (zs ≠ noughts ∧ Good zs ∧ rd zs 0 4 = more 0 (zs.drop 4) ∧ e = 0)
set_option maxHeartbeats 2000000 in
theorem check_any {g off cap : Nat} {zs : List Nat} {w : World} (hb : BytesAt w (some ⟨g, off, none⟩) zs) (hl : zs.length = 512) (hcap : 512 ≤ cap) (hT : TabAt w) :
    Calls Tryd.prog 15 #[.slice (some ⟨g, off, none⟩) 512 cap] w fun e w' => ∃ c, e = .returned (.int .i64 c) ∧ checkOf zs c ∧ Below w.heap.size w w' := by
  have harr : ∀ w, (Instr.arrayAt 65 (.slice (some ⟨g, off, none⟩) 512 cap)).run Tryd.prog w = .ok (.pointer (some ⟨g, off, none⟩)) w := by
    intro w
    simp only [Instr.arrayAt, Sem.run_bind, run_underlying Tryd.underlying65, Result.andThen_ok]
    rfl
  have HLD := Lib.hid (load_bytes hb hl)
  have heq : ∀ w, (Op.equalIn 10000 65 (.agg (u8c zs)) (.agg Noughts)).run Tryd.prog w = .ok (decide (zs = noughts)) w := eql_page zs noughts hl List.length_replicate
  have HL := Lib.hid hl
  have HB0 := Lib.hid hb
  have HT := Lib.hid hT
  by_cases h0 : zs = noughts
  · have hd : decide (zs = noughts) = true := decide_eq_true h0
    have HE : Hid (checkOf zs 0) := Lib.hid (.inl ⟨h0, rfl⟩)
    rw [hd] at heq
    clear hd h0 hb hl hT
    go_enter Tryd.func15, Tryd.ntmps15
    go_wp2_with (first | (refine wpList_load_arr rfl 65 (.tmp 10) rfl ⟨g, off, none⟩ rfl (u8c zs) HLD.out ?_) | (refine wpList_build_arr rfl 65 rfl Noughts built65 ?_))
    go_ret
    exact ⟨0, rfl, HE.out, Below.refl _ _⟩
  · have hd : decide (zs = noughts) = false := decide_eq_false h0
    rw [hd] at heq
    have H0 := Lib.hid h0
    by_cases hg : Good zs
    · have HO : Hid (Calls Tryd.prog 37 #[.slice (some ⟨g, off, none⟩) 512 cap] w (OpenedGood w zs)) := by
        have := open_good (cap := cap) hb hg
        rw [hl] at this
        exact Lib.hid this
      have HONE := Lib.hid (hd_one (hdOf zs))
      have HG := Lib.hid hg
      have hz4 : (zs.drop 4).length = 508 := by rw [List.length_drop, hl]
      have HOF : Hid (∀ V, Below w.heap.size w V → ∀ c n, Calls Tryd.prog 42 #[.slice (some ⟨g, off + 4, none⟩) 508 c] (V.drewN n) fun e w' => e = .returned (.int .u32 ((more 0 (zs.drop 4) : Nat) : Int)) ∧ w' = V.drewN n) := Lib.hid (fun V hV c n => by
        have h1 := bytes_sub (bytes_below hb (below_drewN hV n)) 4
        have := of_any (some ⟨g, off + 4, none⟩) c (zs.drop 4) (V.drewN n) h1 (tab_below HT.out (below_drewN hV n))
        rw [hz4] at this
        exact this.mono fun _ _ h => ⟨h.1, h.2.symm⟩)
      obtain ⟨S, hS⟩ : ∃ S, S = more 0 (zs.drop 4) := ⟨_, rfl⟩
      rw [← hS] at HOF
      have HSS := Lib.hid hS
      clear hd h0 hb hl hT hg hS hz4
      by_cases hs : (hdOf zs).sum = S
      · have hs1 : (((hdOf zs).sum : Int) != (S : Int)) = false := by rw [hs]; simp
        have HE : Hid (checkOf zs 0) := Lib.hid (.inr (.inr (.inr ⟨H0.out, HG.out, by rw [← HSS.out, ← hs]; rfl, rfl⟩)))
        have HSQ := Lib.hid hs; clear hs
        go_enter Tryd.func15, Tryd.ntmps15
        go_wp2_with (first | (refine wpList_load_arr rfl 65 (.tmp 10) rfl ⟨g, off, none⟩ rfl (u8c zs) HLD.out ?_) | (refine wpList_build_arr rfl 65 rfl Noughts built65 ?_) | (go_at_call 37; refine HO.out.mono ?_; rintro e w' ⟨rfl, hbel⟩; have HB := Lib.hid hbel; clear hbel) | (refine wpList_store_row rfl 58 (.tmp 3) _ rfl w'.heap.size (hdOf zs).cells rfl rfl 58 _ (cells_new w' 58 head0) (size58 _ rfl) rfl HONE.out ?_; have HH1 : Hid (Cells ((w'.alloc (.cells #[.int .u32 0, .int .u32 0, .int .u32 0, .int .u64 0, .int .u8 0, .int .u8 0, .int .i64 0, .int .i64 0] 58)).setRow w'.heap.size (hdOf zs).cells) w'.heap.size 58 (hdOf zs).cells) := Lib.hid (setRow_heap _ _ _ (hdOf zs).cells _ _ (cells_new w' 58 head0)); have HB1 : Hid (Below w.heap.size w ((w'.alloc (.cells #[.int .u32 0, .int .u32 0, .int .u32 0, .int .u64 0, .int .u8 0, .int .u8 0, .int .i64 0, .int .i64 0] 58)).setRow w'.heap.size (hdOf zs).cells)) := Lib.hid (below_head HB.out HB.out.size (hdOf zs).cells); generalize (w'.alloc (.cells #[.int .u32 0, .int .u32 0, .int .u32 0, .int .u64 0, .int .u8 0, .int .u8 0, .int .i64 0, .int .i64 0] 58)).setRow w'.heap.size (hdOf zs).cells = V at HH1 HB1 ⊢; have c0 : V.cell? ⟨w'.heap.size, 0, none⟩ = some (.int .u32 ((hdOf zs).sum : Int)) := (cell_of_row V w'.heap.size 0 _ _ _ HH1.out).trans rfl))
        go_quiet ((go_at_call 42; exact Calls.quiet_of_same (HOF.out _ HB1.out _ _)))
        go_wp2
        go_ret
        exact ⟨0, rfl, HE.out, below_drewN HB1.out nq⟩
      · have hs1 : (((hdOf zs).sum : Int) != (S : Int)) = true := by rw [bne_iff_ne]; omega
        have HE : Hid (checkOf zs 8) := Lib.hid (.inr (.inr (.inl ⟨H0.out, HG.out, by rw [← HSS.out]; exact hs, rfl⟩)))
        have HSQ := Lib.hid hs; clear hs
        go_enter Tryd.func15, Tryd.ntmps15
        go_wp2_with (first | (refine wpList_load_arr rfl 65 (.tmp 10) rfl ⟨g, off, none⟩ rfl (u8c zs) HLD.out ?_) | (refine wpList_build_arr rfl 65 rfl Noughts built65 ?_) | (go_at_call 37; refine HO.out.mono ?_; rintro e w' ⟨rfl, hbel⟩; have HB := Lib.hid hbel; clear hbel) | (refine wpList_store_row rfl 58 (.tmp 3) _ rfl w'.heap.size (hdOf zs).cells rfl rfl 58 _ (cells_new w' 58 head0) (size58 _ rfl) rfl HONE.out ?_; have HH1 : Hid (Cells ((w'.alloc (.cells #[.int .u32 0, .int .u32 0, .int .u32 0, .int .u64 0, .int .u8 0, .int .u8 0, .int .i64 0, .int .i64 0] 58)).setRow w'.heap.size (hdOf zs).cells) w'.heap.size 58 (hdOf zs).cells) := Lib.hid (setRow_heap _ _ _ (hdOf zs).cells _ _ (cells_new w' 58 head0)); have HB1 : Hid (Below w.heap.size w ((w'.alloc (.cells #[.int .u32 0, .int .u32 0, .int .u32 0, .int .u64 0, .int .u8 0, .int .u8 0, .int .i64 0, .int .i64 0] 58)).setRow w'.heap.size (hdOf zs).cells)) := Lib.hid (below_head HB.out HB.out.size (hdOf zs).cells); generalize (w'.alloc (.cells #[.int .u32 0, .int .u32 0, .int .u32 0, .int .u64 0, .int .u8 0, .int .u8 0, .int .i64 0, .int .i64 0] 58)).setRow w'.heap.size (hdOf zs).cells = V at HH1 HB1 ⊢; have c0 : V.cell? ⟨w'.heap.size, 0, none⟩ = some (.int .u32 ((hdOf zs).sum : Int)) := (cell_of_row V w'.heap.size 0 _ _ _ HH1.out).trans rfl))
        go_quiet ((go_at_call 42; exact Calls.quiet_of_same (HOF.out _ HB1.out _ _)))
        go_wp2
        go_ret
        exact ⟨8, rfl, HE.out, below_drewN HB1.out nq⟩
    · have HO : Hid (Calls Tryd.prog 37 #[.slice (some ⟨g, off, none⟩) 512 cap] w (OpenedBad w)) := by
        have := open_bad (cap := cap) hb hg
        rw [hl] at this
        exact Lib.hid this
      have HE : Hid (checkOf zs 4) := Lib.hid (.inr (.inl ⟨h0, hg, rfl⟩))
      clear hd h0 hb hl hT hg
      go_enter Tryd.func15, Tryd.ntmps15
      go_wp2_with (first | (refine wpList_load_arr rfl 65 (.tmp 10) rfl ⟨g, off, none⟩ rfl (u8c zs) HLD.out ?_) | (refine wpList_build_arr rfl 65 rfl Noughts built65 ?_) | (go_at_call 37; refine HO.out.mono ?_; rintro e w' ⟨cs, rfl, hbel, h8, h1⟩; have HB := Lib.hid hbel; have HS := Lib.hid (size58 cs h8); have HS0 : Hid (head0.size = cs.size) := Lib.hid h8.symm; have H1 := Lib.hid h1; clear hbel h8 h1) | (refine wpList_store_row rfl 58 (.tmp 3) _ rfl w'.heap.size cs rfl rfl 58 _ (cells_new w' 58 head0) HS.out HS0.out H1.out ?_))
      go_ret
      exact ⟨4, rfl, HE.out, below_head HB.out HB.out.size _⟩
end Go.Proofs.YtmojfhleelhghaaDoor
