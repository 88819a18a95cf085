/- P6.1, P6.2: what is done to the log and the mark changes no page, what is done to pages no log and no mark: the walk. -/
import Derived.Test.YtikcanbhdickgaaDskPad
namespace Go.Proofs.Ytikcanbhdickgaa
open Go.ChangeShapes Go.WideShapes Go.ChangeAt Go.RowKit

theorem live_byte {w0 w : World} {S : Dsk} {g : Nat} {A : Nat → Prop} (h : Live w0 w S g A) : (∀ c ∈ S.log, c < 256) ∧ ∀ c ∈ S.mark, c < 256 := by
  obtain ⟨⟨x, rfl, hD, h3, h4⟩, hB, hlt, hf⟩ := h
  exact ⟨hD.log.byte, hD.mark.byte⟩
/-- A device with one write that waits, X at page 1. -/
def OnlyOne (S : Dsk) (X : List Nat) : Prop := S.wait = [(1, X)] ∧ S.pages = List.replicate 3 noughts ∧ S.torn = none ∧ S.dead = false ∧ S.fuse = none ∧ S.room = 400
theorem only_ask {S : Dsk} {X : List Nat} (h : OnlyOne S X) {op : Int} (h2 : 2 ≤ op) (n : Int) (l : List Nat) : OnlyOne (ask S op n l).1 X ∧ (ask S op n l).1.ops ≤ S.ops + 1 := by
  obtain ⟨k1, k2, k3, k4, k5, k6⟩ := h
  have hd : ¬ S.dead = true := by rw [k4]; decide
  have hf : ¬ S.fuse = some 0 := by rw [k5]; simp
  have hm : S.fuse.map (· - 1) = none := by rw [k5]; rfl
  unfold ask doAppend doForce doCut doTrim doMark
  rw [if_neg (by omega), if_neg (by omega)]
  simp only [if_neg hd, if_neg hf]
  repeat (first | exact ⟨⟨k1, k2, k3, k4, k5, k6⟩, Nat.le_succ _⟩ | exact ⟨⟨k1, k2, k3, k4, hm, k6⟩, Nat.le_refl _⟩ | split)
theorem only_now {S : Dsk} {X : List Nat} (h : OnlyOne S X) : pageNow S 1 = X ∧ S.pages.length = 3 ∧ pageNow (leftOf [1] S) 1 = noughts ∧ (leftOf [1] S).pages.length = 3 := by
  obtain ⟨k1, k2, k3, k4, k5, k6⟩ := h
  refine ⟨by unfold pageNow; rw [k1]; simp, by rw [k2, List.length_replicate], ?_, by rw [left_one k1 k3, k2, List.length_replicate]⟩
  show (leftOf [1] S).pages.getD 1 [] = noughts
  rw [left_one k1 k3, k2]
  rfl
def onlyS2 (S : Dsk) : Dsk := { S with fuse := S.fuse.map (· - 1), ops := S.ops + 1, pages := (List.range S.pages.length).map (pageNow S), wait := [] }
def onlyS3 (S : Dsk) (X : List Nat) : Dsk := { onlyS2 S with fuse := (onlyS2 S).fuse.map (· - 1), ops := (onlyS2 S).ops + 1, wait := (onlyS2 S).wait ++ [(2, X)] }
theorem only_end {S : Dsk} {X : List Nat} (h : OnlyOne S X) (hX : X.length = 512) (ho : S.ops < 4398046511000) : ∃ S2 S3, doSync S = (S2, 0) ∧ doWrite S2 2 X = (S3, 0) ∧ S2.ops < 4398046511104 ∧ S3.kept = S.kept ∧ S3.log = S.log ∧ S3.mark = S.mark ∧ S3.dead = false ∧
    (leftOf [1] S3).pages.length = 3 ∧ pageNow (leftOf [1] S3) 1 = X := by
  have hn := (only_now h).1
  obtain ⟨k1, k2, k3, k4, k5, k6⟩ := h
  have hl : S.pages.length = 3 := by rw [k2, List.length_replicate]
  have hlo := left_one (S := onlyS3 S X) (y := (2, X)) rfl k3
  have hp : (onlyS3 S X).pages = (List.range S.pages.length).map (pageNow S) := rfl
  refine ⟨onlyS2 S, onlyS3 S X, doSync_ok k4 (by rw [k5]; simp), doWrite_ok (n := 2) k4 (by simp [onlyS2, hl]) hX (by simp [onlyS2, k5]), by show S.ops + 1 < _; omega, rfl, rfl, rfl, k4, ?_, ?_⟩
  · rw [hlo, hp, hl]; simp
  · show (leftOf [1] (onlyS3 S X)).pages.getD 1 [] = X
    rw [hlo, hp, hl]
    exact hn
theorem made_page : madeCells (Value.cells (.int .u8 0)) (512 * 1) = u8c noughts := by
  apply Array.toList_inj.1
  rw [made_noughts]
  unfold u8s u8c
  rfl
attribute [local irreducible] padz fresh noughts
theorem make_page (V : World) : (Instr.makeSlice 28 (.int .i64 512) (.int .i64 512)).run Try.prog V = .ok (.slice (some ⟨V.heap.size, 0, none⟩) 512 512) (V.alloc (.cells (u8c noughts) 5)) := by
  rw [← made_page]; kernel_rfl
theorem nought_len : noughts.length = 512 := by unfold noughts; rw [List.length_replicate]
theorem nought_byte : ∀ c ∈ noughts, c < 256 := by intro c hc; unfold noughts at hc; rw [List.mem_replicate] at hc; omega
theorem below_alloc' {a w : World} (h : Below a.heap.size a w) (o : Obj) : Below a.heap.size a (w.alloc o) := h.alloc h.size o
set_option maxHeartbeats 2000000 in
set_option maxRecDepth 100000 in
theorem apart_walk {ao ab : Option Addr} {len cap bcap : Nat} {l : List Nat} {w : World} (hlen : len ≤ 3518437208883 ∧ ∀ k, k < len → DeedIn w ao k) (hp : In w ab bcap l) :
    Calls Try.prog 9 #[.slice ao len cap, .slice ab l.length bcap] w fun e w' => e = .returned (.bool true) ∧ Below w.heap.size w w' := by
  obtain ⟨hl1, hd⟩ := hlen
  have HD := Lib.hid hd
  have HP := Lib.hid hp
  have hn47 := hp.2.2
  obtain ⟨n, hn⟩ : ∃ n, n = l.length := ⟨_, rfl⟩
  rw [← hn] at hn47 ⊢
  have HN := Lib.hid hn
  have HMX : Hid (∀ k, k ≤ 140737488355328 → k ≤ maxLen) := Lib.hid (fun k h => by unfold maxLen; omega)
  obtain ⟨r, hr⟩ : ∃ r, r = n + 512 := ⟨_, rfl⟩
  have HRR : Hid (n + 512 = r) := Lib.hid hr.symm
  have hr47 : r ≤ 140737488355328 := by omega
  clear hd hp hn hr
  obtain ⟨i0, R0⟩ := rowU8
  have HR := Lib.hid R0
  clear R0
  have HNEW : Hid (∀ V, Below w.heap.size w V → Calls Try.prog 11 #[.int .i64 3, .int .i64 400] V fun e w' => ∃ g, e = .returned (.tuple #[.pointer (some ⟨g, 0, none⟩), .int .i64 0]) ∧ Live w w' (fresh 3 400) g Nil) := Lib.hid (fun V hV => (new_does 3 400 (by decide) (by decide) (by decide) V).mono (fun e w' hs => by
    obtain ⟨g, he, hl, _⟩ := live_new (A := Nil) hs (fun k hk => hk.elim) hV (fun _ => by unfold fresh; rfl) (fun k hk => hk.elim)
    exact ⟨g, he, hl⟩))
  go_enter Try.func9, Try.ntmps9
  go_wp2_with (first
    | (at_builtin; refine wpList_zeros HR.out Try.underlying3 rfl (.tmp 29) (.const (.int .i64 512)) rfl rfl rfl HS3.out HRR.out (by decide) (by omega) ?_; intro a4 c4 b4 w4 h1 h2 h3; have HN4 := Lib.hid (own_slc HN3.out.1 HN3.out.2 h2 h3); obtain ⟨bx, ox, rfl, rfl, hrun4, hx4, hc4, hcm4⟩ := padz_slc h1 (by rw [← HN.out]; exact HRR.out); have HX4 := Lib.hid hx4; clear h1 h2 h3 hx4)
    | (at_builtin; refine wpList_slc HR.out rfl (.tmp 27) (.tmp 28) 28 rfl rfl rfl (slc_fresh w2 5 1) (bytes_src Try.underlying28 (bytes_below (bytes_below HP.out.1 HL2.out.below) (below_alloc w2 _)) HN.out.symm) (Nat.zero_add n) (HMX.out _ (by omega)) (by omega) ?_; intro a3 c3 b3 w3 h1 h2 h3; have HS3 := Lib.hid h1; have HN3 := Lib.hid (own_slc (below_alloc w2 _) (own_fresh w2) h2 h3); clear h1 h2 h3)
    | (go_at_call 11; refine (HNEW.out _ HB1.out).mono ?_; rintro e w2 ⟨g, rfl, hl⟩; have HL2 := Lib.hid hl; clear hl)
    | (go_at_call 10; refine (awake_any w).mono ?_; rintro e w1 ⟨rfl, hb1⟩; have HB1 := Lib.hid hb1; clear hb1))
  have HXl : Hid ((padz l).length = 512) := Lib.hid (padz_len l)
  have HXB : Hid (∀ c ∈ padz l, c < 256) := Lib.hid (padz_byte HP.out.1.1)
  have HL4 : Hid (Live w w4 (fresh 3 400) g (One bx)) := Lib.hid (live_one HL2.out HN4.out.1 (HN4.out.2 bx rfl) (slc_lt HX4.out bx rfl))
  generalize padz l = X at HX4 HXl HXB
  clear HN4 HN3 HS3 HNEW HB1 HL2 hrun4
  have HY4 := Lib.hid (slc_bytes HX4.out HXB.out)
  clear HX4
  have HWr : Hid (Calls Try.prog 12 #[.pointer (some ⟨g, 0, none⟩), .int .i64 1, .slice (some ⟨bx, ox, none⟩) 512 c4] w4 fun e w' => e = .returned (.int .i64 0) ∧ ∃ S, Live w w' S g (One bx) ∧ OnlyOne S X ∧ S.ops ≤ 1 ∧ w'.heap[bx]? = w4.heap[bx]?) := Lib.hid (by
    have h := live_write (cap := c4) HL4.out 1 HY4.out HXl.out (by unfold fresh; decide)
    rw [show (1 : Int) = ((1 : Nat) : Int) from rfl, doWrite_ok (n := 1) (by unfold fresh; rfl) (by unfold fresh; simp) HXl.out (by unfold fresh; simp)] at h
    exact h.mono (fun e w' hs => ⟨hs.1, _, hs.2.1, ⟨by unfold fresh; rfl, by unfold fresh; rfl, by unfold fresh; rfl, by unfold fresh; rfl, by unfold fresh; rfl, by unfold fresh; rfl⟩, by unfold fresh; exact Nat.le_refl _, hs.2.2 bx rfl⟩))
  refine HWr.out.mono ?_
  rintro e w5 ⟨rfl, hs⟩
  have HS5 := Lib.hid hs
  clear hs HWr HL4
  go_wp2_with fail
  go_loopw [8] (fun i wr => ∃ (k : Nat), k ≤ len ∧ i = .int .i64 k ∧ Hid (∃ S, Live w wr S g (One bx) ∧ OnlyOne S X ∧ S.ops ≤ 1 + k ∧ wr.heap[bx]? = w4.heap[bx]?)) (fun i _ => (len - (intOf i)).toNat)
  case atStart => exact ⟨0, Nat.zero_le _, rfl, HS5⟩
  case round =>
    obtain ⟨k, hk, rfl, HFS⟩ := hrel
    clear HS5
    by_cases hlt : k < len
    · obtain ⟨S, hS⟩ := HFS.out
      obtain ⟨b, off, dd, aa, ca, cs, cc, rfl, hbw, hc1, hc2, hc3, hby, hbl, hdd, haa⟩ := deed_below (HD.out k hlt) hS.1.below
      obtain ⟨cm, hcm⟩ : ∃ cm, cm = cs.length := ⟨_, rfl⟩
      rw [← hcm] at hc3
      have hcmx : cm ≤ 9223372036854775807 := by have := hby.2.1; unfold maxLen at this; omega
      have HAS : Hid (2 ≤ dd → Calls Try.prog 24 #[.pointer (some ⟨g, 0, none⟩), .int .i64 dd, .int .i64 aa, .slice ca cm cc] wr.drew fun e w' => ∃ r : Int, e = .returned (.int .i64 r) ∧ ∃ S', Live w w' S' g (One bx) ∧ OnlyOne S' X ∧ S'.ops ≤ 1 + (k + 1) ∧ w'.heap[bx]? = w4.heap[bx]?) := Lib.hid
        (fun h2 => (ask_any (cap := cc) (live_on hS.1 (Below.refl _ wr).drew) dd aa (bytes_drew hby) hcm.symm (fun h0 ad e => (hbl ad e).imp id (fun e => absurd e h0)) hcmx (by have := hS.2.2.1; omega)).mono (fun e w' hs => ⟨_, hs.1, _, hs.2.1, (only_ask hS.2.1 h2 aa cs).1, by have h1 := (only_ask hS.2.1 h2 aa cs).2; have h3 := hS.2.2.1; omega, (hs.2.2 bx rfl).trans hS.2.2.2⟩))
      have HFS' : Hid (∃ S, Live w wr S g (One bx) ∧ OnlyOne S X ∧ S.ops ≤ 1 + (k + 1) ∧ wr.heap[bx]? = w4.heap[bx]?) := Lib.hid ⟨S, hS.1, hS.2.1, by have := hS.2.2.1; omega, hS.2.2.2⟩
      obtain ⟨hd1, hd2⟩ := hdd
      obtain ⟨ha1, ha2⟩ := haa
      clear hS hby hbl hcm HFS
      by_cases h0 : 2 ≤ dd
      · have d1 : decide (2 ≤ dd) = true := decide_eq_true h0
        have HAS' := Lib.hid (HAS.out h0)
        clear HAS
        by_cases h6 : dd ≤ 6
        · have d2 : decide (dd ≤ 6) = true := decide_eq_true h6
          go_upto_region 11 with fail
          go_still_tail 16, (by kernel_rfl)
          go_wp2_with (go_at_call 24; refine HAS'.out.mono ?_; rintro e w6 ⟨ra, rfl, hs⟩; have HS6 := Lib.hid hs; clear hs)
          go_roundw
          case rel => exact ⟨k + 1, by omega, by go_num, HS6⟩
          case measure => simp [intOf]; omega
        · have d2 : decide (dd ≤ 6) = false := decide_eq_false h6
          go_wp2
          go_roundw
          case rel => exact ⟨k + 1, by omega, by go_num, HFS'⟩
          case measure => simp [intOf]; omega
      · have d1 : decide (2 ≤ dd) = false := decide_eq_false h0
        go_wp2
        go_roundw
        case rel => exact ⟨k + 1, by omega, by go_num, HFS'⟩
        case measure => simp [intOf]; omega
    · have d1 : decide ((k : Int) < (len : Int)) = false := decide_eq_false (by omega)
      obtain ⟨S, hS1, hS2, hS3, hS4⟩ := HFS.out
      obtain ⟨n1, n2, n3, n4⟩ := only_now hS2
      obtain ⟨S2, S3, e1, e2, e3, e4, e5, e6, e7, e8, e9⟩ := only_end hS2 HXl.out (by omega)
      obtain ⟨hb1, hb2⟩ := live_byte hS1
      have hdS := hS2.2.2.2.1
      obtain ⟨L, hL⟩ : ∃ L, L = S.log.length := ⟨_, rfl⟩
      obtain ⟨M, hM⟩ : ∃ M, M = S.mark.length := ⟨_, rfl⟩
      obtain ⟨K, hK⟩ : ∃ K, K = S.kept := ⟨_, rfl⟩
      have HLL := Lib.hid hL; have HMM := Lib.hid hM
      have HLr := Lib.hid hS1; have HXr := Lib.hid hS4; have HB1 := Lib.hid hb1; have HB2 := Lib.hid hb2
      have HRD : Hid (∀ V A, Live w V S g A → Calls Try.prog 15 #[.pointer (some ⟨g, 0, none⟩), .int .i64 1] V (TellsB V 512 X)) := Lib.hid (fun V A hV => by
        have h := live_read hV 1 hdS (by rw [n2]; decide)
        rw [n1] at h
        exact h)
      have HLG : Hid (∀ V A, Live w V S g A → Calls Try.prog 18 #[.pointer (some ⟨g, 0, none⟩)] V (TellsB V L S.log)) := Lib.hid (fun V A hV => by rw [hL]; exact live_log hV hdS)
      have HMK : Hid (∀ V A, Live w V S g A → Calls Try.prog 32 #[.pointer (some ⟨g, 0, none⟩)] V (TellsB V M S.mark)) := Lib.hid (fun V A hV => by rw [hM]; exact live_marked hV hdS)
      have HCE : Hid (∀ V A, Live w V S g A → Calls Try.prog 30 #[.pointer (some ⟨g, 0, none⟩)] V fun e w' => e = .returned (.int .i64 (K : Int)) ∧ V = w') := Lib.hid (fun V A hV => by rw [hK]; exact live_certain hV)
      have HCR : Hid (∀ (V : World) (S' : Dsk) (A : Nat → Prop), Live w V S' g A → Calls Try.prog 14 #[.pointer (some ⟨g, 0, none⟩), .slice (some ⟨V.heap.size, 0, none⟩) 1 1] (V.alloc (.cells #[.int .u8 1] 5)) (fun e w' => ∃ g', e = .returned (.pointer (some ⟨g', 0, none⟩)) ∧ Live w w' (leftOf [1] S') g' A ∧ Below V.heap.size V w')) := Lib.hid (fun V S' A hV => by
        have h := live_crash (cap := 1) (live_on hV (below_alloc V (.cells (u8c [1]) 5))) (const_bytes V [1] (by decide) (by unfold maxLen; decide)) rfl (by unfold maxLen; decide)
        exact h.mono (fun e w' ⟨g', h1, h2, h3, _⟩ => ⟨g', h1, h2, (below_alloc V _).trans (h3.mono (below_alloc V _).size)⟩))
      have HRL : Hid (∀ V g' A, Live w V (leftOf [1] S) g' A → Calls Try.prog 15 #[.pointer (some ⟨g', 0, none⟩), .int .i64 1] V (TellsB V 512 noughts)) := Lib.hid (fun V g' A hV => by
        have h := live_read hV 1 rfl (by rw [n4]; decide)
        rw [n3] at h
        exact h)
      have HSY : Hid (∀ V A, Live w V S g A → Calls Try.prog 29 #[.pointer (some ⟨g, 0, none⟩)] V (Goes w V S2 g A 0)) := Lib.hid (fun V A hV => by
        have h := live_sync hV (by omega)
        rw [e1] at h
        exact h)
      have HWT : Hid (∀ V A, Live w V S2 g A → V.heap[bx]? = w4.heap[bx]? → Calls Try.prog 12 #[.pointer (some ⟨g, 0, none⟩), .int .i64 2, .slice (some ⟨bx, ox, none⟩) 512 c4] V (Goes w V S3 g A 0)) := Lib.hid (fun V A hV hx => by
        have h := live_write (cap := c4) hV 2 (bytes_same' HY4.out hx) HXl.out e3
        rw [e2] at h
        exact h)
      have HCE3 : Hid (∀ V A, Live w V S3 g A → Calls Try.prog 30 #[.pointer (some ⟨g, 0, none⟩)] V fun e w' => e = .returned (.int .i64 (K : Int)) ∧ V = w') := Lib.hid (fun V A hV => by rw [hK, ← e4]; exact live_certain hV)
      have HLG3 : Hid (∀ V A, Live w V S3 g A → Calls Try.prog 18 #[.pointer (some ⟨g, 0, none⟩)] V (TellsB V L S.log)) := Lib.hid (fun V A hV => by rw [hL, ← e5]; exact live_log hV e7)
      have HMK3 : Hid (∀ V A, Live w V S3 g A → Calls Try.prog 32 #[.pointer (some ⟨g, 0, none⟩)] V (TellsB V M S.mark)) := Lib.hid (fun V A hV => by rw [hM, ← e6]; exact live_marked hV e7)
      have HRL3 : Hid (∀ V g' A, Live w V (leftOf [1] S3) g' A → Calls Try.prog 15 #[.pointer (some ⟨g', 0, none⟩), .int .i64 1] V (TellsB V 512 X)) := Lib.hid (fun V g' A hV => by
        have h := live_read hV 1 rfl (by rw [e8]; decide)
        rw [e9] at h
        exact h)
      generalize S.log = lg at HLL HB1 HLG HLG3
      generalize S.mark = mk at HMM HB2 HMK HMK3
      clear hS1 hS2 hS3 hS4 n1 n2 n3 n4 e1 e2 e3 e4 e5 e6 e7 e8 e9 hb1 hb2 hdS hL hM hK HFS
      go_upto_region 17 with (first
        | (go_at_call 30; refine (HCE.out w9 _ HL9.out).mono ?_; rintro e w' ⟨rfl, rfl⟩)
        | (go_at_call 32; refine (HMK.out w8 _ HL8.out).mono ?_; rintro e w9 ht; obtain ⟨b9, o9, c9, rfl, -, hy, -, hb, hn, hlt'⟩ := tells_bytes ht HB2.out; have HY9 := Lib.hid hy; have HL9 := Lib.hid (live_on HL8.out hb); have HG9 : Hid (Below w8.heap.size w8 w9) := Lib.hid hb; have HN9 : Hid (w8.heap.size ≤ b9 ∧ b9 < w9.heap.size) := Lib.hid ⟨hn, hlt'⟩; clear ht hy hb hn hlt')
        | (go_at_call 18; refine (HLG.out w7 _ HL7.out).mono ?_; rintro e w8 ht; obtain ⟨b8, o8, c8, rfl, -, hy, -, hb, hn, hlt'⟩ := tells_bytes ht HB1.out; have HY8 := Lib.hid hy; have HL8 := Lib.hid (live_on HL7.out hb); have HG8 : Hid (Below w7.heap.size w7 w8) := Lib.hid hb; have HN8 : Hid (w7.heap.size ≤ b8 ∧ b8 < w8.heap.size) := Lib.hid ⟨hn, hlt'⟩; clear ht hy hb hn hlt')
        | (go_at_call 15; (with_reducible refine (HRL.out w6 g6 _ HC6.out).mono ?_); rintro e w7 ht; obtain ⟨b7, o7, c7, rfl, -, hy, -, hb, -, -⟩ := tells_bytes ht nought_byte; have HY7 := Lib.hid hy; have HL7 := Lib.hid (live_on HL6.out hb); have HG7 : Hid (Below w6.heap.size w6 w7) := Lib.hid hb; clear ht hy hb)
        | (go_at_call 14; refine (HCR.out w5 _ _ HL5.out).mono ?_; rintro e w6 ⟨g6, rfl, hl, hb⟩; have HC6 := Lib.hid hl; have HL6 := Lib.hid (live_on HL5.out hb); have HG6 : Hid (Below w5.heap.size w5 w6) := Lib.hid hb; clear hl hb)
        | (go_at_call 15; (with_reducible refine (HRD.out wr _ HLr.out).mono ?_); rintro e w5 ht; obtain ⟨b5, o5, c5, rfl, -, hy, -, hb, -, -⟩ := tells_bytes ht HXB.out; have HY5 := Lib.hid hy; have HL5 := Lib.hid (live_on HLr.out hb); have HG5 : Hid (Below wr.heap.size wr w5) := Lib.hid hb; clear ht hy hb))
      have HE9 : Hid (Below wr.heap.size wr w5 ∧ Below w5.heap.size w5 w9 ∧ Below w7.heap.size w7 w9 ∧ Below wr.heap.size wr w9 ∧ Below w8.heap.size w8 w9) := Lib.hid (by
        have h1 := HG5.out; have h2 := HG6.out; have h3 := HG7.out; have h4 := HG8.out; have h5 := HG9.out
        have k4 := h4.trans (h5.mono h4.size)
        have k3 := h3.trans (k4.mono h3.size)
        have k2 := h2.trans (k3.mono h2.size)
        exact ⟨h1, k2, k4, h1.trans (k2.mono h1.size), h5⟩)
      have hbx : bx < wr.heap.size := HLr.out.lt bx rfl
      have HBX := Lib.hid hbx
      have HX9 : Hid (w9.heap[bx]? = w4.heap[bx]?) := Lib.hid ((HE9.out.2.2.2.1.block bx hbx).trans HXr.out)
      obtain ⟨so, hso⟩ : ∃ so, so = str X := ⟨_, rfl⟩
      obtain ⟨sn, hsn⟩ : ∃ sn, sn = str noughts := ⟨_, rfl⟩
      have HSO := Lib.hid hso; have HSN := Lib.hid hsn
      have HK9 : Hid (∀ V, Below w9.heap.size w9 V → (convert 28 9 (.slice (some ⟨b5, o5, none⟩) 512 c5)).run Try.prog V = .ok (.string so) V ∧ (convert 28 9 (.slice (some ⟨bx, ox, none⟩) 512 c4)).run Try.prog V = .ok (.string so) V ∧ (convert 28 9 (.slice (some ⟨b7, o7, none⟩) 512 c7)).run Try.prog V = .ok (.string sn) V) := Lib.hid (fun V hV => by
        have h9 := HE9.out
        have k1 := conv_any (bytes_below (bytes_below HY5.out h9.2.1) hV) HXl.out c5
        have k2 := conv_any (bytes_same' HY4.out ((hV.block bx (Nat.lt_of_lt_of_le HBX.out h9.2.2.2.1.size)).trans HX9.out)) HXl.out c4
        have k3 := conv_any (bytes_below (bytes_below HY7.out h9.2.2.1) hV) nought_len c7
        rw [← HSO.out] at k1 k2
        rw [← HSN.out] at k3
        exact ⟨k1, k2, k3⟩)
      have hmk := make_page
      have kz : ∀ V : World, (convert 28 9 (.slice (some ⟨V.heap.size, 0, none⟩) 512 512)).run Try.prog (V.alloc (.cells (u8c noughts) 5)) = .ok (.string sn) (V.alloc (.cells (u8c noughts) 5)) := fun V => by
        rw [hsn]
        exact conv_any (const_bytes V noughts nought_byte (by rw [nought_len]; unfold maxLen; decide)) nought_len 512
      have kzd : ∀ V : World, (convert 28 9 (.slice (some ⟨V.heap.size, 0, none⟩) 512 512)).run Try.prog (V.alloc (.cells (u8c noughts) 5)).drew = .ok (.string sn) (V.alloc (.cells (u8c noughts) 5)).drew := fun V => by
        rw [hsn]
        exact conv_any (bytes_drew (const_bytes V noughts nought_byte (by rw [nought_len]; unfold maxLen; decide))) nought_len 512
      have hbz := Below.refl w9.heap.size w9
      have HBZ := Lib.hid hbz
      obtain ⟨q1, q2, q3⟩ := HK9.out w9 hbz
      clear hso hsn hbx hbz
      go_cut [124] from 97 to 124 (fun v wx => v = .bool false ∧ Hid (Below w9.heap.size w9 wx))
      case first =>
        go_region_held (fun V => (convert 28 9 (.slice (some ⟨b5, o5, none⟩) 512 c5)).run Try.prog V = .ok (.string so) V ∧ (convert 28 9 (.slice (some ⟨bx, ox, none⟩) 512 c4)).run Try.prog V = .ok (.string so) V ∧ (convert 28 9 (.slice (some ⟨b7, o7, none⟩) 512 c7)).run Try.prog V = .ok (.string sn) V) (exact HK9.out _ (by repeat (first | exact HBZ.out | refine Below.drew ?_ | refine below_alloc' ?_ _)))
          (first | (fail))
        all_goals
          go_wp2
          go_meet
          exact ⟨rfl, Lib.hid (by repeat (first | exact HBZ.out | refine Below.drew ?_ | refine below_alloc' ?_ _))⟩
      case rest =>
        obtain ⟨rfl, HBW⟩ := hcut
        obtain ⟨A, hA⟩ : ∃ A : Nat → Prop, A = fun k => k = bx ∨ k = b8 ∨ k = b9 := ⟨_, rfl⟩
        have HAx : Hid (A bx ∧ A b8 ∧ A b9) := Lib.hid (by rw [hA]; exact ⟨.inl rfl, .inr (.inl rfl), .inr (.inr rfl)⟩)
        have HLc : Hid (Live w wc S g A) := Lib.hid (live_on (live_mono (live_below HLr.out HE9.out.2.2.2.1) (fun k hk => by
          rw [hA] at hk
          have h7 : wr.heap.size ≤ w7.heap.size := by have h1 := HG5.out.size; have h2 := HG6.out.size; have h3 := HG7.out.size; omega
          rcases hk with rfl | rfl | rfl
          · exact .inl rfl
          · exact .inr ⟨by have := HN8.out.1; omega, by have := HN8.out.2; have := HG9.out.size; omega⟩
          · exact .inr ⟨by have := HN9.out.1; have := HG8.out.size; omega, HN9.out.2⟩)) HBW.out)
        have HXc : Hid (wc.heap[bx]? = w4.heap[bx]?) := Lib.hid ((HBW.out.block bx (Nat.lt_of_lt_of_le HBX.out HE9.out.2.2.2.1.size)).trans HX9.out)
        have HY8c := Lib.hid (bytes_below (bytes_below HY8.out HE9.out.2.2.2.2) HBW.out)
        have HY9c := Lib.hid (bytes_below HY9.out HBW.out)
        clear q1 q2 q3 hmk kz kzd hA
        go_upto_region 24 with (first
          | (go_at_call 29; refine (HSY.out wc _ HLc.out).mono ?_; rintro e w10 ⟨rfl, hl, hk'⟩; have HL10 := Lib.hid hl; have HK10 := Lib.hid hk'; clear hl hk')
          | (go_at_call 12; refine (HWT.out w10 _ HL10.out ((HK10.out bx HAx.out.1).trans HXc.out)).mono ?_; rintro e w11 ⟨rfl, hl, hk'⟩; have HL11 := Lib.hid hl; have HK11 : Hid (∀ k, A k → w11.heap[k]? = wc.heap[k]?) := Lib.hid (fun k hk => (hk' k hk).trans (HK10.out k hk)); clear hl hk')
          | (go_at_call 30; refine (HCE3.out w11 _ HL11.out).mono ?_; rintro e w' ⟨rfl, rfl⟩)
          | (go_at_call 18; refine (HLG3.out w11 _ HL11.out).mono ?_; rintro e w12 ht; obtain ⟨b12, o12, c12, rfl, -, hy, -, hb, -, -⟩ := tells_bytes ht HB1.out; have HY12 := Lib.hid hy; have HL12 := Lib.hid (live_on HL11.out hb); have HG12 : Hid (Below w11.heap.size w11 w12) := Lib.hid hb; clear ht hy hb)
          | (go_at_call 32; refine (HMK3.out w12 _ HL12.out).mono ?_; rintro e w13 ht; obtain ⟨b13, o13, c13, rfl, -, hy, -, hb, -, -⟩ := tells_bytes ht HB2.out; have HY13 := Lib.hid hy; have HL13 := Lib.hid (live_on HL12.out hb); have HG13 : Hid (Below w12.heap.size w12 w13) := Lib.hid hb; clear ht hy hb)
          | (go_at_call 14; refine (HCR.out w13 _ _ HL13.out).mono ?_; rintro e w14 ⟨g14, rfl, hl, hb⟩; have HC14 := Lib.hid hl; have HG14 : Hid (Below w13.heap.size w13 w14) := Lib.hid hb; clear hl hb)
          | (go_at_call 15; (with_reducible refine (HRL3.out w14 g14 _ HC14.out).mono ?_); rintro e w15 ht; obtain ⟨b15, o15, c15, rfl, -, hy, -, hb, -, -⟩ := tells_bytes ht HXB.out; have HY15 := Lib.hid hy; have HG15 : Hid (Below w14.heap.size w14 w15) := Lib.hid hb; clear ht hy hb))
        have HE15 : Hid (Below w11.heap.size w11 w15 ∧ Below w12.heap.size w12 w15 ∧ Below w13.heap.size w13 w15) := Lib.hid (by
          have h1 := HG12.out; have h2 := HG13.out; have h3 := HG14.out; have h4 := HG15.out
          have k3 := h3.trans (h4.mono h3.size)
          have k2 := h2.trans (k3.mono h2.size)
          exact ⟨h1.trans (k2.mono h1.size), k2, k3⟩)
        obtain ⟨sl, hsl⟩ : ∃ sl, sl = str lg := ⟨_, rfl⟩
        obtain ⟨sm, hsm⟩ : ∃ sm, sm = str mk := ⟨_, rfl⟩
        have HSL := Lib.hid hsl; have HSM := Lib.hid hsm
        have HK15 : Hid (∀ V, Below w15.heap.size w15 V → (convert 28 9 (.slice (some ⟨b12, o12, none⟩) L c12)).run Try.prog V = .ok (.string sl) V ∧ (convert 28 9 (.slice (some ⟨b8, o8, none⟩) L c8)).run Try.prog V = .ok (.string sl) V ∧ (convert 28 9 (.slice (some ⟨b13, o13, none⟩) M c13)).run Try.prog V = .ok (.string sm) V ∧ (convert 28 9 (.slice (some ⟨b9, o9, none⟩) M c9)).run Try.prog V = .ok (.string sm) V ∧ (convert 28 9 (.slice (some ⟨b15, o15, none⟩) 512 c15)).run Try.prog V = .ok (.string so) V ∧ (convert 28 9 (.slice (some ⟨bx, ox, none⟩) 512 c4)).run Try.prog V = .ok (.string so) V) := Lib.hid (fun V hV => by
          have h := HE15.out
          have hA11 := HL11.out.lt
          have to11 : ∀ k, A k → V.heap[k]? = wc.heap[k]? := fun k hk => ((hV.block k (Nat.lt_of_lt_of_le (hA11 k hk) h.1.size)).trans (h.1.block k (hA11 k hk))).trans (HK11.out k hk)
          have k1 := conv_any (bytes_below (bytes_below HY12.out h.2.1) hV) HLL.out.symm c12
          have k2 := conv_any (bytes_same' HY8c.out (to11 b8 HAx.out.2.1)) HLL.out.symm c8
          have k3 := conv_any (bytes_below (bytes_below HY13.out h.2.2) hV) HMM.out.symm c13
          have k4 := conv_any (bytes_same' HY9c.out (to11 b9 HAx.out.2.2)) HMM.out.symm c9
          have k5 := conv_any (bytes_below HY15.out hV) HXl.out c15
          have k6 := conv_any (bytes_same' HY4.out ((to11 bx HAx.out.1).trans HXc.out)) HXl.out c4
          rw [← HSL.out] at k1 k2
          rw [← HSM.out] at k3 k4
          rw [← HSO.out] at k5 k6
          exact ⟨k1, k2, k3, k4, k5, k6⟩)
        have HBY : Hid (Below w15.heap.size w15 w15) := Lib.hid (Below.refl _ _)
        obtain ⟨q1, q2, q3, q4, q5, q6⟩ := HK15.out w15 HBY.out
        clear hsl hsm
        go_wp2
        go_ret
        exact ⟨rfl, (HL13.out.below.trans ((HE15.out.2.2).mono HL13.out.below.size))⟩
end Go.Proofs.Ytikcanbhdickgaa
