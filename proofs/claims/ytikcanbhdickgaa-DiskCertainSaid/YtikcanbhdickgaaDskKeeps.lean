/- P6.4: a choice whose bytes are all even keeps all writes that were done; the log keeps a beginning: the walk. -/
import Derived.Test.YtikcanbhdickgaaDskPad
namespace Go.Proofs.Ytikcanbhdickgaa
open Go.ChangeShapes Go.WideShapes Go.ChangeAt Go.RowKit

theorem live_known {w0 w : World} {S : Dsk} {g : Nat} {A : Nat → Prop} (h : Live w0 w S g A) : (∀ c ∈ S.log, c < 256) ∧ (∀ c ∈ S.mark, c < 256) ∧ S.kept ≤ S.log.length := by
  obtain ⟨⟨x, rfl, hD, h3, h4⟩, hB, hlt, hf⟩ := h
  exact ⟨hD.log.byte, hD.mark.byte, hD.num.2.2.1⟩
theorem live_page {w0 w : World} {S : Dsk} {g : Nat} {A : Nat → Prop} (h : Live w0 w S g A) (n : Nat) (hn : n < S.pages.length) : (∀ c ∈ pageNow S n, c < 256) ∧ (pageNow S n).length = 512 := by
  obtain ⟨⟨x, rfl, hD, h3, h4⟩, hB, hlt, hf⟩ := h
  have hl : S.pages.length = x.P.length := by rw [← hD.sure.is, List.length_map]
  rcases laid_end hD (left := fun _ => false) (fun _ => rfl) (k := n) (by omega) with ⟨_, e⟩ | ⟨b, _, h, _⟩
  · rw [e]
    exact ⟨(by intro c hc; unfold noughts at hc; rw [List.mem_replicate] at hc; omega), (by unfold noughts; rw [List.length_replicate])⟩
  · exact ⟨h.2.2, h.2.1⟩
theorem and254_even : ∀ c < 256, (c &&& 254) % 2 = 0 ∧ (c &&& 254) < 256 := by decide +kernel
theorem keptN_even {zs : List Nat} {wait : List (Nat × List Nat)} {ps : List (List Nat)} (he : ∀ i, chose zs i % 2 = 0) (hw : ∀ y ∈ wait, y.1 < ps.length) (i : Nat) : ∀ k, k ≤ wait.length →
    (keptN zs wait ps k).getD i [] = (wait.take k).foldl (fun l y => if y.1 = i then y.2 else l) (ps.getD i [])
  | 0, _ => rfl
  | k + 1, hk => by
    have ih := keptN_even he hw i k (by omega)
    have hg : wait[k]? = some wait[k] := List.getElem?_eq_getElem hk
    rw [keptN, hg]
    simp only
    rw [if_pos (he k), List.take_add_one, hg, Option.toList_some, List.foldl_append, List.foldl_cons, List.foldl_nil, ← ih]
    have hy := hw wait[k] (List.getElem_mem hk)
    rw [List.getD_eq_getElem?_getD, List.getElem?_set, keptN_length]
    by_cases h1 : wait[k].1 = i
    · rw [if_pos h1, if_pos h1, if_pos hy]; rfl
    · rw [if_neg h1, if_neg h1, ← List.getD_eq_getElem?_getD]
/-- A device without a fuse, alive; its writes are of pages that it has. -/
def Sound (S : Dsk) (np : Nat) : Prop := S.dead = false ∧ S.fuse = none ∧ S.torn = none ∧ S.pages.length = np ∧ ∀ y ∈ S.wait, y.1 < np
theorem sound_ask {S : Dsk} {np : Nat} (h : Sound S np) (op n : Int) (l : List Nat) : Sound (ask S op n l).1 np ∧ (ask S op n l).1.ops ≤ S.ops + 1 := by
  obtain ⟨k1, k2, k3, k4, k5⟩ := h
  have hd : ¬ S.dead = true := by rw [k1]; decide
  have hf : ¬ S.fuse = some 0 := by rw [k2]; simp
  have hm : S.fuse.map (· - 1) = none := by rw [k2]; rfl
  unfold ask
  split
  · unfold doWrite
    rw [if_neg hd]
    split
    · exact ⟨⟨k1, k2, k3, k4, k5⟩, Nat.le_succ _⟩
    · rename_i harg
      refine ⟨⟨k1, hm, k3, k4, fun y hy => ?_⟩, Nat.le_refl _⟩
      rcases List.mem_append.1 hy with h1 | h1
      · exact k5 y h1
      · rw [List.mem_singleton] at h1
        subst h1
        show n.toNat < np
        omega
  · split
    · unfold doSync
      rw [if_neg hd, if_neg hf]
      exact ⟨⟨k1, hm, k3, by show ((List.range S.pages.length).map (pageNow S)).length = np; rw [List.length_map, List.length_range]; exact k4, fun y hy => by cases hy⟩, Nat.le_refl _⟩
    · unfold doAppend doForce doCut doTrim doMark
      simp only [if_neg hd, if_neg hf]
      repeat (first | exact ⟨⟨k1, k2, k3, k4, k5⟩, Nat.le_succ _⟩ | exact ⟨⟨k1, hm, k3, k4, k5⟩, Nat.le_refl _⟩ | split)
/-- What an even choice leaves. -/
theorem sound_left {S : Dsk} {np : Nat} {zs : List Nat} (h : Sound S np) (hh : S.half = []) (hk : S.kept ≤ S.log.length) (he : ∀ i, chose zs i % 2 = 0) :
    (leftOf zs S).pages.length = np ∧ (∀ i, pageNow (leftOf zs S) i = pageNow S i) ∧ (leftOf zs S).log = S.log.take (leftOf zs S).log.length ∧ (leftOf zs S).log.length ≤ S.log.length ∧ S.kept ≤ (leftOf zs S).log.length ∧ (leftOf zs S).mark = S.mark := by
  obtain ⟨k1, k2, k3, k4, k5⟩ := h
  have hp : (leftOf zs S).pages = keptN zs S.wait S.pages S.wait.length := by
    show tornPages zs S _ = _
    unfold tornPages
    rw [k3]
  have hlate : late S = S.log.drop S.kept := by rw [late, hh, List.append_nil]
  have hlog : (leftOf zs S).log = S.log.take (S.kept + lateK zs S) := by
    show logLeft zs S = _
    rw [logLeft, hlate, ← List.take_add]
  have hK : lateK zs S ≤ S.log.length - S.kept := by
    have h1 : (late S).length = S.log.length - S.kept := by rw [hlate, List.length_drop]
    have h2 : lateK zs S < (late S).length + 1 := Nat.mod_lt _ (Nat.succ_pos _)
    omega
  have hlen : (leftOf zs S).log.length = S.kept + lateK zs S := by rw [hlog, List.length_take]; omega
  refine ⟨by rw [hp, keptN_length]; exact k4, fun i => ?_, by rw [hlen]; exact hlog, by omega, by omega, rfl⟩
  show (leftOf zs S).pages.getD i [] = _
  rw [hp, keptN_even he (by rw [k4]; exact k5) i _ (Nat.le_refl _), List.take_length]
  rfl
attribute [local irreducible] fresh
set_option maxHeartbeats 2000000 in
set_option maxRecDepth 100000 in
theorem keeps_walk {ao ab : Option Addr} {len cap bcap : Nat} {l : List Nat} {w : World} (hlen : len ≤ 3518437208883 ∧ ∀ k, k < len → DeedIn w ao k) (hp : In w ab bcap l) :
    Calls Try.prog 7 #[.slice ao len cap, .slice ab l.length bcap] w fun e w' => e = .returned (.bool true) ∧ Below w.heap.size w w' := by
  obtain ⟨hl1, hd⟩ := hlen
  have HD := Lib.hid hd
  have HP := Lib.hid hp
  have hn47 := hp.2.2
  obtain ⟨n, hn⟩ : ∃ n, n = l.length := ⟨_, rfl⟩
  rw [← hn] at hn47 ⊢
  have HN := Lib.hid hn
  have HMX : Hid (∀ k, k ≤ 140737488355328 → k ≤ maxLen) := Lib.hid (fun k h => by unfold maxLen; omega)
  clear hd hp hn
  obtain ⟨i0, R0⟩ := rowU8
  have HR := Lib.hid R0
  clear R0
  have HNEW : Hid (∀ V, Below w.heap.size w V → Calls Try.prog 11 #[.int .i64 5, .int .i64 200] V fun e w' => ∃ g, e = .returned (.tuple #[.pointer (some ⟨g, 0, none⟩), .int .i64 0]) ∧ Live w w' (fresh 5 200) g Nil) := Lib.hid (fun V hV => (new_does 5 200 (by decide) (by decide) (by decide) V).mono (fun e w' hs => by
    obtain ⟨g, he, hl, _⟩ := live_new (A := Nil) hs (fun k hk => hk.elim) hV (fun _ => by unfold fresh; rfl) (fun k hk => hk.elim)
    exact ⟨g, he, hl⟩))
  go_enter Try.func7, Try.ntmps7
  go_wp2_with (first
    | (go_at_call 11; refine (HNEW.out _ HB1.out).mono ?_; rintro e w2 ⟨g, rfl, hl⟩; have HL2 := Lib.hid hl; clear hl)
    | (go_at_call 10; refine (awake_any w).mono ?_; rintro e w1 ⟨rfl, hb1⟩; have HB1 := Lib.hid hb1; clear hb1))
  have HS2 : Hid (∃ S, Live w w2 S g Nil ∧ Sound S 5 ∧ S.ops ≤ 0) := Lib.hid ⟨_, HL2.out, ⟨by unfold fresh; rfl, by unfold fresh; rfl, by unfold fresh; rfl, by unfold fresh; simp, fun y hy => by unfold fresh at hy; cases hy⟩, by unfold fresh; exact Nat.le_refl _⟩
  clear HNEW HB1 HL2
  go_loopw [7] (fun i wr => ∃ (k : Nat), k ≤ len ∧ i = .int .i64 k ∧ Hid (∃ S, Live w wr S g Nil ∧ Sound S 5 ∧ S.ops ≤ k)) (fun i _ => (len - (intOf i)).toNat)
  case atStart => exact ⟨0, Nat.zero_le _, rfl, HS2⟩
  case round =>
    obtain ⟨k, hk, rfl, HFS⟩ := hrel
    clear HS2
    by_cases hlt : k < len
    · obtain ⟨S, hS⟩ := HFS.out
      obtain ⟨b, off, dd, aa, ca, cs, cc, rfl, hbw, hc1, hc2, hc3, hby, hbl, hdd, haa⟩ := deed_below (HD.out k hlt) hS.1.below
      obtain ⟨cm, hcm⟩ : ∃ cm, cm = cs.length := ⟨_, rfl⟩
      rw [← hcm] at hc3
      have hcmx : cm ≤ 9223372036854775807 := by have := hby.2.1; unfold maxLen at this; omega
      have HAS : Hid (Calls Try.prog 24 #[.pointer (some ⟨g, 0, none⟩), .int .i64 dd, .int .i64 aa, .slice ca cm cc] wr.drew fun e w' => ∃ r : Int, e = .returned (.int .i64 r) ∧ ∃ S', Live w w' S' g Nil ∧ Sound S' 5 ∧ S'.ops ≤ k + 1) := Lib.hid
        ((ask_any (cap := cc) (live_on hS.1 (Below.refl _ wr).drew) dd aa (bytes_drew hby) hcm.symm (fun h0 ad e => (hbl ad e).imp id (fun e => absurd e h0)) hcmx (by have := hS.2.2; omega)).mono (fun e w' hs => ⟨_, hs.1, _, hs.2.1, (sound_ask hS.2.1 dd aa cs).1, by have h1 := (sound_ask hS.2.1 dd aa cs).2; have h3 := hS.2.2; omega⟩))
      have HFS' : Hid (∃ S, Live w wr S g Nil ∧ Sound S 5 ∧ S.ops ≤ k + 1) := Lib.hid ⟨S, hS.1, hS.2.1, by have := hS.2.2; omega⟩
      obtain ⟨hd1, hd2⟩ := hdd
      obtain ⟨ha1, ha2⟩ := haa
      clear hS hby hbl hcm HFS
      by_cases h0 : 0 ≤ dd
      · have d1 : decide (0 ≤ dd) = true := decide_eq_true h0
        by_cases h6 : dd ≤ 6
        · have d2 : decide (dd ≤ 6) = true := decide_eq_true h6
          go_upto_region 8 with fail
          go_still_tail 16, (by kernel_rfl)
          go_wp2_with (go_at_call 24; refine HAS.out.mono ?_; rintro e w6 ⟨ra, rfl, hs⟩; have HS6 := Lib.hid hs; clear hs)
          go_roundw
          case rel => exact ⟨k + 1, by omega, by go_num, HS6⟩
          case measure => simp [intOf]; omega
        · have d2 : decide (dd ≤ 6) = false := decide_eq_false h6
          go_wp2
          go_roundw
          case rel => exact ⟨k + 1, by omega, by go_num, HFS'⟩
          case measure => simp [intOf]; omega
      · have d1 : decide (0 ≤ dd) = false := decide_eq_false h0
        go_wp2
        go_roundw
        case rel => exact ⟨k + 1, by omega, by go_num, HFS'⟩
        case measure => simp [intOf]; omega
    · have d1 : decide ((k : Int) < (len : Int)) = false := decide_eq_false (by omega)
      obtain ⟨S, hS1, hS2, hS3⟩ := HFS.out
      have HL6 := Lib.hid hS1; have HSS := Lib.hid hS2; have HSK := Lib.hid (live_known hS1)
      have HW6 : Hid (w.heap.size ≤ wr.heap.size) := Lib.hid hS1.below.size
      have HHF : Hid (S.half = []) := Lib.hid (hS1.fine hS2.1)
      clear hS1 hS2 hS3 HFS
      generalize hW : wr = W6 at HL6 HW6 ⊢
      clear hW wr
      go_wp2_with fail
      go_loopw [8, 9] (fun v i wr => ∃ (k : Nat) (ae : Option Addr) (ce : Nat), k ≤ n ∧ i = .int .i64 k ∧ v = .slice ae k ce ∧ Hid (Below W6.heap.size W6 wr) ∧ Hid (∃ (zs : List Nat) (bo : Option Nat), Slc wr bo 1 (.slice ae k ce) k (u8s zs) ∧ (∀ b, bo = some b → W6.heap.size ≤ b) ∧ ∀ c ∈ zs, c < 256 ∧ c % 2 = 0)) (fun _ i _ => (n - (intOf i)).toNat)
      case atStart => exact ⟨0, none, 0, Nat.zero_le _, rfl, rfl, Lib.hid (Below.refl _ _), Lib.hid ⟨[], none, slc_nil _ _, (fun b e => by cases e), (fun c hc => by cases hc)⟩⟩
      case round =>
        obtain ⟨k, ae, ce, hk, rfl, rfl, HBr, HZ⟩ := hrel
        by_cases hlt2 : k < n
        · obtain ⟨zs, bo, hzs, hbo, hze⟩ := HZ.out
          have HZS := Lib.hid hzs; have HBO := Lib.hid hbo; have HZE := Lib.hid hze
          clear hzs hbo hze
          have hby := bytes_below (bytes_below HP.out.1 HL6.out.below) HBr.out
          obtain ⟨b, off, hab, hcell⟩ := hby.2.2 k (by rw [← HN.out]; exact hlt2)
          subst hab
          obtain ⟨c, hc⟩ : ∃ c : Nat, c = l[k]'(by rw [← HN.out]; exact hlt2) := ⟨_, rfl⟩
          rw [← hc] at hcell
          have hcb : c < 256 := by rw [hc]; exact hby.1 _ (List.getElem_mem _)
          have hev := and254_even c hcb
          have hx := u8_and_nat c 254 hcb (by decide)
          generalize c &&& 254 = d at hx hev
          rw [show ((254 : Nat) : Int) = 254 from rfl] at hx
          have HEV := Lib.hid hev
          clear hev hc hby
          have hk1 : k + 1 ≤ 140737488355328 := by omega
          go_wp2_with (at_builtin; refine wpList_slc HR.out rfl (.tmp 73) (.tmp 79) 28 rfl rfl rfl (slc_below HZS.out (below_alloc wr _)) (bytes_src Try.underlying28 (const_bytes wr [d] (fun q hq => by rw [List.mem_singleton] at hq; rw [hq]; exact HEV.out.2) (by show 1 ≤ maxLen; unfold maxLen; decide)) rfl) rfl (HMX.out _ hk1) (by omega) ?_; intro a9 c9 b9 w9 h1 h2 h3; have HS9 := Lib.hid h1; have HO9 : Hid (∀ b, b9 = some b → W6.heap.size ≤ b) := Lib.hid (fun b e => by (rcases h3 with h | h; (exact HBO.out b (h ▸ e)); (rw [h] at e; cases e; exact Nat.le_trans HBr.out.size (below_alloc wr _).size))); have HB9 : Hid (Below W6.heap.size W6 w9) := Lib.hid (Turned.to_below (HBr.out.alloc HBr.out.size _) h2 HBO.out (Nat.le_trans HBr.out.size (below_alloc wr (.cells #[.int .u8 (d : Int)] 5)).size)); clear h1 h2 h3)
          go_roundw
          case rel => exact ⟨k + 1, a9, c9, by omega, by go_num, rfl, HB9, Lib.hid ⟨zs ++ [d], b9, by rw [u8s_append]; exact HS9.out, HO9.out, fun q hq => by
            rcases List.mem_append.1 hq with h1 | h1
            · exact HZE.out q h1
            · rw [List.mem_singleton] at h1; rw [h1]; exact ⟨HEV.out.2, HEV.out.1⟩⟩⟩
          case measure => simp [intOf]; omega
        · have hkn : k = n := by omega
          obtain ⟨zs, bo, hzs, hbo, hze⟩ := HZ.out
          have hzl : zs.length = k := by have := hzs.1; simpa [u8s] using this
          have heven : ∀ i, chose zs i % 2 = 0 := fun i => by
            unfold chose
            by_cases hi : i < zs.length
            · rw [List.getD_eq_getElem?_getD, List.getElem?_eq_getElem hi]
              exact (hze _ (List.getElem_mem hi)).2
            · rw [List.getD_eq_getElem?_getD, List.getElem?_eq_none (by omega)]
              rfl
          obtain ⟨p1, p2, p3, p4, p5, p6⟩ := sound_left HSS.out HHF.out HSK.out.2.2 heven
          have HLd := Lib.hid (live_on HL6.out HBr.out)
          have HCR : Hid (Calls Try.prog 14 #[.pointer (some ⟨g, 0, none⟩), .slice ae k ce] wr (fun e w' => ∃ g', e = .returned (.pointer (some ⟨g', 0, none⟩)) ∧ Live w w' (leftOf zs S) g' Nil ∧ Below wr.heap.size wr w' ∧ wr.heap.size ≤ g')) := Lib.hid (live_crash HLd.out (slc_bytes hzs (fun c hc => (hze c hc).1)) hzl (by unfold maxLen; omega))
          obtain ⟨L, hL⟩ : ∃ L, L = S.log.length := ⟨_, rfl⟩
          obtain ⟨Lb, hLb⟩ : ∃ Lb, Lb = (leftOf zs S).log.length := ⟨_, rfl⟩
          obtain ⟨M, hM⟩ : ∃ M, M = S.mark.length := ⟨_, rfl⟩
          obtain ⟨K, hK⟩ : ∃ K, K = S.kept := ⟨_, rfl⟩
          rw [← hLb] at p3 p4 p5
          rw [← hL] at p4
          rw [← hK] at p5
          have hdead := HSS.out.1
          have hpl := HSS.out.2.2.2.1
          obtain ⟨C, hC⟩ : ∃ C, C = leftOf zs S := ⟨_, rfl⟩
          have hCd : C.dead = false := by rw [hC]; rfl
          have hCo : C.ops = 0 := by rw [hC]; rfl
          rw [← hC] at p1 p2 p3 p6 hLb HCR
          have HRD : Hid (∀ V (i : Nat), i < 5 → Live w V S g Nil → Calls Try.prog 15 #[.pointer (some ⟨g, 0, none⟩), .int .i64 (i : Int)] V (TellsB V 512 (pageNow S i))) := Lib.hid (fun V i hi hV => live_read hV i hdead (by rw [hpl]; exact hi))
          have HRC : Hid (∀ V (i g' : Nat), i < 5 → Live w V C g' Nil → Calls Try.prog 15 #[.pointer (some ⟨g', 0, none⟩), .int .i64 (i : Int)] V (TellsB V 512 (pageNow S i))) := Lib.hid (fun V i g' hi hV => by rw [← p2 i]; exact live_read hV i hCd (by rw [p1]; exact hi))
          have HLG : Hid (∀ V, Live w V S g Nil → Calls Try.prog 18 #[.pointer (some ⟨g, 0, none⟩)] V (TellsB V L S.log)) := Lib.hid (fun V hV => by rw [hL]; exact live_log hV hdead)
          have HLC : Hid (∀ V g', Live w V C g' Nil → Calls Try.prog 18 #[.pointer (some ⟨g', 0, none⟩)] V (TellsB V Lb (S.log.take Lb))) := Lib.hid (fun V g' hV => by
            have h := live_log hV hCd
            rw [← hLb, p3] at h
            exact h)
          have HMD : Hid (∀ V, Live w V S g Nil → Calls Try.prog 32 #[.pointer (some ⟨g, 0, none⟩)] V (TellsB V M S.mark)) := Lib.hid (fun V hV => by rw [hM]; exact live_marked hV hdead)
          have HMC : Hid (∀ V g', Live w V C g' Nil → Calls Try.prog 32 #[.pointer (some ⟨g', 0, none⟩)] V (TellsB V M S.mark)) := Lib.hid (fun V g' hV => by
            have h := live_marked hV hCd
            rw [p6, ← hM] at h
            exact h)
          have HCE : Hid (∀ V, Live w V S g Nil → Calls Try.prog 30 #[.pointer (some ⟨g, 0, none⟩)] V fun e w' => e = .returned (.int .i64 (K : Int)) ∧ V = w') := Lib.hid (fun V hV => by rw [hK]; exact live_certain hV)
          have HOC : Hid (∀ V g', Live w V C g' Nil → Calls Try.prog 33 #[.pointer (some ⟨g', 0, none⟩)] V fun e w' => e = .returned (.int .i64 0) ∧ V = w') := Lib.hid (fun V g' hV => by have h := live_ops hV; rw [hCo] at h; exact h)
          have HDC : Hid (∀ V g', Live w V C g' Nil → Calls Try.prog 20 #[.pointer (some ⟨g', 0, none⟩)] V fun e w' => e = .returned (.bool false) ∧ V = w') := Lib.hid (fun V g' hV => by rw [← hCd]; exact live_dead hV)
          have HPB : Hid (∀ i, i < 5 → (∀ c ∈ pageNow S i, c < 256) ∧ (pageNow S i).length = 512) := Lib.hid (fun i hi => live_page HLd.out i (by rw [hpl]; exact hi))
          have hp45 := And.intro p4 p5
          have HLL : Hid (S.log.length = L) := Lib.hid hL.symm
          have HMM : Hid (S.mark.length = M) := Lib.hid hM.symm
          clear p1 p2 p3 p4 p5 p6 hLb hL hM hK hdead hpl hCd hCo hC hzs hbo hze hzl heven HZ hkn
          obtain ⟨q4, q5⟩ := hp45
          go_wp2_with (first
            | (go_at_call 14; refine HCR.out.mono ?_; rintro e w7 ⟨g7, rfl, hl, hb, -⟩; have HC7 := Lib.hid hl; have HD7 := Lib.hid (live_on HLd.out hb); clear hl hb)
            | (go_at_call 33; refine (HOC.out w7 g7 HC7.out).mono ?_; rintro e w' ⟨rfl, rfl⟩)
            | (go_at_call 20; refine (HDC.out w7 g7 HC7.out).mono ?_; rintro e w' ⟨rfl, rfl⟩))
          have HB7 : Hid (w.heap.size ≤ w7.heap.size) := Lib.hid HC7.out.below.size
          generalize hW7 : w7 = W7 at HC7 HD7 HB7 ⊢
          clear hW7 w7 HCR HLd HBr
          go_loopw [11] (fun i wr => ∃ (j : Nat), j ≤ 5 ∧ i = .int .i64 j ∧ Hid (Live w wr S g Nil) ∧ Hid (Live w wr C g7 Nil)) (fun i _ => (5 - (intOf i)).toNat)
          case atStart => exact ⟨0, Nat.zero_le _, rfl, HD7, HC7⟩
          case round =>
            obtain ⟨j, hj, rfl, HDr, HCr⟩ := hrel
            by_cases hlt3 : j < 5
            · obtain ⟨hpb, hpl⟩ := HPB.out j hlt3
              have HRDj := Lib.hid (HRD.out wr j hlt3 HDr.out)
              obtain ⟨X, hX⟩ : ∃ X, X = pageNow S j := ⟨_, rfl⟩
              have HRCj : Hid (∀ V, Live w V C g7 Nil → Calls Try.prog 15 #[.pointer (some ⟨g7, 0, none⟩), .int .i64 (j : Int)] V (TellsB V 512 X)) := Lib.hid (fun V hV => by rw [hX]; exact HRC.out V j g7 hlt3 hV)
              rw [← hX] at hpb hpl HRDj
              have HPBj := Lib.hid hpb; have HPLj := Lib.hid hpl
              obtain ⟨so, hso⟩ : ∃ so, so = str X := ⟨_, rfl⟩
              have HSO := Lib.hid hso
              clear hX hpb hpl hso
              go_wp2_with (first
                | (go_at_call 15; (with_reducible refine (HRCj.out wa HCa.out).mono ?_); rintro e wb ht; obtain ⟨bb, ob, cb, rfl, -, hy, -, hb, -, -⟩ := tells_bytes ht HPBj.out; have hcb2 := conv_any hy HPLj.out cb; have hca2 := conv_any (bytes_below HYa.out hb) HPLj.out ca; rw [← HSO.out] at hcb2 hca2; have HCb := Lib.hid (live_on HCa.out hb); have HDb := Lib.hid (live_on HDa.out hb); clear ht hy hb)
                | (go_at_call 15; (with_reducible refine HRDj.out.mono ?_); rintro e wa ht; obtain ⟨ba, oa, ca, rfl, -, hy, -, hb, -, -⟩ := tells_bytes ht HPBj.out; have HYa := Lib.hid hy; have HCa := Lib.hid (live_on HCr.out hb); have HDa := Lib.hid (live_on HDr.out hb); clear ht hy hb))
              go_roundw
              case rel => exact ⟨j + 1, by omega, by go_num, HDb, HCb⟩
              case measure => simp [intOf]; omega
            · have d5 : decide ((j : Int) < 5) = false := decide_eq_false (by omega)
              have HTB : Hid (∀ c ∈ S.log.take Lb, c < 256) := Lib.hid (fun c hc => HSK.out.1 c (List.mem_of_mem_take hc))
              have HTL : Hid ((S.log.take Lb).length = Lb) := Lib.hid (by rw [List.length_take, HLL.out]; exact Nat.min_eq_left q4)
              have HQ4 := Lib.hid q4
              go_upto_region 28 with (first
                | (go_at_call 32; (with_reducible refine (HMC.out wm20 g7 HC20.out).mono ?_); rintro e wm22 ht; obtain ⟨b22, o22, c22, rfl, -, hy, -, hb, -, -⟩ := tells_bytes ht HSK.out.2.1; have HY22 := Lib.hid hy; have HG22 : Hid (Below wm20.heap.size wm20 wm22) := Lib.hid hb; have HD22 := Lib.hid (live_on HD20.out hb); clear ht hy hb)
                | (go_at_call 32; (with_reducible refine (HMD.out wm18 HD18.out).mono ?_); rintro e wm20 ht; obtain ⟨b20, o20, c20, rfl, -, hy, -, hb, -, -⟩ := tells_bytes ht HSK.out.2.1; have HY20 := Lib.hid hy; have HG20 : Hid (Below wm18.heap.size wm18 wm20) := Lib.hid hb; have HD20 := Lib.hid (live_on HD18.out hb); have HC20 := Lib.hid (live_on HC18.out hb); clear ht hy hb)
                | (go_at_call 18; (with_reducible refine (HLC.out wm16 g7 HC16.out).mono ?_); rintro e wm18 ht; obtain ⟨b18, o18, c18, rfl, -, hy, -, hb, -, -⟩ := tells_bytes ht HTB.out; have HY18 := Lib.hid hy; have HG18 : Hid (Below wm16.heap.size wm16 wm18) := Lib.hid hb; have HD18 := Lib.hid (live_on HD16.out hb); have HC18 := Lib.hid (live_on HC16.out hb); clear ht hy hb)
                | (go_at_call 18; (with_reducible refine (HLG.out wr HDr.out).mono ?_); rintro e wm16 ht; obtain ⟨b16, o16, c16, rfl, hs, hy, -, hb, -, -⟩ := tells_bytes ht HSK.out.1; have HS16 := Lib.hid hs; have HY16 := Lib.hid hy; have HD16 := Lib.hid (live_on HDr.out hb); have HC16 := Lib.hid (live_on HCr.out hb); clear ht hs hy hb))
              obtain ⟨hrun16, hu16⟩ := slc_upto (j := Lb) HS16.out HQ4.out
              rw [show (u8s S.log).take Lb = u8s (S.log.take Lb) by simp only [u8s, List.map_take]] at hu16
              have HU16 := Lib.hid (slc_bytes hu16 HTB.out)
              have HG : Hid (Below wm16.heap.size wm16 wm22 ∧ Below wm18.heap.size wm18 wm22 ∧ Below wm20.heap.size wm20 wm22) := Lib.hid (by
                have h1 := HG18.out; have h2 := HG20.out; have h3 := HG22.out
                have k2 := h2.trans (h3.mono h2.size)
                exact ⟨h1.trans (k2.mono h1.size), k2, h3⟩)
              obtain ⟨sl, hsl⟩ : ∃ sl, sl = str (S.log.take Lb) := ⟨_, rfl⟩
              obtain ⟨sm, hsm⟩ : ∃ sm, sm = str S.mark := ⟨_, rfl⟩
              have HSL := Lib.hid hsl; have HSM := Lib.hid hsm
              have HKF : Hid (∀ V, Below wm22.heap.size wm22 V → (convert 28 9 (.slice (some ⟨b16, o16, none⟩) Lb c16)).run Try.prog V = .ok (.string sl) V ∧ (convert 28 9 (.slice (some ⟨b18, o18, none⟩) Lb c18)).run Try.prog V = .ok (.string sl) V ∧ (convert 28 9 (.slice (some ⟨b20, o20, none⟩) M c20)).run Try.prog V = .ok (.string sm) V ∧ (convert 28 9 (.slice (some ⟨b22, o22, none⟩) M c22)).run Try.prog V = .ok (.string sm) V) := Lib.hid (fun V hV => by
                have h := HG.out
                have k1 := conv_any (bytes_below (bytes_below HU16.out h.1) hV) HTL.out c16
                have k2 := conv_any (bytes_below (bytes_below HY18.out h.2.1) hV) HTL.out c18
                have k3 := conv_any (bytes_below (bytes_below HY20.out h.2.2) hV) HMM.out c20
                have k4 := conv_any (bytes_below HY22.out hV) HMM.out c22
                rw [← HSL.out] at k1 k2
                rw [← HSM.out] at k3 k4
                exact ⟨k1, k2, k3, k4⟩)
              have HBZ : Hid (Below wm22.heap.size wm22 wm22) := Lib.hid (Below.refl _ _)
              obtain ⟨e1, e2, e3, e4⟩ := HKF.out wm22 HBZ.out
              have HCF : Hid (∀ V, Below wm22.heap.size wm22 V → Calls Try.prog 30 #[.pointer (some ⟨g, 0, none⟩)] V fun e w' => e = .returned (.int .i64 (K : Int)) ∧ V = w') := Lib.hid (fun V hV => HCE.out V (live_on HD22.out hV))
              have HEND := Lib.hid HD22.out.below
              have d6 : decide ((Lb : Int) ≤ (L : Int)) = true := decide_eq_true (by omega)
              have d7 : decide ((K : Int) ≤ (Lb : Int)) = true := decide_eq_true (by omega)
              clear hsl hsm hu16
              go_region_held3 (fun V => (convert 28 9 (.slice (some ⟨b16, o16, none⟩) Lb c16)).run Try.prog V = .ok (.string sl) V ∧ (convert 28 9 (.slice (some ⟨b18, o18, none⟩) Lb c18)).run Try.prog V = .ok (.string sl) V ∧ (convert 28 9 (.slice (some ⟨b20, o20, none⟩) M c20)).run Try.prog V = .ok (.string sm) V ∧ (convert 28 9 (.slice (some ⟨b22, o22, none⟩) M c22)).run Try.prog V = .ok (.string sm) V) (exact HKF.out _ (by repeat (first | exact HBZ.out | refine Below.drew ?_)))
                (first | ((go_at_call 30; refine (HCF.out _ (by repeat (first | exact HBZ.out | refine Below.drew ?_))).mono ?_; rintro e w' ⟨rfl, rfl⟩)))
              all_goals
                go_wp2
                go_ret
                exact ⟨rfl, by repeat (first | exact HEND.out | refine Below.drew ?_)⟩
end Go.Proofs.Ytikcanbhdickgaa
