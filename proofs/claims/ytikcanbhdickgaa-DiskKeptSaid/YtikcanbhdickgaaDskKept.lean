/- R4: bytes that are handed in stay, and are not kept: the walk. -/
import Derived.Test.YtikcanbhdickgaaDskZeros
import Derived.Laws.BitsAllLaws
namespace Go.Proofs.Ytikcanbhdickgaa
open Go.ChangeShapes Go.WideShapes Go.ChangeAt Go.RowKit

/-- What came in, and noughts behind: 512 bytes. -/
def padded (l : List Nat) : List Nat := (l ++ List.replicate 513 0).take 512
theorem padded_len (l : List Nat) : (padded l).length = 512 := by unfold padded; rw [List.length_take, List.length_append, List.length_replicate]; omega
theorem padded_byte {l : List Nat} (h : ∀ c ∈ l, c < 256) : ∀ c ∈ padded l, c < 256 := by
  intro c hc
  have := List.mem_of_mem_take hc
  rcases List.mem_append.1 this with h1 | h1
  · exact h c h1
  · rw [List.mem_replicate] at h1; omega
theorem padded_cells (l : List Nat) : ([] ++ u8s l ++ u8s (List.replicate 513 0)).take 512 = u8s (padded l) := by
  rw [padded, List.nil_append, ← u8s_append]
  simp only [u8s, List.map_take]
theorem bytes_same {w w' : World} {b off : Nat} {l : List Nat} (h : BytesAt w (some ⟨b, off, none⟩) l) (hk : w'.heap[b]? = w.heap[b]?) : BytesAt w' (some ⟨b, off, none⟩) l :=
  ⟨h.1, h.2.1, fun j hj => by
    obtain ⟨b', o', e, hc⟩ := h.2.2 j hj
    cases e
    exact ⟨b, off, rfl, by rw [World.cell?_of_block (a := ⟨b, off + j, none⟩) hk]; exact hc⟩⟩
theorem padded_slc {w : World} {bo : Option Nat} {ao : Option Addr} {r cap : Nat} {l : List Nat} (h : Slc w bo 1 (.slice ao r cap) r ([] ++ u8s l ++ u8s (List.replicate 513 0))) (hr : l.length + 513 = r) :
    ∃ b off, bo = some b ∧ ao = some ⟨b, off, none⟩ ∧ (∀ V, (Instr.slice 28 (.slice (some ⟨b, off, none⟩) r cap) none (some (.int .i64 512)) none).run Try.prog V = .ok (.slice (some ⟨b, off, none⟩) 512 cap) V) ∧ Slc w (some b) 1 (.slice (some ⟨b, off, none⟩) 512 cap) 512 (u8s (padded l)) ∧ 512 ≤ cap ∧ cap ≤ maxLen := by
  obtain ⟨ao', cap', e, h1, h2, _, h3⟩ := slc_form h
  cases e
  obtain ⟨b, off, rfl, rfl⟩ := h3 (by omega)
  obtain ⟨hr1, hu1⟩ := slc_upto (j := 512) h (by omega)
  rw [padded_cells] at hu1
  exact ⟨b, off, rfl, rfl, hr1, hu1, by omega, h2⟩
/-- A new slice that was appended to is a new slice. -/
theorem new_slc {w wa wb : World} {bo bo' : Option Nat} (h : Below w.heap.size w wa) (hn : ∀ k, bo = some k → w.heap.size ≤ k) (ht : Turned (fun k => bo = some k) wa wb) (ho : bo' = bo ∨ bo' = some wa.heap.size) :
    Below w.heap.size w wb ∧ ∀ k, bo' = some k → w.heap.size ≤ k := by
  refine ⟨Turned.to_below h ht hn h.size, fun k e => ?_⟩
  rcases ho with h1 | h1
  · exact hn k (h1 ▸ e)
  · rw [h1] at e; cases e; exact h.size
theorem fresh_new (w : World) : ∀ k, some w.heap.size = some k → w.heap.size ≤ k := fun k e => by cases e; exact Nat.le_refl _
theorem copy_slc {w : World} {bo : Option Nat} {ao : Option Addr} {cap : Nat} {l : List Nat} (h : Slc w bo 1 (.slice ao 512 cap) 512 ([] ++ u8s l)) :
    ∃ b off, bo = some b ∧ ao = some ⟨b, off, none⟩ ∧ Slc w (some b) 1 (.slice (some ⟨b, off, none⟩) 512 cap) 512 (u8s l) ∧ 512 ≤ cap ∧ cap ≤ maxLen := by
  obtain ⟨ao', cap', e, h1, h2, _, h3⟩ := slc_form h
  cases e
  obtain ⟨b, off, rfl, rfl⟩ := h3 (by decide)
  exact ⟨b, off, rfl, rfl, h, h1, h2⟩
def Btw (m n k : Nat) : Prop := m ≤ k ∧ k < n
theorem live_btw {w0 w w' : World} {S : Dsk} {g : Nat} (h : Live w0 w S g Nil) (hb : Below w.heap.size w w') : Live w0 w' S g (Btw w.heap.size w'.heap.size) := live_mono (live_below h hb) (fun _ hk => .inr hk)
theorem live_more {w0 w w' : World} {S : Dsk} {g m n : Nat} (h : Live w0 w S g (Btw m n)) (hb : Below w.heap.size w w') (hn : ∀ k, n ≤ k → k < w'.heap.size → w.heap.size ≤ k) : Live w0 w' S g (Btw m w'.heap.size) :=
  live_mono (live_below h hb) (fun k hk => if h1 : k < n then .inl ⟨hk.1, h1⟩ else .inr ⟨hn k (by omega) hk.2, hk.2⟩)
/-- What the device holds behind the three operations, one by one. -/
def SK1 (X : List Nat) : Dsk := { fresh 2 4096 with wait := [(0, X)], ops := 1 }
def SK2 (X : List Nat) : Dsk := { fresh 2 4096 with wait := [(0, X)], log := X, ops := 2 }
def SK3 (X : List Nat) : Dsk := { fresh 2 4096 with wait := [(0, X)], log := X, mark := X.take 9, ops := 3 }
theorem sk1 {X : List Nat} (h : X.length = 512) : doWrite (fresh 2 4096) 0 X = (SK1 X, 0) := by
  rw [show (0 : Int) = ((0 : Nat) : Int) from rfl, doWrite_ok rfl (by simp [fresh]) h (by simp [fresh])]
  rfl
theorem sk2 {X : List Nat} (h : X.length = 512) : doAppend (SK1 X) X = (SK2 X, 0) := by
  rw [doAppend_ok rfl (by rw [h]; simp [SK1, fresh]) (by simp [SK1, fresh])]
  rfl
theorem sk3 {X : List Nat} (h : X.length = 512) : doMark (SK2 X) (X.take 9) = (SK3 X, 0) := by
  rw [doMark_ok rfl (by rw [List.length_take, h]; decide) (by simp [SK2, fresh])]
  rfl
theorem sk1_ops (X : List Nat) : (SK1 X).ops < 4398046511104 := by show 1 < 4398046511104; decide
theorem sk2_ops (X : List Nat) : (SK2 X).ops < 4398046511104 := by show 2 < 4398046511104; decide
theorem sk3_page (X : List Nat) : pageNow (SK3 X) 0 = X := by simp [pageNow, SK3]
theorem sk3_log (X : List Nat) : (SK3 X).log = X := rfl
theorem sk3_mark (X : List Nat) : (SK3 X).mark = X.take 9 := rfl
theorem sk3_dead (X : List Nat) : (SK3 X).dead = false := rfl
theorem sk3_pages (X : List Nat) : (SK3 X).pages.length = 2 := by simp [SK3, fresh]
theorem sk3_left (X : List Nat) : pageNow (leftOf [] (SK3 X)) 0 = X := rfl
theorem sk3_left_pages (X : List Nat) : (leftOf [] (SK3 X)).pages.length = 2 := by simp [leftOf, SK3, fresh, tornPages, keptN_length]
theorem sk3_left_dead (X : List Nat) : (leftOf [] (SK3 X)).dead = false := rfl
attribute [local irreducible] padded SK1 SK2 SK3 fresh
set_option maxHeartbeats 2000000 in
set_option maxRecDepth 100000 in
theorem kept_walk {a : Option Addr} {cap : Nat} {l : List Nat} {w : World} (hp : In w a cap l) :
    Calls Try.prog 6 #[.slice a l.length cap] w fun e w' => e = .returned (.bool true) ∧ Below w.heap.size w w' := by
  have HP := Lib.hid hp
  have hn47 := hp.2.2
  obtain ⟨n, hn⟩ : ∃ n, n = l.length := ⟨_, rfl⟩
  rw [← hn] at hn47 ⊢
  have HN := Lib.hid hn
  have HMX : Hid (∀ k, k ≤ 140737488355328 → k ≤ maxLen) := Lib.hid (fun k h => by unfold maxLen; omega)
  obtain ⟨r, hr⟩ : ∃ r, r = n + 513 := ⟨_, rfl⟩
  have HRR : Hid (n + 513 = r) := Lib.hid hr.symm
  have hr47 : r ≤ 140737488355328 := by omega
  clear hp hn hr
  obtain ⟨i0, R0⟩ := rowU8
  have HR := Lib.hid R0
  clear R0
  have HNEW : Hid (∀ V, Below w.heap.size w V → Calls Try.prog 11 #[.int .i64 2, .int .i64 4096] V fun e w' => ∃ g, e = .returned (.tuple #[.pointer (some ⟨g, 0, none⟩), .int .i64 0]) ∧ Live w w' (fresh 2 4096) g Nil) := Lib.hid (fun V hV => (new_does 2 4096 (by decide) (by decide) (by decide) V).mono (fun e w' hs => by
    obtain ⟨g, he, hl, _⟩ := live_new (A := Nil) hs (fun k hk => hk.elim) hV (fun _ => by unfold fresh; rfl) (fun k hk => hk.elim)
    exact ⟨g, he, hl⟩))
  go_enter Try.func6, Try.ntmps6
  go_wp2_with (first
    | (at_builtin; refine wpList_slc HR.out rfl (.tmp 31) (.tmp 32) 28 rfl rfl rfl (slc_fresh w4 5 1) (slc_src Try.underlying28 (slc_below HX4.out (below_alloc w4 _))) (Nat.zero_add 512) (HMX.out _ (by omega)) (by omega) ?_; intro a5 c5 b5 w5 h1 h2 h3; have HS5 := Lib.hid h1; have HN5 := Lib.hid (new_slc (below_alloc w4 _) (fresh_new w4) h2 h3); clear h1 h2 h3)
    | (at_builtin; refine wpList_zeros HR.out Try.underlying3 rfl (.tmp 28) (.const (.int .i64 513)) rfl rfl rfl HS3.out HRR.out (by decide) (by omega) ?_; intro a4 c4 b4 w4 h1 h2 h3; have HN4 := Lib.hid (new_slc HN3.out.1 HN3.out.2 h2 h3); obtain ⟨bx, ox, rfl, rfl, hrun4, hx4, hc4, hcm4⟩ := padded_slc h1 (by rw [← HN.out]; exact HRR.out); have HX4 := Lib.hid hx4; clear h1 h2 h3 hx4)
    | (at_builtin; refine wpList_slc HR.out rfl (.tmp 26) (.tmp 27) 28 rfl rfl rfl (slc_fresh w2 5 1) (bytes_src Try.underlying28 (bytes_below (bytes_below HP.out.1 HL2.out.below) (below_alloc w2 _)) HN.out.symm) (Nat.zero_add n) (HMX.out _ (by omega)) (by omega) ?_; intro a3 c3 b3 w3 h1 h2 h3; have HS3 := Lib.hid h1; have HN3 := Lib.hid (new_slc (below_alloc w2 _) (fresh_new w2) h2 h3); clear h1 h2 h3)
    | (go_at_call 11; refine (HNEW.out _ HB1.out).mono ?_; rintro e w2 ⟨g, rfl, hl⟩; have HL2 := Lib.hid hl; clear hl)
    | (go_at_call 10; refine (awake_any w).mono ?_; rintro e w1 ⟨rfl, hb1⟩; have HB1 := Lib.hid hb1; clear hb1))
  obtain ⟨by', oy, rfl, rfl, hy5, hc5, hcm5⟩ := copy_slc HS5.out
  have HY5 := Lib.hid hy5
  clear hy5 HS5
  have HB5 : Hid (Below w2.heap.size w2 w5) := Lib.hid (HN4.out.1.trans (HN5.out.1.mono HN4.out.1.size))
  have HL5 : Hid (Live w w5 (fresh 2 4096) g (Btw w2.heap.size w5.heap.size)) := Lib.hid (live_btw HL2.out HB5.out)
  have HX5 := Lib.hid (slc_below HX4.out HN5.out.1)
  have HLX : Hid ((padded l).length = 512) := Lib.hid (padded_len l)
  have HXB : Hid (∀ c ∈ padded l, c < 256) := Lib.hid (padded_byte HP.out.1.1)
  have HIX : Hid (Btw w2.heap.size w5.heap.size bx) := Lib.hid ⟨HN4.out.2 bx rfl, slc_lt HX5.out bx rfl⟩
  have HIY : Hid (Btw w2.heap.size w5.heap.size by') := Lib.hid ⟨Nat.le_trans HN4.out.1.size (HN5.out.2 by' rfl), slc_lt HY5.out by' rfl⟩
  have HXY : Hid (bx ≠ by') := Lib.hid (by have h1 := slc_lt HX4.out bx rfl; have h2 := HN5.out.2 by' rfl; omega)
  have HW2 : Hid (w.heap.size ≤ w2.heap.size) := Lib.hid HL2.out.below.size
  generalize padded l = X at HX5 HY5 HLX HXB HX4
  obtain ⟨m2, hm2⟩ : ∃ m, m = w2.heap.size := ⟨_, rfl⟩
  obtain ⟨m5, hm5⟩ : ∃ m, m = w5.heap.size := ⟨_, rfl⟩
  rw [← hm2, ← hm5] at HL5 HIX HIY
  rw [← hm2] at HW2
  have HM5 := Lib.hid hm5
  clear HN4 HN5 HS3 HN3 HX4 HB1 HB5 HL2 HNEW hm2 hm5 hrun4
  have HWr : Hid (Calls Try.prog 12 #[.pointer (some ⟨g, 0, none⟩), .int .i64 0, .slice (some ⟨bx, ox, none⟩) 512 c4] w5 (Goes w w5 (SK1 X) g (Btw m2 m5) 0)) := Lib.hid (by
    have := live_write (cap := c4) HL5.out 0 (slc_bytes HX5.out HXB.out) HLX.out (by decide +kernel)
    rw [sk1 HLX.out] at this
    exact this)
  have HAp : Hid (∀ V, Live w V (SK1 X) g (Btw m2 m5) → V.heap[bx]? = w5.heap[bx]? → Calls Try.prog 16 #[.pointer (some ⟨g, 0, none⟩), .slice (some ⟨bx, ox, none⟩) 512 c4] V (Goes w V (SK2 X) g (Btw m2 m5) 0)) := Lib.hid (fun V hV hx => by
    have := live_append (cap := c4) hV (bytes_same (slc_bytes HX5.out HXB.out) hx) HLX.out (fun ad e => by cases e; exact .inr HIX.out) (by decide) (sk1_ops X)
    rw [sk2 HLX.out] at this
    exact this)
  have HMk : Hid (∀ V, Live w V (SK2 X) g (Btw m2 m5) → V.heap[bx]? = w5.heap[bx]? → Calls Try.prog 31 #[.pointer (some ⟨g, 0, none⟩), .slice (some ⟨bx, ox, none⟩) 9 c4] V (Goes w V (SK3 X) g (Btw m2 m5) 0)) := Lib.hid (fun V hV hx => by
    have hu := (slc_upto (j := 9) HX5.out (by decide)).2
    rw [show (u8s X).take 9 = u8s (X.take 9) by simp only [u8s, List.map_take]] at hu
    have := live_mark (cap := c4) hV (bytes_same (slc_bytes hu (fun c hc => HXB.out c (List.mem_of_mem_take hc))) hx) (by rw [List.length_take, HLX.out]) (fun ad e => by cases e; exact .inr HIX.out) (by decide) (sk2_ops X)
    rw [sk3 HLX.out] at this
    exact this)
  have hr9x : ∀ V, (Instr.slice 28 (.slice (some ⟨bx, ox, none⟩) 512 c4) none (some (.int .i64 9)) none).run Try.prog V = .ok (.slice (some ⟨bx, ox, none⟩) 9 c4) V := (slc_upto (j := 9) HX5.out (by decide)).1
  have hr9y : ∀ V, (Instr.slice 28 (.slice (some ⟨by', oy, none⟩) 512 c5) none (some (.int .i64 9)) none).run Try.prog V = .ok (.slice (some ⟨by', oy, none⟩) 9 c5) V := (slc_upto (j := 9) HY5.out (by decide)).1
  have HSX := Lib.hid (rfl : str X = str X)
  refine HWr.out.mono ?_
  rintro e w6 ⟨rfl, hl, hk⟩
  have HL6 := Lib.hid hl
  have HK6 := Lib.hid hk
  clear hl hk
  obtain ⟨so, hso⟩ : ∃ so, so = str X := ⟨_, rfl⟩
  have HSO := Lib.hid hso
  clear hso
  go_wp2_with (first
    | (go_at_call 16; refine (HAp.out _ HL6.out (HK6.out _ HIX.out)).mono ?_; rintro e w7 ⟨rfl, hl, hk⟩; have HL7 := Lib.hid hl; have HK7 : Hid (∀ k, Btw m2 m5 k → w7.heap[k]? = w5.heap[k]?) := Lib.hid (fun k hk' => (hk k hk').trans (HK6.out k hk')); clear hl hk)
    | (go_at_call 31; refine (HMk.out _ HL7.out (HK7.out _ HIX.out)).mono ?_; rintro e w8 ⟨rfl, hl, hk⟩; have HL8 := Lib.hid hl; have HK8 : Hid (∀ k, Btw m2 m5 k → w8.heap[k]? = w5.heap[k]?) := Lib.hid (fun k hk' => (hk k hk').trans (HK7.out k hk')); clear hl hk; have kx8 := conv_any (bytes_same (slc_bytes HX5.out HXB.out) (HK8.out _ HIX.out)) HLX.out c4; have ky8 := conv_any (bytes_same (slc_bytes HY5.out HXB.out) (HK8.out _ HIY.out)) HLX.out c5; rw [← HSO.out] at kx8 ky8))
  have HBX8 : Hid (∃ zs : List Nat, (∀ c ∈ zs, c < 256) ∧ zs.length = 512 ∧ Slc w8 (some bx) 1 (.slice (some ⟨bx, ox, none⟩) 512 c4) 512 (u8s zs)) := Lib.hid ⟨X, HXB.out, HLX.out, slc_kept HX5.out (by have h1 := HL8.out.lt bx HIX.out; have h2 := HM5.out; have h3 := HL8.out.lt (m5 - 1) ⟨by have h4 := HIX.out.1; have h5 := HIX.out.2; omega, by have h5 := HIX.out.2; omega⟩; omega) (fun b e => by cases e; exact HK8.out _ HIX.out)⟩
  have HBY8 : Hid (w8.heap[by']? = w5.heap[by']?) := Lib.hid (HK8.out _ HIY.out)
  clear HWr HAp HMk HL6 HL7 HK6 HK7 HK8 HX5 kx8 ky8
  go_loopw [7] (fun i wr => ∃ k : Nat, k ≤ 512 ∧ i = .int .i64 k ∧ Hid (Live w wr (SK3 X) g (Btw m2 m5)) ∧ Hid (∃ zs : List Nat, (∀ c ∈ zs, c < 256) ∧ zs.length = 512 ∧ Slc wr (some bx) 1 (.slice (some ⟨bx, ox, none⟩) 512 c4) 512 (u8s zs)) ∧ Hid (wr.heap[by']? = w5.heap[by']?)) (fun i _ => (512 - (intOf i)).toNat)
  case atStart => exact ⟨0, Nat.zero_le _, rfl, HL8, HBX8, HBY8⟩
  case round =>
    obtain ⟨k, hk, rfl, HLr, HXr, HYr⟩ := hrel
    by_cases hlt : k < 512
    · obtain ⟨zs, hzb, hzl, hsx⟩ := HXr.out
      obtain ⟨c, hc⟩ : ∃ c : Nat, zs[k]? = some c := ⟨zs[k]'(by omega), List.getElem?_eq_getElem _⟩
      have hcb : c < 256 := hzb c (List.mem_of_getElem? hc)
      obtain ⟨b', o', cap', e1, e2, hbs, h1, h2, hold, hfz⟩ := slc_cell hsx hlt (.int .u8 (c : Int)) (by simp [u8s, hc])
      cases e1
      cases e2
      have hx := u8_xor_nat c 255 hcb (by decide)
      have hdb : c ^^^ 255 < 256 := Nat.xor_lt_two_pow (n := 8) hcb (by decide)
      generalize c ^^^ 255 = d at hx hdb
      rw [show ((255 : Nat) : Int) = 255 from rfl] at hx
      have HSX' : Hid (∃ zs : List Nat, (∀ c ∈ zs, c < 256) ∧ zs.length = 512 ∧ Slc (wr.setCell ⟨bx, ox + k, none⟩ (.int .u8 (d : Int))) (some bx) 1 (.slice (some ⟨bx, ox, none⟩) 512 c4) 512 (u8s zs)) := Lib.hid ⟨zs.set k d, fun q hq => by
        rcases List.mem_or_eq_of_mem_set hq with h' | h'
        · exact hzb q h'
        · rw [h']; exact hdb, by rw [List.length_set]; exact hzl, by
        have := slc_set hsx hlt (.int .u8 (d : Int)) rfl
        rw [show (u8s zs).set k (.int .u8 (d : Int)) = u8s (zs.set k d) by simp [u8s, List.map_set]] at this
        exact this⟩
      have HLr' : Hid (Live w (wr.setCell ⟨bx, ox + k, none⟩ (.int .u8 (d : Int))) (SK3 X) g (Btw m2 m5)) := Lib.hid (live_turned HLr.out (E := fun j => j = bx) ((Turned.refl (fun j => j = bx) wr).setCell (p := ⟨bx, ox + k, none⟩) (.inl rfl) _) (fun j e => by rw [e]; exact ⟨HIX.out, Nat.le_trans HW2.out HIX.out.1⟩))
      have HYr' : Hid ((wr.setCell ⟨bx, ox + k, none⟩ (.int .u8 (d : Int))).heap[by']? = w5.heap[by']?) := Lib.hid (by rw [Below.heap_setCell _ _ _ _ (fun e => HXY.out e.symm)]; exact HYr.out)
      clear hsx hzb hzl hc HSO hdb
      go_wp2
      go_roundw
      case rel => exact ⟨k + 1, by omega, by go_num, HLr', HSX', HYr'⟩
      case measure => simp [intOf]; omega
    · have d : decide ((k : Int) < 512) = false := decide_eq_false (by omega)
      have HTR : Hid (∀ (V V' : World) (S : Dsk) (A : Nat → Prop), S = SK3 X → Live w V S g A → Below V.heap.size V V' →
          Calls Try.prog 15 #[.pointer (some ⟨g, 0, none⟩), .int .i64 0] V' (TellsB V' 512 X) ∧ Calls Try.prog 18 #[.pointer (some ⟨g, 0, none⟩)] V' (TellsB V' 512 X) ∧ Calls Try.prog 32 #[.pointer (some ⟨g, 0, none⟩)] V' (TellsB V' 9 (X.take 9))) := Lib.hid (fun V V' S A e hV hb => by
        subst e
        have hL := live_on hV hb
        have r1 := live_read hL 0 (sk3_dead X) (by rw [sk3_pages]; decide)
        have r2 := live_log hL (sk3_dead X)
        have r3 := live_marked hL (sk3_dead X)
        rw [sk3_page] at r1
        rw [sk3_log, HLX.out] at r2
        rw [sk3_mark, List.length_take, HLX.out] at r3
        exact ⟨r1, r2, r3⟩)
      have HX9 : Hid (∀ c ∈ X.take 9, c < 256) := Lib.hid (fun c hc => HXB.out c (List.mem_of_mem_take hc))
      clear HXr HBX8 HBY8 HL8 hk HSX
      clear hlt
      have HBr : Hid (Below wr.heap.size wr wr) := Lib.hid (Below.refl _ _)
      go_upto_region 15 with (first
        | (go_at_call 32; refine ((HTR.out wr _ _ _ rfl HLr.out (by exact HB10.out)).2.2).mono ?_; rintro e w11 ht; obtain ⟨b11, o11, c11, rfl, hs, -, -, hb, hn, hlt'⟩ := tells_bytes ht HX9.out; have HS11 := Lib.hid hs; have HB11 : Hid (Below wr.heap.size wr w11) := Lib.hid (HB10.out.trans (hb.mono HB10.out.size)); have HN11 : Hid (w10.heap.size ≤ b11 ∧ b11 < w11.heap.size ∧ Below w10.heap.size w10 w11) := Lib.hid ⟨hn, hlt', hb⟩; clear ht hs hb hn hlt')
        | (go_at_call 18; refine ((HTR.out wr _ _ _ rfl HLr.out (by exact HB9.out)).2.1).mono ?_; rintro e w10 ht; obtain ⟨b10, o10, c10, rfl, hs, -, -, hb, hn, hlt'⟩ := tells_bytes ht HXB.out; have HS10 := Lib.hid hs; have HB10 : Hid (Below wr.heap.size wr w10) := Lib.hid (HB9.out.trans (hb.mono HB9.out.size)); have HN10 : Hid (w9.heap.size ≤ b10 ∧ b10 < w10.heap.size ∧ Below w9.heap.size w9 w10) := Lib.hid ⟨hn, hlt', hb⟩; clear ht hs hb hn hlt')
        | (go_at_call 15; refine ((HTR.out wr _ _ _ rfl HLr.out (by exact HBr.out)).1).mono ?_; rintro e w9 ht; obtain ⟨b9, o9, c9, rfl, hs, -, -, hb, hn, hlt'⟩ := tells_bytes ht HXB.out; have HS9 := Lib.hid hs; have HB9 : Hid (Below wr.heap.size wr w9) := Lib.hid hb; have HN9 : Hid (wr.heap.size ≤ b9 ∧ b9 < w9.heap.size) := Lib.hid ⟨hn, hlt'⟩; clear ht hs hb hn hlt'))
      have HS9' := Lib.hid (slc_below (slc_below HS9.out HN10.out.2.2) HN11.out.2.2)
      have HS10' := Lib.hid (slc_below HS10.out HN11.out.2.2)
      have HY11 : Hid (w11.heap[by']? = w5.heap[by']?) := Lib.hid ((HB11.out.block by' (HLr.out.lt by' HIY.out)).trans HYr.out)
      obtain ⟨sp, hsp⟩ : ∃ sp, sp = str (X.take 9) := ⟨_, rfl⟩
      have HSP := Lib.hid hsp
      clear hsp
      have HCV : Hid (∀ V, V.heap[by']? = w5.heap[by']? → (convert 28 9 (.slice (some ⟨by', oy, none⟩) 512 c5)).run Try.prog V = .ok (.string so) V ∧ (convert 28 9 (.slice (some ⟨by', oy, none⟩) 9 c5)).run Try.prog V = .ok (.string sp) V) := Lib.hid (fun V hV => by
        have hy := bytes_same (slc_bytes HY5.out HXB.out) hV
        have hu := (slc_upto (j := 9) HY5.out (by decide)).2
        rw [show (u8s X).take 9 = u8s (X.take 9) by simp only [u8s, List.map_take]] at hu
        rw [HSO.out, HSP.out]
        exact ⟨conv_any hy HLX.out c5, conv_any (k := 9) (bytes_same (slc_bytes hu HX9.out) hV) (by rw [List.length_take, HLX.out]; rfl) c5⟩)
      have HK11 : Hid (∀ V, Below w11.heap.size w11 V → (convert 28 9 (.slice (some ⟨by', oy, none⟩) 512 c5)).run Try.prog V = .ok (.string so) V ∧ (convert 28 9 (.slice (some ⟨by', oy, none⟩) 9 c5)).run Try.prog V = .ok (.string sp) V ∧ (convert 28 9 (.slice (some ⟨b9, o9, none⟩) 512 c9)).run Try.prog V = .ok (.string so) V ∧
          (convert 28 9 (.slice (some ⟨b10, o10, none⟩) 512 c10)).run Try.prog V = .ok (.string so) V ∧ (convert 28 9 (.slice (some ⟨b11, o11, none⟩) 9 c11)).run Try.prog V = .ok (.string sp) V) := Lib.hid (fun V hV => by
        obtain ⟨ky, ky9⟩ := HCV.out V ((hV.block by' (Nat.lt_of_lt_of_le (HLr.out.lt by' HIY.out) HB11.out.size)).trans HY11.out)
        have kp := conv_any (slc_bytes (slc_below HS9'.out hV) HXB.out) HLX.out c9
        have kl := conv_any (slc_bytes (slc_below HS10'.out hV) HXB.out) HLX.out c10
        have km := conv_any (slc_bytes (slc_below HS11.out hV) HX9.out) (k := 9) (by rw [List.length_take, HLX.out]; rfl) c11
        rw [← HSO.out] at kp kl
        rw [← HSP.out] at km
        exact ⟨ky, ky9, kp, kl, km⟩)
      have HBe : Hid (Below w11.heap.size w11 w11) := Lib.hid (Below.refl _ _)
      obtain ⟨ky, ky9, kp, kl, km⟩ := HK11.out w11 HBe.out
      go_region_held3 (fun V => (convert 28 9 (.slice (some ⟨by', oy, none⟩) 512 c5)).run Try.prog V = .ok (.string so) V ∧ (convert 28 9 (.slice (some ⟨by', oy, none⟩) 9 c5)).run Try.prog V = .ok (.string sp) V ∧ (convert 28 9 (.slice (some ⟨b9, o9, none⟩) 512 c9)).run Try.prog V = .ok (.string so) V ∧
          (convert 28 9 (.slice (some ⟨b10, o10, none⟩) 512 c10)).run Try.prog V = .ok (.string so) V ∧ (convert 28 9 (.slice (some ⟨b11, o11, none⟩) 9 c11)).run Try.prog V = .ok (.string sp) V) (exact HK11.out _ (by repeat (first | exact HBe.out | refine Below.drew ?_)))
        (first | (fail))
      obtain ⟨c0, hc0⟩ : ∃ c0 : Nat, X[0]? = some c0 := ⟨X[0]'(by rw [HLX.out]; decide), List.getElem?_eq_getElem _⟩
      have hcb : c0 < 256 := HXB.out c0 (List.mem_of_getElem? hc0)
      have hx0 := u8_xor_nat c0 1 hcb (by decide)
      have hdb : c0 ^^^ 1 < 256 := Nat.xor_lt_two_pow (n := 8) hcb (by decide)
      generalize c0 ^^^ 1 = d0 at hx0 hdb
      rw [show ((1 : Nat) : Int) = 1 from rfl] at hx0
      have HDB := Lib.hid hdb
      have hz0 : (u8s X)[0]? = some (.int .u8 (c0 : Int)) := by simp [u8s, hc0]
      have hz9 : (u8s (X.take 9))[0]? = some (.int .u8 (c0 : Int)) := by simp [u8s, hc0]
      obtain ⟨q9, q9', q9'', e1, e2, -, -, -, r9, f9⟩ := slc_cell HS9'.out (by decide) _ hz0
      cases e1; cases e2
      obtain ⟨q9, q9', q9'', e1, e2, -, -, -, r10, f10⟩ := slc_cell HS10'.out (by decide) _ hz0
      cases e1; cases e2
      obtain ⟨q9, q9', q9'', e1, e2, -, -, -, r11, f11⟩ := slc_cell HS11.out (by decide) _ hz9
      cases e1; cases e2
      rw [Nat.add_zero] at r9 r10 r11 f9 f10 f11
      have n1 : b10 ≠ b9 := by have h1 := HN9.out; have h2 := HN10.out; omega
      have n2 : b11 ≠ b9 := by have h1 := HN9.out; have h2 := HN11.out; have h3 := HN10.out.2.2.size; omega
      have n3 : b11 ≠ b10 := by have h1 := HN10.out; have h2 := HN11.out; omega
      have HNE : Hid (b10 ≠ b9 ∧ b11 ≠ b9 ∧ b11 ≠ b10) := Lib.hid ⟨n1, n2, n3⟩
      clear hc0 hcb hdb hz0 hz9 ky ky9 kp kl km hr9x
      have HN11' : Hid (wr.heap.size ≤ b9 ∧ wr.heap.size ≤ b10 ∧ wr.heap.size ≤ b11 ∧ b9 < w11.heap.size ∧ b10 < w11.heap.size ∧ b11 < w11.heap.size ∧ by' < wr.heap.size) := Lib.hid (by
        have h1 := HN9.out; have h2 := HN10.out; have h3 := HN11.out; have h4 := HLr.out.lt by' HIY.out
        have h5 := HB9.out.size; have h6 := HB10.out.size; have h7 := HN10.out.2.2.size; have h8 := HN11.out.2.2.size
        omega)
      obtain ⟨W3, hW3⟩ : ∃ W3, W3 = ((w11.setCell ⟨b9, o9, none⟩ (.int .u8 (d0 : Int))).setCell ⟨b10, o10, none⟩ (.int .u8 (d0 : Int))).setCell ⟨b11, o11, none⟩ (.int .u8 (d0 : Int)) := ⟨_, rfl⟩
      have HT3 : Hid (Turned (fun k => k = b9 ∨ k = b10 ∨ k = b11) w11 W3) := Lib.hid (by
        rw [hW3]
        exact (((Turned.refl (fun k => k = b9 ∨ k = b10 ∨ k = b11) w11).setCell (p := ⟨b9, o9, none⟩) (.inl (.inl rfl)) _).setCell (p := ⟨b10, o10, none⟩) (.inl (.inr (.inl rfl))) _).setCell (p := ⟨b11, o11, none⟩) (.inl (.inr (.inr rfl))) _)
      have HA : Hid (∃ A : Nat → Prop, Live w W3 (SK3 X) g A ∧ A b10 ∧ W3.heap[by']? = w5.heap[by']? ∧ A by' ∧ b10 ≠ by' ∧ w.heap.size ≤ b10) := Lib.hid (by
        have h0 := HN11'.out
        have hw := HLr.out.below.size
        refine ⟨_, live_turned (live_below HLr.out HB11.out) HT3.out (fun k hk => ⟨?_, ?_⟩), .inr ⟨by omega, by omega⟩, ?_, .inl HIY.out, by omega, by omega⟩
        · refine .inr ?_
          rcases hk with rfl | rfl | rfl <;> exact ⟨by omega, by omega⟩
        · rcases hk with rfl | rfl | rfl <;> omega
        · rw [HT3.out.block by' (by have := HB11.out.size; omega) (by omega)]
          exact HY11.out)
      have HS3' : Hid (∃ xs, Slc W3 (some b10) 1 (.slice (some ⟨b10, o10, none⟩) 512 c10) 512 xs) := Lib.hid ⟨_, by
        rw [hW3]
        have s1 := slc_turned (E := fun k => k = b9) HS10'.out ((Turned.refl (fun k => k = b9) w11).setCell (p := ⟨b9, o9, none⟩) (.inl rfl) (.int .u8 (d0 : Int))) (fun b e he => by cases e; exact HNE.out.1 he)
        have s2 := slc_set s1 (j := 0) (by decide) (.int .u8 (d0 : Int)) rfl
        rw [Nat.add_zero] at s2
        exact slc_turned (E := fun k => k = b11) s2 ((Turned.refl (fun k => k = b11) _).setCell (p := ⟨b11, o11, none⟩) (.inl rfl) (.int .u8 (d0 : Int))) (fun b e he => by cases e; exact HNE.out.2.2 he.symm)⟩
      go_upto_region 20 with fail
      rw [← hW3]
      clear hW3 r9 r10 r11 f9 f10 f11 hx0 n1 n2 n3 HL5 HIX HXY
      obtain ⟨A, hA1, hA2, hA3, hA4, hA5, hA6⟩ := HA.out
      obtain ⟨xs, hxs⟩ := HS3'.out
      have HL3 := Lib.hid hA1; have HA2 := Lib.hid hA2; have HY3 := Lib.hid hA3; have HA4 := Lib.hid hA4; have HNX := Lib.hid (And.intro hA5 hA6)
      have HSX3 := Lib.hid hxs
      clear hA1 hA2 hA3 hA4 hA5 hA6 hxs HA HS3'
      have hb3 : Below W3.heap.size W3 W3.drew := (Below.refl _ W3).drew
      have HL4 := Lib.hid (live_on HL3.out hb3)
      have HY4 : Hid (W3.drew.heap[by']? = w5.heap[by']?) := Lib.hid HY3.out
      have HSX4 := Lib.hid (slc_below HSX3.out hb3)
      clear hb3 HL3 HY3 HSX3
      generalize W3.drew = W4 at HL4 HY4 HSX4 ⊢
      have HCR : Hid (∀ V, Live w V (SK3 X) g A → Calls Try.prog 14 #[.pointer (some ⟨g, 0, none⟩), .slice none 0 0] V (fun e w' => ∃ g', e = .returned (.pointer (some ⟨g', 0, none⟩)) ∧ Live w w' (leftOf [] (SK3 X)) g' A ∧ Below V.heap.size V w' ∧ V.heap.size ≤ g')) := Lib.hid (fun V hV => live_crash hV (bytes_empty V) rfl (Nat.zero_le _))
      have HLF : Hid (∀ (V V' : World) (g' : Nat), Live w V (leftOf [] (SK3 X)) g' A → Below V.heap.size V V' → Calls Try.prog 15 #[.pointer (some ⟨g', 0, none⟩), .int .i64 0] V' (TellsB V' 512 X)) := Lib.hid (fun V V' g' hV hb => by
        have r1 := live_read (live_on hV hb) 0 (sk3_left_dead X) (by rw [sk3_left_pages]; decide)
        rw [sk3_left] at r1
        exact r1)
      go_upto_region 26 with (first
        | (go_at_call 32; refine ((HTR.out w13 _ _ _ rfl HD13.out (by exact HB15.out)).2.2).mono ?_; rintro e w16 ht; obtain ⟨b16, o16, c16, rfl, hs, -, -, hb, hn, hlt'⟩ := tells_bytes ht HX9.out; have HS16 := Lib.hid hs; have HB16 : Hid (Below w13.heap.size w13 w16) := Lib.hid (HB15.out.trans (hb.mono HB15.out.size)); have HE16 : Hid (Below w15.heap.size w15 w16) := Lib.hid hb; clear ht hs hb hn hlt')
        | (go_at_call 18; refine ((HTR.out w13 _ _ _ rfl HD13.out (by exact HB14.out)).2.1).mono ?_; rintro e w15 ht; obtain ⟨b15, o15, c15, rfl, hs, -, -, hb, hn, hlt'⟩ := tells_bytes ht HXB.out; have HS15 := Lib.hid hs; have HB15 : Hid (Below w13.heap.size w13 w15) := Lib.hid (HB14.out.trans (hb.mono HB14.out.size)); have HE15 : Hid (Below w14.heap.size w14 w15) := Lib.hid hb; clear ht hs hb hn hlt')
        | (go_at_call 15; (with_reducible refine (HLF.out w13 _ g2 HC13.out (by exact HB16.out)).mono ?_); rintro e w17 ht; obtain ⟨b17, o17, c17, rfl, hs, -, -, hb, hn, hlt'⟩ := tells_bytes ht HXB.out; have HS17 := Lib.hid hs; have HB17 : Hid (Below w13.heap.size w13 w17) := Lib.hid (HB16.out.trans (hb.mono HB16.out.size)); have HE17 : Hid (Below w16.heap.size w16 w17) := Lib.hid hb; clear ht hs hb hn hlt')
        | (go_at_call 15; (with_reducible refine ((HTR.out w13 _ _ _ rfl HD13.out (by exact Below.refl _ _)).1).mono ?_); rintro e w14 ht; obtain ⟨b14, o14, c14, rfl, hs, -, -, hb, hn, hlt'⟩ := tells_bytes ht HXB.out; have HS14 := Lib.hid hs; have HB14 : Hid (Below w13.heap.size w13 w14) := Lib.hid hb; clear ht hs hb hn hlt')
        | (go_at_call 14; refine (HCR.out w12 HL12.out).mono ?_; rintro e w13 ⟨g2, rfl, hl, hb, -⟩; have HC13 := Lib.hid hl; have HD13 := Lib.hid (live_on HL12.out hb); have HY13 : Hid (w13.heap[by']? = w5.heap[by']?) := Lib.hid ((hb.block by' (HL12.out.lt by' HA4.out)).trans HY12.out); clear hl hb)
        | (at_builtin; refine wpList_slc HR.out rfl (.tmp 135) (.tmp 136) 28 rfl rfl rfl (slc_below HSX4.out (below_alloc W4 _)) (bytes_src Try.underlying28 (bytes_alloc W4 [9] (by decide) (by unfold maxLen; decide) (0, 0)) rfl) rfl (by unfold maxLen; decide) (by decide) ?_; intro a12 c12 b12 w12 h1 h2 h3; have HL12 : Hid (Live w w12 (SK3 X) g A) := Lib.hid (live_turned (live_on HL4.out (below_alloc W4 _)) h2 (fun k e => by cases e; exact ⟨HA2.out, HNX.out.2⟩)); have HY12 : Hid (w12.heap[by']? = w5.heap[by']?) := Lib.hid ((h2.block by' (by rw [size_alloc]; exact Nat.lt_succ_of_lt (HL4.out.lt by' HA4.out)) (fun e => HNX.out.1 (Option.some.inj e))).trans (((below_alloc W4 _).block by' (HL4.out.lt by' HA4.out)).trans HY4.out)); clear h1 h2 h3))
      have HK17 : Hid (∀ V, Below w17.heap.size w17 V → (convert 28 9 (.slice (some ⟨by', oy, none⟩) 512 c5)).run Try.prog V = .ok (.string so) V ∧ (convert 28 9 (.slice (some ⟨by', oy, none⟩) 9 c5)).run Try.prog V = .ok (.string sp) V ∧ (convert 28 9 (.slice (some ⟨b14, o14, none⟩) 512 c14)).run Try.prog V = .ok (.string so) V ∧ (convert 28 9 (.slice (some ⟨b15, o15, none⟩) 512 c15)).run Try.prog V = .ok (.string so) V ∧ (convert 28 9 (.slice (some ⟨b16, o16, none⟩) 9 c16)).run Try.prog V = .ok (.string sp) V ∧ (convert 28 9 (.slice (some ⟨b17, o17, none⟩) 512 c17)).run Try.prog V = .ok (.string so) V) := Lib.hid (fun V hV => by
        have hs13 := HB17.out.size
        obtain ⟨ky, ky9⟩ := HCV.out V ((hV.block by' (Nat.lt_of_lt_of_le (HD13.out.lt by' HA4.out) hs13)).trans ((HB17.out.block by' (HD13.out.lt by' HA4.out)).trans HY13.out))
        have kp := conv_any (slc_bytes (slc_below (slc_below (slc_below (slc_below HS14.out HE15.out) HE16.out) HE17.out) hV) HXB.out) HLX.out c14
        have kl := conv_any (slc_bytes (slc_below (slc_below (slc_below HS15.out HE16.out) HE17.out) hV) HXB.out) HLX.out c15
        have km := conv_any (slc_bytes (slc_below (slc_below HS16.out HE17.out) hV) HX9.out) (k := 9) (by rw [List.length_take, HLX.out]; rfl) c16
        have kq := conv_any (slc_bytes (slc_below HS17.out hV) HXB.out) HLX.out c17
        rw [← HSO.out] at kp kl kq
        rw [← HSP.out] at km
        exact ⟨ky, ky9, kp, kl, km, kq⟩)
      have HBz : Hid (Below w17.heap.size w17 w17) := Lib.hid (Below.refl _ _)
      obtain ⟨ky, ky9, kp, kl, km, kq⟩ := HK17.out w17 HBz.out
      go_region_held3 (fun V => (convert 28 9 (.slice (some ⟨by', oy, none⟩) 512 c5)).run Try.prog V = .ok (.string so) V ∧ (convert 28 9 (.slice (some ⟨by', oy, none⟩) 9 c5)).run Try.prog V = .ok (.string sp) V ∧ (convert 28 9 (.slice (some ⟨b14, o14, none⟩) 512 c14)).run Try.prog V = .ok (.string so) V ∧ (convert 28 9 (.slice (some ⟨b15, o15, none⟩) 512 c15)).run Try.prog V = .ok (.string so) V ∧ (convert 28 9 (.slice (some ⟨b16, o16, none⟩) 9 c16)).run Try.prog V = .ok (.string sp) V ∧ (convert 28 9 (.slice (some ⟨b17, o17, none⟩) 512 c17)).run Try.prog V = .ok (.string so) V) (exact HK17.out _ (by repeat (first | exact HBz.out | refine Below.drew ?_)))
        (first | (fail))
      go_wp2
      go_ret
      exact ⟨rfl, (HD13.out.below.trans (HB17.out.mono HD13.out.below.size)).drew⟩
end Go.Proofs.Ytikcanbhdickgaa
