/- Cells laid in, taken out, replaced, byte by byte: the walk of the law. -/
import Derived.Test.YtmojfhleelhghaaPagRefRem
import Derived.Test.YtmojfhleelhghaaPagLens
import Derived.Test.YtmojfhleelhghaaPagCompact
import Derived.Test.YtmojfhleelhghaaPagAwake
import Derived.Test.YtmojfhleelhghaaPagLays
import Derived.Laws.IdiomStrings
namespace Go.Proofs.Ytmojfhleelhghaa
open Go.ChangeShapes Go.WideShapes Go.ChangeAt Go.RowKit

theorem conv_any {w : World} {a : Option Addr} {zs : List Nat} {k : Nat} (hb : BytesAt w a zs) (hk : zs.length = k) (cap : Nat) : (convert 22 9 (.slice a k cap)).run Try.prog w = .ok (.string (str zs)) w := by
  subst hk
  cases a with
  | none =>
    obtain rfl : zs = [] := by
      cases zs with
      | nil => rfl
      | cons x l =>
        obtain ⟨b, o, e, _⟩ := hb.2.2 0 (by simp)
        cases e
    exact run_convert_bytes_nil w 22 5 Try.underlying22 Try.underlying5 _ _ 9 Try.underlying9
  | some ad => exact conv_bytes hb cap
attribute [local irreducible] str
theorem told_any {a b : Option Addr} {c d k : Nat} {zs : List Nat} (n : Int) {w : World} (hk : zs.length = k) (ha : BytesAt w a zs) (hb : BytesAt w b zs) :
    Calls Try.prog 11 #[.slice a k c, .int .i64 n, .slice b k d, .int .i64 n] w fun e w' => e = .returned (.bool true) ∧ w = w' := by
  have k1 := conv_any ha hk c
  have k2 := conv_any hb hk d
  clear ha hb hk
  go_enter Try.func11, Try.ntmps11
  go_wp2
  go_ret
  exact ⟨rfl, rfl⟩
/-- An answer that is these bytes, and this number. -/
def Tells (w : World) (R : List Nat) (k : Nat) (n : Int) (e : Ending) (w' : World) : Prop := ∃ a c, e = .returned (.tuple #[.slice a k c, .int .i64 n]) ∧ R.length = k ∧ BytesAt w' a R ∧ Below w.heap.size w w'
/-- An answer that is these bytes, and whether there was room. -/
def Fits (w : World) (R : List Nat) (k : Nat) (b : Bool) (e : Ending) (w' : World) : Prop := ∃ a c, e = .returned (.tuple #[.slice a k c, .bool b]) ∧ R.length = k ∧ BytesAt w' a R ∧ Below w.heap.size w w'
theorem bytes_empty (w : World) : BytesAt w none [] := ⟨fun c hc => (by cases hc), Nat.zero_le _, fun j hj => absurd hj (Nat.not_lt_zero _)⟩
theorem tells_page {w : World} {R : List Nat} {e : Ending} {w' : World} (hl : R.length = 512) (hz : ∀ c ∈ R, c < 256) (h : PageOut w R e w') : Tells w R 512 0 e w' := by
  obtain ⟨g, rfl, hc, _, hb⟩ := h
  exact ⟨_, _, rfl, hl, cells_bytes hc hz (page_len hl), hb⟩
theorem tells_no {w : World} (n : Int) {e : Ending} {w' : World} (h : e = .returned (.tuple #[.slice none 0 0, .int .i64 n]) ∧ Below w.heap.size w w') : Tells w [] 0 n e w' := by
  obtain ⟨rfl, hb⟩ := h
  exact ⟨_, _, rfl, rfl, bytes_empty w', hb⟩
theorem fits_page {w : World} {R : List Nat} {e : Ending} {w' : World} (hl : R.length = 512) (hz : ∀ c ∈ R, c < 256) (h : InsOut w R e w') : Fits w R 512 true e w' := by
  obtain ⟨g, c, rfl, hc, _, hb⟩ := h
  exact ⟨_, _, rfl, hl, has_bytes hc hz (page_len hl), hb⟩
theorem fits_no {w : World} {e : Ending} {w' : World} (h : e = .returned (.tuple #[.slice none 0 0, .bool false]) ∧ Below w.heap.size w w') : Fits w [] 0 false e w' := by
  obtain ⟨rfl, hb⟩ := h
  exact ⟨_, _, rfl, rfl, bytes_empty w', hb⟩
theorem removed_bytes {zs : List Nat} (hz : ∀ c ∈ zs, c < 256) (hg : Good zs) {i : Nat} (hi : i < rd zs 14 2) : ∀ c ∈ removed zs i, c < 256 := by
  have hl := hg.1
  have h1 := hg.2.2.1
  have h2 := hg.2.2.2.1
  have hF := hdOf_fits hz (by omega : 26 ≤ zs.length)
  rw [← removed_eq]
  refine wr_bytes (lay_bytes _ _ (splice_bytes hz (fun c h => hz c (List.mem_of_mem_drop (List.mem_of_mem_take h))) _) _) ⟨hF.1, hF.2.1, hF.2.2.1, hF.2.2.2.1, hF.2.2.2.2.1, hF.2.2.2.2.2.1, by show rd zs 14 2 - 1 < 65536; omega, ?_⟩
  show (if rd zs 14 2 = 1 then 512 else rd zs 16 2) < 65536
  split <;> omega
theorem repOf_bytes {zs cs : List Nat} (hz : ∀ c ∈ zs, c < 256) (hg : Good zs) (hc : ∀ c ∈ cs, c < 256) {i : Nat} (hi : i < rd zs 14 2) : ∀ c ∈ repOf zs i cs, c < 256 := by
  have hl := hg.1
  have h1 := hg.2.2.1
  have h2 := hg.2.2.2.1
  have hF := hdOf_fits hz (by omega : 26 ≤ zs.length)
  have hz1 := slotSet_bytes hz i (rd zs 16 2) 0
  rw [repOf]
  by_cases h : cs.length ≤ rd zs (28 + 4 * i) 2
  · rw [if_pos h, repIn]
    exact slotSet_bytes (splice_bytes hz hc _) _ _ _
  · rw [if_neg h]
    by_cases h' : 26 + 4 * rd zs 14 2 + cs.length ≤ rd zs 16 2
    · rw [if_pos h']
      exact pushed_bytes hz1 hc ⟨hF.1, hF.2.1, hF.2.2.1, hF.2.2.2.1, hF.2.2.2.2.1, hF.2.2.2.2.2.1, hF.2.2.2.2.2.2.1, by show rd zs 16 2 - cs.length < 65536; omega⟩
    · rw [if_neg h']
      refine pushed_bytes ?_ hc ⟨hF.1, hF.2.1, hF.2.2.1, hF.2.2.2.1, hF.2.2.2.2.1, hF.2.2.2.2.2.1, hF.2.2.2.2.2.2.1, by show 512 - _ - cs.length < 65536; omega⟩
      rw [← repZ_relaid hz hg hi]
      exact (repZ_comp hz hg hi).byte
end Go.Proofs.Ytmojfhleelhghaa
namespace Go.Proofs.Ytmojfhleelhghaa
open Go.ChangeShapes Go.WideShapes Go.ChangeAt Go.RowKit

set_option maxHeartbeats 1000000 in
theorem changes_bad {a ca : Option Addr} {cap ccap k0 m : Nat} {i : Int} {w : World}
    (HI : Hid (∀ V, Below w.heap.size w V → Calls Try.prog 6 #[.slice a k0 cap, .int .i64 i, .slice ca m ccap] V (Tells V [] 0 4)))
    (HR : Hid (∀ V, Below w.heap.size w V → Calls Try.prog 7 #[.slice a k0 cap, .int .i64 i] V (Tells V [] 0 4)))
    (HP : Hid (∀ V, Below w.heap.size w V → Calls Try.prog 8 #[.slice a k0 cap, .int .i64 i, .slice ca m ccap] V (Tells V [] 0 4)))
    (HG : Hid (∀ V, Below w.heap.size w V → Calls Try.prog 10 #[.slice a k0 cap] V fun e w' => e = .returned (.bool false) ∧ Below V.heap.size V w')) :
    Calls Try.prog 3 #[.slice a k0 cap, .int .i64 i, .slice ca m ccap] w fun e w' => e = .returned (.bool true) ∧ Below w.heap.size w w' := by
  have HB0 : Hid (Below w.heap.size w w) := Lib.hid (Below.refl _ _)
  go_enter Try.func3, Try.ntmps3
  go_wp2_with fail
  refine (HI.out w HB0.out).mono ?_
  rintro e w1 ⟨a1, c1, rfl, hl1, hby, hbel⟩
  have HY1 := Lib.hid hby
  have HB1 : Hid (Below w.heap.size w w1) := Lib.hid (HB0.out.trans (hbel.mono HB0.out.size))
  clear hby hbel
  go_wp2_with fail
  refine (HR.out w1 HB1.out).mono ?_
  rintro e w2 ⟨a2, c2, rfl, hl2, hby, hbel⟩
  have HY2 := Lib.hid hby
  have HB2 : Hid (Below w.heap.size w w2) := Lib.hid (HB1.out.trans (hbel.mono HB1.out.size))
  have HY1 := Lib.hid (bytes_below HY1.out hbel)
  clear hby hbel
  go_wp2_with fail
  refine (HP.out w2 HB2.out).mono ?_
  rintro e w3 ⟨a3, c3, rfl, hl3, hby, hbel⟩
  have HY3 := Lib.hid hby
  have HB3 : Hid (Below w.heap.size w w3) := Lib.hid (HB2.out.trans (hbel.mono HB2.out.size))
  have HY1 := Lib.hid (bytes_below HY1.out hbel)
  have HY2 := Lib.hid (bytes_below HY2.out hbel)
  clear hby hbel
  go_wp2_with fail
  refine (awake_any w3).mono ?_
  rintro e w4 ⟨rfl, hbel⟩
  have HB4 : Hid (Below w.heap.size w w4) := Lib.hid (HB3.out.trans (hbel.mono HB3.out.size))
  have HY1 := Lib.hid (bytes_below HY1.out hbel)
  have HY2 := Lib.hid (bytes_below HY2.out hbel)
  have HY3 := Lib.hid (bytes_below HY3.out hbel)
  clear hbel
  go_wp2_with fail
  refine (HG.out w4 HB4.out).mono ?_
  rintro e w5 ⟨rfl, hbel⟩
  have HB5 : Hid (Below w.heap.size w w5) := Lib.hid (HB4.out.trans (hbel.mono HB4.out.size))
  have HY1 := Lib.hid (bytes_below HY1.out hbel)
  have HY2 := Lib.hid (bytes_below HY2.out hbel)
  have HY3 := Lib.hid (bytes_below HY3.out hbel)
  clear hbel
  go_wp2_with fail
  refine (told_any 4 hl1 HY1.out (bytes_empty _)).mono ?_
  rintro e w' ⟨rfl, rfl⟩
  go_wp2_with fail
  refine (told_any 4 hl2 HY2.out (bytes_empty _)).mono ?_
  rintro e w' ⟨rfl, rfl⟩
  go_wp2_with fail
  refine (told_any 4 hl3 HY3.out (bytes_empty _)).mono ?_
  rintro e w' ⟨rfl, rfl⟩
  go_wp2
  go_ret
  exact ⟨rfl, HB5.out⟩

set_option maxHeartbeats 1000000 in
theorem changes_neg {a ca : Option Addr} {cap ccap k0 m : Nat} {i : Int} {n : Nat} {w : World}
    (HI : Hid (∀ V, Below w.heap.size w V → Calls Try.prog 6 #[.slice a k0 cap, .int .i64 i, .slice ca m ccap] V (Tells V [] 0 1)))
    (HR : Hid (∀ V, Below w.heap.size w V → Calls Try.prog 7 #[.slice a k0 cap, .int .i64 i] V (Tells V [] 0 1)))
    (HP : Hid (∀ V, Below w.heap.size w V → Calls Try.prog 8 #[.slice a k0 cap, .int .i64 i, .slice ca m ccap] V (Tells V [] 0 1)))
    (HG : Hid (∀ V, Below w.heap.size w V → Calls Try.prog 10 #[.slice a k0 cap] V fun e w' => e = .returned (.bool true) ∧ Below V.heap.size V w'))
    (HC : Hid (∀ V, Below w.heap.size w V → Calls Try.prog 12 #[.slice a k0 cap] V fun e w' => e = .returned (.int .i64 (n : Int)) ∧ V = w'))
    (hi : i < 0) :
    Calls Try.prog 3 #[.slice a k0 cap, .int .i64 i, .slice ca m ccap] w fun e w' => e = .returned (.bool true) ∧ Below w.heap.size w w' := by
  have HB0 : Hid (Below w.heap.size w w) := Lib.hid (Below.refl _ _)
  go_enter Try.func3, Try.ntmps3
  go_wp2_with fail
  refine (HI.out w HB0.out).mono ?_
  rintro e w1 ⟨a1, c1, rfl, hl1, hby, hbel⟩
  have HY1 := Lib.hid hby
  have HB1 : Hid (Below w.heap.size w w1) := Lib.hid (HB0.out.trans (hbel.mono HB0.out.size))
  clear hby hbel
  go_wp2_with fail
  refine (HR.out w1 HB1.out).mono ?_
  rintro e w2 ⟨a2, c2, rfl, hl2, hby, hbel⟩
  have HY2 := Lib.hid hby
  have HB2 : Hid (Below w.heap.size w w2) := Lib.hid (HB1.out.trans (hbel.mono HB1.out.size))
  have HY1 := Lib.hid (bytes_below HY1.out hbel)
  clear hby hbel
  go_wp2_with fail
  refine (HP.out w2 HB2.out).mono ?_
  rintro e w3 ⟨a3, c3, rfl, hl3, hby, hbel⟩
  have HY3 := Lib.hid hby
  have HB3 : Hid (Below w.heap.size w w3) := Lib.hid (HB2.out.trans (hbel.mono HB2.out.size))
  have HY1 := Lib.hid (bytes_below HY1.out hbel)
  have HY2 := Lib.hid (bytes_below HY2.out hbel)
  clear hby hbel
  go_wp2_with fail
  refine (awake_any w3).mono ?_
  rintro e w4 ⟨rfl, hbel⟩
  have HB4 : Hid (Below w.heap.size w w4) := Lib.hid (HB3.out.trans (hbel.mono HB3.out.size))
  have HY1 := Lib.hid (bytes_below HY1.out hbel)
  have HY2 := Lib.hid (bytes_below HY2.out hbel)
  have HY3 := Lib.hid (bytes_below HY3.out hbel)
  clear hbel
  go_wp2_with fail
  refine (HG.out w4 HB4.out).mono ?_
  rintro e w5 ⟨rfl, hbel⟩
  have HB5 : Hid (Below w.heap.size w w5) := Lib.hid (HB4.out.trans (hbel.mono HB4.out.size))
  have HY1 := Lib.hid (bytes_below HY1.out hbel)
  have HY2 := Lib.hid (bytes_below HY2.out hbel)
  have HY3 := Lib.hid (bytes_below HY3.out hbel)
  clear hbel
  go_wp2_with fail
  refine (HC.out w5 HB5.out).mono ?_
  rintro e w' ⟨rfl, rfl⟩
  go_wp2_with fail
  refine (told_any 1 hl1 HY1.out (bytes_empty _)).mono ?_
  rintro e w' ⟨rfl, rfl⟩
  go_wp2_with fail
  refine (told_any 1 hl2 HY2.out (bytes_empty _)).mono ?_
  rintro e w' ⟨rfl, rfl⟩
  go_wp2_with fail
  refine (told_any 1 hl3 HY3.out (bytes_empty _)).mono ?_
  rintro e w' ⟨rfl, rfl⟩
  go_wp2
  go_ret
  exact ⟨rfl, HB5.out⟩

set_option maxHeartbeats 1000000 in
theorem changes_out {a ca : Option Addr} {cap ccap k0 m : Nat} {i n : Nat} {w : World}
    (HI : Hid (∀ V, Below w.heap.size w V → Calls Try.prog 6 #[.slice a k0 cap, .int .i64 (i : Int), .slice ca m ccap] V (Tells V [] 0 1)))
    (HR : Hid (∀ V, Below w.heap.size w V → Calls Try.prog 7 #[.slice a k0 cap, .int .i64 (i : Int)] V (Tells V [] 0 1)))
    (HP : Hid (∀ V, Below w.heap.size w V → Calls Try.prog 8 #[.slice a k0 cap, .int .i64 (i : Int), .slice ca m ccap] V (Tells V [] 0 1)))
    (HG : Hid (∀ V, Below w.heap.size w V → Calls Try.prog 10 #[.slice a k0 cap] V fun e w' => e = .returned (.bool true) ∧ Below V.heap.size V w'))
    (HC : Hid (∀ V, Below w.heap.size w V → Calls Try.prog 12 #[.slice a k0 cap] V fun e w' => e = .returned (.int .i64 (n : Int)) ∧ V = w'))
    (hi : n < i) :
    Calls Try.prog 3 #[.slice a k0 cap, .int .i64 (i : Int), .slice ca m ccap] w fun e w' => e = .returned (.bool true) ∧ Below w.heap.size w w' := by
  have HB0 : Hid (Below w.heap.size w w) := Lib.hid (Below.refl _ _)
  go_enter Try.func3, Try.ntmps3
  go_wp2_with fail
  refine (HI.out w HB0.out).mono ?_
  rintro e w1 ⟨a1, c1, rfl, hl1, hby, hbel⟩
  have HY1 := Lib.hid hby
  have HB1 : Hid (Below w.heap.size w w1) := Lib.hid (HB0.out.trans (hbel.mono HB0.out.size))
  clear hby hbel
  go_wp2_with fail
  refine (HR.out w1 HB1.out).mono ?_
  rintro e w2 ⟨a2, c2, rfl, hl2, hby, hbel⟩
  have HY2 := Lib.hid hby
  have HB2 : Hid (Below w.heap.size w w2) := Lib.hid (HB1.out.trans (hbel.mono HB1.out.size))
  have HY1 := Lib.hid (bytes_below HY1.out hbel)
  clear hby hbel
  go_wp2_with fail
  refine (HP.out w2 HB2.out).mono ?_
  rintro e w3 ⟨a3, c3, rfl, hl3, hby, hbel⟩
  have HY3 := Lib.hid hby
  have HB3 : Hid (Below w.heap.size w w3) := Lib.hid (HB2.out.trans (hbel.mono HB2.out.size))
  have HY1 := Lib.hid (bytes_below HY1.out hbel)
  have HY2 := Lib.hid (bytes_below HY2.out hbel)
  clear hby hbel
  go_wp2_with fail
  refine (awake_any w3).mono ?_
  rintro e w4 ⟨rfl, hbel⟩
  have HB4 : Hid (Below w.heap.size w w4) := Lib.hid (HB3.out.trans (hbel.mono HB3.out.size))
  have HY1 := Lib.hid (bytes_below HY1.out hbel)
  have HY2 := Lib.hid (bytes_below HY2.out hbel)
  have HY3 := Lib.hid (bytes_below HY3.out hbel)
  clear hbel
  go_wp2_with fail
  refine (HG.out w4 HB4.out).mono ?_
  rintro e w5 ⟨rfl, hbel⟩
  have HB5 : Hid (Below w.heap.size w w5) := Lib.hid (HB4.out.trans (hbel.mono HB4.out.size))
  have HY1 := Lib.hid (bytes_below HY1.out hbel)
  have HY2 := Lib.hid (bytes_below HY2.out hbel)
  have HY3 := Lib.hid (bytes_below HY3.out hbel)
  clear hbel
  go_wp2_with fail
  refine (HC.out w5 HB5.out).mono ?_
  rintro e w' ⟨rfl, rfl⟩
  go_wp2_with fail
  refine (told_any 1 hl1 HY1.out (bytes_empty _)).mono ?_
  rintro e w' ⟨rfl, rfl⟩
  go_wp2_with fail
  refine (told_any 1 hl2 HY2.out (bytes_empty _)).mono ?_
  rintro e w' ⟨rfl, rfl⟩
  go_wp2_with fail
  refine (told_any 1 hl3 HY3.out (bytes_empty _)).mono ?_
  rintro e w' ⟨rfl, rfl⟩
  go_wp2
  go_ret
  exact ⟨rfl, HB5.out⟩

set_option maxHeartbeats 1000000 in
theorem changes_end_room {a ca : Option Addr} {cap ccap k0 m : Nat} {i n : Nat} {RI : List Nat} {w : World}
    (HI : Hid (∀ V, Below w.heap.size w V → Calls Try.prog 6 #[.slice a k0 cap, .int .i64 (i : Int), .slice ca m ccap] V (Tells V RI 512 0)))
    (HR : Hid (∀ V, Below w.heap.size w V → Calls Try.prog 7 #[.slice a k0 cap, .int .i64 (i : Int)] V (Tells V [] 0 1)))
    (HP : Hid (∀ V, Below w.heap.size w V → Calls Try.prog 8 #[.slice a k0 cap, .int .i64 (i : Int), .slice ca m ccap] V (Tells V [] 0 1)))
    (HG : Hid (∀ V, Below w.heap.size w V → Calls Try.prog 10 #[.slice a k0 cap] V fun e w' => e = .returned (.bool true) ∧ Below V.heap.size V w'))
    (HC : Hid (∀ V, Below w.heap.size w V → Calls Try.prog 12 #[.slice a k0 cap] V fun e w' => e = .returned (.int .i64 (n : Int)) ∧ V = w'))
    (HA : Hid (∀ V, Below w.heap.size w V → Calls Try.prog 13 #[.slice a k0 cap, .int .i64 (i : Int), .slice ca m ccap] V (Fits V RI 512 true)))
    (hi : i = n) :
    Calls Try.prog 3 #[.slice a k0 cap, .int .i64 (i : Int), .slice ca m ccap] w fun e w' => e = .returned (.bool true) ∧ Below w.heap.size w w' := by
  subst hi
  have HB0 : Hid (Below w.heap.size w w) := Lib.hid (Below.refl _ _)
  go_enter Try.func3, Try.ntmps3
  go_wp2_with fail
  refine (HI.out w HB0.out).mono ?_
  rintro e w1 ⟨a1, c1, rfl, hl1, hby, hbel⟩
  have HY1 := Lib.hid hby
  have HB1 : Hid (Below w.heap.size w w1) := Lib.hid (HB0.out.trans (hbel.mono HB0.out.size))
  clear hby hbel
  go_wp2_with fail
  refine (HR.out w1 HB1.out).mono ?_
  rintro e w2 ⟨a2, c2, rfl, hl2, hby, hbel⟩
  have HY2 := Lib.hid hby
  have HB2 : Hid (Below w.heap.size w w2) := Lib.hid (HB1.out.trans (hbel.mono HB1.out.size))
  have HY1 := Lib.hid (bytes_below HY1.out hbel)
  clear hby hbel
  go_wp2_with fail
  refine (HP.out w2 HB2.out).mono ?_
  rintro e w3 ⟨a3, c3, rfl, hl3, hby, hbel⟩
  have HY3 := Lib.hid hby
  have HB3 : Hid (Below w.heap.size w w3) := Lib.hid (HB2.out.trans (hbel.mono HB2.out.size))
  have HY1 := Lib.hid (bytes_below HY1.out hbel)
  have HY2 := Lib.hid (bytes_below HY2.out hbel)
  clear hby hbel
  go_wp2_with fail
  refine (awake_any w3).mono ?_
  rintro e w4 ⟨rfl, hbel⟩
  have HB4 : Hid (Below w.heap.size w w4) := Lib.hid (HB3.out.trans (hbel.mono HB3.out.size))
  have HY1 := Lib.hid (bytes_below HY1.out hbel)
  have HY2 := Lib.hid (bytes_below HY2.out hbel)
  have HY3 := Lib.hid (bytes_below HY3.out hbel)
  clear hbel
  go_wp2_with fail
  refine (HG.out w4 HB4.out).mono ?_
  rintro e w5 ⟨rfl, hbel⟩
  have HB5 : Hid (Below w.heap.size w w5) := Lib.hid (HB4.out.trans (hbel.mono HB4.out.size))
  have HY1 := Lib.hid (bytes_below HY1.out hbel)
  have HY2 := Lib.hid (bytes_below HY2.out hbel)
  have HY3 := Lib.hid (bytes_below HY3.out hbel)
  clear hbel
  go_wp2_with fail
  refine (HC.out w5 HB5.out).mono ?_
  rintro e w' ⟨rfl, rfl⟩
  go_wp2_with fail
  refine (HA.out w5 HB5.out).mono ?_
  rintro e w6 ⟨a4, c4, rfl, hl4, hby, hbel⟩
  have HY4 := Lib.hid hby
  have HB6 : Hid (Below w.heap.size w w6) := Lib.hid (HB5.out.trans (hbel.mono HB5.out.size))
  have HY1 := Lib.hid (bytes_below HY1.out hbel)
  have HY2 := Lib.hid (bytes_below HY2.out hbel)
  have HY3 := Lib.hid (bytes_below HY3.out hbel)
  clear hby hbel
  go_wp2_with fail
  refine (told_any 0 hl1 HY1.out HY4.out).mono ?_
  rintro e w' ⟨rfl, rfl⟩
  go_wp2_with fail
  refine (told_any 1 hl2 HY2.out (bytes_empty _)).mono ?_
  rintro e w' ⟨rfl, rfl⟩
  go_wp2_with fail
  refine (told_any 1 hl3 HY3.out (bytes_empty _)).mono ?_
  rintro e w' ⟨rfl, rfl⟩
  go_wp2
  go_ret
  exact ⟨rfl, HB6.out⟩

set_option maxHeartbeats 1000000 in
theorem changes_in_room_room {a ca : Option Addr} {cap ccap k0 m : Nat} {i n : Nat} {RI : List Nat} {RP : List Nat} {RR : List Nat} {w : World}
    (HI : Hid (∀ V, Below w.heap.size w V → Calls Try.prog 6 #[.slice a k0 cap, .int .i64 (i : Int), .slice ca m ccap] V (Tells V RI 512 0)))
    (HR : Hid (∀ V, Below w.heap.size w V → Calls Try.prog 7 #[.slice a k0 cap, .int .i64 (i : Int)] V (Tells V RR 512 0)))
    (HP : Hid (∀ V, Below w.heap.size w V → Calls Try.prog 8 #[.slice a k0 cap, .int .i64 (i : Int), .slice ca m ccap] V (Tells V RP 512 0)))
    (HG : Hid (∀ V, Below w.heap.size w V → Calls Try.prog 10 #[.slice a k0 cap] V fun e w' => e = .returned (.bool true) ∧ Below V.heap.size V w'))
    (HC : Hid (∀ V, Below w.heap.size w V → Calls Try.prog 12 #[.slice a k0 cap] V fun e w' => e = .returned (.int .i64 (n : Int)) ∧ V = w'))
    (HA : Hid (∀ V, Below w.heap.size w V → Calls Try.prog 13 #[.slice a k0 cap, .int .i64 (i : Int), .slice ca m ccap] V (Fits V RI 512 true)))
    (HE : Hid (∀ V, Below w.heap.size w V → Calls Try.prog 14 #[.slice a k0 cap, .int .i64 (i : Int), .slice ca m ccap] V (Fits V RP 512 true)))
    (HD : Hid (∀ V, Below w.heap.size w V → Calls Try.prog 15 #[.slice a k0 cap, .int .i64 (i : Int)] V (CompOut V RR)))
    (hi : i < n) (hRl : RR.length = 512) (hRb : ∀ c ∈ RR, c < 256) :
    Calls Try.prog 3 #[.slice a k0 cap, .int .i64 (i : Int), .slice ca m ccap] w fun e w' => e = .returned (.bool true) ∧ Below w.heap.size w w' := by
  have HB0 : Hid (Below w.heap.size w w) := Lib.hid (Below.refl _ _)
  go_enter Try.func3, Try.ntmps3
  go_wp2_with fail
  refine (HI.out w HB0.out).mono ?_
  rintro e w1 ⟨a1, c1, rfl, hl1, hby, hbel⟩
  have HY1 := Lib.hid hby
  have HB1 : Hid (Below w.heap.size w w1) := Lib.hid (HB0.out.trans (hbel.mono HB0.out.size))
  clear hby hbel
  go_wp2_with fail
  refine (HR.out w1 HB1.out).mono ?_
  rintro e w2 ⟨a2, c2, rfl, hl2, hby, hbel⟩
  have HY2 := Lib.hid hby
  have HB2 : Hid (Below w.heap.size w w2) := Lib.hid (HB1.out.trans (hbel.mono HB1.out.size))
  have HY1 := Lib.hid (bytes_below HY1.out hbel)
  clear hby hbel
  go_wp2_with fail
  refine (HP.out w2 HB2.out).mono ?_
  rintro e w3 ⟨a3, c3, rfl, hl3, hby, hbel⟩
  have HY3 := Lib.hid hby
  have HB3 : Hid (Below w.heap.size w w3) := Lib.hid (HB2.out.trans (hbel.mono HB2.out.size))
  have HY1 := Lib.hid (bytes_below HY1.out hbel)
  have HY2 := Lib.hid (bytes_below HY2.out hbel)
  clear hby hbel
  go_wp2_with fail
  refine (awake_any w3).mono ?_
  rintro e w4 ⟨rfl, hbel⟩
  have HB4 : Hid (Below w.heap.size w w4) := Lib.hid (HB3.out.trans (hbel.mono HB3.out.size))
  have HY1 := Lib.hid (bytes_below HY1.out hbel)
  have HY2 := Lib.hid (bytes_below HY2.out hbel)
  have HY3 := Lib.hid (bytes_below HY3.out hbel)
  clear hbel
  go_wp2_with fail
  refine (HG.out w4 HB4.out).mono ?_
  rintro e w5 ⟨rfl, hbel⟩
  have HB5 : Hid (Below w.heap.size w w5) := Lib.hid (HB4.out.trans (hbel.mono HB4.out.size))
  have HY1 := Lib.hid (bytes_below HY1.out hbel)
  have HY2 := Lib.hid (bytes_below HY2.out hbel)
  have HY3 := Lib.hid (bytes_below HY3.out hbel)
  clear hbel
  go_wp2_with fail
  refine (HC.out w5 HB5.out).mono ?_
  rintro e w' ⟨rfl, rfl⟩
  go_wp2_with fail
  refine (HA.out w5 HB5.out).mono ?_
  rintro e w6 ⟨a4, c4, rfl, hl4, hby, hbel⟩
  have HY4 := Lib.hid hby
  have HB6 : Hid (Below w.heap.size w w6) := Lib.hid (HB5.out.trans (hbel.mono HB5.out.size))
  have HY1 := Lib.hid (bytes_below HY1.out hbel)
  have HY2 := Lib.hid (bytes_below HY2.out hbel)
  have HY3 := Lib.hid (bytes_below HY3.out hbel)
  clear hby hbel
  go_wp2_with fail
  refine (told_any 0 hl1 HY1.out HY4.out).mono ?_
  rintro e w' ⟨rfl, rfl⟩
  go_wp2_with fail
  refine (HE.out w6 HB6.out).mono ?_
  rintro e w7 ⟨a5, c5, rfl, hl5, hby, hbel⟩
  have HY5 := Lib.hid hby
  have HB7 : Hid (Below w.heap.size w w7) := Lib.hid (HB6.out.trans (hbel.mono HB6.out.size))
  have HY2 := Lib.hid (bytes_below HY2.out hbel)
  have HY3 := Lib.hid (bytes_below HY3.out hbel)
  clear hby hbel
  go_wp2_with fail
  refine (HD.out w7 HB7.out).mono ?_
  rintro e w8 ⟨g8, c8, rfl, hh8, _, _, _, hbel⟩
  have HY8 : Hid (BytesAt w8 (some ⟨g8, 0, none⟩) RR) := Lib.hid (has_bytes hh8 hRb (page_len hRl))
  have HB8 : Hid (Below w.heap.size w w8) := Lib.hid (HB7.out.trans (hbel.mono HB7.out.size))
  have HY2 := Lib.hid (bytes_below HY2.out hbel)
  have HY3 := Lib.hid (bytes_below HY3.out hbel)
  have HY5 := Lib.hid (bytes_below HY5.out hbel)
  clear hh8 hbel
  go_wp2_with fail
  refine (told_any 0 hl2 HY2.out HY8.out).mono ?_
  rintro e w' ⟨rfl, rfl⟩
  go_wp2_with fail
  refine (told_any 0 hl3 HY3.out HY5.out).mono ?_
  rintro e w' ⟨rfl, rfl⟩
  go_wp2
  go_ret
  exact ⟨rfl, HB8.out⟩

set_option maxHeartbeats 1000000 in
theorem changes_in_room_full {a ca : Option Addr} {cap ccap k0 m : Nat} {i n : Nat} {RI : List Nat} {RR : List Nat} {w : World}
    (HI : Hid (∀ V, Below w.heap.size w V → Calls Try.prog 6 #[.slice a k0 cap, .int .i64 (i : Int), .slice ca m ccap] V (Tells V RI 512 0)))
    (HR : Hid (∀ V, Below w.heap.size w V → Calls Try.prog 7 #[.slice a k0 cap, .int .i64 (i : Int)] V (Tells V RR 512 0)))
    (HP : Hid (∀ V, Below w.heap.size w V → Calls Try.prog 8 #[.slice a k0 cap, .int .i64 (i : Int), .slice ca m ccap] V (Tells V [] 0 7)))
    (HG : Hid (∀ V, Below w.heap.size w V → Calls Try.prog 10 #[.slice a k0 cap] V fun e w' => e = .returned (.bool true) ∧ Below V.heap.size V w'))
    (HC : Hid (∀ V, Below w.heap.size w V → Calls Try.prog 12 #[.slice a k0 cap] V fun e w' => e = .returned (.int .i64 (n : Int)) ∧ V = w'))
    (HA : Hid (∀ V, Below w.heap.size w V → Calls Try.prog 13 #[.slice a k0 cap, .int .i64 (i : Int), .slice ca m ccap] V (Fits V RI 512 true)))
    (HE : Hid (∀ V, Below w.heap.size w V → Calls Try.prog 14 #[.slice a k0 cap, .int .i64 (i : Int), .slice ca m ccap] V (Fits V [] 0 false)))
    (HD : Hid (∀ V, Below w.heap.size w V → Calls Try.prog 15 #[.slice a k0 cap, .int .i64 (i : Int)] V (CompOut V RR)))
    (hi : i < n) (hRl : RR.length = 512) (hRb : ∀ c ∈ RR, c < 256) :
    Calls Try.prog 3 #[.slice a k0 cap, .int .i64 (i : Int), .slice ca m ccap] w fun e w' => e = .returned (.bool true) ∧ Below w.heap.size w w' := by
  have HB0 : Hid (Below w.heap.size w w) := Lib.hid (Below.refl _ _)
  go_enter Try.func3, Try.ntmps3
  go_wp2_with fail
  refine (HI.out w HB0.out).mono ?_
  rintro e w1 ⟨a1, c1, rfl, hl1, hby, hbel⟩
  have HY1 := Lib.hid hby
  have HB1 : Hid (Below w.heap.size w w1) := Lib.hid (HB0.out.trans (hbel.mono HB0.out.size))
  clear hby hbel
  go_wp2_with fail
  refine (HR.out w1 HB1.out).mono ?_
  rintro e w2 ⟨a2, c2, rfl, hl2, hby, hbel⟩
  have HY2 := Lib.hid hby
  have HB2 : Hid (Below w.heap.size w w2) := Lib.hid (HB1.out.trans (hbel.mono HB1.out.size))
  have HY1 := Lib.hid (bytes_below HY1.out hbel)
  clear hby hbel
  go_wp2_with fail
  refine (HP.out w2 HB2.out).mono ?_
  rintro e w3 ⟨a3, c3, rfl, hl3, hby, hbel⟩
  have HY3 := Lib.hid hby
  have HB3 : Hid (Below w.heap.size w w3) := Lib.hid (HB2.out.trans (hbel.mono HB2.out.size))
  have HY1 := Lib.hid (bytes_below HY1.out hbel)
  have HY2 := Lib.hid (bytes_below HY2.out hbel)
  clear hby hbel
  go_wp2_with fail
  refine (awake_any w3).mono ?_
  rintro e w4 ⟨rfl, hbel⟩
  have HB4 : Hid (Below w.heap.size w w4) := Lib.hid (HB3.out.trans (hbel.mono HB3.out.size))
  have HY1 := Lib.hid (bytes_below HY1.out hbel)
  have HY2 := Lib.hid (bytes_below HY2.out hbel)
  have HY3 := Lib.hid (bytes_below HY3.out hbel)
  clear hbel
  go_wp2_with fail
  refine (HG.out w4 HB4.out).mono ?_
  rintro e w5 ⟨rfl, hbel⟩
  have HB5 : Hid (Below w.heap.size w w5) := Lib.hid (HB4.out.trans (hbel.mono HB4.out.size))
  have HY1 := Lib.hid (bytes_below HY1.out hbel)
  have HY2 := Lib.hid (bytes_below HY2.out hbel)
  have HY3 := Lib.hid (bytes_below HY3.out hbel)
  clear hbel
  go_wp2_with fail
  refine (HC.out w5 HB5.out).mono ?_
  rintro e w' ⟨rfl, rfl⟩
  go_wp2_with fail
  refine (HA.out w5 HB5.out).mono ?_
  rintro e w6 ⟨a4, c4, rfl, hl4, hby, hbel⟩
  have HY4 := Lib.hid hby
  have HB6 : Hid (Below w.heap.size w w6) := Lib.hid (HB5.out.trans (hbel.mono HB5.out.size))
  have HY1 := Lib.hid (bytes_below HY1.out hbel)
  have HY2 := Lib.hid (bytes_below HY2.out hbel)
  have HY3 := Lib.hid (bytes_below HY3.out hbel)
  clear hby hbel
  go_wp2_with fail
  refine (told_any 0 hl1 HY1.out HY4.out).mono ?_
  rintro e w' ⟨rfl, rfl⟩
  go_wp2_with fail
  refine (HE.out w6 HB6.out).mono ?_
  rintro e w7 ⟨a5, c5, rfl, hl5, hby, hbel⟩
  have HY5 := Lib.hid hby
  have HB7 : Hid (Below w.heap.size w w7) := Lib.hid (HB6.out.trans (hbel.mono HB6.out.size))
  have HY2 := Lib.hid (bytes_below HY2.out hbel)
  have HY3 := Lib.hid (bytes_below HY3.out hbel)
  clear hby hbel
  go_wp2_with fail
  refine (HD.out w7 HB7.out).mono ?_
  rintro e w8 ⟨g8, c8, rfl, hh8, _, _, _, hbel⟩
  have HY8 : Hid (BytesAt w8 (some ⟨g8, 0, none⟩) RR) := Lib.hid (has_bytes hh8 hRb (page_len hRl))
  have HB8 : Hid (Below w.heap.size w w8) := Lib.hid (HB7.out.trans (hbel.mono HB7.out.size))
  have HY2 := Lib.hid (bytes_below HY2.out hbel)
  have HY3 := Lib.hid (bytes_below HY3.out hbel)
  have HY5 := Lib.hid (bytes_below HY5.out hbel)
  clear hh8 hbel
  go_wp2_with fail
  refine (told_any 0 hl2 HY2.out HY8.out).mono ?_
  rintro e w' ⟨rfl, rfl⟩
  go_wp2_with fail
  refine (told_any 7 hl3 HY3.out (bytes_empty _)).mono ?_
  rintro e w' ⟨rfl, rfl⟩
  go_wp2
  go_ret
  exact ⟨rfl, HB8.out⟩

set_option maxHeartbeats 1000000 in
theorem changes_end_full {a ca : Option Addr} {cap ccap k0 m : Nat} {i n : Nat} {w : World}
    (HI : Hid (∀ V, Below w.heap.size w V → Calls Try.prog 6 #[.slice a k0 cap, .int .i64 (i : Int), .slice ca m ccap] V (Tells V [] 0 7)))
    (HR : Hid (∀ V, Below w.heap.size w V → Calls Try.prog 7 #[.slice a k0 cap, .int .i64 (i : Int)] V (Tells V [] 0 1)))
    (HP : Hid (∀ V, Below w.heap.size w V → Calls Try.prog 8 #[.slice a k0 cap, .int .i64 (i : Int), .slice ca m ccap] V (Tells V [] 0 1)))
    (HG : Hid (∀ V, Below w.heap.size w V → Calls Try.prog 10 #[.slice a k0 cap] V fun e w' => e = .returned (.bool true) ∧ Below V.heap.size V w'))
    (HC : Hid (∀ V, Below w.heap.size w V → Calls Try.prog 12 #[.slice a k0 cap] V fun e w' => e = .returned (.int .i64 (n : Int)) ∧ V = w'))
    (HA : Hid (∀ V, Below w.heap.size w V → Calls Try.prog 13 #[.slice a k0 cap, .int .i64 (i : Int), .slice ca m ccap] V (Fits V [] 0 false)))
    (hi : i = n) :
    Calls Try.prog 3 #[.slice a k0 cap, .int .i64 (i : Int), .slice ca m ccap] w fun e w' => e = .returned (.bool true) ∧ Below w.heap.size w w' := by
  subst hi
  have HB0 : Hid (Below w.heap.size w w) := Lib.hid (Below.refl _ _)
  go_enter Try.func3, Try.ntmps3
  go_wp2_with fail
  refine (HI.out w HB0.out).mono ?_
  rintro e w1 ⟨a1, c1, rfl, hl1, hby, hbel⟩
  have HY1 := Lib.hid hby
  have HB1 : Hid (Below w.heap.size w w1) := Lib.hid (HB0.out.trans (hbel.mono HB0.out.size))
  clear hby hbel
  go_wp2_with fail
  refine (HR.out w1 HB1.out).mono ?_
  rintro e w2 ⟨a2, c2, rfl, hl2, hby, hbel⟩
  have HY2 := Lib.hid hby
  have HB2 : Hid (Below w.heap.size w w2) := Lib.hid (HB1.out.trans (hbel.mono HB1.out.size))
  have HY1 := Lib.hid (bytes_below HY1.out hbel)
  clear hby hbel
  go_wp2_with fail
  refine (HP.out w2 HB2.out).mono ?_
  rintro e w3 ⟨a3, c3, rfl, hl3, hby, hbel⟩
  have HY3 := Lib.hid hby
  have HB3 : Hid (Below w.heap.size w w3) := Lib.hid (HB2.out.trans (hbel.mono HB2.out.size))
  have HY1 := Lib.hid (bytes_below HY1.out hbel)
  have HY2 := Lib.hid (bytes_below HY2.out hbel)
  clear hby hbel
  go_wp2_with fail
  refine (awake_any w3).mono ?_
  rintro e w4 ⟨rfl, hbel⟩
  have HB4 : Hid (Below w.heap.size w w4) := Lib.hid (HB3.out.trans (hbel.mono HB3.out.size))
  have HY1 := Lib.hid (bytes_below HY1.out hbel)
  have HY2 := Lib.hid (bytes_below HY2.out hbel)
  have HY3 := Lib.hid (bytes_below HY3.out hbel)
  clear hbel
  go_wp2_with fail
  refine (HG.out w4 HB4.out).mono ?_
  rintro e w5 ⟨rfl, hbel⟩
  have HB5 : Hid (Below w.heap.size w w5) := Lib.hid (HB4.out.trans (hbel.mono HB4.out.size))
  have HY1 := Lib.hid (bytes_below HY1.out hbel)
  have HY2 := Lib.hid (bytes_below HY2.out hbel)
  have HY3 := Lib.hid (bytes_below HY3.out hbel)
  clear hbel
  go_wp2_with fail
  refine (HC.out w5 HB5.out).mono ?_
  rintro e w' ⟨rfl, rfl⟩
  go_wp2_with fail
  refine (HA.out w5 HB5.out).mono ?_
  rintro e w6 ⟨a4, c4, rfl, hl4, hby, hbel⟩
  have HY4 := Lib.hid hby
  have HB6 : Hid (Below w.heap.size w w6) := Lib.hid (HB5.out.trans (hbel.mono HB5.out.size))
  have HY1 := Lib.hid (bytes_below HY1.out hbel)
  have HY2 := Lib.hid (bytes_below HY2.out hbel)
  have HY3 := Lib.hid (bytes_below HY3.out hbel)
  clear hby hbel
  go_wp2_with fail
  refine (told_any 7 hl1 HY1.out (bytes_empty _)).mono ?_
  rintro e w' ⟨rfl, rfl⟩
  go_wp2_with fail
  refine (told_any 1 hl2 HY2.out (bytes_empty _)).mono ?_
  rintro e w' ⟨rfl, rfl⟩
  go_wp2_with fail
  refine (told_any 1 hl3 HY3.out (bytes_empty _)).mono ?_
  rintro e w' ⟨rfl, rfl⟩
  go_wp2
  go_ret
  exact ⟨rfl, HB6.out⟩

set_option maxHeartbeats 1000000 in
theorem changes_in_full_room {a ca : Option Addr} {cap ccap k0 m : Nat} {i n : Nat} {RP : List Nat} {RR : List Nat} {w : World}
    (HI : Hid (∀ V, Below w.heap.size w V → Calls Try.prog 6 #[.slice a k0 cap, .int .i64 (i : Int), .slice ca m ccap] V (Tells V [] 0 7)))
    (HR : Hid (∀ V, Below w.heap.size w V → Calls Try.prog 7 #[.slice a k0 cap, .int .i64 (i : Int)] V (Tells V RR 512 0)))
    (HP : Hid (∀ V, Below w.heap.size w V → Calls Try.prog 8 #[.slice a k0 cap, .int .i64 (i : Int), .slice ca m ccap] V (Tells V RP 512 0)))
    (HG : Hid (∀ V, Below w.heap.size w V → Calls Try.prog 10 #[.slice a k0 cap] V fun e w' => e = .returned (.bool true) ∧ Below V.heap.size V w'))
    (HC : Hid (∀ V, Below w.heap.size w V → Calls Try.prog 12 #[.slice a k0 cap] V fun e w' => e = .returned (.int .i64 (n : Int)) ∧ V = w'))
    (HA : Hid (∀ V, Below w.heap.size w V → Calls Try.prog 13 #[.slice a k0 cap, .int .i64 (i : Int), .slice ca m ccap] V (Fits V [] 0 false)))
    (HE : Hid (∀ V, Below w.heap.size w V → Calls Try.prog 14 #[.slice a k0 cap, .int .i64 (i : Int), .slice ca m ccap] V (Fits V RP 512 true)))
    (HD : Hid (∀ V, Below w.heap.size w V → Calls Try.prog 15 #[.slice a k0 cap, .int .i64 (i : Int)] V (CompOut V RR)))
    (hi : i < n) (hRl : RR.length = 512) (hRb : ∀ c ∈ RR, c < 256) :
    Calls Try.prog 3 #[.slice a k0 cap, .int .i64 (i : Int), .slice ca m ccap] w fun e w' => e = .returned (.bool true) ∧ Below w.heap.size w w' := by
  have HB0 : Hid (Below w.heap.size w w) := Lib.hid (Below.refl _ _)
  go_enter Try.func3, Try.ntmps3
  go_wp2_with fail
  refine (HI.out w HB0.out).mono ?_
  rintro e w1 ⟨a1, c1, rfl, hl1, hby, hbel⟩
  have HY1 := Lib.hid hby
  have HB1 : Hid (Below w.heap.size w w1) := Lib.hid (HB0.out.trans (hbel.mono HB0.out.size))
  clear hby hbel
  go_wp2_with fail
  refine (HR.out w1 HB1.out).mono ?_
  rintro e w2 ⟨a2, c2, rfl, hl2, hby, hbel⟩
  have HY2 := Lib.hid hby
  have HB2 : Hid (Below w.heap.size w w2) := Lib.hid (HB1.out.trans (hbel.mono HB1.out.size))
  have HY1 := Lib.hid (bytes_below HY1.out hbel)
  clear hby hbel
  go_wp2_with fail
  refine (HP.out w2 HB2.out).mono ?_
  rintro e w3 ⟨a3, c3, rfl, hl3, hby, hbel⟩
  have HY3 := Lib.hid hby
  have HB3 : Hid (Below w.heap.size w w3) := Lib.hid (HB2.out.trans (hbel.mono HB2.out.size))
  have HY1 := Lib.hid (bytes_below HY1.out hbel)
  have HY2 := Lib.hid (bytes_below HY2.out hbel)
  clear hby hbel
  go_wp2_with fail
  refine (awake_any w3).mono ?_
  rintro e w4 ⟨rfl, hbel⟩
  have HB4 : Hid (Below w.heap.size w w4) := Lib.hid (HB3.out.trans (hbel.mono HB3.out.size))
  have HY1 := Lib.hid (bytes_below HY1.out hbel)
  have HY2 := Lib.hid (bytes_below HY2.out hbel)
  have HY3 := Lib.hid (bytes_below HY3.out hbel)
  clear hbel
  go_wp2_with fail
  refine (HG.out w4 HB4.out).mono ?_
  rintro e w5 ⟨rfl, hbel⟩
  have HB5 : Hid (Below w.heap.size w w5) := Lib.hid (HB4.out.trans (hbel.mono HB4.out.size))
  have HY1 := Lib.hid (bytes_below HY1.out hbel)
  have HY2 := Lib.hid (bytes_below HY2.out hbel)
  have HY3 := Lib.hid (bytes_below HY3.out hbel)
  clear hbel
  go_wp2_with fail
  refine (HC.out w5 HB5.out).mono ?_
  rintro e w' ⟨rfl, rfl⟩
  go_wp2_with fail
  refine (HA.out w5 HB5.out).mono ?_
  rintro e w6 ⟨a4, c4, rfl, hl4, hby, hbel⟩
  have HY4 := Lib.hid hby
  have HB6 : Hid (Below w.heap.size w w6) := Lib.hid (HB5.out.trans (hbel.mono HB5.out.size))
  have HY1 := Lib.hid (bytes_below HY1.out hbel)
  have HY2 := Lib.hid (bytes_below HY2.out hbel)
  have HY3 := Lib.hid (bytes_below HY3.out hbel)
  clear hby hbel
  go_wp2_with fail
  refine (told_any 7 hl1 HY1.out (bytes_empty _)).mono ?_
  rintro e w' ⟨rfl, rfl⟩
  go_wp2_with fail
  refine (HE.out w6 HB6.out).mono ?_
  rintro e w7 ⟨a5, c5, rfl, hl5, hby, hbel⟩
  have HY5 := Lib.hid hby
  have HB7 : Hid (Below w.heap.size w w7) := Lib.hid (HB6.out.trans (hbel.mono HB6.out.size))
  have HY2 := Lib.hid (bytes_below HY2.out hbel)
  have HY3 := Lib.hid (bytes_below HY3.out hbel)
  clear hby hbel
  go_wp2_with fail
  refine (HD.out w7 HB7.out).mono ?_
  rintro e w8 ⟨g8, c8, rfl, hh8, _, _, _, hbel⟩
  have HY8 : Hid (BytesAt w8 (some ⟨g8, 0, none⟩) RR) := Lib.hid (has_bytes hh8 hRb (page_len hRl))
  have HB8 : Hid (Below w.heap.size w w8) := Lib.hid (HB7.out.trans (hbel.mono HB7.out.size))
  have HY2 := Lib.hid (bytes_below HY2.out hbel)
  have HY3 := Lib.hid (bytes_below HY3.out hbel)
  have HY5 := Lib.hid (bytes_below HY5.out hbel)
  clear hh8 hbel
  go_wp2_with fail
  refine (told_any 0 hl2 HY2.out HY8.out).mono ?_
  rintro e w' ⟨rfl, rfl⟩
  go_wp2_with fail
  refine (told_any 0 hl3 HY3.out HY5.out).mono ?_
  rintro e w' ⟨rfl, rfl⟩
  go_wp2
  go_ret
  exact ⟨rfl, HB8.out⟩

set_option maxHeartbeats 1000000 in
theorem changes_in_full_full {a ca : Option Addr} {cap ccap k0 m : Nat} {i n : Nat} {RR : List Nat} {w : World}
    (HI : Hid (∀ V, Below w.heap.size w V → Calls Try.prog 6 #[.slice a k0 cap, .int .i64 (i : Int), .slice ca m ccap] V (Tells V [] 0 7)))
    (HR : Hid (∀ V, Below w.heap.size w V → Calls Try.prog 7 #[.slice a k0 cap, .int .i64 (i : Int)] V (Tells V RR 512 0)))
    (HP : Hid (∀ V, Below w.heap.size w V → Calls Try.prog 8 #[.slice a k0 cap, .int .i64 (i : Int), .slice ca m ccap] V (Tells V [] 0 7)))
    (HG : Hid (∀ V, Below w.heap.size w V → Calls Try.prog 10 #[.slice a k0 cap] V fun e w' => e = .returned (.bool true) ∧ Below V.heap.size V w'))
    (HC : Hid (∀ V, Below w.heap.size w V → Calls Try.prog 12 #[.slice a k0 cap] V fun e w' => e = .returned (.int .i64 (n : Int)) ∧ V = w'))
    (HA : Hid (∀ V, Below w.heap.size w V → Calls Try.prog 13 #[.slice a k0 cap, .int .i64 (i : Int), .slice ca m ccap] V (Fits V [] 0 false)))
    (HE : Hid (∀ V, Below w.heap.size w V → Calls Try.prog 14 #[.slice a k0 cap, .int .i64 (i : Int), .slice ca m ccap] V (Fits V [] 0 false)))
    (HD : Hid (∀ V, Below w.heap.size w V → Calls Try.prog 15 #[.slice a k0 cap, .int .i64 (i : Int)] V (CompOut V RR)))
    (hi : i < n) (hRl : RR.length = 512) (hRb : ∀ c ∈ RR, c < 256) :
    Calls Try.prog 3 #[.slice a k0 cap, .int .i64 (i : Int), .slice ca m ccap] w fun e w' => e = .returned (.bool true) ∧ Below w.heap.size w w' := by
  have HB0 : Hid (Below w.heap.size w w) := Lib.hid (Below.refl _ _)
  go_enter Try.func3, Try.ntmps3
  go_wp2_with fail
  refine (HI.out w HB0.out).mono ?_
  rintro e w1 ⟨a1, c1, rfl, hl1, hby, hbel⟩
  have HY1 := Lib.hid hby
  have HB1 : Hid (Below w.heap.size w w1) := Lib.hid (HB0.out.trans (hbel.mono HB0.out.size))
  clear hby hbel
  go_wp2_with fail
  refine (HR.out w1 HB1.out).mono ?_
  rintro e w2 ⟨a2, c2, rfl, hl2, hby, hbel⟩
  have HY2 := Lib.hid hby
  have HB2 : Hid (Below w.heap.size w w2) := Lib.hid (HB1.out.trans (hbel.mono HB1.out.size))
  have HY1 := Lib.hid (bytes_below HY1.out hbel)
  clear hby hbel
  go_wp2_with fail
  refine (HP.out w2 HB2.out).mono ?_
  rintro e w3 ⟨a3, c3, rfl, hl3, hby, hbel⟩
  have HY3 := Lib.hid hby
  have HB3 : Hid (Below w.heap.size w w3) := Lib.hid (HB2.out.trans (hbel.mono HB2.out.size))
  have HY1 := Lib.hid (bytes_below HY1.out hbel)
  have HY2 := Lib.hid (bytes_below HY2.out hbel)
  clear hby hbel
  go_wp2_with fail
  refine (awake_any w3).mono ?_
  rintro e w4 ⟨rfl, hbel⟩
  have HB4 : Hid (Below w.heap.size w w4) := Lib.hid (HB3.out.trans (hbel.mono HB3.out.size))
  have HY1 := Lib.hid (bytes_below HY1.out hbel)
  have HY2 := Lib.hid (bytes_below HY2.out hbel)
  have HY3 := Lib.hid (bytes_below HY3.out hbel)
  clear hbel
  go_wp2_with fail
  refine (HG.out w4 HB4.out).mono ?_
  rintro e w5 ⟨rfl, hbel⟩
  have HB5 : Hid (Below w.heap.size w w5) := Lib.hid (HB4.out.trans (hbel.mono HB4.out.size))
  have HY1 := Lib.hid (bytes_below HY1.out hbel)
  have HY2 := Lib.hid (bytes_below HY2.out hbel)
  have HY3 := Lib.hid (bytes_below HY3.out hbel)
  clear hbel
  go_wp2_with fail
  refine (HC.out w5 HB5.out).mono ?_
  rintro e w' ⟨rfl, rfl⟩
  go_wp2_with fail
  refine (HA.out w5 HB5.out).mono ?_
  rintro e w6 ⟨a4, c4, rfl, hl4, hby, hbel⟩
  have HY4 := Lib.hid hby
  have HB6 : Hid (Below w.heap.size w w6) := Lib.hid (HB5.out.trans (hbel.mono HB5.out.size))
  have HY1 := Lib.hid (bytes_below HY1.out hbel)
  have HY2 := Lib.hid (bytes_below HY2.out hbel)
  have HY3 := Lib.hid (bytes_below HY3.out hbel)
  clear hby hbel
  go_wp2_with fail
  refine (told_any 7 hl1 HY1.out (bytes_empty _)).mono ?_
  rintro e w' ⟨rfl, rfl⟩
  go_wp2_with fail
  refine (HE.out w6 HB6.out).mono ?_
  rintro e w7 ⟨a5, c5, rfl, hl5, hby, hbel⟩
  have HY5 := Lib.hid hby
  have HB7 : Hid (Below w.heap.size w w7) := Lib.hid (HB6.out.trans (hbel.mono HB6.out.size))
  have HY2 := Lib.hid (bytes_below HY2.out hbel)
  have HY3 := Lib.hid (bytes_below HY3.out hbel)
  clear hby hbel
  go_wp2_with fail
  refine (HD.out w7 HB7.out).mono ?_
  rintro e w8 ⟨g8, c8, rfl, hh8, _, _, _, hbel⟩
  have HY8 : Hid (BytesAt w8 (some ⟨g8, 0, none⟩) RR) := Lib.hid (has_bytes hh8 hRb (page_len hRl))
  have HB8 : Hid (Below w.heap.size w w8) := Lib.hid (HB7.out.trans (hbel.mono HB7.out.size))
  have HY2 := Lib.hid (bytes_below HY2.out hbel)
  have HY3 := Lib.hid (bytes_below HY3.out hbel)
  have HY5 := Lib.hid (bytes_below HY5.out hbel)
  clear hh8 hbel
  go_wp2_with fail
  refine (told_any 0 hl2 HY2.out HY8.out).mono ?_
  rintro e w' ⟨rfl, rfl⟩
  go_wp2_with fail
  refine (told_any 7 hl3 HY3.out (bytes_empty _)).mono ?_
  rintro e w' ⟨rfl, rfl⟩
  go_wp2
  go_ret
  exact ⟨rfl, HB8.out⟩
end Go.Proofs.Ytmojfhleelhghaa
