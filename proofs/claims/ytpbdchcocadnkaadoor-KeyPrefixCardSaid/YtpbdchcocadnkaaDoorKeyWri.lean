/- A text's key is written: contracts of package key's writer. -/
import Derived.Test.YtpbdchcocadnkaaDoorKeyVal
import Derived.Maps.OwnOps
namespace Go.Proofs.YtpbdchcocadnkaaDoor
open Go.ChangeShapes Go.WideShapes Go.ChangeAt Go.RowKit

/-- How an element of a map of functions reads: as itself. -/
def asFn : Value → Option (DataW Value × List MemPlace)
  | .func f a b => some (.held (.func f a b), [])
  | .nilFunc => some (.held .nilFunc, [])
  | _ => none
theorem keysU8 : Go.Maps.Keyed Tryd.prog 5 := Go.Maps.int_keyed Tryd.underlying5
theorem wpList_insert_own {P : Program} (w : World) {ops : Array Oper} {rest : List Oper} {o : Oper} {a : Act} {Q : Exit → Act → World → Prop}
    (hg : o.guard = none) (m x v : Operand) (t : TypeId) (hop : o.op = Op.insert t m x v)
    (k e : TypeId) (K : Go.Maps.Keyed P k) (ht : P.underlying t = some (.map k e)) (R : Value → Option (DataW Value × List MemPlace)) (b n : Nat) (D : DataW Value)
    (hm : a.eval m = .map (some b)) (hown : w.ownsMap P k R b n D) (hn : n < maxLen) (key val : Value) (kl : Lit) (hx : a.eval x = key) (hv : a.eval v = val) (hkey : keyOf P k key = some kl)
    (d : DataW Value) (ps : List MemPlace) (hval : R val = some (d, ps))
    (hK : ∀ w', w'.ownsMap P k R b (n + 1) (D.put kl d) → w.grownBy w' (some b) → wpList P ops Q rest (a.put o.dst undef) w') :
    wpList P ops Q (o :: rest) a w := by
  refine wpList_plain hg fun K' hK' => ?_
  obtain ⟨w', hrun, r1, r2⟩ := hown.update K ht hn hkey hval
  unfold Oper.wp
  simp [execOp, hop, hm, hx, hv, hrun, Result.andThen]
  exact hK' _ _ (hK w' r1 r2)
def fnAt (f p : Nat) : DataW Value := .held (.func (.func f) #[.pointer (some ⟨p, 0, none⟩)] #[])
/-- The writer's own functions, by classes. -/
def byD (p : Nat) : DataW Value :=
  (((((((DataW.map []).put (.int .u8 16) (fnAt 24 p)).put (.int .u8 32) (fnAt 25 p)).put (.int .u8 48) (fnAt 26 p)).put (.int .u8 64) (fnAt 27 p)).put (.int .u8 80) (fnAt 27 p)).put (.int .u8 96) (fnAt 28 p)).put (.int .u8 112) (fnAt 29 p)
theorem byD_text (p : Nat) (z : DataW Value) : (byD p).atKey (.int .u8 64) z = fnAt 27 p := by rfl
/-- Block b is the map of a writer's functions. -/
def ByAt (w : World) (p b : Nat) : Prop := w.ownsMap Tryd.prog 5 asFn b 7 (byD p)
set_option maxHeartbeats 1000000 in
set_option maxRecDepth 20000 in
theorem writes_any (w : World) (p : Nat) : Calls Tryd.prog 19 #[.pointer (some ⟨p, 0, none⟩)] w fun e w' => e = .returned (.map (some w.heap.size)) ∧ ByAt w' p w.heap.size ∧ Below w.heap.size w w' := by
  have hmf : ∀ (fn : Fn) (first cap : Array Value) (w : World), (Instr.makeFunc fn first cap).run Tryd.prog w = .ok (.func fn first cap) w := fun _ _ _ _ => rfl
  have hmm : ∀ V, (Instr.makeMap 43 none).run Tryd.prog V = .ok (.map (some V.heap.size)) (V.alloc (.map #[] 0)) := fun V => rfl
  have HO0 := Lib.hid (World.ownsMap_made w Tryd.prog 5 asFn)
  have HB0 : Hid (Below w.heap.size w (w.alloc (.map #[] 0))) := Lib.hid (below_alloc _ _)
  have HU : Hid (Tryd.prog.underlying 43 = some (.map 5 47)) := Lib.hid Tryd.underlying43
  have HM : Hid (∀ k, k < 100 → k < maxLen) := Lib.hid (fun k h => by unfold maxLen; omega)
  have HG : Hid (∀ V V' : World, Below w.heap.size w V → V.grownBy V' (some w.heap.size) → Below w.heap.size w V') := Lib.hid (fun V V' h hg => h.grown hg h.size (fun k hk => by cases hk; exact Nat.le_refl _))
  go_enter Tryd.func19, Tryd.ntmps19
  go_wp2_with (first
    | (refine wpList_insert_own _ rfl (.tmp 3) (.const (.int .u8 16)) (.tmp 5) 43 rfl 5 47 keysU8 HU.out asFn _ 0 _ rfl HO0.out (HM.out _ (by decide)) (.int .u8 16) (.func (.func 24) #[.pointer (some ⟨p, 0, none⟩)] #[]) (.int .u8 16) rfl rfl rfl (fnAt 24 p) [] rfl ?_; intro w1 ho1 hg1; have HO1 := Lib.hid ho1; have HB1 := Lib.hid (HG.out _ _ HB0.out hg1); clear ho1 hg1)
    | (refine wpList_insert_own _ rfl (.tmp 3) (.const (.int .u8 32)) (.tmp 7) 43 rfl 5 47 keysU8 HU.out asFn _ 1 _ rfl HO1.out (HM.out _ (by decide)) (.int .u8 32) (.func (.func 25) #[.pointer (some ⟨p, 0, none⟩)] #[]) (.int .u8 32) rfl rfl rfl (fnAt 25 p) [] rfl ?_; intro w2 ho2 hg2; have HO2 := Lib.hid ho2; have HB2 := Lib.hid (HG.out _ _ HB1.out hg2); clear ho2 hg2)
    | (refine wpList_insert_own _ rfl (.tmp 3) (.const (.int .u8 48)) (.tmp 9) 43 rfl 5 47 keysU8 HU.out asFn _ 2 _ rfl HO2.out (HM.out _ (by decide)) (.int .u8 48) (.func (.func 26) #[.pointer (some ⟨p, 0, none⟩)] #[]) (.int .u8 48) rfl rfl rfl (fnAt 26 p) [] rfl ?_; intro w3 ho3 hg3; have HO3 := Lib.hid ho3; have HB3 := Lib.hid (HG.out _ _ HB2.out hg3); clear ho3 hg3)
    | (refine wpList_insert_own _ rfl (.tmp 3) (.const (.int .u8 64)) (.tmp 11) 43 rfl 5 47 keysU8 HU.out asFn _ 3 _ rfl HO3.out (HM.out _ (by decide)) (.int .u8 64) (.func (.func 27) #[.pointer (some ⟨p, 0, none⟩)] #[]) (.int .u8 64) rfl rfl rfl (fnAt 27 p) [] rfl ?_; intro w4 ho4 hg4; have HO4 := Lib.hid ho4; have HB4 := Lib.hid (HG.out _ _ HB3.out hg4); clear ho4 hg4)
    | (refine wpList_insert_own _ rfl (.tmp 3) (.const (.int .u8 80)) (.tmp 13) 43 rfl 5 47 keysU8 HU.out asFn _ 4 _ rfl HO4.out (HM.out _ (by decide)) (.int .u8 80) (.func (.func 27) #[.pointer (some ⟨p, 0, none⟩)] #[]) (.int .u8 80) rfl rfl rfl (fnAt 27 p) [] rfl ?_; intro w5 ho5 hg5; have HO5 := Lib.hid ho5; have HB5 := Lib.hid (HG.out _ _ HB4.out hg5); clear ho5 hg5)
    | (refine wpList_insert_own _ rfl (.tmp 3) (.const (.int .u8 96)) (.tmp 15) 43 rfl 5 47 keysU8 HU.out asFn _ 5 _ rfl HO5.out (HM.out _ (by decide)) (.int .u8 96) (.func (.func 28) #[.pointer (some ⟨p, 0, none⟩)] #[]) (.int .u8 96) rfl rfl rfl (fnAt 28 p) [] rfl ?_; intro w6 ho6 hg6; have HO6 := Lib.hid ho6; have HB6 := Lib.hid (HG.out _ _ HB5.out hg6); clear ho6 hg6)
    | (refine wpList_insert_own _ rfl (.tmp 3) (.const (.int .u8 112)) (.tmp 17) 43 rfl 5 47 keysU8 HU.out asFn _ 6 _ rfl HO6.out (HM.out _ (by decide)) (.int .u8 112) (.func (.func 29) #[.pointer (some ⟨p, 0, none⟩)] #[]) (.int .u8 112) rfl rfl rfl (fnAt 29 p) [] rfl ?_; intro w7 ho7 hg7; have HO7 := Lib.hid ho7; have HB7 := Lib.hid (HG.out _ _ HB6.out hg7); clear ho7 hg7))
  go_ret
  exact ⟨rfl, HO7.out, HB7.out⟩
theorem grow_at {W w V w8 : World} {p n n8 c8 : Nat} {T : TypeId} {cs : Array Value} {bo bo8 : Option Nat} {a8 : Option Addr} {k m : List Nat} (hC : Cells w p T cs) (hp : p < W.heap.size) (hT : Turned (fun k => k = p) W w) (hV : Below w.heap.size w V) (hl : k.length = n) (hn : n + m.length = n8) (hz : ∀ x ∈ k, x < 256) (hm : ∀ x ∈ m, x < 256)
    (hbo : ∀ b, bo = some b → W.heap.size ≤ b) (h1 : Slc w8 bo8 1 (.slice a8 n8 c8) n8 (u8s k ++ u8s m)) (h2 : Turned (fun k => bo = some k) V w8) (h3 : bo8 = bo ∨ bo8 = some V.heap.size) :
    Cells w8 p T cs ∧ Own W w8 a8 n8 c8 (k ++ m) ∧ Turned (fun k => k = p) W w8 := by
  have hs : W.heap.size ≤ V.heap.size := Nat.le_trans hT.size hV.size
  have hT' := hT.below hV
  refine ⟨?_, ⟨by rw [List.length_append, hl, hn], fun x hx => ?_, bo8, by rw [u8s_append]; exact h1, fun b e => ?_⟩, hT'.trans h2 (fun i hi => .inr (hbo i hi))⟩
  · have hc := cells_below hC hV
    unfold Cells
    rw [h2.block p (by omega) (fun e => by have := hbo p e; omega)]
    exact hc
  · rcases List.mem_append.1 hx with h | h
    · exact hz x h
    · exact hm x h
  · rcases h3 with h | h
    · exact hbo b (h ▸ e)
    · rw [h] at e; cases e; exact hs
theorem own_away {W w w' : World} {p n c : Nat} {a : Option Addr} {l : List Nat} (h : Own W w a n c l) (ht : Turned (fun k => k = p) w w') (hp : p < W.heap.size) : Own W w' a n c l := by
  obtain ⟨h1, h2, bo, h3, h4⟩ := h
  exact ⟨h1, h2, bo, slc_turned h3 ht (fun b e e' => by have := h4 b e; omega), h4⟩
theorem bytes_away {W w : World} {p : Nat} {a : Option Addr} {l : List Nat} (h : BytesAt W a l) (ht : Turned (fun k => k = p) W w) (hp : ∀ ad, a = some ad → ad.block ≠ p) : BytesAt w a l :=
  ⟨h.1, h.2.1, fun j hj => by
    obtain ⟨b, off, e, hc⟩ := h.2.2 j hj
    refine ⟨b, off, e, ?_⟩
    rw [World.cell?_of_block (a := ⟨b, off + j, none⟩) (ht.block b (World.block_lt_of_cell? W _ hc) (hp _ e))]
    exact hc⟩
/-- Bytes so that their end is below whatever could go on. -/
def esc (l : List Nat) : List Nat := l.flatMap fun c => if c = 0 then [0, 255] else [c]
theorem esc_snoc (l : List Nat) (c : Nat) : esc (l ++ [c]) = esc l ++ (if c = 0 then [0, 255] else [c]) := by simp [esc]
theorem esc_len (l : List Nat) : (esc l).length ≤ 2 * l.length := by
  induction l with
  | nil => exact Nat.le_refl _
  | cons c l ih =>
    have h : esc (c :: l) = (if c = 0 then [0, 255] else [c]) ++ esc l := rfl
    rw [h, List.length_append, List.length_cons]
    split <;> simp <;> omega
/-- A writer at p: its bytes, its map. -/
def Wri (W w : World) (p : Nat) (mv : Value) (a : Option Addr) (n c : Nat) (k : List Nat) : Prop := Cells w p 45 #[.slice a n c, mv] ∧ Own W w a n c k ∧ Turned (fun k => k = p) W w
theorem wri_set {W w : World} {p n n8 c c8 : Nat} {mv : Value} {a a8 : Option Addr} {k : List Nat} (hC : Cells w p 45 #[.slice a n c, mv]) (hO : Own W w a8 n8 c8 k) (hT : Turned (fun k => k = p) W w) (hp : p < W.heap.size) : Wri W (w.setCell ⟨p, 0, none⟩ (.slice a8 n8 c8)) p mv a8 n8 c8 k :=
  ⟨cells_setCell (o := 0) hC, own_away hO ((Turned.refl (fun k => k = p) w).setCell (p := ⟨p, 0, none⟩) (.inl rfl) _) hp, hT.setCell (p := ⟨p, 0, none⟩) (.inl rfl) _⟩
theorem wri_0 {W w : World} {p n c : Nat} {mv : Value} {a : Option Addr} {k : List Nat} (h : Wri W w p mv a n c k) : w.cell? ⟨p, 0, none⟩ = some (.slice a n c) := by rw [cell_of_row w p 0 _ _ _ h.1]; rfl
theorem wri_z {W w : World} {p n c : Nat} {mv : Value} {a : Option Addr} {k : List Nat} (h : Wri W w p mv a n c k) : w.frozen? ⟨p, 0, none⟩ = false := frozen_of_row _ _ _ _ _ h.1
theorem const_255 (w : World) : BytesAt (w.alloc (.cells #[.int .u8 255] 5)) (some ⟨w.heap.size, 0, none⟩) [255] := bytes_alloc w [255] (by decide) (by show 1 ≤ maxLen; unfold maxLen; decide) (0, 0)
theorem const_255s (w : World) (q : Addr) (v : Value) : BytesAt ((w.setCell q v).alloc (.cells #[.int .u8 255] 5)) (some ⟨w.heap.size, 0, none⟩) [255] := by
  have h := const_255 (w.setCell q v)
  rwa [show (w.setCell q v).heap.size = w.heap.size by simp] at h
set_option maxHeartbeats 2000000 in
set_option maxRecDepth 20000 in
theorem escaped_any {W w : World} {p n c xc m : Nat} {mv : Value} {a x : Option Addr} {k l : List Nat} (hW : Wri W w p mv a n c k) (hp : p < W.heap.size) (hx : BytesAt W x l) (hxp : ∀ ad, x = some ad → ad.block ≠ p) (hl : l.length = m) (hb : n + 2 * m + 2 ≤ 1048576) :
    Calls Tryd.prog 41 #[.pointer (some ⟨p, 0, none⟩), .slice x m xc] w fun e w' => e = .returned (.tuple #[]) ∧ ∃ a' n' c', Wri W w' p mv a' n' c' (k ++ esc l ++ [0, 0]) := by
  have HR := Lib.hid rowyU
  have HW := Lib.hid hW
  have HX : Hid (∀ V, Turned (fun k => k = p) W V → BytesAt V x l) := Lib.hid (fun V hV => bytes_away hx hV hxp)
  have HL := Lib.hid hl
  have HP := Lib.hid hp
  have HM : Hid (∀ k, k ≤ 1048576 → k ≤ maxLen) := Lib.hid (fun k h => by unfold maxLen; omega)
  have HZ : Hid (∀ c ∈ l, c < 256) := Lib.hid hx.1
  generalize hQ : (fun (e : Ending) (w' : World) => e = .returned (.tuple #[]) ∧ ∃ a' n' c', Wri W w' p mv a' n' c' (k ++ esc l ++ [0, 0])) = Q
  have HQ := Lib.hid hQ
  clear hQ hW hx hxp hl hp
  go_enter Tryd.func41, Tryd.ntmps41
  go_wp2
  go_loopw [5, 8] (fun _ i wr => ∃ (j : Nat) (a9 : Option Addr) (n9 c9 : Nat), j ≤ m ∧ i = .int .i64 (j : Int) ∧ n9 ≤ n + 2 * j ∧ Hid (Wri W wr p mv a9 n9 c9 (k ++ esc (l.take j)))) (fun _ i _ => (m - (intOf i)).toNat)
  case atStart => exact ⟨0, a, n, c, by omega, rfl, by omega, Lib.hid (by have := HW.out; simpa [esc] using this)⟩
  case round =>
    obtain ⟨j, a9, n9, c9, hj, rfl, hn9, HWr⟩ := hrel
    have w0 := wri_0 HWr.out
    by_cases hlt : j < m
    · obtain ⟨bx, ox, hxe, hxc, hxz⟩ := byte_at (HX.out _ HWr.out.2.2) HL.out j hlt
      subst hxe
      obtain ⟨d, hd⟩ : ∃ d, d = l.getD j 0 := ⟨_, rfl⟩
      rw [← hd] at hxc hxz
      have HT : Hid (l.take (j + 1) = l.take j ++ [d]) := Lib.hid (by
        have hjl : j < l.length := by rw [HL.out]; exact hlt
        rw [hd, List.take_add_one, List.getElem?_eq_getElem hjl]
        simp [List.getD, List.getElem?_eq_getElem hjl])
      clear hd
      by_cases h0 : d = 0
      · subst h0
        go_wp2_with (first | (at_builtin; refine wpList_slc HR.out rfl (.tmp 28) (.tmp 29) 22 rfl rfl rfl (slc_below HW8.out.2.1.2.2.choose_spec.1 (below_alloc _ _)) (bytes_src Tryd.underlying22 (const_255s w8 ⟨p, 0, none⟩ (.slice a8 (n9 + 1) c8)) rfl) (rfl : (n9 + 1) + 1 = n9 + 1 + 1) (HM.out _ (by omega)) (by omega) ?_; intro a7 c7 b7 w7 h1 h2 h3; obtain ⟨hc, ho, ht⟩ := grow_at (m := [255]) HW8.out.1 HP.out HW8.out.2.2 (below_alloc _ _) HW8.out.2.1.1 (rfl : (n9 + 1) + 1 = n9 + 1 + 1) HW8.out.2.1.2.1 (by decide) HW8.out.2.1.2.2.choose_spec.2 h1 h2 h3; have s7 : w7.cell? ⟨p, 0, none⟩ = some (.slice a8 (n9 + 1) c8) := (by rw [cell_of_row w7 p 0 _ _ _ hc]; rfl); have z7 : w7.frozen? ⟨p, 0, none⟩ = false := frozen_of_row _ _ _ _ _ hc; have HW7 := Lib.hid (wri_set hc ho ht HP.out); clear h1 h2 h3 hc ho ht) | (at_builtin; refine wpList_slc HR.out rfl (.tmp 16) (.tmp 18) 22 rfl rfl rfl (slc_below HWr.out.2.1.2.2.choose_spec.1 (below_alloc _ _)) (bytes_src Tryd.underlying22 (bytes_alloc _ [0] (by decide) (by show 1 ≤ maxLen; unfold maxLen; decide) (0, 0)) rfl) (rfl : n9 + 1 = n9 + 1) (HM.out _ (by omega)) (by omega) ?_; intro a8 c8 b8 w8 h1 h2 h3; obtain ⟨hc, ho, ht⟩ := grow_at (m := [0]) HWr.out.1 HP.out HWr.out.2.2 (below_alloc _ _) HWr.out.2.1.1 (rfl : n9 + 1 = n9 + 1) HWr.out.2.1.2.1 (by decide) HWr.out.2.1.2.2.choose_spec.2 h1 h2 h3; have s8 : w8.cell? ⟨p, 0, none⟩ = some (.slice a9 n9 c9) := (by rw [cell_of_row w8 p 0 _ _ _ hc]; rfl); have z8 : w8.frozen? ⟨p, 0, none⟩ = false := frozen_of_row _ _ _ _ _ hc; have HW8 := Lib.hid (wri_set hc ho ht HP.out); clear h1 h2 h3 hc ho ht))
        go_roundw
        case rel => exact ⟨j + 1, a7, n9 + 1 + 1, c7, by omega, by go_num, by omega, Lib.hid (by rw [HT.out, esc_snoc, if_pos rfl, ← List.append_assoc, show ([0, 255] : List Nat) = [0] ++ [255] from rfl, ← List.append_assoc]; exact HW7.out)⟩
        case measure => simp [intOf]; omega
      · have hd0 : ¬ (d : Int) = 0 := by omega
        go_wp2_with (at_builtin; refine wpList_slc HR.out rfl (.tmp 16) (.tmp 18) 22 rfl rfl rfl (slc_below HWr.out.2.1.2.2.choose_spec.1 (below_alloc _ _)) (bytes_src Tryd.underlying22 (bytes_alloc _ [d] (fun q hq => by rw [List.mem_singleton] at hq; rw [hq]; exact hxz) (by show 1 ≤ maxLen; unfold maxLen; decide) (0, 0)) rfl) (rfl : n9 + 1 = n9 + 1) (HM.out _ (by omega)) (by omega) ?_; intro a8 c8 b8 w8 h1 h2 h3; obtain ⟨hc, ho, ht⟩ := grow_at (m := [d]) HWr.out.1 HP.out HWr.out.2.2 (below_alloc _ _) HWr.out.2.1.1 (rfl : n9 + 1 = n9 + 1) HWr.out.2.1.2.1 (fun q hq => by rw [List.mem_singleton] at hq; rw [hq]; exact hxz) HWr.out.2.1.2.2.choose_spec.2 h1 h2 h3; have s8 : w8.cell? ⟨p, 0, none⟩ = some (.slice a9 n9 c9) := (by rw [cell_of_row w8 p 0 _ _ _ hc]; rfl); have z8 : w8.frozen? ⟨p, 0, none⟩ = false := frozen_of_row _ _ _ _ _ hc; have HW8 := Lib.hid (wri_set hc ho ht HP.out); clear h1 h2 h3 hc ho ht)
        go_roundw
        case rel => exact ⟨j + 1, a8, n9 + 1, c8, by omega, by go_num, by omega, Lib.hid (by rw [HT.out, esc_snoc, if_neg h0, ← List.append_assoc]; exact HW8.out)⟩
        case measure => simp [intOf]; omega
    · have HJ : Hid (l.take j = l) := Lib.hid (List.take_of_length_le (by rw [HL.out]; omega))
      go_wp2_with (at_builtin; refine wpList_slc HR.out rfl (.tmp 38) (.tmp 39) 22 rfl rfl rfl (slc_below HWr.out.2.1.2.2.choose_spec.1 (below_alloc _ _)) (bytes_src Tryd.underlying22 (bytes_alloc _ [0, 0] (by decide) (by show 2 ≤ maxLen; unfold maxLen; decide) (0, 0)) rfl) (rfl : n9 + 2 = n9 + 2) (HM.out _ (by omega)) (by omega) ?_; intro a8 c8 b8 w8 h1 h2 h3; obtain ⟨hc, ho, ht⟩ := grow_at (m := [0, 0]) HWr.out.1 HP.out HWr.out.2.2 (below_alloc _ _) HWr.out.2.1.1 (rfl : n9 + 2 = n9 + 2) HWr.out.2.1.2.1 (by decide) HWr.out.2.1.2.2.choose_spec.2 h1 h2 h3; have s8 : w8.cell? ⟨p, 0, none⟩ = some (.slice a9 n9 c9) := (by rw [cell_of_row w8 p 0 _ _ _ hc]; rfl); have z8 : w8.frozen? ⟨p, 0, none⟩ = false := frozen_of_row _ _ _ _ _ hc; have HW8 := Lib.hid (wri_set hc ho ht HP.out); clear h1 h2 h3 hc ho ht)
      go_end0
      rw [← HQ.out]
      refine ⟨rfl, a8, n9 + 2, c8, ?_⟩
      have h := HW8.out
      rw [HJ.out] at h
      exact h
end Go.Proofs.YtpbdchcocadnkaaDoor
