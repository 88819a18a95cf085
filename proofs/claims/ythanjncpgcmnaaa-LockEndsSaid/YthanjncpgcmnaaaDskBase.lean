/- Plain words and laws that several walks lean on. -/
import Derived.Test.YthanjncpgcmnaaaRows
import Derived.ArgAppend
import Derived.Below
import Derived.BigQuiet
import Derived.ChangeAlike
import Derived.ChangeKeysEq
import Derived.ChangeOld
import Derived.ChangeSame
import Derived.Deep.DeepHandedRow
import Derived.Deep.DrawnRows
import Derived.Deep.Fields
import Derived.Deep.QuietTactic
import Derived.Deep.RegionHeld3
import Derived.Deep.RegionLaw
import Derived.Deep.Slices
import Derived.Laws.AppendOwnNone
import Derived.Laws.BitsAllLaws
import Derived.Laws.BytesArg
import Derived.Laws.CopyOwn
import Derived.Laws.IdiomStrings
import Derived.Laws.OwnMore
import Derived.Laws.ResultCell
import Derived.Laws.Rows
import Derived.Laws.Tables
import Derived.Lib.Hide
import Derived.Lib.LaidTab
import Derived.Lib.SlBytesConst
import Derived.OpenShut
import Derived.ProofKit
import Derived.RegionTactic
import Derived.ShutString
import Derived.SizedLaws
import Derived.WalkKit
import Derived.WalkLawsBesides
import Derived.WalkSpells
namespace Go.Proofs.Ythanjncpgcmnaaa
open Go.ChangeShapes Go.WideShapes Go.ChangeAt Go.RowKit

/-- A slice that reads as these bytes. -/
def BytesAt (w : World) (a : Option Addr) (zs : List Nat) : Prop := (∀ c ∈ zs, c < 256) ∧ zs.length ≤ maxLen ∧ ∀ j, (h : j < zs.length) → ∃ b off, a = some ⟨b, off, none⟩ ∧ w.cell? ⟨b, off + j, none⟩ = some (.int .u8 (zs[j] : Int))
theorem ret_int {k : IntKind} {a b : Int} (h : a = b) : Ending.returned (.int k a) = .returned (.int k b) := by rw [h]
theorem bytes_drew {w : World} {a : Option Addr} {zs : List Nat} (h : BytesAt w a zs) : BytesAt w.drew a zs := h
/-- Block g is this row. -/
def Cells (w : World) (g : Nat) (t : TypeId) (cs : Array Value) : Prop := w.heap[g]? = some (.cells cs t (0, 0))
theorem cells_setCell {w : World} {g o : Nat} {t : TypeId} {cs : Array Value} {v : Value} (h : Cells w g t cs) : Cells (w.setCell ⟨g, o, none⟩ v) g t (cs.setIfInBounds o v) := heap_setCell_same w g o cs t v h
theorem cells_drew {w : World} {g : Nat} {t : TypeId} {cs : Array Value} (h : Cells w g t cs) : Cells w.drew g t cs := h
theorem wpList_alloc_row {P : Program} {w : World} {ops : Array Oper} {rest : List Oper} {o : Oper} {a : Act} {Q : Exit → Act → World → Prop} (hgd : o.guard = none) (t : TypeId) (ho : o.op = .alloc t)
    (i : TypeInfo) (hi : P.info? t = some i) (z : Array Value) (hz : i.zero = some (.agg z))
    (h : wpList P ops Q rest (a.put o.dst (.pointer (some ⟨w.heap.size, 0, none⟩))) (w.alloc (.cells z t))) : wpList P ops Q (o :: rest) a w := by
  refine wpList_plain hgd fun K hK => ?_
  have hrun : (Instr.alloc t true (.tuple #[])).run P w = .ok (.pointer (some ⟨w.heap.size, 0, none⟩)) (w.alloc (.cells z t)) := by
    simp [Instr.alloc, zeroValue, typeInfo, hi, hz, newVar, newRow, Value.cells]
  unfold Oper.wp execOp
  simp only [ho, Sem.run_bind, hrun, Result.andThen_ok]
  exact hK _ _ h
theorem cells_new (w : World) (t : TypeId) (cs : Array Value) : Cells (w.alloc (.cells cs t)) w.heap.size t cs := heap_alloc_new w _
theorem cells_alloc {w : World} {g : Nat} {t : TypeId} {cs : Array Value} (h : Cells w g t cs) (o : Obj) : Cells (w.alloc o) g t cs := by
  unfold Cells
  rw [((Below.refl w.heap.size w).alloc (Nat.le_refl _) o).block g (Array.getElem?_eq_some_iff.1 h).1]
  exact h
theorem cells_setOther {w : World} {g b o : Nat} {t : TypeId} {cs : Array Value} {v : Value} (h : Cells w g t cs) (hne : g ≠ b) : Cells (w.setCell ⟨b, o, none⟩ v) g t cs := by
  unfold Cells
  rw [heap_setCell_other w ⟨b, o, none⟩ g v hne]
  exact h
theorem bytes_below {w w' : World} {a : Option Addr} {zs : List Nat} (h : BytesAt w a zs) (hb : Below w.heap.size w w') : BytesAt w' a zs :=
  ⟨h.1, h.2.1, fun j hj => by
    obtain ⟨b, off, e, hc⟩ := h.2.2 j hj
    exact ⟨b, off, e, (hb.cell (World.block_lt_of_cell? w _ hc)).trans hc⟩⟩
theorem below_drewN {B : Nat} {a w : World} (h : Below B a w) (n : Nat) : Below B a (w.drewN n) := h.trans ⟨rfl, rfl, rfl, Nat.le_refl _, fun _ _ => rfl⟩
theorem below_alloc (w : World) (o : Obj) : Below w.heap.size w (w.alloc o) := (Below.refl _ _).alloc (Nat.le_refl _) o
/-- Bytes as cells. -/
def u8c (zs : List Nat) : Array Value := (zs.map fun z : Nat => Value.int .u8 (z : Int)).toArray
theorem u8c_get (l : List Nat) (j : Nat) (hj : j < l.length) : (u8c l)[j]? = some (.int .u8 (l[j] : Int)) := by simp [u8c, hj]
theorem cells_bytes {w : World} {g : Nat} {zs : List Nat} (h : Cells w g 5 (u8c zs)) (hz : ∀ c ∈ zs, c < 256) (hm : zs.length ≤ maxLen) : BytesAt w (some ⟨g, 0, none⟩) zs :=
  ⟨hz, hm, fun j hj => ⟨g, 0, rfl, by rw [Nat.zero_add, cell_of_row w g j _ _ _ h, u8c_get zs j hj]⟩⟩
theorem info5 : (Try.prog.info? 5).map (fun i => (i.zero, i.size, i.bytes)) = some (some (.int .u8 0), 1, 1) := by kernel_rfl
def u8s (zs : List Nat) : List Value := zs.map fun z : Nat => Value.int .u8 (z : Int)
theorem u8s_one (zs : List Nat) : ∀ u ∈ u8s zs, u.oneCell' = true := by
  intro u hu
  simp only [u8s, List.mem_map] at hu
  obtain ⟨z, _, rfl⟩ := hu
  rfl
theorem bytes_cells {w : World} {ad : Addr} {zs : List Nat} (hb : BytesAt w (some ad) zs) : ∀ j u, (u8s zs)[j]? = some u → w.cell? (ad.add j) = some u := by
  intro j u hu
  simp only [u8s, List.getElem?_map, Option.map_eq_some_iff] at hu
  obtain ⟨z, hz, rfl⟩ := hu
  obtain ⟨h', rfl⟩ := List.getElem?_eq_some_iff.1 hz
  obtain ⟨b, off, e, hc⟩ := hb.2.2 j h'
  simp only [Option.some.injEq] at e
  subst e
  rw [Addr.add]
  split
  · rename_i h0
    have h0' : j = 0 := by simpa using h0
    subst h0'
    simpa using hc
  · exact hc
theorem own_cells {w : World} {B g n : Nat} {zs : List Nat} (h : w.ownsRow B 5 1 (.slice (some ⟨g, 0, none⟩) n n) n (u8s zs)) : Cells w g 5 (u8c zs) := by
  rcases h.2 with ⟨h', _⟩ | ⟨g', cap', cur, h', _, hg, _, _, hcs, htake⟩
  · simp at h'
  · simp only [Value.slice.injEq, Option.some.injEq, Addr.mk.injEq, and_true, true_and] at h'
    obtain ⟨rfl, rfl⟩ := h'
    rw [List.take_of_length_le (by simp; omega)] at htake
    have e : cur = u8c zs := by
      rw [← Array.toArray_toList (xs := cur), htake]; rfl
    rw [← e]
    exact hg
theorem wpList_wanted {P : Program} {w : World} {ops : Array Oper} {rest : List Oper} {o : Oper} {a : Act} {Q : Exit → Act → World → Prop} (hw : Region.wanted o (yielded ops a.tmps) = true)
    (h : ∀ K : Act → World → Prop, (∀ a w, wpList P ops Q rest a w → K a w) → o.wp P a w K Q) : wpList P ops Q (o :: rest) a w :=
  wpList_step fun K hK => by rw [if_pos hw]; exact h K hK
theorem wpList_load_arr {P : Program} {w : World} {ops : Array Oper} {rest : List Oper} {o : Oper} {a : Act} {Q : Exit → Act → World → Prop} (hw : Region.wanted o (yielded ops a.tmps) = true) (ty : TypeId) (x : Operand) (ho : o.op = .load ty x)
    (ad : Addr) (hx : a.eval x = .pointer (some ad)) (cs : Array Value) (hrun : (loadVar ty ad).run P w = .ok (.agg cs) w)
    (h : wpList P ops Q rest (a.put o.dst (.agg cs)) w) : wpList P ops Q (o :: rest) a w :=
  wpList_wanted hw fun K hK => by
    unfold Oper.wp execOp
    simp only [ho, hx, Instr.loadAt, Instr.sureAddr, Sem.run_bind, Sem.run_pure, Result.andThen_ok, hrun]
    exact hK _ _ h
/-- A page of noughts. -/
def noughts : List Nat := List.replicate 512 0
/-- Its cells. -/
def Noughts : Array Value := u8c noughts
theorem bytes_sub {w : World} {g off : Nat} {zs : List Nat} (h : BytesAt w (some ⟨g, off, none⟩) zs) (k : Nat) : BytesAt w (some ⟨g, off + k, none⟩) (zs.drop k) :=
  ⟨fun c hc => h.1 c (List.mem_of_mem_drop hc), Nat.le_trans (by simp) h.2.1, fun j hj => by
    have hj' : k + j < zs.length := by simp at hj; omega
    obtain ⟨b, o, e, hc⟩ := h.2.2 (k + j) hj'
    cases e
    refine ⟨g, off + k, rfl, ?_⟩
    rw [List.getElem_drop, ← hc, Nat.add_assoc]⟩
theorem made_noughts : (madeCells (Value.cells (.int .u8 0)) (512 * 1)).toList = u8s noughts := by
  rw [show Value.cells (.int .u8 0) = #[.int .u8 0] from rfl, toList_madeCells_one]
  simp only [u8s, noughts, List.map_replicate]
  rfl
theorem step_append_fits {P : Program} {ops : Array Oper} {o : Oper} {a : Act} {w : World} {K : Act → World → Prop} {Q : Exit → Act → World → Prop} {E : Prop} (hgd : o.guard = none) (s x : Operand) (t : TypeId)
    (ho : o.op = .call { callee := .builtin .append, args := #[s, x], argTypes := #[t, t] })
    (base : Nat) (e : TypeId) (i : TypeInfo) (size : Nat) (h1 : P.underlying t = some (.slice e)) (h2 : P.info? e = some i) (h4 : i.size = size)
    (g k cap : Nat) (xs : List Value) (hs : a.eval s = .slice (some ⟨g, 0, none⟩) k cap) (hown : w.ownsRow base e size (.slice (some ⟨g, 0, none⟩) k cap) k xs) (ad : Addr) (m c : Nat) (news : List Value) (hx : a.eval x = .slice (some ad) m c) (hn : news.length = m * size)
    (hc : ∀ j u, news[j]? = some u → w.cell? (ad.add j) = some u) (h1c : ∀ u ∈ news, u.oneCell' = true) (b1 : k + m ≤ cap)
    (hK : ∀ w', w'.ownsRow base e size (.slice (some ⟨g, 0, none⟩) (k + m) cap) (k + m) (xs ++ news) → w.grownBy w' (some g) → K (a.put o.dst (.slice (some ⟨g, 0, none⟩) (k + m) cap)) w') :
    if Region.wanted o (yielded ops a.tmps) = true then Oper.wp P o a w K Q else E := by
  have hw : Region.wanted o (yielded ops a.tmps) = true := by simp [Region.wanted, hgd]
  rw [if_pos hw]
  obtain ⟨w', hrun, r1, r2⟩ := run_append_fits (P := P) w base t o.type e i size h1 h2 h4 g k cap xs hown ad m c news hn hc h1c b1
  unfold Oper.wp
  simp [execOp, ho, resolve, invoke, builtin, hs, hx, hrun, Result.andThen]
  exact hK w' r1 r2
theorem bytes_alloc (w : World) (l : List Nat) (hz : ∀ c ∈ l, c < 256) (hm : l.length ≤ maxLen) (fr : Nat × Nat) : BytesAt (w.alloc (.cells (u8c l) 5 fr)) (some ⟨w.heap.size, 0, none⟩) l :=
  ⟨hz, hm, fun j hj => ⟨w.heap.size, 0, rfl, by rw [Nat.zero_add, World.cell?_alloc_mark, u8c_get l j hj]⟩⟩
/-- The text of these bytes. -/
def str (zs : List Nat) : ByteArray := ⟨(zs.map UInt8.ofNat).toArray⟩
theorem conv_bytes {w : World} {ad : Addr} {zs : List Nat} (hb : BytesAt w (some ad) zs) (cap : Nat) :
    (convert 54 9 (.slice (some ad) zs.length cap)).run Try.prog w = .ok (.string (str zs)) w := by
  have := run_convert_bytes_back (P := Try.prog) w 54 9 5 ad cap (zs.map UInt8.ofNat) Try.underlying54 Try.underlying5 Try.underlying9 (fun j hj => by
    have hj' : j < zs.length := by simpa using hj
    have hcell := bytes_cells hb j (.int .u8 (zs[j] : Int)) (by simp [u8s, hj'])
    rw [hcell]
    have := hb.1 _ (List.getElem_mem hj')
    simp
    omega)
  rw [List.length_map] at this
  exact this
/-- The bytes of n, the lowest first: k of them. -/
def bytesOf (n k : Nat) : List Nat := (List.range k).map fun j => n / 2 ^ (8 * j) % 256
theorem conv_any {w : World} {a : Option Addr} {zs : List Nat} {k : Nat} (hb : BytesAt w a zs) (hk : zs.length = k) (cap : Nat) : (convert 54 9 (.slice a k cap)).run Try.prog w = .ok (.string (str zs)) w := by
  subst hk
  cases a with
  | none =>
    obtain rfl : zs = [] := by
      cases zs with
      | nil => rfl
      | cons x l =>
        obtain ⟨b, o, e, _⟩ := hb.2.2 0 (by simp)
        cases e
    exact run_convert_bytes_nil w 54 5 Try.underlying54 Try.underlying5 _ _ 9 Try.underlying9
  | some ad => exact conv_bytes hb cap
theorem bytes_empty (w : World) : BytesAt w none [] := ⟨fun c hc => (by cases hc), Nat.zero_le _, fun j hj => absurd hj (Nat.not_lt_zero _)⟩
theorem own : ownKnob Try.prog.godebug = none := by kernel_rfl
theorem laidOut : laidOutB Try.prog = true := by kernel_rfl
theorem bytes5 : Try.prog.bytesOf 5 = 1 := by kernel_rfl
/-- A slice of bytes that came in. -/
def InAt (w : World) (a : Option Addr) (len cap : Nat) (l : List Nat) : Prop := l.length = len ∧ len ≤ cap ∧ cap ≤ maxLen ∧ (a = none → l = [] ∧ cap = 0) ∧ BytesAt w a l
theorem in_of_row {w : World} {x : Addr} {len cap : Nat} {zs : List Int} (hl : len ≤ cap) (hm : cap ≤ maxLen) (hz : zs.length = cap)
    (hcell : ∀ i, i < zs.length → w.cell? (x.add i) = some (.int .u8 (zs.getD i 0))) (hwz : ∀ n ∈ zs, (Lit.int .u8 n).wf = true) : InAt w (some x) len cap ((zs.take len).map Int.toNat) := by
  have hb : ∀ n ∈ zs, 0 ≤ n ∧ n < 256 := fun n hn => by
    have := bounds_u8 (hwz n hn)
    omega
  refine ⟨by simp; omega, hl, hm, (fun h => by cases h), ?_, ?_, ?_⟩
  · intro c hc
    simp only [List.mem_map] at hc
    obtain ⟨n, hn, rfl⟩ := hc
    have := hb n (List.mem_of_mem_take hn)
    omega
  · simp; omega
  · intro j hj
    have hj' : j < len := by simp at hj; omega
    have h1 := hcell j (by omega)
    have hsp : x.spot = none := by
      have := hcell 0 (by omega)
      simpa [Addr.add] using World.cell?_spot this
    obtain ⟨b, off, spot⟩ := x
    simp only at hsp
    subst hsp
    refine ⟨b, off, rfl, ?_⟩
    have e : (⟨b, off, none⟩ : Addr).add j = ⟨b, off + j, none⟩ := by unfold Addr.add; split <;> simp_all
    rw [e] at h1
    rw [h1]
    have hjz : j < zs.length := by omega
    have h3 := hb _ (List.getElem_mem hjz)
    simp [hjz]
    omega
/-- Where they lie. -/
theorem bytes_none {w : World} {l : List Nat} (h : BytesAt w none l) : l = [] := by
  cases l with
  | nil => rfl
  | cons c l =>
    obtain ⟨b, off, e, _⟩ := h.2.2 0 (by simp)
    cases e
theorem bytes_prefix {w : World} {a : Option Addr} {l m : List Nat} (h : BytesAt w a (l ++ m)) : BytesAt w a l :=
  ⟨fun c hc => h.1 c (List.mem_append_left _ hc), by have := h.2.1; rw [List.length_append] at this; omega, fun j hj => by
    obtain ⟨b, off, e, hc⟩ := h.2.2 j (by rw [List.length_append]; omega)
    refine ⟨b, off, e, ?_⟩
    rw [hc, List.getElem_append_left hj]⟩
theorem row_bytes {w : World} {B g n c : Nat} {l : List Nat} (h : w.ownsRow B 5 1 (.slice (some ⟨g, 0, none⟩) n c) n (u8s l)) (hl : l.length = n) (hz : ∀ c ∈ l, c < 256) (hm : n ≤ maxLen) : BytesAt w (some ⟨g, 0, none⟩) l :=
  ⟨hz, by rw [hl]; exact hm, fun j hj => ⟨g, 0, rfl, by
    rw [Nat.zero_add, h.cellAt j (by omega)]
    simp [u8s, hj]⟩⟩
theorem row_cap {w : World} {B g n c : Nat} {t : TypeId} {xs : List Value} (h : w.ownsRow B t 1 (.slice (some ⟨g, 0, none⟩) n c) n xs) : n ≤ c ∧ c ≤ maxLen ∧ B ≤ g := by
  rcases h.2 with ⟨h', _⟩ | ⟨g', cap', cur, h', hB, _, h1, h2, _, _⟩
  · simp at h'
  · simp only [Value.slice.injEq, Option.some.injEq, Addr.mk.injEq, and_true, true_and] at h'
    obtain ⟨rfl, rfl⟩ := h'
    exact ⟨h1, h2, hB⟩
theorem row_form {w : World} {base size : Nat} {v : Value} {n : Nat} {t : TypeId} {xs : List Value} (h : w.ownsRow base t size v n xs) (hn : n ≠ 0) : ∃ g cap, v = .slice (some ⟨g, 0, none⟩) n cap := by
  rcases h.2 with ⟨_, h0⟩ | ⟨g, cap, cur, rfl, hb, _⟩
  · exact absurd h0 hn
  · exact ⟨g, cap, rfl⟩
theorem row_kept {w w' : World} {B n size : Nat} {t : TypeId} {v : Value} {xs : List Value} (h : w.ownsRow B t size v n xs) (hb : Below w.heap.size w w') : w'.ownsRow B t size v n xs :=
  h.kept (row := none) ⟨hb.os, hb.tape, hb.output, hb.size, fun k hk _ => hb.block k hk⟩ (by cases v.ownBlock <;> simp)
/-- append of whatever bytes to a row of one's own. -/
theorem wpList_append_opt {w : World} {ops : Array Oper} {rest : List Oper} {o : Oper} {a : Act} {Q : Exit → Act → World → Prop} (hgd : o.guard = none) (s x : Operand)
    (ho : o.op = .call { callee := .builtin .append, args := #[s, x], argTypes := #[54, 54] })
    (base g k c0 : Nat) (xs : List Nat) (hs : a.eval s = .slice (some ⟨g, 0, none⟩) k c0) (hown : w.ownsRow base 5 1 (.slice (some ⟨g, 0, none⟩) k c0) k (u8s xs))
    (ca : Option Addr) (m cc r : Nat) (hr : k + m = r) (l : List Nat) (hx : a.eval x = .slice ca m cc) (hlm : l.length = m) (hn : ca = none → cc = 0) (hb : BytesAt w ca l) (h63 : k + m ≤ maxLen) (h47 : k + m ≤ 140737488355328) (hbase : base ≤ w.heap.size)
    (h : ∀ g' c' w', w'.ownsRow base 5 1 (.slice (some ⟨g', 0, none⟩) r c') r (u8s (xs ++ l)) → w.grownBy w' (some g) → wpList Try.prog ops Q rest (a.put o.dst (.slice (some ⟨g', 0, none⟩) r c')) w') :
    wpList Try.prog ops Q (o :: rest) a w := by
  subst hr
  obtain ⟨i0, hi, hz0, hz1, hz2⟩ := info_parts info5
  cases ca with
  | none =>
    obtain rfl := bytes_none hb
    obtain rfl := hn rfl
    simp only [List.length_nil] at hlm
    subst hlm
    refine wpList_append_own_none hgd s x 54 ho base 5 i0 1 Try.underlying54 hi _ k (u8s xs) hs hown hx ?_
    have := h g c0 w (by rw [List.append_nil]; exact hown) (World.grownBy.refl w _)
    exact this
  | some ad =>
    refine wpList_append_own _ hgd s x 54 ho base 5 i0 (.int .u8 0) 1 1 Try.underlying54 hi hz0 hz1 hz2 rfl (by decide) _ k (u8s xs) hs hown ad m cc (u8s l) hx (by rw [u8s, List.length_map, hlm, Nat.mul_one]) (bytes_cells hb) (u8s_one l) h63 (by omega) hbase ?_
    intro v' w' hown' hg hnil
    have e : u8s xs ++ u8s l = u8s (xs ++ l) := by rw [u8s, u8s, u8s, List.map_append]
    rw [e] at hown'
    have hne : v' ≠ .slice none 0 0 := fun h' => by have := (hnil.1 h').1; cases this
    rcases hown'.2 with ⟨h', _⟩ | ⟨g', c', cur, rfl, _⟩
    · exact absurd h' hne
    · exact h g' c' w' hown' hg
theorem own_empty (w : World) : (w.alloc (.cells #[] 5)).ownsRow w.heap.size 5 1 (.slice (some ⟨w.heap.size, 0, none⟩) 0 0) 0 (u8s []) := World.ownsRow_made w #[] 0 (Nat.le_refl _) (Nat.zero_le _) rfl
/-- A slice of bytes that came in: it may be none. -/
def In (w : World) (a : Option Addr) (cap : Nat) (l : List Nat) : Prop := BytesAt w a l ∧ (a = none → cap = 0) ∧ l.length ≤ 140737488351232
theorem in_below {w w' : World} {a : Option Addr} {cap : Nat} {l : List Nat} (h : In w a cap l) (hb : Below w.heap.size w w') : In w' a cap l := ⟨bytes_below h.1 hb, h.2⟩
/-- Rows that were made since W, each for itself. -/
theorem own_mk (W : World) : (W.alloc (.cells #[] 54)).ownsRow W.heap.size 54 1 (.slice (some ⟨W.heap.size, 0, none⟩) 0 0) 0 [] := World.ownsRow_made W #[] 0 (Nat.le_refl _) (Nat.zero_le _) rfl
theorem size_alloc (W : World) (o : Obj) : (W.alloc o).heap.size = W.heap.size + 1 := by simp
theorem one_cell {w : World} {blk : Nat} {v : Value} (h : w.cell? ⟨blk, 0, none⟩ = some v) : ∀ ad, some (⟨blk, 0, none⟩ : Addr) = some ad → ∀ j u, [v][j]? = some u → w.cell? (ad.add j) = some u := by
  intro ad e j u hu
  cases e
  cases j with
  | zero =>
    cases hu
    have e : (⟨blk, 0, none⟩ : Addr).add 0 = ⟨blk, 0, none⟩ := by unfold Addr.add; split <;> simp_all
    rw [e]; exact h
  | succ j => simp at hu
/-- A slice's cells, up to a place and from a place on. -/
def Src (V : World) (ao : Option Addr) (vs : List Value) : Prop := ∀ ad, ao = some ad → ∀ j u, vs[j]? = some u → V.cell? (ad.add j) = some u
theorem src_take {V : World} {ao : Option Addr} {vs : List Value} (h : Src V ao vs) (j : Nat) : Src V ao (vs.take j) := fun ad e i u hu => by
  rw [List.getElem?_take] at hu
  split at hu
  · exact h ad e i u hu
  · cases hu
theorem src_drop {V : World} {b off : Nat} {vs : List Value} (h : Src V (some ⟨b, off, none⟩) vs) (j : Nat) : Src V (some ⟨b, off + j, none⟩) (vs.drop j) := fun ad e i u hu => by
  cases e
  rw [List.getElem?_drop] at hu
  have := h _ rfl (j + i) u hu
  have e1 : (⟨b, off, none⟩ : Addr).add (j + i) = ⟨b, off + (j + i), none⟩ := by unfold Addr.add; split <;> simp_all
  have e2 : (⟨b, off + j, none⟩ : Addr).add i = ⟨b, off + j + i, none⟩ := by unfold Addr.add; split <;> simp_all
  rw [e1, ← Nat.add_assoc] at this
  rw [e2]; exact this
/-- What a block holds is still there. -/
theorem src_below {w w' : World} {ao : Option Addr} {vs : List Value} (h : Src w ao vs) (hb : Below w.heap.size w w') : Src w' ao vs := fun ad e j u hu => by
  have hc := h ad e j u hu
  exact (hb.cell (World.block_lt_of_cell? w _ hc)).trans hc
theorem below_grown {w a b : World} {g : Nat} (h : Below w.heap.size w a) (hg : a.grownBy b (some g)) (hgb : w.heap.size ≤ g) : Below w.heap.size w b := h.grown hg h.size (fun k hk => by cases hk; exact hgb)
end Go.Proofs.Ythanjncpgcmnaaa
