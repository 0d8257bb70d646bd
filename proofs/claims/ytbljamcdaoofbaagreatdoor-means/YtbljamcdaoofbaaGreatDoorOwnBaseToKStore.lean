/- Texts OwnBase, OwnGlob, KBase, KStore, joined. -/
import Derived.Test.YtbljamcdaoofbaaGreatDoorCards
import Derived.Test.YtbljamcdaoofbaaGreatDoorTie
import Derived.Test.YtbljamcdaoofbaaGreatDoorLawRowsOne
import Derived.WalkKit
import Derived.ProofKit
import Derived.OpenShut
import Derived.JoinedCond
import Derived.Carry
import Derived.Deep.Slices
import Derived.Deep.DeepHandedRow
import Derived.Deep.DeepWitnessRowRef
import Derived.Lib.LaidIn
import Derived.Lib.LaidTab
import Derived.LaidLaws
import Derived.MakeChecks
import Derived.Test.YtbljamcdaoofbaaGreatDoorRefRowsToPRowsAll
import Derived.Test.YtbljamcdaoofbaaGreatDoorRelPushToLawTexts
import Derived.Deep.RegionLaw
import Derived.Deep.RegionWith
import Derived.Deep.RegionHeld
import Derived.Deep.CutRange
/- What every row needs: what is small, and a world that holds the listed variables as their initialisers lay them. -/
namespace Go.Proofs.YtbljamcdaoofbaaGreatDoor
open Go.ChangeShapes Go.WideShapes Go.ChangeAt Go.RowKit Go.Deep
namespace Own

theorem own : ownKnob Tryz.prog.godebug = none := by kernel_rfl
theorem laidOut : laidOutB Tryz.prog = true := by kernel_rfl
theorem cellsOp : Tryz.prog.cellsOf 73 = 8 := by kernel_rfl
theorem cellsInt : Tryz.prog.cellsOf 3 = 1 := by kernel_rfl
theorem cellsBool : Tryz.prog.cellsOf 4 = 1 := by kernel_rfl
theorem cellsString : Tryz.prog.cellsOf 9 = 1 := by kernel_rfl

theorem one_le {H : Type} (d : DataW H) : 1 ≤ Rows.uptoBulk d := by
  cases d with
  | lit l => cases l <;> simp [Rows.uptoBulk]
  | nil => simp [Rows.uptoBulk]
  | ptr d => simp [Rows.uptoBulk]
  | slice elems spare => simp [Rows.uptoBulk]
  | agg parts => simp [Rows.uptoBulk]
  | iface t d => simp [Rows.uptoBulk]
  | map entries => simp [Rows.uptoBulk]
  | held h => simp [Rows.uptoBulk]

theorem part_le {H : Type} {d : DataW H} {l : List (DataW H)} (h : d ∈ l) : Rows.uptoBulk d ≤ Rows.uptoBulkAll l := by
  induction l with
  | nil => cases h
  | cons x r ih =>
    simp only [Rows.uptoBulkAll]
    cases List.mem_cons.1 h with
    | inl e => subst e; omega
    | inr e => have := ih e; omega

theorem length_le {H : Type} (l : List (DataW H)) : l.length ≤ Rows.uptoBulkAll l := by
  induction l with
  | nil => simp [Rows.uptoBulkAll]
  | cons x r ih => have := one_le x; simp only [Rows.uptoBulkAll, List.length_cons]; omega

set_option maxRecDepth 100000 in
theorem small_le {H : Type} {l : List (DataW H)} (hk : Rows.uptoSmall H l = true) : Rows.uptoBulkAll l ≤ 1048576 := of_decide_eq_true hk

theorem wf_range {n : Int} (h : (Lit.int .i64 n).wf = true) : -9223372036854775808 ≤ n ∧ n ≤ 9223372036854775807 := by
  have h1 : IntKind.i64.min = -9223372036854775808 := by decide
  have h2 : IntKind.i64.max = 9223372036854775807 := by decide
  have h : (decide (IntKind.i64.min ≤ n) && decide (n ≤ IntKind.i64.max)) = true := h
  rw [h1, h2, Bool.and_eq_true] at h
  exact ⟨of_decide_eq_true h.1, of_decide_eq_true h.2⟩

theorem bytes_list (s : ByteArray) : s = ⟨s.data.toList.toArray⟩ := by cases s; simp

/-- the settled world, the listed variables as their initialisers lay them -/
def syntaxText : List UInt8 := [105, 110, 118, 97, 108, 105, 100, 32, 115, 121, 110, 116, 97, 120]
def rangeText : List UInt8 := [118, 97, 108, 117, 101, 32, 111, 117, 116, 32, 111, 102, 32, 114, 97, 110, 103, 101]

/-- the numbers of a table's datum, one behind the other -/
def flatCells : List (DataW Unit) → List Value
  | [] => []
  | .lit (.int k x) :: r => .int k x :: flatCells r
  | .agg [.lit (.int k x), .lit (.int k' x')] :: r => .int k x :: .int k' x' :: flatCells r
  | _ :: r => flatCells r
def cellsOfData : DataW Unit → Array Value
  | .agg l => (flatCells l).toArray
  | _ => #[]

noncomputable def laidWorld (os : Os) : World :=
  let N := (World.settled Tryz.prog os).heap.size
  let w0 := World.holding Tryz.prog os ⟨#[.cells #[.string ⟨syntaxText.toArray⟩] 263, .cells #[.string ⟨rangeText.toArray⟩] 263], #[], []⟩
  let put (h : Array Obj) (g : Nat) (cs : Array Value) : Array Obj := h.modify g fun
    | .cells _ t frozen => .cells cs t frozen
    | o => o
  let h0 := put (put w0.heap 4 #[.iface 261 (.pointer (some ⟨N, 0, none⟩))]) 5 #[.iface 261 (.pointer (some ⟨N + 1, 0, none⟩))]
  let h1 := put h0 2 (cellsOfData Rows.laid_unicode_utf8_first)
  let h2 := put h1 3 (cellsOfData Rows.laid_unicode_utf8_acceptRanges)
  let h3 := put h2 6 (cellsOfData Rows.laid_internal_strconv_uint64pow10)
  let h4 := put h3 7 (cellsOfData Rows.laid_math_bits_deBruijn32tab)
  let h5 := put h4 8 (cellsOfData Rows.laid_math_bits_deBruijn64tab)
  { w0 with heap := h5 }

noncomputable abbrev N0 : Nat := (World.settled Tryz.prog default).heap.size

set_option maxRecDepth 1000000 in
theorem laid_met (os : Os) (args : Array Value) : laidMet Tryz.prog Rows.pushesRow.laid ((laidWorld os).forCall (fun _ _ => 0) ⟨#[], args, []⟩).memory :=
  (LaidIn.of_run (l := Rows.pushesRow.laid) [7, 8, 6, 3, 5, N0 + 1, 4, N0, 2] 8 (by kernel_rfl) (by kernel_rfl) (by kernel_rfl) (by kernel_rfl)).met

end Own
end Go.Proofs.YtbljamcdaoofbaaGreatDoor

/- The library's variables, as a row lists them and as a world's shape has them. -/
namespace Go.Proofs.YtbljamcdaoofbaaGreatDoor
open Go.ChangeShapes Go.WideShapes Go.ChangeAt Go.RowKit Go.Deep
namespace Own

theorem vars_read {P : Program} {w : World} : ∀ {l : List (String × DataW Unit)} {ps : List MemPlace}, DataW.LaidVars P w l ps → ∀ n d, (n, d) ∈ l →
    ∃ g t cs fuel p, P.globalNamed n = some g ∧ (P.globals[g]?).map (·.type) = some t ∧ w.var? P n = some cs ∧ DataW.trod (fun _ => ()) P w 0 (fun _ => true) false fuel t cs.toList = some (d, p)
  | [], _, _, _, _, hm => by cases hm
  | (n', d') :: r, ps, h, n, d, hm => by
    obtain ⟨g, t, cs, fuel, p, q, h1, h2, h3, h4, h5, _⟩ := h
    rcases List.mem_cons.1 hm with e | e
    · cases e
      exact ⟨g, t, cs, fuel, p, h1, h2, h3, h4⟩
    · exact vars_read h5 n d e

theorem err_named : Tryz.prog.globalNamed "strconv.ErrRange" = some 5 := by kernel_rfl
theorem err_type : (Tryz.prog.globals[5]?).map (·.type) = some 244 := by kernel_rfl

theorem errAt_of {W : World} {l : List (String × DataW Unit)} (h : laidMetH Tryz.prog l W) (hp : (l.all fun x => x.2.handleName?.isNone) = true) (hm : ("strconv.ErrRange", Rows.laid_strconv_ErrRange) ∈ l) : ErrAt W := by
  rw [Go.MakeChecks.laidMetH_plain _ _ _ hp] at h
  obtain ⟨ps, hv, -⟩ := h
  obtain ⟨g, t, cs, fuel, p, h1, h2, h3, h4⟩ := vars_read hv _ _ hm
  obtain rfl := Option.some.inj (err_named.symm.trans h1)
  obtain rfl := Option.some.inj (err_type.symm.trans h2)
  obtain ⟨f', u, v, hcs, -, -⟩ := iface_of_trod Tryz.underlying244 h4
  refine ⟨.iface u v, ?_, .inr ⟨u, v, rfl⟩⟩
  have hc := World.var?_cell err_named h3 0
  obtain ⟨l0⟩ := cs
  simp only at hcs
  subst hcs
  simpa using hc

theorem max_zero : ((begin Tryz.prog (fun _ _ => 0) default).world.heap[1]?).bind Obj.row? = some (#[.int .i64 0], 3) := by kernel_rfl

/-- A variable of an integer type holds some integer. -/
theorem int_of_shape {P : Program} {w : World} {g : Nat} {t : TypeId} {k : IntKind} {zero : Array Value} (h : w.ShapedOpen P) (hg : g < P.globals.size)
    (h0 : ((begin P (fun _ _ => 0) default).world.heap[g]?).bind Obj.row? = some (zero, t)) (hz : zero.size = 1)
    (hb : P.buildable t = true) (hc : P.cellTypes P.depth t = some [t]) (hu : P.underlying t = some (.int k)) : ∃ n, w.cell? ⟨g, 0, none⟩ = some (.int k n) := by
  obtain ⟨cs, hh, hs, hr⟩ := h.1 g zero t hg h0
  obtain ⟨ts, hts, _, hall⟩ := hr hb
  rw [hc] at hts
  cases hts
  have h1 : 0 < cs.size := by omega
  obtain ⟨u, hu', hok⟩ := hall 0 cs[0] (by simp [h1])
  have : u = t := by simpa using hu'.symm
  subst this
  have hcell : w.cell? ⟨g, 0, none⟩ = some cs[0] := by simp [World.cell?, hh, h1]
  rw [hcell]
  unfold Cell.ok at hok
  rw [hu] at hok
  cases hv : cs[0] with
  | int k' n =>
    rw [hv] at hok
    simp only at hok
    exact ⟨n, by rw [hok.1]⟩
  | _ => rw [hv] at hok; simp at hok

theorem block_of_shape {P : Program} {w : World} {g : Nat} (h : w.ShapedOpen P) (hg : g < P.globals.size) (h0 : (((begin P (fun _ _ => 0) default).world.heap[g]?).bind Obj.row?).isSome = true) : g < w.heap.size := by
  obtain ⟨⟨z, t⟩, hx⟩ := Option.isSome_iff_exists.1 h0
  obtain ⟨cs, hh, -, -⟩ := h.1 g z t hg hx
  exact (Array.getElem?_eq_some_iff.1 hh).1

theorem glob_lt : decide (8 < Tryz.prog.globals.size) = true := by kernel_rfl
theorem glob_seven : (((begin Tryz.prog (fun _ _ => 0) default).world.heap[7]?).bind Obj.row?).isSome = true := by kernel_rfl
theorem int_buildable : Tryz.prog.buildable 3 = true := by kernel_rfl
theorem int_cells : Tryz.prog.cellTypes Tryz.prog.depth 3 = some [3] := by kernel_rfl

theorem maxAt_of {W : World} (h : W.ShapedOpen Tryz.prog) : MaxAt W :=
  int_of_shape h (Nat.lt_trans (by decide) (of_decide_eq_true glob_lt)) max_zero rfl int_buildable int_cells Tryz.underlying3

theorem eight_of {W : World} (h : W.ShapedOpen Tryz.prog) : 8 ≤ W.heap.size :=
  block_of_shape h (Nat.lt_trans (by decide) (of_decide_eq_true glob_lt)) glob_seven

theorem glob_of {W : World} {l : List (String × DataW Unit)} (h : laidMetH Tryz.prog l W) (hp : (l.all fun x => x.2.handleName?.isNone) = true) (hm : ("strconv.ErrRange", Rows.laid_strconv_ErrRange) ∈ l) (hs : W.ShapedOpen Tryz.prog) : Glob W :=
  ⟨errAt_of h hp hm, maxAt_of hs, eight_of hs⟩

end Own
end Go.Proofs.YtbljamcdaoofbaaGreatDoor

/- The small helpers of loamkeep. -/
namespace Go.Proofs.YtbljamcdaoofbaaGreatDoor
open Go.RowKit

/-- which of n things a number speaks of -/
def pickN (c : Int) (n : Nat) : Nat := if c < 0 then ((-(c + 1)) % n).toNat else (c % n).toNat

theorem pickN_lt (c : Int) {n : Nat} (hn : 0 < n) : pickN c n < n := by
  unfold pickN
  split
  · have h1 := Int.emod_nonneg (-(c + 1)) (show (n : Int) ≠ 0 by omega)
    have h2 := Int.emod_lt_of_pos (-(c + 1)) (show (0 : Int) < n by omega)
    omega
  · have h1 := Int.emod_nonneg c (show (n : Int) ≠ 0 by omega)
    have h2 := Int.emod_lt_of_pos c (show (0 : Int) < n by omega)
    omega

set_option maxRecDepth 10000 in
set_option maxHeartbeats 400000 in
theorem kpick_any (c : Int) (n : Nat) (w : World) (h1 : -9223372036854775808 ≤ c) (h2 : c ≤ 9223372036854775807) (hn : 0 < n) (hn2 : n ≤ 4194304) :
    Calls Tryz.prog 19 #[.int .i64 c, .int .i64 n] w fun e w' => e = .returned (.int .i64 (pickN c n)) ∧ w' = w := by
  have hnz : ((n : Int) == 0) = false := by simp; omega
  by_cases hc : c < 0
  · have HP := hide (show (pickN c n : Int) = Int.tmod (-(c + 1)) n by
      unfold pickN
      rw [if_pos hc, Int.tmod_eq_emod_of_nonneg (by omega)]
      have h1 := Int.emod_nonneg (-(c + 1)) (show (n : Int) ≠ 0 by omega)
      omega)
    go_enter Tryz.func19, Tryz.ntmps19
    go_wp2
    go_ret
    refine ⟨ret_int ?_, rfl⟩
    rw [unhide HP, Int.neg_tmod]
  · have HP := hide (show (pickN c n : Int) = c % n by
      unfold pickN
      rw [if_neg hc]
      have h1 := Int.emod_nonneg c (show (n : Int) ≠ 0 by omega)
      omega)
    go_enter Tryz.func19, Tryz.ntmps19
    go_wp2
    go_ret
    exact ⟨ret_int (unhide HP).symm, rfl⟩

/-- a number's digits -/
def digL (n : Nat) : List UInt8 := wordGo (n + 2) n []

set_option maxRecDepth 10000 in
set_option maxHeartbeats 1000000 in
theorem digits_any (n : Nat) (w : World) (hn : n ≤ 4194304) :
    Calls Tryz.prog 25 #[.int .i64 n] w fun e w' => e = .returned (SV (digL n)) ∧ Below w.heap.size w w' := by
  go_enter Tryz.func25, Tryz.ntmps25
  go_wp2
  go_loopw [0, 3] (fun m s wr => ∃ (k f : Nat) (l : List UInt8), k ≤ n ∧ k < f ∧ m = .int .i64 k ∧ s = .string ⟨l.toArray⟩ ∧ l.length + f ≤ n + 2 ∧ wordGo (n + 2) n [] = wordGo f k l ∧ (l = [] → 1 < f) ∧ Below w.heap.size w wr) (fun m s _ => 2 * (intOf m).toNat + emptyOf s)
  case atStart => exact ⟨n, n + 2, [], by omega, by omega, rfl, rfl, by simp, rfl, fun _ => by omega, Below.refl _ _⟩
  case round =>
    obtain ⟨k, f, l, hk, hkf, rfl, rfl, hlf, hgo, hl1, hbel⟩ := hrel
    have HG := hide hgo
    have HL := hide hl1
    clear hgo hl1
    by_cases hp : 0 < k
    · have hcv := convert_one wr (48 + (k : Int) % 10)
      rw [digit_byte] at hcv
      obtain ⟨f', rfl⟩ : ∃ f', f = f' + 1 := ⟨f - 1, by omega⟩
      go_wp2
      go_roundw
      case rel =>
        refine ⟨k / 10, f', (48 + UInt8.ofNat (k % 10)) :: l, by omega, by omega, by go_num, ?_, by simp; omega, ?_, fun e => by simp at e, hbel.alloc hbel.size _⟩
        · rw [show (⟨#[48 + UInt8.ofNat (k % 10)]⟩ : ByteArray) = ⟨[48 + UInt8.ofNat (k % 10)].toArray⟩ from rfl, bytes_append]
          rfl
        · rw [unhide HG, wordGo, if_pos (.inl hp)]
      case measure =>
        have e0 : emptyOf (.string (⟨#[48 + UInt8.ofNat (k % 10)]⟩ ++ ⟨l.toArray⟩)) = 0 := by
          rw [show (⟨#[48 + UInt8.ofNat (k % 10)]⟩ : ByteArray) = ⟨[48 + UInt8.ofNat (k % 10)].toArray⟩ from rfl, bytes_append]
          simp [emptyOf, ByteArray.size]
        rw [e0]
        simp [intOf]
        omega
    · have hk0 : k = 0 := by omega
      subst hk0
      by_cases hl0 : l = []
      · subst hl0
        have hf := unhide HL rfl
        obtain ⟨f', rfl⟩ : ∃ f', f = f' + 1 := ⟨f - 1, by omega⟩
        have hcv := convert_one wr 48
        rw [show UInt8.ofNat (48 : Int).toNat = 48 from rfl] at hcv
        go_wp2
        go_roundw
        case rel =>
          refine ⟨0, f', [48], by omega, by omega, rfl, ?_, by simp at hlf ⊢; omega, ?_, fun e => by simp at e, hbel.alloc hbel.size _⟩
          · first | rfl | (rw [show (⟨#[48]⟩ : ByteArray) = ⟨[48].toArray⟩ from rfl, show (⟨#[]⟩ : ByteArray) = ⟨([] : List UInt8).toArray⟩ from rfl, bytes_append]; rfl)
          · rw [unhide HG, wordGo, if_pos (.inr rfl)]; rfl
        case measure => simp [intOf, emptyOf, ByteArray.size]
      · have hle : (l == ([] : List UInt8)) = false := by simpa using hl0
        obtain ⟨f', rfl⟩ : ∃ f', f = f' + 1 := ⟨f - 1, by omega⟩
        have HW := hide (show digL n = l by rw [digL, unhide HG, wordGo, if_neg (by simp [hl0])])
        clear hl0
        go_wp2
        go_ret
        refine ⟨?_, hbel⟩
        rw [unhide HW]
        rfl

theorem wordGo_len : ∀ (f n : Nat) (s : List UInt8), (wordGo f n s).length ≤ s.length + f
  | 0, n, s => by simp [wordGo]
  | f + 1, n, s => by
    unfold wordGo
    split
    · have := wordGo_len f (n / 10) ((48 + UInt8.ofNat (n % 10)) :: s)
      simp at this
      omega
    · omega

theorem wordGo_small : ∀ (f n d : Nat) (s : List UInt8), n < 10 ^ d → s ≠ [] → (wordGo f n s).length ≤ s.length + d
  | 0, n, d, s, _, _ => by simp [wordGo]
  | f + 1, n, d, s, h, hs => by
    unfold wordGo
    split
    · rename_i hc
      have hn : 0 < n := by rcases hc with hc | hc; exact hc; exact absurd hc hs
      cases d with
      | zero => simp at h; omega
      | succ d =>
        have := wordGo_small f (n / 10) d ((48 + UInt8.ofNat (n % 10)) :: s) (by rw [Nat.pow_succ] at h; omega) (by simp)
        simp at this
        omega
    · omega

theorem digL_len (n d : Nat) (h : n < 10 ^ (d + 1)) : (digL n).length ≤ d + 1 := by
  unfold digL wordGo
  rw [if_pos (.inr rfl)]
  have := wordGo_small (n + 1) (n / 10) d [48 + UInt8.ofNat (n % 10)] (by rw [Nat.pow_succ] at h; omega) (by simp)
  simp at this
  omega

/-- the five streams' labels -/
def five : List (List UInt8) := [[97, 112, 112, 61, 119, 101, 98, 44, 122, 111, 110, 101, 61, 97], [97, 112, 112, 61, 119, 101, 98, 44, 122, 111, 110, 101, 61, 98], [97, 112, 112, 61, 100, 98], [97, 112, 112, 61, 100, 98, 44, 107, 105, 110, 100, 61, 120, 44, 122, 111, 110, 101, 61, 97], [122, 111, 110, 101, 61, 98]]

def labK (c : Int) : List UInt8 := five.getD (pickN c 5) []
theorem labK_mem (c : Int) : labK c ∈ five := by
  have h : pickN c 5 < five.length := pickN_lt c (by omega)
  unfold labK
  rw [List.getD_eq_getElem?_getD, List.getElem?_eq_getElem h]
  exact List.getElem_mem h

theorem row_at {w : World} (L : List (List UInt8)) (k : Nat) (h : k < L.length) : (w.alloc (.cells (L.map SV).toArray 9)).cell? ⟨w.heap.size, k, none⟩ = some (SV (L.getD k [])) := by
  rw [cell_of_row _ w.heap.size k _ 9 (0, 0) (heap_alloc_new w _)]
  simp [h]

set_option maxRecDepth 10000 in
set_option maxHeartbeats 1000000 in
theorem labels_any (c : Int) (w : World) (h1 : -9223372036854775808 ≤ c) (h2 : c ≤ 9223372036854775807) :
    Calls Tryz.prog 36 #[.int .i64 c] w fun e w' => e = .returned (SV (labK c)) ∧ Below w.heap.size w w' := by
  have hb := (Below.refl w.heap.size w).alloc (Nat.le_refl _) (.cells (five.map SV).toArray 9)
  have hc := row_at (w := w) five (pickN c 5) (pickN_lt c (by omega))
  have hlt : (pickN c 5 : Int) < 5 := by have := pickN_lt c (n := 5) (by omega); omega
  have HL := hide (show labK c = five.getD (pickN c 5) [] from rfl)
  have hp := fun W => kpick_any c 5 W h1 h2 (by omega) (by omega)
  generalize labK c = lab at *
  generalize pickN c 5 = k at *
  rw [← unhide HL] at hc
  go_enter Tryz.func36, Tryz.ntmps36
  go_upto_region 2 with fail
  change Code.wp _ _ _ _ (w.alloc (.cells (five.map SV).toArray 9))
  generalize w.alloc (.cells (five.map SV).toArray 9) = W at *
  go_wp2_with fail
  refine (hp _).mono ?_
  rintro e w' ⟨rfl, hww⟩
  rw [hww]
  clear hww w'
  go_wp2_with fail
  go_ret
  exact ⟨rfl, hb⟩

/-- what a line of loamkeep's may begin with -/
def eight : List (List UInt8) := [[103, 101, 116, 32], [112, 117, 116, 32], [], [45], [120], [97, 32, 34, 98, 34, 32], [0, 255], [49]]

theorem tdiv8 (c : Int) (h1 : -9223372036854775808 ≤ c) (h2 : c ≤ 9223372036854775807) : -9223372036854775808 ≤ c.tdiv 8 ∧ c.tdiv 8 ≤ 9223372036854775807 := by
  by_cases h : 0 ≤ c
  · rw [Int.tdiv_eq_ediv_of_nonneg h]
    omega
  · have e : c.tdiv 8 = -((-c) / 8) := by
      have h2 : (-c).tdiv 8 = (-c) / 8 := Int.tdiv_eq_ediv_of_nonneg (by omega)
      have h3 : (-c).tdiv 8 = -(c.tdiv 8) := Int.neg_tdiv ..
      omega
    rw [e]
    omega

def saysK (c : Int) : List UInt8 := eight.getD (pickN c 8) [] ++ digL (pickN (c.tdiv 8) 1000)

theorem saysK_len (c : Int) : (saysK c).length ≤ 40 := by
  unfold saysK
  rw [List.length_append]
  have h1 := digL_len (pickN (c.tdiv 8) 1000) 2 (pickN_lt _ (by omega))
  have h2 : ∀ k, k < 8 → (eight.getD k []).length ≤ 6 := by decide
  have := h2 (pickN c 8) (pickN_lt c (by omega))
  omega

set_option maxRecDepth 10000 in
set_option maxHeartbeats 2000000 in
theorem says_any (c : Int) (w : World) (h1 : -9223372036854775808 ≤ c) (h2 : c ≤ 9223372036854775807) :
    Calls Tryz.prog 37 #[.int .i64 c] w fun e w' => e = .returned (SV (saysK c)) ∧ Below w.heap.size w w' := by
  have hb := (Below.refl w.heap.size w).alloc (Nat.le_refl _) (.cells (eight.map SV).toArray 9)
  have hc := row_at (w := w) eight (pickN c 8) (pickN_lt c (by omega))
  have hlt : (pickN c 8 : Int) < 8 := by have := pickN_lt c (n := 8) (by omega); omega
  have hk := pickN_lt (c.tdiv 8) (n := 1000) (by omega)
  have HL := hide (show saysK c = eight.getD (pickN c 8) [] ++ digL (pickN (c.tdiv 8) 1000) from rfl)
  have hp := fun W => kpick_any c 8 W h1 h2 (by omega) (by omega)
  have hp2 := fun W => kpick_any (c.tdiv 8) 1000 W (tdiv8 c h1 h2).1 (tdiv8 c h1 h2).2 (by omega) (by omega)
  have hdg := fun W => digits_any (pickN (c.tdiv 8) 1000) W (by omega)
  have hsz : w.heap.size < (w.alloc (.cells (eight.map SV).toArray 9)).heap.size := by simp
  have hl1 : (eight.getD (pickN c 8) []).length ≤ 6 := by
    have h2 : ∀ k, k < 8 → (eight.getD k []).length ≤ 6 := by decide
    exact h2 (pickN c 8) (pickN_lt c (by omega))
  have hl2 := digL_len (pickN (c.tdiv 8) 1000) 2 (pickN_lt _ (by omega))
  generalize saysK c = line at *
  generalize pickN (c.tdiv 8) 1000 = m at *
  generalize pickN c 8 = k at *
  generalize eight.getD k [] = pre at *
  generalize digL m = dg at *
  go_enter Tryz.func37, Tryz.ntmps37
  go_wp2_with fail
  refine (hp2 _).mono ?_
  rintro e w' ⟨rfl, hww⟩
  rw [hww]
  clear hww w' hp2
  go_upto_region 3 with fail
  change Code.wp _ _ _ _ (w.alloc (.cells (eight.map SV).toArray 9))
  generalize w.alloc (.cells (eight.map SV).toArray 9) = W at *
  generalize hbn : w.heap.size = b at *
  have HC : Hid (W.drew.cell? ⟨b, k, none⟩ = some (SV pre)) := hc
  clear hc
  go_region_held (fun X => X.cell? ⟨b, k, none⟩ = some (SV pre)) (first | exact unhide HC | exact unhide HC2)
    (first | (go_at_call 19; refine (hp _).mono ?_; rintro e w' ⟨rfl, hww⟩; rw [hww]; clear hww w') | (go_at_call 25; refine (hdg _).mono ?_; rintro e w3 ⟨rfl, hb3⟩; have HC2 := hide ((hb3.cell (p := ⟨b, k, none⟩) hsz).trans (unhide HC))))
  all_goals
    have hfin : Below b w w3 := hb.trans ⟨hb3.os, hb3.tape, hb3.output, hb3.size, fun j hj => hb3.block j (Nat.lt_trans hj hsz)⟩
    rw [← hbn] at hfin
    have HFI := hide hfin
    clear hfin hb3 hb
    go_wp2_with fail
    go_ret
    refine ⟨?_, unhide HFI⟩
    rw [unhide HL]
    exact congrArg (fun x => Ending.returned (.string x)) (bytes_append pre dg)

end Go.Proofs.YtbljamcdaoofbaaGreatDoor

/- A store of loamkeep's in memory: the program's, with the document's state beside it as a ghost. -/
namespace Go.Proofs.YtbljamcdaoofbaaGreatDoor
open Go.RowKit

/-- The program's store lies at block p, on blocks F, all of them newer than w0; its state is that of the document's (S, L). -/
structure KeepAt (w0 w : World) (F : Nat → Prop) (p : Nat) (S : List Strm) (L : List Rw) : Prop where
  st : ∃ ns va, StoreAt w F p ns va ∧ RelA (ns.map absN) S L
  fine : Fine S L
  high : ∀ b, F b → w0.heap.size ≤ b ∧ b < w.heap.size
  bel : Below w0.heap.size w0 w

theorem KeepAt.moved {w0 w w' : World} {F G : Nat → Prop} {p : Nat} {S : List Strm} {L : List Rw} (h : KeepAt w0 w F p S L) (hm : Moved G w w') (hG : ∀ b, F b → ¬ G b) (hl : ∀ b, b < w0.heap.size → ¬ G b) : KeepAt w0 w' F p S L := by
  obtain ⟨ns, va, hst, hrel⟩ := h.st
  refine ⟨⟨ns, va, hst.keep (fun b hb hf => hm.block b hb (hG b hf)), hrel⟩, h.fine, fun b hb => ⟨(h.high b hb).1, Nat.lt_of_lt_of_le (h.high b hb).2 hm.size⟩, ?_⟩
  exact h.bel.trans ⟨hm.os, hm.tape, hm.output, hm.size, fun b hb => hm.block b (Nat.lt_of_lt_of_le hb h.bel.size) (hl b hb)⟩

theorem KeepAt.below {w0 w w' : World} {F : Nat → Prop} {p : Nat} {S : List Strm} {L : List Rw} (h : KeepAt w0 w F p S L) (hb : Below w.heap.size w w') : KeepAt w0 w' F p S L :=
  h.moved (G := fun _ => False) ⟨hb.os, hb.tape, hb.output, hb.size, fun b hb' _ => hb.block b hb'⟩ (fun _ _ g => g) (fun _ _ g => g)

theorem KeepAt.rebase {w00 w0 w : World} {F : Nat → Prop} {p : Nat} {S : List Strm} {L : List Rw} (h : KeepAt w0 w F p S L) (hb : Below w00.heap.size w00 w0) : KeepAt w00 w F p S L :=
  ⟨h.st, h.fine, fun b hf => ⟨Nat.le_trans hb.size (h.high b hf).1, (h.high b hf).2⟩, hb.trans (h.bel.mono hb.size)⟩

theorem Glob.base {w0 w : World} (h : Glob w0) (hb : Below w0.heap.size w0 w) : Glob w := h.below hb

def NewP (w : World) (e : Ending) (w' : World) : Prop := e = .returned (.pointer (some ⟨w.heap.size, 0, none⟩)) ∧ KeepAt w w' (fun b => b = w.heap.size) w.heap.size [] []

theorem knew_any (w : World) : Calls Tryz.prog 30 #[] w (NewP w) := by
  refine (new_any w).mono ?_
  rintro e w' ⟨rfl, rfl⟩
  refine ⟨rfl, ⟨⟨[], .slice none 0 0, ⟨heap_alloc_new w _, World.ownsRow_nil _ _ _ _, fun n hn => (by simp at hn), List.Pairwise.nil, rfl, fun g hg => (by cases hg), fun n hn => (by simp at hn)⟩, RelA.empty⟩, Fine.empty, ?_, (Below.refl _ w).alloc (Nat.le_refl _) _⟩⟩
  rintro b rfl
  simp

/-- what a push leaves -/
def PushP (w0 w : World) (F : Nat → Prop) (p : Nat) (S : List Strm) (L : List Rw) (l : List UInt8) (t : Int) (x : List UInt8) (e : Ending) (w' : World) : Prop :=
  e = .returned (.int .i64 (pushR S L l t x).1) ∧ ∃ F', KeepAt w0 w' F' p (pushR S L l t x).2.1 (pushR S L l t x).2.2 ∧ Moved F w w' ∧ (∀ b, F' b → F b ∨ w.heap.size ≤ b)

theorem kpush_any {w0 w : World} {F : Nat → Prop} {p : Nat} {S : List Strm} {L : List Rw} (l x : List UInt8) (t : Int) (h : KeepAt w0 w F p S L) (hl : l.length ≤ 1048576) (hx : x.length ≤ 1048576) :
    Calls Tryz.prog 23 #[.pointer (some ⟨p, 0, none⟩), .string ⟨l.toArray⟩, .int .i64 t, .string ⟨x.toArray⟩] w (PushP w0 w F p S L l t x) := by
  obtain ⟨ns, va, hst, hrel⟩ := h.st
  refine (push_any l x t hst (by rw [hrel.len']; exact hrel.six) hrel.rising (by rw [hrel.total]; exact hrel.many) hl hx).mono ?_
  rintro e w' ⟨rfl, ⟨ns', va', hst', hab⟩, hm⟩
  refine ⟨by rw [hrel.code], fun b => (F b ∨ w.heap.size ≤ b) ∧ b < w'.heap.size, ⟨⟨ns', va', hst'.refoot (fun b hb hf => ⟨hf, hb⟩), by rw [hab]; exact hrel.push l t x⟩, h.fine.push l t x hl, ?_, ?_⟩, hm, fun b hb => hb.1⟩
  · rintro b ⟨hb | hb, hlt⟩
    · exact ⟨(h.high b hb).1, hlt⟩
    · exact ⟨Nat.le_trans h.bel.size hb, hlt⟩
  · exact h.bel.trans ⟨hm.os, hm.tape, hm.output, hm.size, fun b hb => hm.block b (Nat.lt_of_lt_of_le hb h.bel.size) (fun hf => by have := (h.high b hf).1; omega)⟩

def DropP (w0 w : World) (F : Nat → Prop) (p : Nat) (S : List Strm) (L : List Rw) (b : Int) (e : Ending) (w' : World) : Prop :=
  e = .returned (.tuple #[.int .i64 (dropR L b).1, .int .i64 (dropR L b).2.1]) ∧ ∃ F', KeepAt w0 w' F' p S (dropR L b).2.2 ∧ Moved F w w' ∧ (∀ b, F' b → F b ∨ w.heap.size ≤ b)

theorem kdrop_any {w0 w : World} {F : Nat → Prop} {p : Nat} {S : List Strm} {L : List Rw} (b : Int) (h : KeepAt w0 w F p S L) :
    Calls Tryz.prog 22 #[.pointer (some ⟨p, 0, none⟩), .int .i64 b] w (DropP w0 w F p S L b) := by
  obtain ⟨ns, va, hst, hrel⟩ := h.st
  refine (drop_any b hst (by rw [hrel.len']; exact hrel.six) (by rw [hrel.total]; exact hrel.many) (fun n hn => hrel.order _ (List.mem_map_of_mem hn))).mono ?_
  rintro e w' ⟨rfl, ⟨ns', va', hst', hab⟩, hm⟩
  have hd := hrel.drop b
  refine ⟨by rw [hd.1, hd.2.1], fun b => (F b ∨ w.heap.size ≤ b) ∧ b < w'.heap.size, ⟨⟨ns', va', hst'.refoot (fun b hb hf => ⟨hf, hb⟩), by rw [hab]; exact hd.2.2⟩, h.fine.drop b, ?_, ?_⟩, hm, fun b hb => hb.1⟩
  · rintro b ⟨hb | hb, hlt⟩
    · exact ⟨(h.high b hb).1, hlt⟩
    · exact ⟨Nat.le_trans h.bel.size hb, hlt⟩
  · exact h.bel.trans ⟨hm.os, hm.tape, hm.output, hm.size, fun b hb => hm.block b (Nat.lt_of_lt_of_le hb h.bel.size) (fun hf => by have := (h.high b hf).1; omega)⟩

def StrmP (w : World) (S : List Strm) (e : Ending) (w' : World) : Prop :=
  ∃ v, e = .returned v ∧ w'.ownsRow w.heap.size 9 1 v (streamsR S).length ((streamsR S).map SV) ∧ Below w.heap.size w w'

theorem kstreams_any {w0 w : World} {F : Nat → Prop} {p : Nat} {S : List Strm} {L : List Rw} (h : KeepAt w0 w F p S L) :
    Calls Tryz.prog 16 #[.pointer (some ⟨p, 0, none⟩)] w (StrmP w S) := by
  obtain ⟨ns, va, hst, hrel⟩ := h.st
  refine (streams_any hst (by rw [hrel.len']; exact hrel.six)).mono ?_
  rintro e w' ⟨v, rfl, hown, hb⟩
  have hs : streamsR S = ns.map (fun n => n.lab) := by
    rw [← hrel.streams, List.map_map]
    rfl
  exact ⟨v, rfl, by rw [hs, List.length_map]; exact hown, hb⟩

theorem krows_any {w0 w : World} {F : Nat → Prop} {p : Nat} {S : List Strm} {L : List Rw} (l : List UInt8) (fr tt lim : Int) (bw : Bool) (h : KeepAt w0 w F p S L) (hl : l.length ≤ 1048576) (hg : Glob w0) :
    Calls Tryz.prog 20 #[.pointer (some ⟨p, 0, none⟩), .string ⟨l.toArray⟩, .int .i64 fr, .int .i64 tt, .int .i64 lim, .bool bw] w (RowsP3 w (rowsA l fr tt lim bw L) (rowsE l fr tt lim).1 (rowsE l fr tt lim).2) := by
  obtain ⟨ns, va, hst, hrel⟩ := h.st
  have hg' := hg.base h.bel
  exact pRows_any l fr tt lim bw hst hrel h.fine hl hg'.1 hg'.2.1 hg'.2.2

end Go.Proofs.YtbljamcdaoofbaaGreatDoor
