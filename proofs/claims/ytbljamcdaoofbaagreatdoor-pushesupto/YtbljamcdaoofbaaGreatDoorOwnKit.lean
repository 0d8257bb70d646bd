/- What every row of loamlaw needs: how a script reads, and a world that holds the listed variables as their initialisers lay them. -/
import Derived.Test.YtbljamcdaoofbaaGreatDoorCards
import Derived.Test.YtbljamcdaoofbaaGreatDoorTie
import Derived.Test.YtbljamcdaoofbaaGreatDoorLawPlays
import Derived.WalkKit
import Derived.ProofKit
import Derived.OpenShut
import Derived.JoinedCond
import Derived.Carry
import Derived.Deep.Slices
import Derived.Deep.DeepHandedRow
import Derived.Deep.DeepWitnessRowRef
import Derived.Lib.LaidIn
import Derived.Lib.LaidTab
namespace Go.Proofs.YtbljamcdaoofbaaGreatDoor
open Go.ChangeShapes Go.WideShapes Go.ChangeAt Go.RowKit Go.Deep
namespace Own

theorem own : ownKnob Tryz.prog.godebug = none := by kernel_rfl
theorem laidOut : laidOutB Tryz.prog = true := by kernel_rfl
theorem cellsOp : Tryz.prog.cellsOf 73 = 8 := by kernel_rfl
theorem cellsInt : Tryz.prog.cellsOf 3 = 1 := by kernel_rfl
theorem cellsBool : Tryz.prog.cellsOf 4 = 1 := by kernel_rfl
theorem cellsString : Tryz.prog.cellsOf 9 = 1 := by kernel_rfl

theorem one_le {H : Type} (d : DataW H) : 1 ≤ Rows.uptoBulk d := by
  cases d with
  | lit l => cases l <;> simp [Rows.uptoBulk]
  | nil => simp [Rows.uptoBulk]
  | ptr d => simp [Rows.uptoBulk]
  | slice elems spare => simp [Rows.uptoBulk]
  | agg parts => simp [Rows.uptoBulk]
  | iface t d => simp [Rows.uptoBulk]
  | map entries => simp [Rows.uptoBulk]
  | held h => simp [Rows.uptoBulk]

theorem part_le {H : Type} {d : DataW H} {l : List (DataW H)} (h : d ∈ l) : Rows.uptoBulk d ≤ Rows.uptoBulkAll l := by
  induction l with
  | nil => cases h
  | cons x r ih =>
    simp only [Rows.uptoBulkAll]
    cases List.mem_cons.1 h with
    | inl e => subst e; omega
    | inr e => have := ih e; omega

theorem length_le {H : Type} (l : List (DataW H)) : l.length ≤ Rows.uptoBulkAll l := by
  induction l with
  | nil => simp [Rows.uptoBulkAll]
  | cons x r ih => have := one_le x; simp only [Rows.uptoBulkAll, List.length_cons]; omega

set_option maxRecDepth 100000 in
theorem small_le {H : Type} {l : List (DataW H)} (hk : Rows.uptoSmall H l = true) : Rows.uptoBulkAll l ≤ 1048576 := of_decide_eq_true hk

theorem wf_range {n : Int} (h : (Lit.int .i64 n).wf = true) : -9223372036854775808 ≤ n ∧ n ≤ 9223372036854775807 := by
  have h1 : IntKind.i64.min = -9223372036854775808 := by decide
  have h2 : IntKind.i64.max = 9223372036854775807 := by decide
  have h : (decide (IntKind.i64.min ≤ n) && decide (n ≤ IntKind.i64.max)) = true := h
  rw [h1, h2, Bool.and_eq_true] at h
  exact ⟨of_decide_eq_true h.1, of_decide_eq_true h.2⟩

theorem bytes_list (s : ByteArray) : s = ⟨s.data.toList.toArray⟩ := by cases s; simp

set_option maxRecDepth 10000 in
theorem opFit {H : Type} {enc : TypeId × Value → H} {W : World} {base n : Nat} {spare : Nat → Bool} {held : Bool} {sb so : Nat} {cs' : List Value} {y : DataW H × List MemPlace}
    (hc : W.cells? base ⟨sb, so, none⟩ 8 = some cs') (ht : DataW.trod enc Tryz.prog W base spare held n 73 cs' = some y) (hb : Rows.uptoBulk y.1 ≤ 1048576) : OpFit W sb so := by
  obtain ⟨_, hlen, hcell⟩ := World.cells?_some hc
  obtain ⟨xs, m, -, hy, -, hxl, hall⟩ := DataW.trod_struct Tryz.underlying73 ht
  match cs', hlen with
  | [v0, v1, v2, v3, v4, v5, v6, v7], _ =>
  match xs, hxl with
  | [x0, x1, x2, x3, x4, x5, x6, x7], _ =>
  have u0 : DataW.trod enc Tryz.prog W base spare held m 3 (List.take (Tryz.prog.cellsOf 3) (List.drop 0 [v0, v1, v2, v3, v4, v5, v6, v7])) = some x0 := hall 0 _ rfl
  have u1 : DataW.trod enc Tryz.prog W base spare held m 3 (List.take (Tryz.prog.cellsOf 3) (List.drop 1 [v0, v1, v2, v3, v4, v5, v6, v7])) = some x1 := hall 1 _ rfl
  have u2 : DataW.trod enc Tryz.prog W base spare held m 9 (List.take (Tryz.prog.cellsOf 9) (List.drop 2 [v0, v1, v2, v3, v4, v5, v6, v7])) = some x2 := hall 2 _ rfl
  have u3 : DataW.trod enc Tryz.prog W base spare held m 9 (List.take (Tryz.prog.cellsOf 9) (List.drop 3 [v0, v1, v2, v3, v4, v5, v6, v7])) = some x3 := hall 3 _ rfl
  have u4 : DataW.trod enc Tryz.prog W base spare held m 3 (List.take (Tryz.prog.cellsOf 3) (List.drop 4 [v0, v1, v2, v3, v4, v5, v6, v7])) = some x4 := hall 4 _ rfl
  have u5 : DataW.trod enc Tryz.prog W base spare held m 3 (List.take (Tryz.prog.cellsOf 3) (List.drop 5 [v0, v1, v2, v3, v4, v5, v6, v7])) = some x5 := hall 5 _ rfl
  have u6 : DataW.trod enc Tryz.prog W base spare held m 3 (List.take (Tryz.prog.cellsOf 3) (List.drop 6 [v0, v1, v2, v3, v4, v5, v6, v7])) = some x6 := hall 6 _ rfl
  have u7 : DataW.trod enc Tryz.prog W base spare held m 4 (List.take (Tryz.prog.cellsOf 4) (List.drop 7 [v0, v1, v2, v3, v4, v5, v6, v7])) = some x7 := hall 7 _ rfl
  simp only [cellsInt, cellsString, cellsBool, List.drop, List.take] at u0 u1 u2 u3 u4 u5 u6 u7
  obtain ⟨kind, e0, d0, -⟩ := DataW.trod_int Tryz.underlying3 u0
  obtain ⟨on, e1, d1, won⟩ := DataW.trod_int Tryz.underlying3 u1
  obtain ⟨text, e2, d2, -⟩ := DataW.trod_string Tryz.underlying9 u2
  obtain ⟨line, e3, d3, -⟩ := DataW.trod_string Tryz.underlying9 u3
  obtain ⟨A, e4, d4, -⟩ := DataW.trod_int Tryz.underlying3 u4
  obtain ⟨B, e5, d5, -⟩ := DataW.trod_int Tryz.underlying3 u5
  obtain ⟨C, e6, d6, -⟩ := DataW.trod_int Tryz.underlying3 u6
  obtain ⟨back, e7, d7⟩ := DataW.trod_bool Tryz.underlying4 u7
  simp only [List.cons.injEq, and_true] at e0 e1 e2 e3 e4 e5 e6 e7
  subst e0 e1 e2 e3 e4 e5 e6 e7
  have c0 := hcell 0 (by omega)
  have c1 := hcell 1 (by omega)
  have c2 := hcell 2 (by omega)
  have c3 := hcell 3 (by omega)
  have c4 := hcell 4 (by omega)
  have c5 := hcell 5 (by omega)
  have c6 := hcell 6 (by omega)
  have c7 := hcell 7 (by omega)
  rw [add_plain] at c0 c1 c2 c3 c4 c5 c6 c7
  rw [hy, d0, d1, d2, d3, d4, d5, d6, d7] at hb
  simp only [List.map_cons, List.map_nil, Rows.uptoBulk, Rows.uptoBulkAll] at hb
  obtain ⟨o1, o2⟩ := wf_range won
  refine ⟨kind, on, text.data.toList, line.data.toList, A, B, C, back, ⟨c0, c1, ?_, ?_, c4, c5, c6, c7⟩, o1, o2, by omega, by omega⟩
  · rw [← bytes_list]; exact c2
  · rw [← bytes_list]; exact c3

/-- the settled world, the listed variables as their initialisers lay them -/
def syntaxText : List UInt8 := [105, 110, 118, 97, 108, 105, 100, 32, 115, 121, 110, 116, 97, 120]
def rangeText : List UInt8 := [118, 97, 108, 117, 101, 32, 111, 117, 116, 32, 111, 102, 32, 114, 97, 110, 103, 101]

/-- the numbers of a table's datum, one behind the other -/
def flatCells : List (DataW Unit) → List Value
  | [] => []
  | .lit (.int k x) :: r => .int k x :: flatCells r
  | .agg [.lit (.int k x), .lit (.int k' x')] :: r => .int k x :: .int k' x' :: flatCells r
  | _ :: r => flatCells r
def cellsOfData : DataW Unit → Array Value
  | .agg l => (flatCells l).toArray
  | _ => #[]

noncomputable def laidWorld (os : Os) : World :=
  let N := (World.settled Tryz.prog os).heap.size
  let w0 := World.holding Tryz.prog os ⟨#[.cells #[.string ⟨syntaxText.toArray⟩] 263, .cells #[.string ⟨rangeText.toArray⟩] 263], #[], []⟩
  let put (h : Array Obj) (g : Nat) (cs : Array Value) : Array Obj := h.modify g fun
    | .cells _ t frozen => .cells cs t frozen
    | o => o
  let h0 := put (put w0.heap 4 #[.iface 261 (.pointer (some ⟨N, 0, none⟩))]) 5 #[.iface 261 (.pointer (some ⟨N + 1, 0, none⟩))]
  let h1 := put h0 2 (cellsOfData Rows.laid_unicode_utf8_first)
  let h2 := put h1 3 (cellsOfData Rows.laid_unicode_utf8_acceptRanges)
  let h3 := put h2 6 (cellsOfData Rows.laid_internal_strconv_uint64pow10)
  let h4 := put h3 7 (cellsOfData Rows.laid_math_bits_deBruijn32tab)
  let h5 := put h4 8 (cellsOfData Rows.laid_math_bits_deBruijn64tab)
  { w0 with heap := h5 }

noncomputable abbrev N0 : Nat := (World.settled Tryz.prog default).heap.size

set_option maxRecDepth 1000000 in
theorem laid_met (os : Os) (args : Array Value) : laidMet Tryz.prog Rows.pushesRow.laid ((laidWorld os).forCall (fun _ _ => 0) ⟨#[], args, []⟩).memory :=
  (LaidIn.of_run (l := Rows.pushesRow.laid) [7, 8, 6, 3, 5, N0 + 1, 4, N0, 2] 8 (by kernel_rfl) (by kernel_rfl) (by kernel_rfl) (by kernel_rfl)).met

end Own
end Go.Proofs.YtbljamcdaoofbaaGreatDoor
