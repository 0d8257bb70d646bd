/- Texts Glob, OwnBase, OwnGlob, joined. -/
import Derived.Test.YtbljamcdaoofbaaGreatDoorRefRowsToPRowsAll
import Derived.Test.YtbljamcdaoofbaaGreatDoorCards
import Derived.Test.YtbljamcdaoofbaaGreatDoorTie
import Derived.WalkKit
import Derived.ProofKit
import Derived.OpenShut
import Derived.JoinedCond
import Derived.Carry
import Derived.Deep.Slices
import Derived.Deep.DeepHandedRow
import Derived.Deep.DeepWitnessRowRef
import Derived.Lib.LaidIn
import Derived.Lib.LaidTab
import Derived.LaidLaws
import Derived.MakeChecks
/- The library's variables that the program reads. -/
namespace Go.Proofs.YtbljamcdaoofbaaGreatDoor
open Go.RowKit

/-- the library's variables, as the program needs them -/
def Glob (w : World) : Prop := ErrAt w ∧ MaxAt w ∧ 8 ≤ w.heap.size

theorem Glob.below {w w' : World} (h : Glob w) (hb : Below w.heap.size w w') : Glob w' :=
  ⟨h.1.below hb (by have := h.2.2; show 5 < _; omega), h.2.1.below h.2.2 hb, Nat.le_trans h.2.2 hb.size⟩

end Go.Proofs.YtbljamcdaoofbaaGreatDoor

/- What every row needs: what is small, and a world that holds the listed variables as their initialisers lay them. -/
namespace Go.Proofs.YtbljamcdaoofbaaGreatDoor
open Go.ChangeShapes Go.WideShapes Go.ChangeAt Go.RowKit Go.Deep
namespace Own

theorem own : ownKnob Tryz.prog.godebug = none := by kernel_rfl
theorem laidOut : laidOutB Tryz.prog = true := by kernel_rfl
theorem cellsOp : Tryz.prog.cellsOf 73 = 8 := by kernel_rfl
theorem cellsInt : Tryz.prog.cellsOf 3 = 1 := by kernel_rfl
theorem cellsBool : Tryz.prog.cellsOf 4 = 1 := by kernel_rfl
theorem cellsString : Tryz.prog.cellsOf 9 = 1 := by kernel_rfl

theorem one_le {H : Type} (d : DataW H) : 1 ≤ Rows.uptoBulk d := by
  cases d with
  | lit l => cases l <;> simp [Rows.uptoBulk]
  | nil => simp [Rows.uptoBulk]
  | ptr d => simp [Rows.uptoBulk]
  | slice elems spare => simp [Rows.uptoBulk]
  | agg parts => simp [Rows.uptoBulk]
  | iface t d => simp [Rows.uptoBulk]
  | map entries => simp [Rows.uptoBulk]
  | held h => simp [Rows.uptoBulk]

theorem part_le {H : Type} {d : DataW H} {l : List (DataW H)} (h : d ∈ l) : Rows.uptoBulk d ≤ Rows.uptoBulkAll l := by
  induction l with
  | nil => cases h
  | cons x r ih =>
    simp only [Rows.uptoBulkAll]
    cases List.mem_cons.1 h with
    | inl e => subst e; omega
    | inr e => have := ih e; omega

theorem length_le {H : Type} (l : List (DataW H)) : l.length ≤ Rows.uptoBulkAll l := by
  induction l with
  | nil => simp [Rows.uptoBulkAll]
  | cons x r ih => have := one_le x; simp only [Rows.uptoBulkAll, List.length_cons]; omega

set_option maxRecDepth 100000 in
theorem small_le {H : Type} {l : List (DataW H)} (hk : Rows.uptoSmall H l = true) : Rows.uptoBulkAll l ≤ 1048576 := of_decide_eq_true hk

theorem wf_range {n : Int} (h : (Lit.int .i64 n).wf = true) : -9223372036854775808 ≤ n ∧ n ≤ 9223372036854775807 := by
  have h1 : IntKind.i64.min = -9223372036854775808 := by decide
  have h2 : IntKind.i64.max = 9223372036854775807 := by decide
  have h : (decide (IntKind.i64.min ≤ n) && decide (n ≤ IntKind.i64.max)) = true := h
  rw [h1, h2, Bool.and_eq_true] at h
  exact ⟨of_decide_eq_true h.1, of_decide_eq_true h.2⟩

theorem bytes_list (s : ByteArray) : s = ⟨s.data.toList.toArray⟩ := by cases s; simp

/-- the settled world, the listed variables as their initialisers lay them -/
def syntaxText : List UInt8 := [105, 110, 118, 97, 108, 105, 100, 32, 115, 121, 110, 116, 97, 120]
def rangeText : List UInt8 := [118, 97, 108, 117, 101, 32, 111, 117, 116, 32, 111, 102, 32, 114, 97, 110, 103, 101]

/-- the numbers of a table's datum, one behind the other -/
def flatCells : List (DataW Unit) → List Value
  | [] => []
  | .lit (.int k x) :: r => .int k x :: flatCells r
  | .agg [.lit (.int k x), .lit (.int k' x')] :: r => .int k x :: .int k' x' :: flatCells r
  | _ :: r => flatCells r
def cellsOfData : DataW Unit → Array Value
  | .agg l => (flatCells l).toArray
  | _ => #[]

noncomputable def laidWorld (os : Os) : World :=
  let N := (World.settled Tryz.prog os).heap.size
  let w0 := World.holding Tryz.prog os ⟨#[.cells #[.string ⟨syntaxText.toArray⟩] 263, .cells #[.string ⟨rangeText.toArray⟩] 263], #[], []⟩
  let put (h : Array Obj) (g : Nat) (cs : Array Value) : Array Obj := h.modify g fun
    | .cells _ t frozen => .cells cs t frozen
    | o => o
  let h0 := put (put w0.heap 4 #[.iface 261 (.pointer (some ⟨N, 0, none⟩))]) 5 #[.iface 261 (.pointer (some ⟨N + 1, 0, none⟩))]
  let h1 := put h0 2 (cellsOfData Rows.laid_unicode_utf8_first)
  let h2 := put h1 3 (cellsOfData Rows.laid_unicode_utf8_acceptRanges)
  let h3 := put h2 6 (cellsOfData Rows.laid_internal_strconv_uint64pow10)
  let h4 := put h3 7 (cellsOfData Rows.laid_math_bits_deBruijn32tab)
  let h5 := put h4 8 (cellsOfData Rows.laid_math_bits_deBruijn64tab)
  { w0 with heap := h5 }

noncomputable abbrev N0 : Nat := (World.settled Tryz.prog default).heap.size

set_option maxRecDepth 1000000 in
theorem laid_met (os : Os) (args : Array Value) : laidMet Tryz.prog Rows.pushesRow.laid ((laidWorld os).forCall (fun _ _ => 0) ⟨#[], args, []⟩).memory :=
  (LaidIn.of_run (l := Rows.pushesRow.laid) [7, 8, 6, 3, 5, N0 + 1, 4, N0, 2] 8 (by kernel_rfl) (by kernel_rfl) (by kernel_rfl) (by kernel_rfl)).met

end Own
end Go.Proofs.YtbljamcdaoofbaaGreatDoor

/- The library's variables, as a row lists them and as a world's shape has them. -/
namespace Go.Proofs.YtbljamcdaoofbaaGreatDoor
open Go.ChangeShapes Go.WideShapes Go.ChangeAt Go.RowKit Go.Deep
namespace Own

theorem vars_read {P : Program} {w : World} : ∀ {l : List (String × DataW Unit)} {ps : List MemPlace}, DataW.LaidVars P w l ps → ∀ n d, (n, d) ∈ l →
    ∃ g t cs fuel p, P.globalNamed n = some g ∧ (P.globals[g]?).map (·.type) = some t ∧ w.var? P n = some cs ∧ DataW.trod (fun _ => ()) P w 0 (fun _ => true) false fuel t cs.toList = some (d, p)
  | [], _, _, _, _, hm => by cases hm
  | (n', d') :: r, ps, h, n, d, hm => by
    obtain ⟨g, t, cs, fuel, p, q, h1, h2, h3, h4, h5, _⟩ := h
    rcases List.mem_cons.1 hm with e | e
    · cases e
      exact ⟨g, t, cs, fuel, p, h1, h2, h3, h4⟩
    · exact vars_read h5 n d e

theorem err_named : Tryz.prog.globalNamed "strconv.ErrRange" = some 5 := by kernel_rfl
theorem err_type : (Tryz.prog.globals[5]?).map (·.type) = some 244 := by kernel_rfl

theorem errAt_of {W : World} {l : List (String × DataW Unit)} (h : laidMetH Tryz.prog l W) (hp : (l.all fun x => x.2.handleName?.isNone) = true) (hm : ("strconv.ErrRange", Rows.laid_strconv_ErrRange) ∈ l) : ErrAt W := by
  rw [Go.MakeChecks.laidMetH_plain _ _ _ hp] at h
  obtain ⟨ps, hv, -⟩ := h
  obtain ⟨g, t, cs, fuel, p, h1, h2, h3, h4⟩ := vars_read hv _ _ hm
  obtain rfl := Option.some.inj (err_named.symm.trans h1)
  obtain rfl := Option.some.inj (err_type.symm.trans h2)
  obtain ⟨f', u, v, hcs, -, -⟩ := iface_of_trod Tryz.underlying244 h4
  refine ⟨.iface u v, ?_, .inr ⟨u, v, rfl⟩⟩
  have hc := World.var?_cell err_named h3 0
  obtain ⟨l0⟩ := cs
  simp only at hcs
  subst hcs
  simpa using hc

theorem max_zero : ((begin Tryz.prog (fun _ _ => 0) default).world.heap[1]?).bind Obj.row? = some (#[.int .i64 0], 3) := by kernel_rfl

/-- A variable of an integer type holds some integer. -/
theorem int_of_shape {P : Program} {w : World} {g : Nat} {t : TypeId} {k : IntKind} {zero : Array Value} (h : w.ShapedOpen P) (hg : g < P.globals.size)
    (h0 : ((begin P (fun _ _ => 0) default).world.heap[g]?).bind Obj.row? = some (zero, t)) (hz : zero.size = 1)
    (hb : P.buildable t = true) (hc : P.cellTypes P.depth t = some [t]) (hu : P.underlying t = some (.int k)) : ∃ n, w.cell? ⟨g, 0, none⟩ = some (.int k n) := by
  obtain ⟨cs, hh, hs, hr⟩ := h.1 g zero t hg h0
  obtain ⟨ts, hts, _, hall⟩ := hr hb
  rw [hc] at hts
  cases hts
  have h1 : 0 < cs.size := by omega
  obtain ⟨u, hu', hok⟩ := hall 0 cs[0] (by simp [h1])
  have : u = t := by simpa using hu'.symm
  subst this
  have hcell : w.cell? ⟨g, 0, none⟩ = some cs[0] := by simp [World.cell?, hh, h1]
  rw [hcell]
  unfold Cell.ok at hok
  rw [hu] at hok
  cases hv : cs[0] with
  | int k' n =>
    rw [hv] at hok
    simp only at hok
    exact ⟨n, by rw [hok.1]⟩
  | _ => rw [hv] at hok; simp at hok

theorem block_of_shape {P : Program} {w : World} {g : Nat} (h : w.ShapedOpen P) (hg : g < P.globals.size) (h0 : (((begin P (fun _ _ => 0) default).world.heap[g]?).bind Obj.row?).isSome = true) : g < w.heap.size := by
  obtain ⟨⟨z, t⟩, hx⟩ := Option.isSome_iff_exists.1 h0
  obtain ⟨cs, hh, -, -⟩ := h.1 g z t hg hx
  exact (Array.getElem?_eq_some_iff.1 hh).1

theorem glob_lt : decide (8 < Tryz.prog.globals.size) = true := by kernel_rfl
theorem glob_seven : (((begin Tryz.prog (fun _ _ => 0) default).world.heap[7]?).bind Obj.row?).isSome = true := by kernel_rfl
theorem int_buildable : Tryz.prog.buildable 3 = true := by kernel_rfl
theorem int_cells : Tryz.prog.cellTypes Tryz.prog.depth 3 = some [3] := by kernel_rfl

theorem maxAt_of {W : World} (h : W.ShapedOpen Tryz.prog) : MaxAt W :=
  int_of_shape h (Nat.lt_trans (by decide) (of_decide_eq_true glob_lt)) max_zero rfl int_buildable int_cells Tryz.underlying3

theorem eight_of {W : World} (h : W.ShapedOpen Tryz.prog) : 8 ≤ W.heap.size :=
  block_of_shape h (Nat.lt_trans (by decide) (of_decide_eq_true glob_lt)) glob_seven

theorem glob_of {W : World} {l : List (String × DataW Unit)} (h : laidMetH Tryz.prog l W) (hp : (l.all fun x => x.2.handleName?.isNone) = true) (hm : ("strconv.ErrRange", Rows.laid_strconv_ErrRange) ∈ l) (hs : W.ShapedOpen Tryz.prog) : Glob W :=
  ⟨errAt_of h hp hm, maxAt_of hs, eight_of hs⟩

end Own
end Go.Proofs.YtbljamcdaoofbaaGreatDoor
