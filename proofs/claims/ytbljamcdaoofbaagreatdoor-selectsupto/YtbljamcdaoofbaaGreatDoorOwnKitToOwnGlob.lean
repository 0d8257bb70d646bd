/- Texts OwnKit, OwnGlob, joined. -/
import Derived.Test.YtbljamcdaoofbaaGreatDoorCards
import Derived.Test.YtbljamcdaoofbaaGreatDoorTie
import Derived.Test.YtbljamcdaoofbaaGreatDoorLawPlays
import Derived.WalkKit
import Derived.ProofKit
import Derived.OpenShut
import Derived.JoinedCond
import Derived.Carry
import Derived.Deep.Slices
import Derived.Deep.DeepHandedRow
import Derived.Deep.DeepWitnessRowRef
import Derived.Lib.LaidIn
import Derived.Lib.LaidTab
import Derived.Test.YtbljamcdaoofbaaGreatDoorLawRows
import Derived.LaidLaws
import Derived.MakeChecks
/- What every row of loamlaw needs: how a script reads, and a world that holds the listed variables as their initialisers lay them. -/
namespace Go.Proofs.YtbljamcdaoofbaaGreatDoor
open Go.ChangeShapes Go.WideShapes Go.ChangeAt Go.RowKit Go.Deep
namespace Own

theorem own : ownKnob Tryz.prog.godebug = none := by kernel_rfl
theorem laidOut : laidOutB Tryz.prog = true := by kernel_rfl
theorem cellsOp : Tryz.prog.cellsOf 73 = 8 := by kernel_rfl
theorem cellsInt : Tryz.prog.cellsOf 3 = 1 := by kernel_rfl
theorem cellsBool : Tryz.prog.cellsOf 4 = 1 := by kernel_rfl
theorem cellsString : Tryz.prog.cellsOf 9 = 1 := by kernel_rfl

theorem one_le {H : Type} (d : DataW H) : 1 ≤ Rows.uptoBulk d := by
  cases d with
  | lit l => cases l <;> simp [Rows.uptoBulk]
  | nil => simp [Rows.uptoBulk]
  | ptr d => simp [Rows.uptoBulk]
  | slice elems spare => simp [Rows.uptoBulk]
  | agg parts => simp [Rows.uptoBulk]
  | iface t d => simp [Rows.uptoBulk]
  | map entries => simp [Rows.uptoBulk]
  | held h => simp [Rows.uptoBulk]

theorem part_le {H : Type} {d : DataW H} {l : List (DataW H)} (h : d ∈ l) : Rows.uptoBulk d ≤ Rows.uptoBulkAll l := by
  induction l with
  | nil => cases h
  | cons x r ih =>
    simp only [Rows.uptoBulkAll]
    cases List.mem_cons.1 h with
    | inl e => subst e; omega
    | inr e => have := ih e; omega

theorem length_le {H : Type} (l : List (DataW H)) : l.length ≤ Rows.uptoBulkAll l := by
  induction l with
  | nil => simp [Rows.uptoBulkAll]
  | cons x r ih => have := one_le x; simp only [Rows.uptoBulkAll, List.length_cons]; omega

set_option maxRecDepth 100000 in
theorem small_le {H : Type} {l : List (DataW H)} (hk : Rows.uptoSmall H l = true) : Rows.uptoBulkAll l ≤ 1048576 := of_decide_eq_true hk

theorem wf_range {n : Int} (h : (Lit.int .i64 n).wf = true) : -9223372036854775808 ≤ n ∧ n ≤ 9223372036854775807 := by
  have h1 : IntKind.i64.min = -9223372036854775808 := by decide
  have h2 : IntKind.i64.max = 9223372036854775807 := by decide
  have h : (decide (IntKind.i64.min ≤ n) && decide (n ≤ IntKind.i64.max)) = true := h
  rw [h1, h2, Bool.and_eq_true] at h
  exact ⟨of_decide_eq_true h.1, of_decide_eq_true h.2⟩

theorem bytes_list (s : ByteArray) : s = ⟨s.data.toList.toArray⟩ := by cases s; simp

set_option maxRecDepth 10000 in
theorem opFit {H : Type} {enc : TypeId × Value → H} {W : World} {base n : Nat} {spare : Nat → Bool} {held : Bool} {sb so : Nat} {cs' : List Value} {y : DataW H × List MemPlace}
    (hc : W.cells? base ⟨sb, so, none⟩ 8 = some cs') (ht : DataW.trod enc Tryz.prog W base spare held n 73 cs' = some y) (hb : Rows.uptoBulk y.1 ≤ 1048576) : OpFit W sb so := by
  obtain ⟨_, hlen, hcell⟩ := World.cells?_some hc
  obtain ⟨xs, m, -, hy, -, hxl, hall⟩ := DataW.trod_struct Tryz.underlying73 ht
  match cs', hlen with
  | [v0, v1, v2, v3, v4, v5, v6, v7], _ =>
  match xs, hxl with
  | [x0, x1, x2, x3, x4, x5, x6, x7], _ =>
  have u0 : DataW.trod enc Tryz.prog W base spare held m 3 (List.take (Tryz.prog.cellsOf 3) (List.drop 0 [v0, v1, v2, v3, v4, v5, v6, v7])) = some x0 := hall 0 _ rfl
  have u1 : DataW.trod enc Tryz.prog W base spare held m 3 (List.take (Tryz.prog.cellsOf 3) (List.drop 1 [v0, v1, v2, v3, v4, v5, v6, v7])) = some x1 := hall 1 _ rfl
  have u2 : DataW.trod enc Tryz.prog W base spare held m 9 (List.take (Tryz.prog.cellsOf 9) (List.drop 2 [v0, v1, v2, v3, v4, v5, v6, v7])) = some x2 := hall 2 _ rfl
  have u3 : DataW.trod enc Tryz.prog W base spare held m 9 (List.take (Tryz.prog.cellsOf 9) (List.drop 3 [v0, v1, v2, v3, v4, v5, v6, v7])) = some x3 := hall 3 _ rfl
  have u4 : DataW.trod enc Tryz.prog W base spare held m 3 (List.take (Tryz.prog.cellsOf 3) (List.drop 4 [v0, v1, v2, v3, v4, v5, v6, v7])) = some x4 := hall 4 _ rfl
  have u5 : DataW.trod enc Tryz.prog W base spare held m 3 (List.take (Tryz.prog.cellsOf 3) (List.drop 5 [v0, v1, v2, v3, v4, v5, v6, v7])) = some x5 := hall 5 _ rfl
  have u6 : DataW.trod enc Tryz.prog W base spare held m 3 (List.take (Tryz.prog.cellsOf 3) (List.drop 6 [v0, v1, v2, v3, v4, v5, v6, v7])) = some x6 := hall 6 _ rfl
  have u7 : DataW.trod enc Tryz.prog W base spare held m 4 (List.take (Tryz.prog.cellsOf 4) (List.drop 7 [v0, v1, v2, v3, v4, v5, v6, v7])) = some x7 := hall 7 _ rfl
  simp only [cellsInt, cellsString, cellsBool, List.drop, List.take] at u0 u1 u2 u3 u4 u5 u6 u7
  obtain ⟨kind, e0, d0, -⟩ := DataW.trod_int Tryz.underlying3 u0
  obtain ⟨on, e1, d1, won⟩ := DataW.trod_int Tryz.underlying3 u1
  obtain ⟨text, e2, d2, -⟩ := DataW.trod_string Tryz.underlying9 u2
  obtain ⟨line, e3, d3, -⟩ := DataW.trod_string Tryz.underlying9 u3
  obtain ⟨A, e4, d4, -⟩ := DataW.trod_int Tryz.underlying3 u4
  obtain ⟨B, e5, d5, -⟩ := DataW.trod_int Tryz.underlying3 u5
  obtain ⟨C, e6, d6, -⟩ := DataW.trod_int Tryz.underlying3 u6
  obtain ⟨back, e7, d7⟩ := DataW.trod_bool Tryz.underlying4 u7
  simp only [List.cons.injEq, and_true] at e0 e1 e2 e3 e4 e5 e6 e7
  subst e0 e1 e2 e3 e4 e5 e6 e7
  have c0 := hcell 0 (by omega)
  have c1 := hcell 1 (by omega)
  have c2 := hcell 2 (by omega)
  have c3 := hcell 3 (by omega)
  have c4 := hcell 4 (by omega)
  have c5 := hcell 5 (by omega)
  have c6 := hcell 6 (by omega)
  have c7 := hcell 7 (by omega)
  rw [add_plain] at c0 c1 c2 c3 c4 c5 c6 c7
  rw [hy, d0, d1, d2, d3, d4, d5, d6, d7] at hb
  simp only [List.map_cons, List.map_nil, Rows.uptoBulk, Rows.uptoBulkAll] at hb
  obtain ⟨o1, o2⟩ := wf_range won
  refine ⟨kind, on, text.data.toList, line.data.toList, A, B, C, back, ⟨c0, c1, ?_, ?_, c4, c5, c6, c7⟩, o1, o2, by omega, by omega⟩
  · rw [← bytes_list]; exact c2
  · rw [← bytes_list]; exact c3

/-- the settled world, the listed variables as their initialisers lay them -/
def syntaxText : List UInt8 := [105, 110, 118, 97, 108, 105, 100, 32, 115, 121, 110, 116, 97, 120]
def rangeText : List UInt8 := [118, 97, 108, 117, 101, 32, 111, 117, 116, 32, 111, 102, 32, 114, 97, 110, 103, 101]

/-- the numbers of a table's datum, one behind the other -/
def flatCells : List (DataW Unit) → List Value
  | [] => []
  | .lit (.int k x) :: r => .int k x :: flatCells r
  | .agg [.lit (.int k x), .lit (.int k' x')] :: r => .int k x :: .int k' x' :: flatCells r
  | _ :: r => flatCells r
def cellsOfData : DataW Unit → Array Value
  | .agg l => (flatCells l).toArray
  | _ => #[]

noncomputable def laidWorld (os : Os) : World :=
  let N := (World.settled Tryz.prog os).heap.size
  let w0 := World.holding Tryz.prog os ⟨#[.cells #[.string ⟨syntaxText.toArray⟩] 263, .cells #[.string ⟨rangeText.toArray⟩] 263], #[], []⟩
  let put (h : Array Obj) (g : Nat) (cs : Array Value) : Array Obj := h.modify g fun
    | .cells _ t frozen => .cells cs t frozen
    | o => o
  let h0 := put (put w0.heap 4 #[.iface 261 (.pointer (some ⟨N, 0, none⟩))]) 5 #[.iface 261 (.pointer (some ⟨N + 1, 0, none⟩))]
  let h1 := put h0 2 (cellsOfData Rows.laid_unicode_utf8_first)
  let h2 := put h1 3 (cellsOfData Rows.laid_unicode_utf8_acceptRanges)
  let h3 := put h2 6 (cellsOfData Rows.laid_internal_strconv_uint64pow10)
  let h4 := put h3 7 (cellsOfData Rows.laid_math_bits_deBruijn32tab)
  let h5 := put h4 8 (cellsOfData Rows.laid_math_bits_deBruijn64tab)
  { w0 with heap := h5 }

noncomputable abbrev N0 : Nat := (World.settled Tryz.prog default).heap.size

set_option maxRecDepth 1000000 in
theorem laid_met (os : Os) (args : Array Value) : laidMet Tryz.prog Rows.pushesRow.laid ((laidWorld os).forCall (fun _ _ => 0) ⟨#[], args, []⟩).memory :=
  (LaidIn.of_run (l := Rows.pushesRow.laid) [7, 8, 6, 3, 5, N0 + 1, 4, N0, 2] 8 (by kernel_rfl) (by kernel_rfl) (by kernel_rfl) (by kernel_rfl)).met

end Own
end Go.Proofs.YtbljamcdaoofbaaGreatDoor

/- The library's variables, as a row lists them and as a world's shape has them. -/
namespace Go.Proofs.YtbljamcdaoofbaaGreatDoor
open Go.ChangeShapes Go.WideShapes Go.ChangeAt Go.RowKit Go.Deep
namespace Own

theorem vars_read {P : Program} {w : World} : ∀ {l : List (String × DataW Unit)} {ps : List MemPlace}, DataW.LaidVars P w l ps → ∀ n d, (n, d) ∈ l →
    ∃ g t cs fuel p, P.globalNamed n = some g ∧ (P.globals[g]?).map (·.type) = some t ∧ w.var? P n = some cs ∧ DataW.trod (fun _ => ()) P w 0 (fun _ => true) false fuel t cs.toList = some (d, p)
  | [], _, _, _, _, hm => by cases hm
  | (n', d') :: r, ps, h, n, d, hm => by
    obtain ⟨g, t, cs, fuel, p, q, h1, h2, h3, h4, h5, _⟩ := h
    rcases List.mem_cons.1 hm with e | e
    · cases e
      exact ⟨g, t, cs, fuel, p, h1, h2, h3, h4⟩
    · exact vars_read h5 n d e

theorem err_named : Tryz.prog.globalNamed "strconv.ErrRange" = some 5 := by kernel_rfl
theorem err_type : (Tryz.prog.globals[5]?).map (·.type) = some 244 := by kernel_rfl

theorem errAt_of {W : World} {l : List (String × DataW Unit)} (h : laidMetH Tryz.prog l W) (hp : (l.all fun x => x.2.handleName?.isNone) = true) (hm : ("strconv.ErrRange", Rows.laid_strconv_ErrRange) ∈ l) : ErrAt W := by
  rw [Go.MakeChecks.laidMetH_plain _ _ _ hp] at h
  obtain ⟨ps, hv, -⟩ := h
  obtain ⟨g, t, cs, fuel, p, h1, h2, h3, h4⟩ := vars_read hv _ _ hm
  obtain rfl := Option.some.inj (err_named.symm.trans h1)
  obtain rfl := Option.some.inj (err_type.symm.trans h2)
  obtain ⟨f', u, v, hcs, -, -⟩ := iface_of_trod Tryz.underlying244 h4
  refine ⟨.iface u v, ?_, .inr ⟨u, v, rfl⟩⟩
  have hc := World.var?_cell err_named h3 0
  obtain ⟨l0⟩ := cs
  simp only at hcs
  subst hcs
  simpa using hc

theorem max_zero : ((begin Tryz.prog (fun _ _ => 0) default).world.heap[1]?).bind Obj.row? = some (#[.int .i64 0], 3) := by kernel_rfl

/-- A variable of an integer type holds some integer. -/
theorem int_of_shape {P : Program} {w : World} {g : Nat} {t : TypeId} {k : IntKind} {zero : Array Value} (h : w.ShapedOpen P) (hg : g < P.globals.size)
    (h0 : ((begin P (fun _ _ => 0) default).world.heap[g]?).bind Obj.row? = some (zero, t)) (hz : zero.size = 1)
    (hb : P.buildable t = true) (hc : P.cellTypes P.depth t = some [t]) (hu : P.underlying t = some (.int k)) : ∃ n, w.cell? ⟨g, 0, none⟩ = some (.int k n) := by
  obtain ⟨cs, hh, hs, hr⟩ := h.1 g zero t hg h0
  obtain ⟨ts, hts, _, hall⟩ := hr hb
  rw [hc] at hts
  cases hts
  have h1 : 0 < cs.size := by omega
  obtain ⟨u, hu', hok⟩ := hall 0 cs[0] (by simp [h1])
  have : u = t := by simpa using hu'.symm
  subst this
  have hcell : w.cell? ⟨g, 0, none⟩ = some cs[0] := by simp [World.cell?, hh, h1]
  rw [hcell]
  unfold Cell.ok at hok
  rw [hu] at hok
  cases hv : cs[0] with
  | int k' n =>
    rw [hv] at hok
    simp only at hok
    exact ⟨n, by rw [hok.1]⟩
  | _ => rw [hv] at hok; simp at hok

theorem block_of_shape {P : Program} {w : World} {g : Nat} (h : w.ShapedOpen P) (hg : g < P.globals.size) (h0 : (((begin P (fun _ _ => 0) default).world.heap[g]?).bind Obj.row?).isSome = true) : g < w.heap.size := by
  obtain ⟨⟨z, t⟩, hx⟩ := Option.isSome_iff_exists.1 h0
  obtain ⟨cs, hh, -, -⟩ := h.1 g z t hg hx
  exact (Array.getElem?_eq_some_iff.1 hh).1

theorem glob_lt : decide (8 < Tryz.prog.globals.size) = true := by kernel_rfl
theorem glob_seven : (((begin Tryz.prog (fun _ _ => 0) default).world.heap[7]?).bind Obj.row?).isSome = true := by kernel_rfl
theorem int_buildable : Tryz.prog.buildable 3 = true := by kernel_rfl
theorem int_cells : Tryz.prog.cellTypes Tryz.prog.depth 3 = some [3] := by kernel_rfl

theorem maxAt_of {W : World} (h : W.ShapedOpen Tryz.prog) : MaxAt W :=
  int_of_shape h (Nat.lt_trans (by decide) (of_decide_eq_true glob_lt)) max_zero rfl int_buildable int_cells Tryz.underlying3

theorem eight_of {W : World} (h : W.ShapedOpen Tryz.prog) : 8 ≤ W.heap.size :=
  block_of_shape h (Nat.lt_trans (by decide) (of_decide_eq_true glob_lt)) glob_seven

theorem glob_of {W : World} {l : List (String × DataW Unit)} (h : laidMetH Tryz.prog l W) (hp : (l.all fun x => x.2.handleName?.isNone) = true) (hm : ("strconv.ErrRange", Rows.laid_strconv_ErrRange) ∈ l) (hs : W.ShapedOpen Tryz.prog) : Glob W :=
  ⟨errAt_of h hp hm, maxAt_of hs, eight_of hs⟩

end Own
end Go.Proofs.YtbljamcdaoofbaaGreatDoor
