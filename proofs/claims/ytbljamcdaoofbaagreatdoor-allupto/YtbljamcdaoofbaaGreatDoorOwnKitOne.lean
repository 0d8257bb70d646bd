/- What every row of loamlaw needs: how a script reads. -/
import Derived.Test.YtbljamcdaoofbaaGreatDoorOwnBaseToOwnGlob
import Derived.Test.YtbljamcdaoofbaaGreatDoorLawPlaysOne
namespace Go.Proofs.YtbljamcdaoofbaaGreatDoor
open Go.ChangeShapes Go.WideShapes Go.ChangeAt Go.RowKit Go.Deep
namespace Own

set_option maxRecDepth 10000 in
theorem opFit {H : Type} {enc : TypeId × Value → H} {W : World} {base n : Nat} {spare : Nat → Bool} {held : Bool} {sb so : Nat} {cs' : List Value} {y : DataW H × List MemPlace}
    (hc : W.cells? base ⟨sb, so, none⟩ 8 = some cs') (ht : DataW.trod enc Tryz.prog W base spare held n 73 cs' = some y) (hb : Rows.uptoBulk y.1 ≤ 1048576) : OpFit W sb so := by
  obtain ⟨_, hlen, hcell⟩ := World.cells?_some hc
  obtain ⟨xs, m, -, hy, -, hxl, hall⟩ := DataW.trod_struct Tryz.underlying73 ht
  match cs', hlen with
  | [v0, v1, v2, v3, v4, v5, v6, v7], _ =>
  match xs, hxl with
  | [x0, x1, x2, x3, x4, x5, x6, x7], _ =>
  have u0 : DataW.trod enc Tryz.prog W base spare held m 3 (List.take (Tryz.prog.cellsOf 3) (List.drop 0 [v0, v1, v2, v3, v4, v5, v6, v7])) = some x0 := hall 0 _ rfl
  have u1 : DataW.trod enc Tryz.prog W base spare held m 3 (List.take (Tryz.prog.cellsOf 3) (List.drop 1 [v0, v1, v2, v3, v4, v5, v6, v7])) = some x1 := hall 1 _ rfl
  have u2 : DataW.trod enc Tryz.prog W base spare held m 9 (List.take (Tryz.prog.cellsOf 9) (List.drop 2 [v0, v1, v2, v3, v4, v5, v6, v7])) = some x2 := hall 2 _ rfl
  have u3 : DataW.trod enc Tryz.prog W base spare held m 9 (List.take (Tryz.prog.cellsOf 9) (List.drop 3 [v0, v1, v2, v3, v4, v5, v6, v7])) = some x3 := hall 3 _ rfl
  have u4 : DataW.trod enc Tryz.prog W base spare held m 3 (List.take (Tryz.prog.cellsOf 3) (List.drop 4 [v0, v1, v2, v3, v4, v5, v6, v7])) = some x4 := hall 4 _ rfl
  have u5 : DataW.trod enc Tryz.prog W base spare held m 3 (List.take (Tryz.prog.cellsOf 3) (List.drop 5 [v0, v1, v2, v3, v4, v5, v6, v7])) = some x5 := hall 5 _ rfl
  have u6 : DataW.trod enc Tryz.prog W base spare held m 3 (List.take (Tryz.prog.cellsOf 3) (List.drop 6 [v0, v1, v2, v3, v4, v5, v6, v7])) = some x6 := hall 6 _ rfl
  have u7 : DataW.trod enc Tryz.prog W base spare held m 4 (List.take (Tryz.prog.cellsOf 4) (List.drop 7 [v0, v1, v2, v3, v4, v5, v6, v7])) = some x7 := hall 7 _ rfl
  simp only [cellsInt, cellsString, cellsBool, List.drop, List.take] at u0 u1 u2 u3 u4 u5 u6 u7
  obtain ⟨kind, e0, d0, -⟩ := DataW.trod_int Tryz.underlying3 u0
  obtain ⟨on, e1, d1, won⟩ := DataW.trod_int Tryz.underlying3 u1
  obtain ⟨text, e2, d2, -⟩ := DataW.trod_string Tryz.underlying9 u2
  obtain ⟨line, e3, d3, -⟩ := DataW.trod_string Tryz.underlying9 u3
  obtain ⟨A, e4, d4, -⟩ := DataW.trod_int Tryz.underlying3 u4
  obtain ⟨B, e5, d5, -⟩ := DataW.trod_int Tryz.underlying3 u5
  obtain ⟨C, e6, d6, -⟩ := DataW.trod_int Tryz.underlying3 u6
  obtain ⟨back, e7, d7⟩ := DataW.trod_bool Tryz.underlying4 u7
  simp only [List.cons.injEq, and_true] at e0 e1 e2 e3 e4 e5 e6 e7
  subst e0 e1 e2 e3 e4 e5 e6 e7
  have c0 := hcell 0 (by omega)
  have c1 := hcell 1 (by omega)
  have c2 := hcell 2 (by omega)
  have c3 := hcell 3 (by omega)
  have c4 := hcell 4 (by omega)
  have c5 := hcell 5 (by omega)
  have c6 := hcell 6 (by omega)
  have c7 := hcell 7 (by omega)
  rw [add_plain] at c0 c1 c2 c3 c4 c5 c6 c7
  rw [hy, d0, d1, d2, d3, d4, d5, d6, d7] at hb
  simp only [List.map_cons, List.map_nil, Rows.uptoBulk, Rows.uptoBulkAll] at hb
  obtain ⟨o1, o2⟩ := wf_range won
  refine ⟨kind, on, text.data.toList, line.data.toList, A, B, C, back, ⟨c0, c1, ?_, ?_, c4, c5, c6, c7⟩, o1, o2, by omega, by omega⟩
  · rw [← bytes_list]; exact c2
  · rw [← bytes_list]; exact c3

end Own
end Go.Proofs.YtbljamcdaoofbaaGreatDoor
