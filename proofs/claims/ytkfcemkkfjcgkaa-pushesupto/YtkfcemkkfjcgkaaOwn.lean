/- Pushes answers true for every script of bulk at most 1048576, and leaves the script as it was: every New, Push, Streams and Drop answers as the document says, on several stores beside one another; what came out and was written over changes nothing. The condition: the arguments hold together at most 1048576 values and letters. -/
import Derived.Test.YtkfcemkkfjcgkaaRows
import Derived.Test.YtkfcemkkfjcgkaaLawPlays
import Derived.WalkKit
import Derived.ProofKit
import Derived.OpenShut
import Derived.JoinedCond
import Derived.Carry
import Derived.Deep.Slices
namespace Go.Proofs.Ytkfcemkkfjcgkaa
open Go.ChangeShapes Go.WideShapes Go.ChangeAt Go.RowKit Go.Deep
namespace Own

theorem own : ownKnob Try.prog.godebug = none := by kernel_rfl
theorem laidOut : laidOutB Try.prog = true := by kernel_rfl
theorem cellsOp : Try.prog.cellsOf 38 = 8 := by kernel_rfl
theorem cellsInt : Try.prog.cellsOf 3 = 1 := by kernel_rfl
theorem cellsBool : Try.prog.cellsOf 4 = 1 := by kernel_rfl
theorem cellsString : Try.prog.cellsOf 9 = 1 := by kernel_rfl

theorem one_le {H : Type} (d : DataW H) : 1 ≤ Rows.uptoBulk d := by
  cases d with
  | lit l => cases l <;> simp [Rows.uptoBulk]
  | nil => simp [Rows.uptoBulk]
  | ptr d => simp [Rows.uptoBulk]
  | slice elems spare => simp [Rows.uptoBulk]
  | agg parts => simp [Rows.uptoBulk]
  | iface t d => simp [Rows.uptoBulk]
  | map entries => simp [Rows.uptoBulk]
  | held h => simp [Rows.uptoBulk]

theorem part_le {H : Type} {d : DataW H} {l : List (DataW H)} (h : d ∈ l) : Rows.uptoBulk d ≤ Rows.uptoBulkAll l := by
  induction l with
  | nil => cases h
  | cons x r ih =>
    simp only [Rows.uptoBulkAll]
    cases List.mem_cons.1 h with
    | inl e => subst e; omega
    | inr e => have := ih e; omega

theorem length_le {H : Type} (l : List (DataW H)) : l.length ≤ Rows.uptoBulkAll l := by
  induction l with
  | nil => simp [Rows.uptoBulkAll]
  | cons x r ih => have := one_le x; simp only [Rows.uptoBulkAll, List.length_cons]; omega

set_option maxRecDepth 100000 in
theorem small_le {H : Type} {l : List (DataW H)} (hk : Rows.uptoSmall H l = true) : Rows.uptoBulkAll l ≤ 1048576 := of_decide_eq_true hk

theorem wf_range {n : Int} (h : (Lit.int .i64 n).wf = true) : -9223372036854775808 ≤ n ∧ n ≤ 9223372036854775807 := by
  have h1 : IntKind.i64.min = -9223372036854775808 := by decide
  have h2 : IntKind.i64.max = 9223372036854775807 := by decide
  have h : (decide (IntKind.i64.min ≤ n) && decide (n ≤ IntKind.i64.max)) = true := h
  rw [h1, h2, Bool.and_eq_true] at h
  exact ⟨of_decide_eq_true h.1, of_decide_eq_true h.2⟩

theorem bytes_list (s : ByteArray) : s = ⟨s.data.toList.toArray⟩ := by cases s; simp

set_option maxRecDepth 10000 in
theorem opFit {H : Type} {enc : TypeId × Value → H} {W : World} {base n : Nat} {spare : Nat → Bool} {held : Bool} {sb so : Nat} {cs' : List Value} {y : DataW H × List MemPlace}
    (hc : W.cells? base ⟨sb, so, none⟩ 8 = some cs') (ht : DataW.trod enc Try.prog W base spare held n 38 cs' = some y) (hb : Rows.uptoBulk y.1 ≤ 1048576) : OpFit W sb so := by
  obtain ⟨_, hlen, hcell⟩ := World.cells?_some hc
  obtain ⟨xs, m, -, hy, -, hxl, hall⟩ := DataW.trod_struct Try.underlying38 ht
  match cs', hlen with
  | [v0, v1, v2, v3, v4, v5, v6, v7], _ =>
  match xs, hxl with
  | [x0, x1, x2, x3, x4, x5, x6, x7], _ =>
  have u0 : DataW.trod enc Try.prog W base spare held m 3 (List.take (Try.prog.cellsOf 3) (List.drop 0 [v0, v1, v2, v3, v4, v5, v6, v7])) = some x0 := hall 0 _ rfl
  have u1 : DataW.trod enc Try.prog W base spare held m 3 (List.take (Try.prog.cellsOf 3) (List.drop 1 [v0, v1, v2, v3, v4, v5, v6, v7])) = some x1 := hall 1 _ rfl
  have u2 : DataW.trod enc Try.prog W base spare held m 9 (List.take (Try.prog.cellsOf 9) (List.drop 2 [v0, v1, v2, v3, v4, v5, v6, v7])) = some x2 := hall 2 _ rfl
  have u3 : DataW.trod enc Try.prog W base spare held m 9 (List.take (Try.prog.cellsOf 9) (List.drop 3 [v0, v1, v2, v3, v4, v5, v6, v7])) = some x3 := hall 3 _ rfl
  have u4 : DataW.trod enc Try.prog W base spare held m 3 (List.take (Try.prog.cellsOf 3) (List.drop 4 [v0, v1, v2, v3, v4, v5, v6, v7])) = some x4 := hall 4 _ rfl
  have u5 : DataW.trod enc Try.prog W base spare held m 3 (List.take (Try.prog.cellsOf 3) (List.drop 5 [v0, v1, v2, v3, v4, v5, v6, v7])) = some x5 := hall 5 _ rfl
  have u6 : DataW.trod enc Try.prog W base spare held m 3 (List.take (Try.prog.cellsOf 3) (List.drop 6 [v0, v1, v2, v3, v4, v5, v6, v7])) = some x6 := hall 6 _ rfl
  have u7 : DataW.trod enc Try.prog W base spare held m 4 (List.take (Try.prog.cellsOf 4) (List.drop 7 [v0, v1, v2, v3, v4, v5, v6, v7])) = some x7 := hall 7 _ rfl
  simp only [cellsInt, cellsString, cellsBool, List.drop, List.take] at u0 u1 u2 u3 u4 u5 u6 u7
  obtain ⟨kind, e0, d0, -⟩ := DataW.trod_int Try.underlying3 u0
  obtain ⟨on, e1, d1, won⟩ := DataW.trod_int Try.underlying3 u1
  obtain ⟨text, e2, d2, -⟩ := DataW.trod_string Try.underlying9 u2
  obtain ⟨line, e3, d3, -⟩ := DataW.trod_string Try.underlying9 u3
  obtain ⟨A, e4, d4, -⟩ := DataW.trod_int Try.underlying3 u4
  obtain ⟨B, e5, d5, -⟩ := DataW.trod_int Try.underlying3 u5
  obtain ⟨C, e6, d6, -⟩ := DataW.trod_int Try.underlying3 u6
  obtain ⟨back, e7, d7⟩ := DataW.trod_bool Try.underlying4 u7
  simp only [List.cons.injEq, and_true] at e0 e1 e2 e3 e4 e5 e6 e7
  subst e0 e1 e2 e3 e4 e5 e6 e7
  have c0 := hcell 0 (by omega)
  have c1 := hcell 1 (by omega)
  have c2 := hcell 2 (by omega)
  have c3 := hcell 3 (by omega)
  have c4 := hcell 4 (by omega)
  have c5 := hcell 5 (by omega)
  have c6 := hcell 6 (by omega)
  have c7 := hcell 7 (by omega)
  rw [add_plain] at c0 c1 c2 c3 c4 c5 c6 c7
  rw [hy, d0, d1, d2, d3, d4, d5, d6, d7] at hb
  simp only [List.map_cons, List.map_nil, Rows.uptoBulk, Rows.uptoBulkAll] at hb
  obtain ⟨o1, o2⟩ := wf_range won
  refine ⟨kind, on, text.data.toList, line.data.toList, A, B, C, back, ⟨c0, c1, ?_, ?_, c4, c5, c6, c7⟩, o1, o2, by omega, by omega⟩
  · rw [← bytes_list]; exact c2
  · rw [← bytes_list]; exact c3

theorem walk {W : World} {ao : Option Addr} {n cap : Nat} (hn : n ≤ 1048576) (hs : ∀ i, i < n → ∃ sb so, ao = some ⟨sb, so, none⟩ ∧ sb < W.heap.size ∧ OpFit W sb (so + i * 8)) :
    Calls Try.prog 3 #[.slice ao n cap] W fun e w' => e = .returned (.bool true) ∧ Below W.heap.size W w' := by
  have HS := hide hs
  clear hs
  go_enter Try.func3, Try.ntmps3
  go_wp2_with fail
  refine (plays_any hn (unhide HS)).mono ?_
  rintro e w1 ⟨rfl, hb⟩
  have HB := hide hb
  clear hb
  go_wp2
  go_ret
  exact ⟨rfl, by repeat (first | exact unhide HB | apply Below.drew | apply Below.drawn)⟩

set_option maxRecDepth 100000 in
theorem contract (H : Type) (enc : TypeId × Value → H) (W : World) (base : Nat) (args : Array Value) (ds gs : List (DataW H)) (before : List MemPlace)
    (hval : ∀ (j : Nat) t v, Try.f3.params[j]? = some t → args[j]? = some v → Value.okWide Try.prog W .any base t v)
    (hW : DataW.Whole enc Try.prog Try.f3.params.toList Rows.pushesSpec.vars false W args.toList ds gs before) (hk : Rows.uptoSmall H (ds ++ gs) = true) :
    Calls Try.prog 3 args W fun e W' => ∃ v, e = .returned v ∧ Rows.pushesSpec.post enc Try.prog Try.f3 false true false false W args v W' := by
  have hW' := hW
  obtain ⟨p, q, hA0, hV, rfl, hfz, hnd⟩ := hW
  have hA : DataW.TrodAll enc Try.prog W 0 (fun _ => true) true Try.f3.params.toList args.toList ds p := hA0
  rw [Try.params3] at hA hval
  obtain ⟨v0, d0, rfl, rfl, h0⟩ := trodAll_one hA
  obtain ⟨rfl, rfl⟩ := trodVars_none hV
  have h0k := h0
  obtain ⟨fuel, hf⟩ := h0
  clear hA0
  simp only [List.append_nil] at hW' hk
  have hlt : ∀ x ∈ p, x.block < W.heap.size := fun x hx => by simpa using hW'.lt x hx
  obtain ⟨a0, len, cap, rfl⟩ := okWide_slice Try.underlying22 (hval 0 22 v0 rfl rfl)
  have hbulk : Rows.uptoBulkAll [d0] ≤ 1048576 := small_le hk
  have key : len ≤ 1048576 ∧ ∀ i, i < len → ∃ sb so, a0 = some ⟨sb, so, none⟩ ∧ sb < W.heap.size ∧ OpFit W sb (so + i * 8) := by
    rcases open_slice Try.underlying22 hf with ⟨hcs, hx⟩ | ⟨a, len', cap', m, n, D, Pl, hcs, _, hl, hm, hmm, hx, hel⟩
    · simp [Value.cells] at hcs
      obtain ⟨rfl, rfl, rfl⟩ := hcs
      exact ⟨by omega, fun i hi => by omega⟩
    · simp [Value.cells] at hcs
      obtain ⟨rfl, rfl, rfl⟩ := hcs
      simp only [Prod.mk.injEq] at hx
      obtain ⟨rfl, rfl⟩ := hx
      simp only [if_true] at hmm
      subst hmm
      simp only [Rows.uptoBulkAll, Rows.uptoBulk] at hbulk
      have hll := length_le ((List.range len).map D)
      simp only [List.length_map, List.length_range] at hll
      refine ⟨by omega, fun i hi => ?_⟩
      obtain ⟨cs', hc, htr⟩ := hel i (by omega)
      rw [cellsOp] at hc
      obtain ⟨sb, so, spot⟩ := a
      have hspot : spot = none := by
        obtain ⟨cz, hz, -⟩ := hel 0 (by omega)
        rw [cellsOp] at hz
        obtain ⟨_, hz8, hzc⟩ := World.cells?_some hz
        have hz0 := hzc 0 (by omega)
        rw [List.getElem?_eq_getElem (by omega)] at hz0
        simpa [Addr.add] using World.cell?_spot hz0
      subst hspot
      obtain ⟨_, hlen8, hcell⟩ := World.cells?_some hc
      have h00 := hcell 0 (by omega)
      rw [List.getElem?_eq_getElem (by omega)] at h00
      rw [add_plain] at hc h00
      rw [add_plain] at h00
      have hD := part_le (d := D i) (l := (List.range len).map D) (List.mem_map.2 ⟨i, List.mem_range.2 hi, rfl⟩)
      exact ⟨sb, so, rfl, World.block_lt_of_cell? W _ h00, opFit hc htr (by show Rows.uptoBulk (D i) ≤ _; omega)⟩
  refine (walk key.1 key.2).mono fun e W' ⟨he, hb⟩ => ?_
  subst he
  exact ⟨_, rfl, ⟨_, _, _, [], _, [], hW', trodAll_mk1 (shut_bool Try.underlying4 true), trodAll_mk1 (Below.trod laidOut (by kernel_rfl) (of_decide_eq_true (by kernel_rfl)) h0k hb hlt), rfl, hb.frame _, fun h => by cases h⟩⟩

set_option maxRecDepth 100000 in
theorem lifted (os : Os) (started : os.Started) (H : Type) (enc : TypeId × Value → H) (F : Stop.Interp) :
    ReturnsInHanded {} Try.checked os 3 .any ((Rows.OpenSpec.upto Rows.pushesSpec).pre6 enc Try.prog Try.f3 Rows.pushesUptoRow.domain false) (((Rows.OpenSpec.upto Rows.pushesSpec).at F).post enc Try.prog Try.f3 false true false false) := by
  refine returnsInHanded_of_cond (C := Try.checked) (s := Rows.OpenSpec.upto Rows.pushesSpec) (k := Rows.uptoSmall) rfl own started (by kernel_rfl) Try.func3
    (OpenSpec.witness (enc := enc) (C := Try.checked) (s := Rows.OpenSpec.upto Rows.pushesSpec) (k := Rows.uptoSmall) rfl false ⟨#[], #[.slice none 0 0], []⟩ 8 (by kernel_rfl) (by kernel_rfl) (by kernel_rfl)
      (x := ([.nil], [], [])) (by kernel_rfl) rfl (by kernel_rfl)) ?_
  intro W base args ds gs before hval hW _ hk _
  exact contract H enc W base args ds gs before hval hW hk

end Own

theorem pushes_upto : Rows.PushesUptoSaid :=
  OpenClaim.holds_of_cond 3 Try.f3 rfl rfl rfl rfl rfl rfl rfl ⟨rfl, rfl, rfl, rfl, rfl⟩ rfl rfl rfl rfl rfl (by kernel_rfl) Try.func3 (by kernel_rfl)
    (of_decide_eq_true (by kernel_rfl)) (by unfold Func.isWrapper; first | (rw [if_pos (by decide +kernel)]; kernel_rfl) | (rw [if_neg (by decide +kernel)]; exact ⟨rfl, rfl⟩))
    (fun os started H enc _ F => Own.lifted os started H enc F)

#print axioms pushes_upto
end Go.Proofs.Ytkfcemkkfjcgkaa
