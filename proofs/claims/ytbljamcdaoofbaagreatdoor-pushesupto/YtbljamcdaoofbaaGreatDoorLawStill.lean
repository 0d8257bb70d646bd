/- The book: every list has its owner's mark yet. -/
import Derived.Test.YtbljamcdaoofbaaGreatDoorLawTexts2
namespace Go.Proofs.YtbljamcdaoofbaaGreatDoor
open Go.RowKit

set_option maxRecDepth 10000 in
set_option maxHeartbeats 4000000 in
theorem still_any {w : World} {wb : Nat} {v0 v1 vT : Value} {tv : List Value} (hb : w.heap[wb]? = some (.cells #[v0, v1, vT, .slice none 0 0, .slice none 0 0] 70 (0, 0))) (hT : w.ownsRow 0 33 1 vT tv.length tv) (hm : ∀ j (h : j < tv.length), MarkAt w tv[j] (SV (wordL (j / 4)))) (ht : tv.length ≤ 8388608) :
    Calls Tryz.prog 34 #[.pointer (some ⟨wb, 2, none⟩)] w fun e w' => e = .returned (.bool true) ∧ Below w.heap.size w w' := by
  obtain ⟨-, -, c2, c3, c4, -⟩ := cell_of_block5 hb
  have hwl := (Array.getElem?_eq_some_iff.1 hb).1
  obtain ⟨aT, capT, rfl, hnc, hcm, hnil, hao, hcell, -⟩ := owns_form hT
  have HN := hide hnil
  have HA := hide hao
  have HC := hide hcell
  have HM := hide hm
  have HC2 := hide c2
  have HC3 := hide c3
  have HC4 := hide c4
  clear hb hT hnil hao hcell hm c2 c3 c4
  go_enter Tryz.func34, Tryz.ntmps34
  go_wp2
  go_loopw [3, 4] (fun ok i wr => ok = .bool true ∧ ∃ k : Nat, k ≤ tv.length ∧ i = .int .i64 k ∧ Below w.heap.size w wr) (fun _ i _ => tv.length - (intOf i).toNat)
  case atStart => exact ⟨rfl, 0, by omega, rfl, Below.refl _ _⟩
  case round =>
    obtain ⟨rfl, k, hk, rfl, hbel⟩ := hrel
    have d2 : wr.cell? ⟨wb, 2, none⟩ = some (.slice aT tv.length capT) := (hbel.cell (by exact hwl)).trans (unhide HC2)
    by_cases hlt : k < tv.length
    · obtain ⟨⟨g, o, sp⟩, rfl⟩ : ∃ a, aT = some a := by
        cases aT with
        | none => have := (unhide HN rfl).1; omega
        | some a => exact ⟨a, rfl⟩
      obtain ⟨ho, hsp, -, hgw⟩ := unhide HA _ rfl
      simp only at ho hsp hgw
      subst ho hsp
      have HQ := hide (show ((k : Int)) / 4 = ((k / 4 : Nat) : Int) by omega)
      go_wp2_with fail
      rw [unhide HQ]
      refine (word_any (k / 4) _ (by omega)).mono ?_
      rintro e w1 ⟨rfl, hb1⟩
      have hmk := unhide HM k hlt
      generalize hxw : wordL (k / 4) = xl at hmk ⊢
      clear hxw
      have hbel1 := hbel.trans (hb1.mono hbel.size)
      have e2 : w1.cell? ⟨wb, 2, none⟩ = some (.slice (some ⟨g, 0, none⟩) tv.length capT) := (hbel1.cell (by exact hwl)).trans (unhide HC2)
      obtain ⟨am, n, cm, hv, hn9, hmn, hma⟩ := hmk
      have et : w1.cell? ⟨g, k, none⟩ = some (.slice am n cm) := by
        rw [hbel1.cell (by exact hgw), unhide HC _ rfl k (by omega), List.getElem?_eq_getElem hlt, hv]
      have HMN := hide hmn
      have HMA := hide hma
      clear hmn hma hb1 d2 hv
      go_wp2
      go_loop [3, 6] (fun ok i => ok = .bool true ∧ ∃ j : Nat, j ≤ n ∧ i = .int .i64 j) (fun _ i => n - (intOf i).toNat)
      case atStart => exact ⟨rfl, 0, by omega, rfl⟩
      case round =>
        obtain ⟨rfl, j, hj, rfl⟩ := hrel
        by_cases hjl : j < n
        · obtain ⟨⟨gm, om, sm⟩, rfl⟩ : ∃ a, am = some a := by
            cases am with
            | none => have := unhide HMN rfl; omega
            | some a => exact ⟨a, rfl⟩
          obtain ⟨h1, h2, h3, h4⟩ := unhide HMA _ rfl
          simp only at h1 h2 h3
          subst h1 h2
          have ej : w1.cell? ⟨gm, j, none⟩ = some (SV xl) := (hbel1.cell (by exact h3)).trans (h4 j hjl)
          clear h4
          go_wp2
          go_round
          case rel => exact ⟨rfl, j + 1, by omega, by go_num⟩
          case measure => simp [intOf]; omega
        · go_wp2
          go_roundw
          case rel => exact ⟨rfl, k + 1, by omega, by go_num, hbel1⟩
          case measure => simp [intOf]; omega
    · have d3 : wr.cell? ⟨wb, 3, none⟩ = some (.slice none 0 0) := (hbel.cell (by exact hwl)).trans (unhide HC3)
      have d4 : wr.cell? ⟨wb, 4, none⟩ = some (.slice none 0 0) := (hbel.cell (by exact hwl)).trans (unhide HC4)
      go_wp2
      refine wp_loop_rounds 1 ?_
      rw [rounds_succ]
      go_wp2
      refine wp_loop_rounds 1 ?_
      rw [rounds_succ]
      go_wp2
      go_ret
      exact ⟨rfl, hbel⟩

end Go.Proofs.YtbljamcdaoofbaaGreatDoor
