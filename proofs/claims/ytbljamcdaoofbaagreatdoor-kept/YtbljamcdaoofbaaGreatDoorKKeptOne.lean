/- loamkeep's Kept, walked. -/
import Derived.Test.YtbljamcdaoofbaaGreatDoorKToldToKFind
namespace Go.Proofs.YtbljamcdaoofbaaGreatDoor
open Go.RowKit

theorem any_snoc (f : Rw → Bool) (L : List Rw) (k : Nat) (h : k < L.length) : (L.take (k + 1)).any f = ((L.take k).any f || f L[k]) := by
  rw [List.take_succ_eq_append_getElem h, List.any_append]
  simp
theorem any_snoc' (f : List UInt8 → Bool) (L : List (List UInt8)) (k : Nat) (h : k < L.length) : (L.take (k + 1)).any f = ((L.take k).any f || f L[k]) := by
  rw [List.take_succ_eq_append_getElem h, List.any_append]
  simp

/-- the streams' labels, as Streams tells them -/
theorem KeepAt.names {w0 w : World} {F : Nat → Prop} {p : Nat} {S : List Strm} {L : List Rw} (h : KeepAt w0 w F p S L) : Ris (streamsR S) ∧ (∀ x, x ∈ streamsR S ↔ ∃ y ∈ S, y.1 = x) ∧ (streamsR S).length ≤ 6 := by
  obtain ⟨ns, va, hst, hrel⟩ := h.st
  refine ⟨by rw [← hrel.streams]; exact hrel.ris, ?_, ?_⟩
  · intro x
    have := (streams_ris S [] List.Pairwise.nil).2 x
    simpa [streamsR] using this
  · rw [← hrel.streams, List.length_map, ← hrel.len]
    exact hrel.six

set_option maxRecDepth 10000 in
set_option maxHeartbeats 8000000 in
theorem keptK_any {w : World} {ao : Option Addr} {n cap : Nat} (hr : RawAt w ao n) (hg : Glob w) :
    Calls Tryz.prog 5 #[.slice ao n cap] w fun e w' => e = .returned (.bool true) ∧ Below w.heap.size w w' := by
  have HR := hide hr
  have HG := hide hg
  clear hr hg
  go_enter Tryz.func5, Tryz.ntmps5
  go_wp2_with fail
  refine (finding_any (unhide HG)).mono ?_
  rintro e w1 ⟨rfl, hb1⟩
  have hfi := filled_any (w := w1) (cap := cap) (show RawAt w1 ao n from fun i hi => by
    obtain ⟨sb, so, h1, h2, a, b, c, h3, h4, h5, h6⟩ := unhide HR i hi
    exact ⟨sb, so, h1, Nat.lt_of_lt_of_le h2 hb1.size, a, b, c, (hb1.cell (p := ⟨sb, _, none⟩) h2).trans h3, (hb1.cell (p := ⟨sb, _, none⟩) h2).trans h4, (hb1.cell (p := ⟨sb, _, none⟩) h2).trans h5, h6⟩)
  have HG1 := hide ((unhide HG).below hb1)
  have HB1 := hide hb1
  clear hb1 HR
  go_wp2_with fail
  refine hfi.mono ?_
  rintro e w2 ⟨p, F, S, L, t, v, k, rfl, hk40, hF⟩
  clear hfi
  have hL40 : L.length ≤ 40 := by rw [hF.len]; exact hk40
  have hto := told_any hF.keep (unhide HG1) hF.fill.lab5 hF.fill.rise hL40
  have HF := hide hF
  have hlate := hF.late
  have HWW := hide (show ordLs L = winL 0 200 L from ordLs_win fun r hr => by
    have := hF.fill.times r hr
    unfold inW
    simp only [Bool.and_eq_true, decide_eq_true_eq]
    omega)
  have hwl := win_len 0 200 L
  clear hF
  go_wp2_with fail
  refine hto.mono ?_
  rintro e w3 ⟨v3, rfl, hown3, hb3⟩
  clear hto
  have hst := kstreams_any ((unhide HF).keep.below hb3)
  go_wp2_with fail
  refine hst.mono ?_
  rintro e w4 ⟨v4, rfl, hown4, hb4⟩
  clear hst
  have hrow4 : w4.ownsRow 0 38 3 v L.length (L.flatMap cellsR) := ownsRow_base (ownsRow_same (unhide HF).row fun g hg' => by
    have h1 := (ownsRow_type (unhide HF).row hg').1
    rw [hb4.block g (Nat.lt_of_lt_of_le h1 hb3.size), hb3.block g h1]) (Nat.zero_le _)
  have hor := ordered_any hrow4 (by omega)
  go_wp2_with fail
  refine hor.mono ?_
  rintro e w5 ⟨v5, rfl, hown5, hb5⟩
  clear hor
  rw [unhide HWW] at hown5
  have row3 : w5.ownsRow 0 38 3 v3 (winL 0 200 L).length ((winL 0 200 L).flatMap cellsR) := ownsRow_base (ownsRow_same hown3 fun g hg' => by
    have h1 := (ownsRow_type hown3 hg').1
    rw [hb5.block g (Nat.lt_of_lt_of_le h1 hb4.size), hb4.block g h1]) (Nat.zero_le _)
  have hsa := same_any row3 (ownsRow_base hown5 (Nat.zero_le _)) (by omega)
  have rowL : w5.ownsRow 0 38 3 v L.length (L.flatMap cellsR) := ownsRow_same hrow4 fun g hg' => hb5.block g (ownsRow_type hrow4 hg').1
  have rowN : w5.ownsRow 0 9 1 v4 (streamsR S).length ((streamsR S).map SV) := ownsRow_base (ownsRow_same hown4 fun g hg' => hb5.block g (ownsRow_type hown4 hg').1) (Nat.zero_le _)
  have HFI := hide (show Below w.heap.size w w5 from ((((unhide HF).keep.below hb3).below hb4).below hb5).rebase (unhide HB1) |>.bel)
  obtain ⟨hris, hmem, hn6⟩ := (unhide HF).keep.names
  have HRI := hide hris
  have HN1 := hide (show ∀ i (h : i < (streamsR S).length), L.any (fun r => r.1 == (streamsR S)[i]) = true from fun i hi => by
    obtain ⟨y, hy, e⟩ := (hmem _).1 (List.getElem_mem hi)
    obtain ⟨r, hr, e1, -⟩ := (unhide HF).fill.has y hy
    rw [List.any_eq_true]
    exact ⟨r, hr, by rw [e1, e]; simp⟩)
  have HN2 := hide (show ∀ j (h : j < L.length), (streamsR S).any (fun x => L[j].1 == x) = true from fun j hj => by
    obtain ⟨y, hy, e, -⟩ := (unhide HF).fill.back L[j] (List.getElem_mem hj)
    rw [List.any_eq_true]
    exact ⟨y.1, (hmem _).2 ⟨y, hy, rfl⟩, by rw [e]; simp⟩)
  clear hown3 hb3 hown4 hb4 hrow4 hown5 hb5 row3 hris hmem HF HWW HG HG1 HB1
  go_wp2_with fail
  refine hsa.mono ?_
  rintro e w6 ⟨rfl, m6, hw6⟩
  clear hsa
  have rowL6 : w6.ownsRow 0 38 3 v L.length (L.flatMap cellsR) := by rw [hw6]; exact rowL
  have rowN6 : w6.ownsRow 0 9 1 v4 (streamsR S).length ((streamsR S).map SV) := by rw [hw6]; exact rowN
  have HFI6 : Hid (Below w.heap.size w w6) := by rw [hw6]; exact Below.drawn (unhide HFI) m6
  clear rowL rowN HFI hw6
  generalize streamsR S = N at *
  obtain ⟨aL, capL, rfl, -, -, hnilL, haoL, hcellL, -⟩ := owns_form rowL6
  obtain ⟨aN, capN, rfl, -, -, hnilN, haoN, hcellN, -⟩ := owns_form rowN6
  have A1 := hide hnilL
  have A2 := hide haoL
  have A3 := hide hcellL
  have B1 := hide hnilN
  have B2 := hide haoN
  have B3 := hide hcellN
  clear rowL6 rowN6 hnilL haoL hcellL hnilN haoN hcellN
  go_wp2_with fail
  go_loopw [12] (fun i wr => ∃ j m : Nat, j ≤ N.length ∧ i = .int .i64 j ∧ wr = w6.drewN m) (fun i _ => N.length - (intOf i).toNat)
  case atStart => exact ⟨0, 0, by omega, rfl, rfl⟩
  case round =>
    obtain ⟨j, m, hj, rfl, rfl⟩ := hrel
    by_cases hlt : j < N.length
    · obtain ⟨⟨gN, oN, sN⟩, rfl⟩ : ∃ a, aN = some a := by
        cases aN with
        | none => have := (unhide B1 rfl).1; omega
        | some a => exact ⟨a, rfl⟩
      obtain ⟨x1, x2, -, -⟩ := unhide B2 _ rfl
      simp only at x1 x2
      subst x1 x2
      have cN := unhide B3 _ rfl j (by omega)
      rw [map_SV_at N j hlt] at cN
      simp only at cN
      have hji : (j : Int) < (N.length : Int) := by omega
      go_wp2_with fail
      go_loopw [13, 14] (fun ok i wr => ∃ i2 m2 : Nat, i2 ≤ L.length ∧ i = .int .i64 i2 ∧ ok = .bool ((L.take i2).any (fun r => r.1 == N[j])) ∧ wr = w6.drewN m2) (fun _ i _ => L.length - (intOf i).toNat)
      case atStart => exact ⟨0, m, by omega, rfl, rfl, rfl⟩
      case round =>
        obtain ⟨i2, m2, hi2, rfl, rfl, rfl⟩ := hrel
        by_cases hl2 : i2 < L.length
        · obtain ⟨⟨gL, oL, sL⟩, rfl⟩ : ∃ a, aL = some a := by
            cases aL with
            | none => have := (unhide A1 rfl).1; omega
            | some a => exact ⟨a, rfl⟩
          obtain ⟨y1, y2, -, -⟩ := unhide A2 _ rfl
          simp only at y1 y2
          subst y1 y2
          obtain ⟨e0, -, -⟩ := cellsR_at L i2 hl2
          have cL := (unhide A3 _ rfl (i2 * 3) (by omega)).trans e0
          simp only at cL
          have hii : (i2 : Int) < (L.length : Int) := by omega
          have HS := hide (any_snoc (fun r => r.1 == N[j]) L i2 hl2)
          cases hb : (L.take i2).any (fun r => r.1 == N[j]) with
          | true =>
            have HBB := hide hb
            go_upto_region 18 with fail
            go_quiet (fail)
            go_wp2
            go_roundw
            case rel => exact ⟨i2 + 1, _, by omega, by go_num, by rw [unhide HS, unhide HBB]; rfl, rfl⟩
            case measure => simp [intOf]; omega
          | false =>
            have HBB := hide hb
            go_upto_region 18 with fail
            go_quiet (fail)
            go_wp2
            go_roundw
            case rel => exact ⟨i2 + 1, _, by omega, by go_num, by rw [unhide HS, unhide HBB]; rfl, rfl⟩
            case measure => simp [intOf]; omega
        · have hall : (L.take i2).any (fun r => r.1 == N[j]) = true := by
            rw [List.take_of_length_le (by omega)]; exact unhide HN1 j hlt
          rw [hall]
          clear hall
          by_cases hj0 : 0 < j
          · have cP := unhide B3 _ rfl (j - 1) (by omega)
            rw [map_SV_at N (j - 1) (by omega)] at cP
            simp only at cP
            have hle : Op.bytesLess N[j - 1] N[j] = true := List.pairwise_iff_getElem.1 (unhide HRI) (j - 1) j (by omega) hlt (by omega)
            have hpi : (0 : Int) < (j : Int) := by omega
            have hpt : ((j : Int) - 1).toNat = j - 1 := by omega
            have hpl : (j : Int) - 1 < (N.length : Int) := by omega
            have hp0 : (0 : Int) ≤ (j : Int) - 1 := by omega
            go_upto_region 19 with fail
            go_quiet (fail)
            go_wp2
            go_roundw
            case rel => exact ⟨j + 1, _, by omega, by go_num, rfl⟩
            case measure => simp [intOf]; omega
          · have hj1 : j = 0 := by omega
            subst hj1
            go_upto_region 19 with fail
            go_quiet (fail)
            go_wp2
            go_roundw
            case rel => exact ⟨0 + 1, _, by omega, by go_num, rfl⟩
            case measure => simp [intOf]; omega
    · go_wp2_with fail
      go_loopw [15] (fun i wr => ∃ j m : Nat, j ≤ L.length ∧ i = .int .i64 j ∧ wr = w6.drewN m) (fun i _ => L.length - (intOf i).toNat)
      case atStart => exact ⟨0, m, by omega, rfl, rfl⟩
      case round =>
        obtain ⟨j2, m2, hj2, rfl, rfl⟩ := hrel
        by_cases hlt2 : j2 < L.length
        · obtain ⟨⟨gL, oL, sL⟩, rfl⟩ : ∃ a, aL = some a := by
            cases aL with
            | none => have := (unhide A1 rfl).1; omega
            | some a => exact ⟨a, rfl⟩
          obtain ⟨y1, y2, -, -⟩ := unhide A2 _ rfl
          simp only at y1 y2
          subst y1 y2
          obtain ⟨e0, -, -⟩ := cellsR_at L j2 hlt2
          have cL := (unhide A3 _ rfl (j2 * 3) (by omega)).trans e0
          simp only at cL
          have hji : (j2 : Int) < (L.length : Int) := by omega
          go_wp2_with fail
          go_loopw [16, 17] (fun ok i wr => ∃ i3 m3 : Nat, i3 ≤ N.length ∧ i = .int .i64 i3 ∧ ok = .bool ((N.take i3).any (fun x => L[j2].1 == x)) ∧ wr = w6.drewN m3) (fun _ i _ => N.length - (intOf i).toNat)
          case atStart => exact ⟨0, m2, by omega, rfl, rfl, rfl⟩
          case round =>
            obtain ⟨i3, m3, hi3, rfl, rfl, rfl⟩ := hrel
            by_cases hl3 : i3 < N.length
            · obtain ⟨⟨gN, oN, sN⟩, rfl⟩ : ∃ a, aN = some a := by
                cases aN with
                | none => have := (unhide B1 rfl).1; omega
                | some a => exact ⟨a, rfl⟩
              obtain ⟨x1, x2, -, -⟩ := unhide B2 _ rfl
              simp only at x1 x2
              subst x1 x2
              have cN := unhide B3 _ rfl i3 (by omega)
              rw [map_SV_at N i3 hl3] at cN
              simp only at cN
              have hii : (i3 : Int) < (N.length : Int) := by omega
              have HS := hide (any_snoc' (fun x => L[j2].1 == x) N i3 hl3)
              cases hb : (N.take i3).any (fun x => L[j2].1 == x) with
              | true =>
                have HBB := hide hb
                go_upto_region 28 with fail
                go_quiet (fail)
                go_wp2
                go_roundw
                case rel => exact ⟨i3 + 1, _, by omega, by go_num, by rw [unhide HS, unhide HBB]; rfl, rfl⟩
                case measure => simp [intOf]; omega
              | false =>
                have HBB := hide hb
                go_upto_region 28 with fail
                go_quiet (fail)
                go_wp2
                go_roundw
                case rel => exact ⟨i3 + 1, _, by omega, by go_num, by rw [unhide HS, unhide HBB]; rfl, rfl⟩
                case measure => simp [intOf]; omega
            · have hall : (N.take i3).any (fun x => L[j2].1 == x) = true := by
                rw [List.take_of_length_le (by omega)]; exact unhide HN2 j2 hlt2
              rw [hall]
              clear hall
              go_wp2_with fail
              go_roundw
              case rel => exact ⟨j2 + 1, _, by omega, by go_num, rfl⟩
              case measure => simp [intOf]; omega
        · go_wp2_with fail
          go_ret
          exact ⟨rfl, Below.drawn (unhide HFI6) _⟩

end Go.Proofs.YtbljamcdaoofbaaGreatDoor
