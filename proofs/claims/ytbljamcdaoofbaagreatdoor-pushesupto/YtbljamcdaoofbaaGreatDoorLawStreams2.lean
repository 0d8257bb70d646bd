/- The law's streams, walked. -/
import Derived.Test.YtbljamcdaoofbaaGreatDoorLawStreams
namespace Go.Proofs.YtbljamcdaoofbaaGreatDoor
open Go.RowKit

theorem Inv.drawn {w : World} {wb : Nat} {own : Nat → Nat} {qs : List Pair} {tv : List Value} {vps vrs vT : Value} (h : Inv w wb own qs tv vps vrs vT) (n : Nat) : Inv (w.drewN n) wb own qs tv vps vrs vT :=
  ⟨h.blk, h.oblk, h.rowP, h.oP, h.rowR, h.oR, h.rowT, h.oT, fun i hi => (h.st i hi).keep (fun _ _ _ => rfl), fun i hi => (h.rf i hi).keep (fun _ _ _ => rfl), fun j hj => (h.marks j hj).keep (Nat.le_refl _) (fun _ _ _ _ => .inl rfl), h.omarks⟩

/-- the k-th store's pointers, where they lie -/
theorem Inv.cellP {w : World} {wb : Nat} {own : Nat → Nat} {qs : List Pair} {tv : List Value} {vps vrs vT : Value} (h : Inv w wb own qs tv vps vrs vT) {k : Nat} (hk : k < qs.length) :
    ∃ g cap, vps = .slice (some ⟨g, 0, none⟩) qs.length cap ∧ w.cell? ⟨wb, 0, none⟩ = some (.slice (some ⟨g, 0, none⟩) qs.length cap) ∧ w.cell? ⟨g, k, none⟩ = some (.pointer (some ⟨qs[k].pp, 0, none⟩)) := by
  obtain ⟨g, cap, e, -, -, -, -, hc, -⟩ := owns_open h.rowP (by omega)
  refine ⟨g, cap, e, ?_, ?_⟩
  · rw [(cell_of_block5 h.blk).1, e]
  · rw [hc k (by omega)]; simp [hk]
theorem Inv.cellR {w : World} {wb : Nat} {own : Nat → Nat} {qs : List Pair} {tv : List Value} {vps vrs vT : Value} (h : Inv w wb own qs tv vps vrs vT) {k : Nat} (hk : k < qs.length) :
    ∃ g cap, vrs = .slice (some ⟨g, 0, none⟩) qs.length cap ∧ w.cell? ⟨wb, 1, none⟩ = some (.slice (some ⟨g, 0, none⟩) qs.length cap) ∧ w.cell? ⟨g, k, none⟩ = some (.pointer (some ⟨qs[k].pr, 0, none⟩)) := by
  obtain ⟨g, cap, e, -, -, -, -, hc, -⟩ := owns_open h.rowR (by omega)
  refine ⟨g, cap, e, ?_, ?_⟩
  · rw [(cell_of_block5 h.blk).2.1, e]
  · rw [hc k (by omega)]; simp [hk]

set_option maxRecDepth 10000 in
set_option maxHeartbeats 4000000 in
theorem lawStreams_any {w : World} {wb k : Nat} {own : Nat → Nat} {qs : List Pair} {tv : List Value} {vps vrs vT : Value} (h : Inv w wb own qs tv vps vrs vT) (h4 : tv.length % 4 = 0) (ht : tv.length ≤ 8388608) (hq : qs.length ≤ 4194304) (hk : k < qs.length) (hrel : RelA (qs[k].ns.map absN) qs[k].S qs[k].L) :
    Calls Tryz.prog 58 #[.pointer (some ⟨wb, 0, none⟩), .int .i64 k] w fun e w' => e = .returned (.bool true) ∧ ∃ own' tv' vT', Inv w' wb own' qs tv' vps vrs vT' ∧ tv'.length = tv.length + 4 ∧ Moved (fun b => own b = 0) w w' ∧ (∀ b, b < w.heap.size → own' b = own b) := by
  obtain ⟨gP, capP, -, c0, cP⟩ := h.cellP hk
  have hn6 : qs[k].ns.length ≤ 6 := by rw [hrel.len']; exact hrel.six
  have HH := hide h
  have HR := hide hrel
  have HQ := hide hq
  have HT4 := hide h4
  clear h hrel h4
  go_enter Tryz.func58, Tryz.ntmps58
  go_wp2_with fail
  refine (streams_any ((unhide HH).st k hk) hn6).mono ?_
  rintro e w1 ⟨la, rfl, hown1, hb1⟩
  have h1 := (unhide HH).fresh (c := 1) hb1
  obtain ⟨gR, capR, -, c1, cR⟩ := h1.cellR hk
  have H1 := hide h1
  have HB1 := hide hb1
  clear h1 hb1 c0 cP
  go_wp2_with fail
  refine (refStreams_any _ ((unhide H1).rf k hk) (unhide HR).six).mono ?_
  rintro e w2 ⟨lb, rfl, hown2, hb2⟩
  have h2 := (unhide H1).fresh (c := 1) hb2
  have HBW2 := hide hb2
  have hfresh : ∀ g, la.ownBlock = some g → w.heap.size ≤ g ∧ g < w1.heap.size := fun g hg => hown1.lt g hg
  have hlab : streamsR qs[k].S = qs[k].ns.map (fun n => n.lab) := by
    rw [← (unhide HR).streams, List.map_map]
    rfl
  rw [hlab, List.length_map] at hown2
  have rowA : w2.ownsRow 0 9 1 la qs[k].ns.length ((qs[k].ns.map (fun n => n.lab)).map SV) := ownsRow_same (ownsRow_base hown1 (Nat.zero_le _)) fun g hg => hb2.block g (hfresh g hg).2
  have rowB : w2.ownsRow 0 9 1 lb qs[k].ns.length ((qs[k].ns.map (fun n => n.lab)).map SV) := ownsRow_base hown2 (Nat.zero_le _)
  have HFR := hide hfresh
  have hsz1 := (unhide HB1).size
  have hsz2 := hb2.size
  clear hown1 hown2 hlab hb2 c1 cR hfresh
  generalize qs[k].ns.map (fun n => n.lab) = labs at *
  generalize qs[k].ns.length = n at *
  obtain ⟨aa, capa, rfl, -, -, hnila, haoa, hcella, -⟩ := owns_form rowA
  obtain ⟨ab, capb, rfl, -, -, hnilb, haob, hcellb, -⟩ := owns_form rowB
  have hll : labs.length = n := by simpa using rowA.1
  have HLL := hide hll
  have H2 := hide h2
  have HA1 := hide hnila
  have HA2 := hide haoa
  have HA3 := hide hcella
  have HB1' := hide hnilb
  have HB2 := hide haob
  have HB3 := hide hcellb
  have ROWA := hide rowA
  clear hnila haoa hcella hnilb haob hcellb rowA rowB h2 hll
  go_wp2
  go_loopw [7, 8] (fun ok i wr => ok = .bool true ∧ ∃ j m : Nat, j ≤ n ∧ i = .int .i64 j ∧ wr = w2.drewN m) (fun _ i _ => n - (intOf i).toNat)
  case atStart => exact ⟨rfl, 0, 0, by omega, rfl, rfl⟩
  case round =>
    obtain ⟨rfl, j, m, hj, rfl, rfl⟩ := hrel
    by_cases hlt : j < n
    · obtain ⟨⟨ga, oa, sa⟩, rfl⟩ : ∃ a, aa = some a := by
        cases aa with
        | none => have := (unhide HA1 rfl).1; omega
        | some a => exact ⟨a, rfl⟩
      obtain ⟨⟨gb, ob, sb⟩, rfl⟩ : ∃ a, ab = some a := by
        cases ab with
        | none => have := (unhide HB1' rfl).1; omega
        | some a => exact ⟨a, rfl⟩
      obtain ⟨x1, x2, -, -⟩ := unhide HA2 _ rfl
      obtain ⟨y1, y2, -, -⟩ := unhide HB2 _ rfl
      simp only at x1 x2 y1 y2
      subst x1 x2 y1 y2
      have ca := unhide HA3 _ rfl j (by omega)
      have cb := unhide HB3 _ rfl j (by omega)
      have hjl : j < labs.length := by rw [unhide HLL]; exact hlt
      rw [map_SV_at labs j hjl] at ca cb
      have hji : (j : Int) < (n : Int) := by omega
      simp only at ca cb
      go_upto_region 7 with fail
      go_quiet (fail)
      go_wp2
      go_roundw
      case rel => exact ⟨rfl, j + 1, _, by omega, by go_num, rfl⟩
      case measure => simp [intOf]; omega
    · have h2m := (unhide H2).drawn m
      have rowA' : (w2.drewN m).ownsRow 0 9 1 (.slice aa n capa) n (labs.map SV) := unhide ROWA
      have H2M := hide h2m
      clear h2m
      go_wp2_with fail
      refine (texts_any (unhide H2M).blk (unhide H2M).rowT rowA' hn6 ht).mono ?_
      rintro e w3 ⟨rfl, vT', a1, a2, a3, z1, z2, m0, m1, m2, m3, z3, z4, z5, hmv⟩
      have hfin := (unhide H2M).updT (unhide HT4) (fun g hg => by
          obtain ⟨l1, l2⟩ := unhide HFR g hg
          refine ⟨?_, by show g < w2.heap.size; omega⟩
          rw [ownAt_old l2, ownAt_new l1]) (fun j hj g hg hg' => by
          have := ((unhide HH).marks j hj).lt hg
          have := (unhide HFR g hg').1
          omega) z1 z2 m0 m1 m2 m3 z3 z4 z5 hmv
      have hb12 : Below w.heap.size w w2 := (unhide HB1).trans ((unhide HBW2).mono (unhide HB1).size)
      have hmw : Moved (fun b => own b = 0) w w3 := by
        refine ⟨hmv.os.trans hb12.os, hmv.tape.trans hb12.tape, hmv.output.trans hb12.output, Nat.le_trans hb12.size hmv.size, fun b hb hne => ?_⟩
        rw [hmv.block b (Nat.lt_of_lt_of_le hb hb12.size) ?_]
        · exact hb12.block b hb
        · rintro (e1 | e1 | e1)
          · rw [e1] at hne; exact hne (unhide HH).oblk
          · exact hne ((unhide HH).oT b e1)
          · have := (unhide HFR b e1).1; omega
      have HMW := hide hmw
      have HFN := hide hfin
      clear hfin z1 z2 m0 m1 m2 m3 z3 z4 z5 hmv hmw hb12
      go_wp2
      go_ret
      refine ⟨rfl, _, _, _, unhide HFN, by simp, unhide HMW, fun b hb => ?_⟩
      have h1 : b < w1.heap.size := by omega
      have h2 : b < (w2.drewN m).heap.size := by show b < w2.heap.size; omega
      show ownT _ _ _ b = _
      unfold ownT
      rw [if_pos h2, ownAt_old h1, ownAt_old hb]

end Go.Proofs.YtbljamcdaoofbaaGreatDoor
