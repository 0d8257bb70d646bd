/- Texts LawStreams2, LawStill, LawUpdR, LawUpdS, Glob, joined. -/
import Derived.Test.YtbljamcdaoofbaaGreatDoorLawInvToLawStreams
import Derived.Test.YtbljamcdaoofbaaGreatDoorRefRowsToPRowsAll
/- The law's streams, walked. -/
namespace Go.Proofs.YtbljamcdaoofbaaGreatDoor
open Go.RowKit

theorem Inv.drawn {w : World} {wb : Nat} {own : Nat → Nat} {qs : List Pair} {tv : List Value} {vps vrs vT : Value} {bk : Bk} (h : Inv w wb own qs tv vps vrs vT bk) (n : Nat) : Inv (w.drewN n) wb own qs tv vps vrs vT bk :=
  ⟨h.blk, h.oblk, h.rowP, h.oP, h.rowR, h.oR, h.rowT, h.oT, fun i hi => (h.st i hi).keep (fun _ _ _ => rfl), fun i hi => (h.rf i hi).keep (fun _ _ _ => rfl), fun j hj => (h.marks j hj).keep (Nat.le_refl _) (fun _ _ _ _ => .inl rfl), h.omarks, h.bk.keep (Nat.le_refl _) (fun _ _ => rfl) (fun _ _ => rfl)⟩

/-- the k-th store's pointers, where they lie -/
theorem Inv.cellP {w : World} {wb : Nat} {own : Nat → Nat} {qs : List Pair} {tv : List Value} {vps vrs vT : Value} {bk : Bk} (h : Inv w wb own qs tv vps vrs vT bk) {k : Nat} (hk : k < qs.length) :
    ∃ g cap, vps = .slice (some ⟨g, 0, none⟩) qs.length cap ∧ w.cell? ⟨wb, 0, none⟩ = some (.slice (some ⟨g, 0, none⟩) qs.length cap) ∧ w.cell? ⟨g, k, none⟩ = some (.pointer (some ⟨qs[k].pp, 0, none⟩)) := by
  obtain ⟨g, cap, e, -, -, -, -, hc, -⟩ := owns_open h.rowP (by omega)
  refine ⟨g, cap, e, ?_, ?_⟩
  · rw [(cell_of_block5 h.blk).1, e]
  · rw [hc k (by omega)]; simp [hk]
theorem Inv.cellR {w : World} {wb : Nat} {own : Nat → Nat} {qs : List Pair} {tv : List Value} {vps vrs vT : Value} {bk : Bk} (h : Inv w wb own qs tv vps vrs vT bk) {k : Nat} (hk : k < qs.length) :
    ∃ g cap, vrs = .slice (some ⟨g, 0, none⟩) qs.length cap ∧ w.cell? ⟨wb, 1, none⟩ = some (.slice (some ⟨g, 0, none⟩) qs.length cap) ∧ w.cell? ⟨g, k, none⟩ = some (.pointer (some ⟨qs[k].pr, 0, none⟩)) := by
  obtain ⟨g, cap, e, -, -, -, -, hc, -⟩ := owns_open h.rowR (by omega)
  refine ⟨g, cap, e, ?_, ?_⟩
  · rw [(cell_of_block5 h.blk).2.1, e]
  · rw [hc k (by omega)]; simp [hk]

set_option maxRecDepth 10000 in
set_option maxHeartbeats 4000000 in
theorem lawStreams_any {w : World} {wb k : Nat} {own : Nat → Nat} {qs : List Pair} {tv : List Value} {vps vrs vT : Value} {bk : Bk} (h : Inv w wb own qs tv vps vrs vT bk) (h4 : tv.length % 4 = 0) (ht : tv.length ≤ 8388608) (hq : qs.length ≤ 4194304) (hk : k < qs.length) (hrel : RelA (qs[k].ns.map absN) qs[k].S qs[k].L) :
    Calls Tryz.prog 58 #[.pointer (some ⟨wb, 0, none⟩), .int .i64 k] w fun e w' => e = .returned (.bool true) ∧ ∃ own' tv' vT', Inv w' wb own' qs tv' vps vrs vT' bk ∧ tv'.length = tv.length + 4 ∧ Moved (fun b => own b = 0) w w' ∧ (∀ b, b < w.heap.size → own' b = own b) := by
  obtain ⟨gP, capP, -, c0, cP⟩ := h.cellP hk
  have hn6 : qs[k].ns.length ≤ 6 := by rw [hrel.len']; exact hrel.six
  have HH := hide h
  have HR := hide hrel
  have HQ := hide hq
  have HT4 := hide h4
  clear h hrel h4
  go_enter Tryz.func58, Tryz.ntmps58
  go_wp2_with fail
  refine (streams_any ((unhide HH).st k hk) hn6).mono ?_
  rintro e w1 ⟨la, rfl, hown1, hb1⟩
  have h1 := (unhide HH).fresh (c := 1) hb1
  obtain ⟨gR, capR, -, c1, cR⟩ := h1.cellR hk
  have H1 := hide h1
  have HB1 := hide hb1
  clear h1 hb1 c0 cP
  go_wp2_with fail
  refine (refStreams_any _ ((unhide H1).rf k hk) (unhide HR).six).mono ?_
  rintro e w2 ⟨lb, rfl, hown2, hb2⟩
  have h2 := (unhide H1).fresh (c := 1) hb2
  have HBW2 := hide hb2
  have hfresh : ∀ g, la.ownBlock = some g → w.heap.size ≤ g ∧ g < w1.heap.size := fun g hg => hown1.lt g hg
  have hlab : streamsR qs[k].S = qs[k].ns.map (fun n => n.lab) := by
    rw [← (unhide HR).streams, List.map_map]
    rfl
  rw [hlab, List.length_map] at hown2
  have rowA : w2.ownsRow 0 9 1 la qs[k].ns.length ((qs[k].ns.map (fun n => n.lab)).map SV) := ownsRow_same (ownsRow_base hown1 (Nat.zero_le _)) fun g hg => hb2.block g (hfresh g hg).2
  have rowB : w2.ownsRow 0 9 1 lb qs[k].ns.length ((qs[k].ns.map (fun n => n.lab)).map SV) := ownsRow_base hown2 (Nat.zero_le _)
  have HFR := hide hfresh
  have hsz1 := (unhide HB1).size
  have hsz2 := hb2.size
  clear hown1 hown2 hlab hb2 c1 cR hfresh
  generalize qs[k].ns.map (fun n => n.lab) = labs at *
  generalize qs[k].ns.length = n at *
  obtain ⟨aa, capa, rfl, -, -, hnila, haoa, hcella, -⟩ := owns_form rowA
  obtain ⟨ab, capb, rfl, -, -, hnilb, haob, hcellb, -⟩ := owns_form rowB
  have hll : labs.length = n := by simpa using rowA.1
  have HLL := hide hll
  have H2 := hide h2
  have HA1 := hide hnila
  have HA2 := hide haoa
  have HA3 := hide hcella
  have HB1' := hide hnilb
  have HB2 := hide haob
  have HB3 := hide hcellb
  have ROWA := hide rowA
  clear hnila haoa hcella hnilb haob hcellb rowA rowB h2 hll
  go_wp2
  go_loopw [7, 8] (fun ok i wr => ok = .bool true ∧ ∃ j m : Nat, j ≤ n ∧ i = .int .i64 j ∧ wr = w2.drewN m) (fun _ i _ => n - (intOf i).toNat)
  case atStart => exact ⟨rfl, 0, 0, by omega, rfl, rfl⟩
  case round =>
    obtain ⟨rfl, j, m, hj, rfl, rfl⟩ := hrel
    by_cases hlt : j < n
    · obtain ⟨⟨ga, oa, sa⟩, rfl⟩ : ∃ a, aa = some a := by
        cases aa with
        | none => have := (unhide HA1 rfl).1; omega
        | some a => exact ⟨a, rfl⟩
      obtain ⟨⟨gb, ob, sb⟩, rfl⟩ : ∃ a, ab = some a := by
        cases ab with
        | none => have := (unhide HB1' rfl).1; omega
        | some a => exact ⟨a, rfl⟩
      obtain ⟨x1, x2, -, -⟩ := unhide HA2 _ rfl
      obtain ⟨y1, y2, -, -⟩ := unhide HB2 _ rfl
      simp only at x1 x2 y1 y2
      subst x1 x2 y1 y2
      have ca := unhide HA3 _ rfl j (by omega)
      have cb := unhide HB3 _ rfl j (by omega)
      have hjl : j < labs.length := by rw [unhide HLL]; exact hlt
      rw [map_SV_at labs j hjl] at ca cb
      have hji : (j : Int) < (n : Int) := by omega
      simp only at ca cb
      go_upto_region 7 with fail
      go_quiet (fail)
      go_wp2
      go_roundw
      case rel => exact ⟨rfl, j + 1, _, by omega, by go_num, rfl⟩
      case measure => simp [intOf]; omega
    · have h2m := (unhide H2).drawn m
      have rowA' : (w2.drewN m).ownsRow 0 9 1 (.slice aa n capa) n (labs.map SV) := unhide ROWA
      have H2M := hide h2m
      clear h2m
      go_wp2_with fail
      refine (texts_any (unhide H2M).blk (unhide H2M).rowT rowA' hn6 ht).mono ?_
      rintro e w3 ⟨rfl, vT', a1, a2, a3, z1, z2, m0, m1, m2, m3, z3, z4, z5, hmv⟩
      have hfin := (unhide H2M).updT (unhide HT4) (fun g hg => by
          obtain ⟨l1, l2⟩ := unhide HFR g hg
          refine ⟨?_, by show g < w2.heap.size; omega⟩
          rw [ownAt_old l2, ownAt_new l1]) (fun j hj g hg hg' => by
          have := ((unhide HH).marks j hj).lt hg
          have := (unhide HFR g hg').1
          omega) (fun b hb e => by
          have := (unhide HH).bk.lt hb
          have := (unhide HFR b e).1
          omega) z1 z2 m0 m1 m2 m3 z3 z4 z5 hmv
      have hb12 : Below w.heap.size w w2 := (unhide HB1).trans ((unhide HBW2).mono (unhide HB1).size)
      have hmw : Moved (fun b => own b = 0) w w3 := by
        refine ⟨hmv.os.trans hb12.os, hmv.tape.trans hb12.tape, hmv.output.trans hb12.output, Nat.le_trans hb12.size hmv.size, fun b hb hne => ?_⟩
        rw [hmv.block b (Nat.lt_of_lt_of_le hb hb12.size) ?_]
        · exact hb12.block b hb
        · rintro (e1 | e1 | e1)
          · rw [e1] at hne; exact hne (unhide HH).oblk
          · exact hne ((unhide HH).oT b e1)
          · have := (unhide HFR b e1).1; omega
      have HMW := hide hmw
      have HFN := hide hfin
      clear hfin z1 z2 m0 m1 m2 m3 z3 z4 z5 hmv hmw hb12
      go_wp2
      go_ret
      refine ⟨rfl, _, _, _, unhide HFN, by simp, unhide HMW, fun b hb => ?_⟩
      have h1 : b < w1.heap.size := by omega
      have h2 : b < (w2.drewN m).heap.size := by show b < w2.heap.size; omega
      show ownT _ _ _ b = _
      unfold ownT
      rw [if_pos h2, ownAt_old h1, ownAt_old hb]

end Go.Proofs.YtbljamcdaoofbaaGreatDoor

/- The book: every list has its owner's mark yet. -/
namespace Go.Proofs.YtbljamcdaoofbaaGreatDoor
open Go.RowKit

theorem mark_eq (k : Nat) : (markN (k / 4) == 5000000000 + (k : Int) / 4) = true := by
  unfold markN
  simp

set_option maxRecDepth 10000 in
set_option maxHeartbeats 4000000 in
theorem still_any {w : World} {wb : Nat} {own : Nat → Nat} {v0 v1 vT : Value} {tv : List Value} {bk : Bk} (hb : w.heap[wb]? = some (.cells #[v0, v1, vT, bk.vR, bk.vM] 70 (0, 0))) (hT : w.ownsRow 0 33 1 vT tv.length tv) (hm : ∀ j (h : j < tv.length), MarkAt w tv[j] (SV (wordL (j / 4)))) (ht : tv.length ≤ 8388608) (hbk : BkAt w own bk) (htr : bk.tr.length ≤ 8388608) (htm : bk.tm.length ≤ 8388608) :
    Calls Tryz.prog 34 #[.pointer (some ⟨wb, 2, none⟩)] w fun e w' => e = .returned (.bool true) ∧ Below w.heap.size w w' := by
  obtain ⟨-, -, c2, c3, c4, -⟩ := cell_of_block5 hb
  have hwl := (Array.getElem?_eq_some_iff.1 hb).1
  obtain ⟨aT, capT, rfl, hnc, hcm, hnil, hao, hcell, -⟩ := owns_form hT
  obtain ⟨aR, capR, hvR, hncR, hcmR, hnilR, haoR, hcellR, -⟩ := owns_form hbk.rowB
  obtain ⟨aM, capM, hvM, hncM, hcmM, hnilM, haoM, hcellM, -⟩ := owns_form hbk.rowC
  rw [hvR] at c3
  rw [hvM] at c4
  have HN := hide hnil
  have HA := hide hao
  have HC := hide hcell
  have HM := hide hm
  have HC2 := hide c2
  have HC3 := hide c3
  have HC4 := hide c4
  have HNR := hide hnilR
  have HAR := hide haoR
  have HCR := hide hcellR
  have HMR := hide hbk.marksB
  have HNM := hide hnilM
  have HAM := hide haoM
  have HCM := hide hcellM
  have HMM := hide hbk.marksC
  clear hb hT hnil hao hcell hm c2 c3 c4 hbk hvR hvM hnilR haoR hcellR hnilM haoM hcellM
  generalize bk.tr = tr at *
  generalize bk.tm = tm at *
  go_enter Tryz.func34, Tryz.ntmps34
  go_wp2
  go_loopw [3, 4] (fun ok i wr => ok = .bool true ∧ ∃ k : Nat, k ≤ tv.length ∧ i = .int .i64 k ∧ Below w.heap.size w wr) (fun _ i _ => tv.length - (intOf i).toNat)
  case atStart => exact ⟨rfl, 0, by omega, rfl, Below.refl _ _⟩
  case round =>
    obtain ⟨rfl, k, hk, rfl, hbel⟩ := hrel
    have d2 : wr.cell? ⟨wb, 2, none⟩ = some (.slice aT tv.length capT) := (hbel.cell (by exact hwl)).trans (unhide HC2)
    by_cases hlt : k < tv.length
    · obtain ⟨⟨g, o, sp⟩, rfl⟩ : ∃ a, aT = some a := by
        cases aT with
        | none => have := (unhide HN rfl).1; omega
        | some a => exact ⟨a, rfl⟩
      obtain ⟨ho, hsp, -, hgw⟩ := unhide HA _ rfl
      simp only at ho hsp hgw
      subst ho hsp
      have HQ := hide (show ((k : Int)) / 4 = ((k / 4 : Nat) : Int) by omega)
      go_wp2_with fail
      rw [unhide HQ]
      refine (word_any (k / 4) _ (by omega)).mono ?_
      rintro e w1 ⟨rfl, hb1⟩
      have hmk := unhide HM k hlt
      generalize hxw : wordL (k / 4) = xl at hmk ⊢
      clear hxw
      have hbel1 := hbel.trans (hb1.mono hbel.size)
      have e2 : w1.cell? ⟨wb, 2, none⟩ = some (.slice (some ⟨g, 0, none⟩) tv.length capT) := (hbel1.cell (by exact hwl)).trans (unhide HC2)
      obtain ⟨am, n, cm, hv, hn9, hmn, hma⟩ := hmk
      have et : w1.cell? ⟨g, k, none⟩ = some (.slice am n cm) := by
        rw [hbel1.cell (by exact hgw), unhide HC _ rfl k (by omega), List.getElem?_eq_getElem hlt, hv]
      have HMN := hide hmn
      have HMA := hide hma
      clear hmn hma hb1 d2 hv
      go_wp2
      go_loop [3, 6] (fun ok i => ok = .bool true ∧ ∃ j : Nat, j ≤ n ∧ i = .int .i64 j) (fun _ i => n - (intOf i).toNat)
      case atStart => exact ⟨rfl, 0, by omega, rfl⟩
      case round =>
        obtain ⟨rfl, j, hj, rfl⟩ := hrel
        by_cases hjl : j < n
        · obtain ⟨⟨gm, om, sm⟩, rfl⟩ : ∃ a, am = some a := by
            cases am with
            | none => have := unhide HMN rfl; omega
            | some a => exact ⟨a, rfl⟩
          obtain ⟨h1, h2, h3, h4⟩ := unhide HMA _ rfl
          simp only at h1 h2 h3
          subst h1 h2
          have ej : w1.cell? ⟨gm, j, none⟩ = some (SV xl) := (hbel1.cell (by exact h3)).trans (h4 j hjl)
          clear h4
          go_wp2
          go_round
          case rel => exact ⟨rfl, j + 1, by omega, by go_num⟩
          case measure => simp [intOf]; omega
        · go_wp2
          go_roundw
          case rel => exact ⟨rfl, k + 1, by omega, by go_num, hbel1⟩
          case measure => simp [intOf]; omega
    · have d3 : wr.cell? ⟨wb, 3, none⟩ = some (.slice aR tr.length capR) := (hbel.cell (by exact hwl)).trans (unhide HC3)
      have d4 : wr.cell? ⟨wb, 4, none⟩ = some (.slice aM tm.length capM) := (hbel.cell (by exact hwl)).trans (unhide HC4)
      have HB := hide hbel
      clear HN HA HC HM HC2 HC3 HC4
      go_wp2
      go_loop [3, 7] (fun ok i => ok = .bool true ∧ ∃ k : Nat, k ≤ tr.length ∧ i = .int .i64 k) (fun _ i => tr.length - (intOf i).toNat)
      case atStart => exact ⟨rfl, 0, by omega, rfl⟩
      case round =>
        obtain ⟨rfl, k2, hk2, rfl⟩ := hrel
        by_cases hlt2 : k2 < tr.length
        · obtain ⟨⟨g, o, sp⟩, rfl⟩ : ∃ a, aR = some a := by
            cases aR with
            | none => have := (unhide HNR rfl).1; omega
            | some a => exact ⟨a, rfl⟩
          obtain ⟨ho, hsp, -, hgw⟩ := unhide HAR _ rfl
          simp only at ho hsp hgw
          subst ho hsp
          obtain ⟨am, n, cm, hv, hn9, hmn, hma⟩ := unhide HMR k2 hlt2
          have et : wr.cell? ⟨g, k2, none⟩ = some (.slice am n cm) := by
            rw [(unhide HB).cell (by exact hgw), unhide HCR _ rfl k2 (by omega), List.getElem?_eq_getElem hlt2, hv]
          have HMN := hide hmn
          have HMA := hide hma
          have hme := mark_eq k2
          clear hmn hma hv
          go_wp2
          go_loop [3, 8] (fun ok i => ok = .bool true ∧ ∃ j : Nat, j ≤ n ∧ i = .int .i64 j) (fun _ i => n - (intOf i).toNat)
          case atStart => exact ⟨rfl, 0, by omega, rfl⟩
          case round =>
            obtain ⟨rfl, j, hj, rfl⟩ := hrel
            by_cases hjl : j < n
            · obtain ⟨⟨gm, om, sm⟩, rfl⟩ : ∃ a, am = some a := by
                cases am with
                | none => have := unhide HMN rfl; omega
                | some a => exact ⟨a, rfl⟩
              obtain ⟨h1, h2, h3, h4⟩ := unhide HMA _ rfl
              simp only at h1 h2 h3
              subst h1 h2
              have ej : wr.cell? ⟨gm, j * 3 + 1, none⟩ = some (.int .i64 (markN (k2 / 4))) := ((unhide HB).cell (by exact h3)).trans (h4 j hjl)
              clear h4
              go_wp2
              go_round
              case rel => exact ⟨rfl, j + 1, by omega, by go_num⟩
              case measure => simp [intOf]; omega
            · go_wp2
              go_round
              case rel => exact ⟨rfl, k2 + 1, by omega, by go_num⟩
              case measure => simp [intOf]; omega
        · clear HNR HAR HCR HMR
          go_wp2
          go_loop [3, 9] (fun ok i => ok = .bool true ∧ ∃ k : Nat, k ≤ tm.length ∧ i = .int .i64 k) (fun _ i => tm.length - (intOf i).toNat)
          case atStart => exact ⟨rfl, 0, by omega, rfl⟩
          case round =>
            obtain ⟨rfl, k3, hk3, rfl⟩ := hrel
            by_cases hlt3 : k3 < tm.length
            · obtain ⟨⟨g, o, sp⟩, rfl⟩ : ∃ a, aM = some a := by
                cases aM with
                | none => have := (unhide HNM rfl).1; omega
                | some a => exact ⟨a, rfl⟩
              obtain ⟨ho, hsp, -, hgw⟩ := unhide HAM _ rfl
              simp only at ho hsp hgw
              subst ho hsp
              obtain ⟨am, n, cm, hv, hn9, hmn, hma⟩ := unhide HMM k3 hlt3
              have et : wr.cell? ⟨g, k3, none⟩ = some (.slice am n cm) := by
                rw [(unhide HB).cell (by exact hgw), unhide HCM _ rfl k3 (by omega), List.getElem?_eq_getElem hlt3, hv]
              have HMN := hide hmn
              have HMA := hide hma
              have hme := mark_eq k3
              clear hmn hma hv
              go_wp2
              go_loop [3, 10] (fun ok i => ok = .bool true ∧ ∃ j : Nat, j ≤ n ∧ i = .int .i64 j) (fun _ i => n - (intOf i).toNat)
              case atStart => exact ⟨rfl, 0, by omega, rfl⟩
              case round =>
                obtain ⟨rfl, j, hj, rfl⟩ := hrel
                by_cases hjl : j < n
                · obtain ⟨⟨gm, om, sm⟩, rfl⟩ : ∃ a, am = some a := by
                    cases am with
                    | none => have := unhide HMN rfl; omega
                    | some a => exact ⟨a, rfl⟩
                  obtain ⟨h1, h2, h3, h4⟩ := unhide HMA _ rfl
                  simp only at h1 h2 h3
                  subst h1 h2
                  have ej : wr.cell? ⟨gm, j * 2 + 1, none⟩ = some (.int .i64 (markN (k3 / 4))) := ((unhide HB).cell (by exact h3)).trans (h4 j hjl)
                  clear h4
                  go_wp2
                  go_round
                  case rel => exact ⟨rfl, j + 1, by omega, by go_num⟩
                  case measure => simp [intOf]; omega
                · go_wp2
                  go_round
                  case rel => exact ⟨rfl, k3 + 1, by omega, by go_num⟩
                  case measure => simp [intOf]; omega
            · go_wp2
              go_ret
              exact ⟨rfl, unhide HB⟩

end Go.Proofs.YtbljamcdaoofbaaGreatDoor

/- One list of rows more in the book: all else is kept. (made by wip/gen/upd.py) -/
namespace Go.Proofs.YtbljamcdaoofbaaGreatDoor
open Go.RowKit

theorem Inv.bookR {w w' : World} {wb : Nat} {own : Nat → Nat} {qs : List Pair} {tv : List Value} {vps vrs vT vB' vl a1 a2 a3 : Value} {bk : Bk} (h : Inv w wb own qs tv vps vrs vT bk) (h4 : bk.tr.length % 4 = 0) (hvl : ∀ g, vl.ownBlock = some g → own g = 1 ∧ g < w.heap.size) (hfr : ∀ j (hj : j < tv.length), ∀ g, tv[j].ownBlock = some g → vl.ownBlock ≠ some g) (hfb : ∀ b, bkB bk b → vl.ownBlock ≠ some b)
    (z1 : w'.heap[wb]? = some (.cells #[vps, vrs, vT, vB', bk.vM] 70 (0, 0))) (z2 : w'.ownsRow 0 28 1 vB' (bk.tr.length + 4) (bk.tr ++ [vl, a1, a2, a3]))
    (m0 : MarkS 3 1 w' vl (.int .i64 (markN (bk.tr.length / 4)))) (m1 : MarkS 3 1 w' a1 (.int .i64 (markN (bk.tr.length / 4)))) (m2 : MarkS 3 1 w' a2 (.int .i64 (markN (bk.tr.length / 4)))) (m3 : MarkS 3 1 w' a3 (.int .i64 (markN (bk.tr.length / 4))))
    (z3 : ∀ g, vB'.ownBlock = some g → bk.vR.ownBlock = some g ∨ w.heap.size ≤ g) (z4 : ∀ v, v = a1 ∨ v = a2 ∨ v = a3 → ∀ g, v.ownBlock = some g → vl.ownBlock = some g ∨ w.heap.size ≤ g) (z5 : ∀ v, v = vl ∨ v = a1 ∨ v = a2 ∨ v = a3 → ∀ g, v.ownBlock = some g → vB'.ownBlock ≠ some g) (hm : Moved (bookF wb bk.vR vl) w w') :
    Inv w' wb (ownT own w vB') qs tv vps vrs vT { bk with tr := bk.tr ++ [vl, a1, a2, a3], vR := vB' } := by
  have old : ∀ {b}, b < w.heap.size → ownT own w vB' b = own b := fun hb => if_pos hb
  have keep : ∀ b, b < w.heap.size → own b ≠ 0 → own b ≠ 1 → w'.heap[b]? = w.heap[b]? := fun b hb h0 h1 => hm.block b hb (by
    rintro (e | e | e)
    · rw [e] at h0; exact h0 h.oblk
    · exact h0 (h.bk.oB b e)
    · exact h1 (hvl b e).1)
  have keep1 : ∀ b, b < w.heap.size → own b = 1 → vl.ownBlock ≠ some b → w'.heap[b]? = w.heap[b]? := fun b hb h1 hne => hm.block b hb (by
    rintro (e | e | e)
    · rw [e, h.oblk] at h1; cases h1
    · rw [h.bk.oB b e] at h1; cases h1
    · exact hne e)
  have hwl := (Array.getElem?_eq_some_iff.1 h.blk).1
  have keep0 : ∀ {b : Nat} {c : Array Value} {t : TypeId} {f : Nat × Nat}, w.heap[b]? = some (.cells c t f) → own b = 0 → t ≠ 70 → t ≠ 28 → w'.heap[b]? = w.heap[b]? := by
    intro b c t f hb ho h1 h2
    refine hm.block b (Array.getElem?_eq_some_iff.1 hb).1 ?_
    rintro (e | e | e)
    · subst e; exact ne_of_type hb h.blk h1 rfl
    · exact row_ne h.bk.rowB hb (fun e' => h2 e'.symm) e
    · rw [(hvl b e).1] at ho; cases ho
  have own1 : ∀ v, v = vl ∨ v = a1 ∨ v = a2 ∨ v = a3 → ∀ g, v.ownBlock = some g → ownT own w vB' g = 1 := by
    intro v hv g hg
    have hne := z5 v hv g hg
    have hcase : vl.ownBlock = some g ∨ w.heap.size ≤ g := by
      rcases hv with rfl | hv
      · exact .inl hg
      · exact z4 v hv g hg
    rcases hcase with e | e
    · rw [old (hvl g e).2]; exact (hvl g e).1
    · unfold ownT; rw [if_neg (by omega), if_neg hne]
  have hrow : w'.ownsRow 0 28 1 vB' (bk.tr ++ [vl, a1, a2, a3]).length (bk.tr ++ [vl, a1, a2, a3]) := by simpa using z2
  have hown : ∀ g, vB'.ownBlock = some g → ownT own w vB' g = 0 := by
    intro g hg
    rcases z3 g hg with e | e
    · rw [old (ownsRow_type h.bk.rowB e).1]; exact h.bk.oB g e
    · unfold ownT; rw [if_neg (by omega), if_pos hg]
  have hmk : ∀ j (hj : j < (bk.tr ++ [vl, a1, a2, a3]).length), MarkS 3 1 w' (bk.tr ++ [vl, a1, a2, a3])[j] (.int .i64 (markN (j / 4))) := by
    intro j hj
    simp only [List.length_append, List.length_cons, List.length_nil] at hj
    by_cases e : j < bk.tr.length
    · rw [List.getElem_append_left e]
      exact (h.bk.marksB j e).same hm.size fun g hg hgl => keep1 g hgl (h.bk.omarksB j e g hg) (hfb g (.inr (.inr (.inl ⟨j, e, hg⟩))))
    · rw [List.getElem_append_right (by omega)]
      have hd : j / 4 = bk.tr.length / 4 := by omega
      rw [hd]
      have : j - bk.tr.length = 0 ∨ j - bk.tr.length = 1 ∨ j - bk.tr.length = 2 ∨ j - bk.tr.length = 3 := by omega
      rcases this with e1 | e1 | e1 | e1 <;> simp only [e1, List.getElem_cons_zero, List.getElem_cons_succ]
      · exact m0
      · exact m1
      · exact m2
      · exact m3
  have hom : ∀ j (hj : j < (bk.tr ++ [vl, a1, a2, a3]).length), ∀ g, (bk.tr ++ [vl, a1, a2, a3])[j].ownBlock = some g → ownT own w vB' g = 1 := by
    intro j hj
    simp only [List.length_append, List.length_cons, List.length_nil] at hj
    by_cases e : j < bk.tr.length
    · rw [List.getElem_append_left e]
      intro g hg
      rw [old ((h.bk.marksB j e).lt hg)]; exact h.bk.omarksB j e g hg
    · rw [List.getElem_append_right (by omega)]
      have : j - bk.tr.length = 0 ∨ j - bk.tr.length = 1 ∨ j - bk.tr.length = 2 ∨ j - bk.tr.length = 3 := by omega
      rcases this with e1 | e1 | e1 | e1 <;> simp only [e1, List.getElem_cons_zero, List.getElem_cons_succ]
      · exact own1 vl (.inl rfl)
      · exact own1 a1 (.inr (.inl rfl))
      · exact own1 a2 (.inr (.inr (.inl rfl)))
      · exact own1 a3 (.inr (.inr (.inr rfl)))
  have orow : w'.ownsRow 0 52 1 bk.vM bk.tm.length bk.tm := ownsRow_same h.bk.rowC fun g hg => by
    obtain ⟨_, cur, hc⟩ := ownsRow_type h.bk.rowC hg
    exact keep0 hc (h.bk.oC g hg) (by decide) (by decide)
  have oown : ∀ g, bk.vM.ownBlock = some g → ownT own w vB' g = 0 := by
    intro g hg
    rw [old (ownsRow_type h.bk.rowC hg).1]; exact h.bk.oC g hg
  have omk : ∀ j (hj : j < bk.tm.length), MarkS 2 1 w' bk.tm[j] (.int .i64 (markN (j / 4))) := fun j hj =>
    (h.bk.marksC j hj).same hm.size fun g hg hgl => keep1 g hgl (h.bk.omarksC j hj g hg) (hfb g (.inr (.inr (.inr ⟨j, hj, hg⟩))))
  have oom : ∀ j (hj : j < bk.tm.length), ∀ g, bk.tm[j].ownBlock = some g → ownT own w vB' g = 1 := fun j hj g hg => by
    rw [old ((h.bk.marksC j hj).lt hg)]; exact h.bk.omarksC j hj g hg
  refine ⟨z1, ?_, ?_, ?_, ?_, ?_, ?_, ?_, ?_, ?_, ?_, ?_, ⟨hrow, hown, hmk, hom, orow, oown, omk, oom⟩⟩
  · rw [old hwl]; exact h.oblk
  · exact ownsRow_same h.rowP fun g hg => by
      obtain ⟨_, cur, hc⟩ := ownsRow_type h.rowP hg
      exact keep0 hc (h.oP g hg) (by decide) (by decide)
  · intro g hg; rw [old (ownsRow_type h.rowP hg).1]; exact h.oP g hg
  · exact ownsRow_same h.rowR fun g hg => by
      obtain ⟨_, cur, hc⟩ := ownsRow_type h.rowR hg
      exact keep0 hc (h.oR g hg) (by decide) (by decide)
  · intro g hg; rw [old (ownsRow_type h.rowR hg).1]; exact h.oR g hg
  · exact ownsRow_same h.rowT fun g hg => by
      obtain ⟨_, cur, hc⟩ := ownsRow_type h.rowT hg
      exact keep0 hc (h.oT g hg) (by decide) (by decide)
  · intro g hg; rw [old (ownsRow_type h.rowT hg).1]; exact h.oT g hg
  · intro i hi
    have h1 := (h.st i hi).refoot (G := fun b => own b = 2 * i + 2 ∧ b < w.heap.size) (fun b hb hf => ⟨hf, hb⟩)
    have h2 := h1.keep (w' := w') (fun b hb hf => keep b hb (by rw [hf.1]; omega) (by rw [hf.1]; omega))
    exact h2.weaken (fun b hf => by show ownT own w vB' b = _; rw [old hf.2]; exact hf.1)
  · intro i hi
    have h1 := (h.rf i hi).refoot (G := fun b => own b = 2 * i + 3 ∧ b < w.heap.size) (fun b hb hf => ⟨hf, hb⟩)
    have h2 := h1.keep (w' := w') (fun b hb hf => keep b hb (by rw [hf.1]; omega) (by rw [hf.1]; omega))
    exact h2.weaken (fun b hf => by show ownT own w vB' b = _; rw [old hf.2]; exact hf.1)
  · intro j hj
    refine (h.marks j hj).keep hm.size fun g hg hgl k => .inl ?_
    exact World.cell?_of_block (a := ⟨g, k, none⟩) (keep1 g hgl (h.omarks j hj g hg) (hfr j hj g hg))
  · intro j hj g hg
    rw [old ((h.marks j hj).lt hg)]; exact h.omarks j hj g hg

end Go.Proofs.YtbljamcdaoofbaaGreatDoor

/- One list of samples more in the book: all else is kept. (made by wip/gen/upd.py) -/
namespace Go.Proofs.YtbljamcdaoofbaaGreatDoor
open Go.RowKit

theorem Inv.bookS {w w' : World} {wb : Nat} {own : Nat → Nat} {qs : List Pair} {tv : List Value} {vps vrs vT vB' vl a1 a2 a3 : Value} {bk : Bk} (h : Inv w wb own qs tv vps vrs vT bk) (h4 : bk.tm.length % 4 = 0) (hvl : ∀ g, vl.ownBlock = some g → own g = 1 ∧ g < w.heap.size) (hfr : ∀ j (hj : j < tv.length), ∀ g, tv[j].ownBlock = some g → vl.ownBlock ≠ some g) (hfb : ∀ b, bkB bk b → vl.ownBlock ≠ some b)
    (z1 : w'.heap[wb]? = some (.cells #[vps, vrs, vT, bk.vR, vB'] 70 (0, 0))) (z2 : w'.ownsRow 0 52 1 vB' (bk.tm.length + 4) (bk.tm ++ [vl, a1, a2, a3]))
    (m0 : MarkS 2 1 w' vl (.int .i64 (markN (bk.tm.length / 4)))) (m1 : MarkS 2 1 w' a1 (.int .i64 (markN (bk.tm.length / 4)))) (m2 : MarkS 2 1 w' a2 (.int .i64 (markN (bk.tm.length / 4)))) (m3 : MarkS 2 1 w' a3 (.int .i64 (markN (bk.tm.length / 4))))
    (z3 : ∀ g, vB'.ownBlock = some g → bk.vM.ownBlock = some g ∨ w.heap.size ≤ g) (z4 : ∀ v, v = a1 ∨ v = a2 ∨ v = a3 → ∀ g, v.ownBlock = some g → vl.ownBlock = some g ∨ w.heap.size ≤ g) (z5 : ∀ v, v = vl ∨ v = a1 ∨ v = a2 ∨ v = a3 → ∀ g, v.ownBlock = some g → vB'.ownBlock ≠ some g) (hm : Moved (bookF wb bk.vM vl) w w') :
    Inv w' wb (ownT own w vB') qs tv vps vrs vT { bk with tm := bk.tm ++ [vl, a1, a2, a3], vM := vB' } := by
  have old : ∀ {b}, b < w.heap.size → ownT own w vB' b = own b := fun hb => if_pos hb
  have keep : ∀ b, b < w.heap.size → own b ≠ 0 → own b ≠ 1 → w'.heap[b]? = w.heap[b]? := fun b hb h0 h1 => hm.block b hb (by
    rintro (e | e | e)
    · rw [e] at h0; exact h0 h.oblk
    · exact h0 (h.bk.oC b e)
    · exact h1 (hvl b e).1)
  have keep1 : ∀ b, b < w.heap.size → own b = 1 → vl.ownBlock ≠ some b → w'.heap[b]? = w.heap[b]? := fun b hb h1 hne => hm.block b hb (by
    rintro (e | e | e)
    · rw [e, h.oblk] at h1; cases h1
    · rw [h.bk.oC b e] at h1; cases h1
    · exact hne e)
  have hwl := (Array.getElem?_eq_some_iff.1 h.blk).1
  have keep0 : ∀ {b : Nat} {c : Array Value} {t : TypeId} {f : Nat × Nat}, w.heap[b]? = some (.cells c t f) → own b = 0 → t ≠ 70 → t ≠ 52 → w'.heap[b]? = w.heap[b]? := by
    intro b c t f hb ho h1 h2
    refine hm.block b (Array.getElem?_eq_some_iff.1 hb).1 ?_
    rintro (e | e | e)
    · subst e; exact ne_of_type hb h.blk h1 rfl
    · exact row_ne h.bk.rowC hb (fun e' => h2 e'.symm) e
    · rw [(hvl b e).1] at ho; cases ho
  have own1 : ∀ v, v = vl ∨ v = a1 ∨ v = a2 ∨ v = a3 → ∀ g, v.ownBlock = some g → ownT own w vB' g = 1 := by
    intro v hv g hg
    have hne := z5 v hv g hg
    have hcase : vl.ownBlock = some g ∨ w.heap.size ≤ g := by
      rcases hv with rfl | hv
      · exact .inl hg
      · exact z4 v hv g hg
    rcases hcase with e | e
    · rw [old (hvl g e).2]; exact (hvl g e).1
    · unfold ownT; rw [if_neg (by omega), if_neg hne]
  have hrow : w'.ownsRow 0 52 1 vB' (bk.tm ++ [vl, a1, a2, a3]).length (bk.tm ++ [vl, a1, a2, a3]) := by simpa using z2
  have hown : ∀ g, vB'.ownBlock = some g → ownT own w vB' g = 0 := by
    intro g hg
    rcases z3 g hg with e | e
    · rw [old (ownsRow_type h.bk.rowC e).1]; exact h.bk.oC g e
    · unfold ownT; rw [if_neg (by omega), if_pos hg]
  have hmk : ∀ j (hj : j < (bk.tm ++ [vl, a1, a2, a3]).length), MarkS 2 1 w' (bk.tm ++ [vl, a1, a2, a3])[j] (.int .i64 (markN (j / 4))) := by
    intro j hj
    simp only [List.length_append, List.length_cons, List.length_nil] at hj
    by_cases e : j < bk.tm.length
    · rw [List.getElem_append_left e]
      exact (h.bk.marksC j e).same hm.size fun g hg hgl => keep1 g hgl (h.bk.omarksC j e g hg) (hfb g (.inr (.inr (.inr ⟨j, e, hg⟩))))
    · rw [List.getElem_append_right (by omega)]
      have hd : j / 4 = bk.tm.length / 4 := by omega
      rw [hd]
      have : j - bk.tm.length = 0 ∨ j - bk.tm.length = 1 ∨ j - bk.tm.length = 2 ∨ j - bk.tm.length = 3 := by omega
      rcases this with e1 | e1 | e1 | e1 <;> simp only [e1, List.getElem_cons_zero, List.getElem_cons_succ]
      · exact m0
      · exact m1
      · exact m2
      · exact m3
  have hom : ∀ j (hj : j < (bk.tm ++ [vl, a1, a2, a3]).length), ∀ g, (bk.tm ++ [vl, a1, a2, a3])[j].ownBlock = some g → ownT own w vB' g = 1 := by
    intro j hj
    simp only [List.length_append, List.length_cons, List.length_nil] at hj
    by_cases e : j < bk.tm.length
    · rw [List.getElem_append_left e]
      intro g hg
      rw [old ((h.bk.marksC j e).lt hg)]; exact h.bk.omarksC j e g hg
    · rw [List.getElem_append_right (by omega)]
      have : j - bk.tm.length = 0 ∨ j - bk.tm.length = 1 ∨ j - bk.tm.length = 2 ∨ j - bk.tm.length = 3 := by omega
      rcases this with e1 | e1 | e1 | e1 <;> simp only [e1, List.getElem_cons_zero, List.getElem_cons_succ]
      · exact own1 vl (.inl rfl)
      · exact own1 a1 (.inr (.inl rfl))
      · exact own1 a2 (.inr (.inr (.inl rfl)))
      · exact own1 a3 (.inr (.inr (.inr rfl)))
  have orow : w'.ownsRow 0 28 1 bk.vR bk.tr.length bk.tr := ownsRow_same h.bk.rowB fun g hg => by
    obtain ⟨_, cur, hc⟩ := ownsRow_type h.bk.rowB hg
    exact keep0 hc (h.bk.oB g hg) (by decide) (by decide)
  have oown : ∀ g, bk.vR.ownBlock = some g → ownT own w vB' g = 0 := by
    intro g hg
    rw [old (ownsRow_type h.bk.rowB hg).1]; exact h.bk.oB g hg
  have omk : ∀ j (hj : j < bk.tr.length), MarkS 3 1 w' bk.tr[j] (.int .i64 (markN (j / 4))) := fun j hj =>
    (h.bk.marksB j hj).same hm.size fun g hg hgl => keep1 g hgl (h.bk.omarksB j hj g hg) (hfb g (.inr (.inr (.inl ⟨j, hj, hg⟩))))
  have oom : ∀ j (hj : j < bk.tr.length), ∀ g, bk.tr[j].ownBlock = some g → ownT own w vB' g = 1 := fun j hj g hg => by
    rw [old ((h.bk.marksB j hj).lt hg)]; exact h.bk.omarksB j hj g hg
  refine ⟨z1, ?_, ?_, ?_, ?_, ?_, ?_, ?_, ?_, ?_, ?_, ?_, ⟨orow, oown, omk, oom, hrow, hown, hmk, hom⟩⟩
  · rw [old hwl]; exact h.oblk
  · exact ownsRow_same h.rowP fun g hg => by
      obtain ⟨_, cur, hc⟩ := ownsRow_type h.rowP hg
      exact keep0 hc (h.oP g hg) (by decide) (by decide)
  · intro g hg; rw [old (ownsRow_type h.rowP hg).1]; exact h.oP g hg
  · exact ownsRow_same h.rowR fun g hg => by
      obtain ⟨_, cur, hc⟩ := ownsRow_type h.rowR hg
      exact keep0 hc (h.oR g hg) (by decide) (by decide)
  · intro g hg; rw [old (ownsRow_type h.rowR hg).1]; exact h.oR g hg
  · exact ownsRow_same h.rowT fun g hg => by
      obtain ⟨_, cur, hc⟩ := ownsRow_type h.rowT hg
      exact keep0 hc (h.oT g hg) (by decide) (by decide)
  · intro g hg; rw [old (ownsRow_type h.rowT hg).1]; exact h.oT g hg
  · intro i hi
    have h1 := (h.st i hi).refoot (G := fun b => own b = 2 * i + 2 ∧ b < w.heap.size) (fun b hb hf => ⟨hf, hb⟩)
    have h2 := h1.keep (w' := w') (fun b hb hf => keep b hb (by rw [hf.1]; omega) (by rw [hf.1]; omega))
    exact h2.weaken (fun b hf => by show ownT own w vB' b = _; rw [old hf.2]; exact hf.1)
  · intro i hi
    have h1 := (h.rf i hi).refoot (G := fun b => own b = 2 * i + 3 ∧ b < w.heap.size) (fun b hb hf => ⟨hf, hb⟩)
    have h2 := h1.keep (w' := w') (fun b hb hf => keep b hb (by rw [hf.1]; omega) (by rw [hf.1]; omega))
    exact h2.weaken (fun b hf => by show ownT own w vB' b = _; rw [old hf.2]; exact hf.1)
  · intro j hj
    refine (h.marks j hj).keep hm.size fun g hg hgl k => .inl ?_
    exact World.cell?_of_block (a := ⟨g, k, none⟩) (keep1 g hgl (h.omarks j hj g hg) (hfr j hj g hg))
  · intro j hj g hg
    rw [old ((h.marks j hj).lt hg)]; exact h.omarks j hj g hg

end Go.Proofs.YtbljamcdaoofbaaGreatDoor

/- The library's variables that the program reads. -/
namespace Go.Proofs.YtbljamcdaoofbaaGreatDoor
open Go.RowKit

/-- the library's variables, as the program needs them -/
def Glob (w : World) : Prop := ErrAt w ∧ MaxAt w ∧ 8 ≤ w.heap.size

theorem Glob.below {w w' : World} (h : Glob w) (hb : Below w.heap.size w w') : Glob w' :=
  ⟨h.1.below hb (by have := h.2.2; show 5 < _; omega), h.2.1.below h.2.2 hb, Nat.le_trans h.2.2 hb.size⟩

end Go.Proofs.YtbljamcdaoofbaaGreatDoor
