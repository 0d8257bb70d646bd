/- The law's rows, walked. -/
import Derived.Test.YtbljamcdaoofbaaGreatDoorLawStreams2ToGlob
import Derived.Deep.RegionHeld
namespace Go.Proofs.YtbljamcdaoofbaaGreatDoor
open Go.RowKit

theorem rowsA_len (l : List UInt8) (fr tt lim : Int) (bw : Bool) (L : List Rw) : (rowsA l fr tt lim bw L).length ≤ 50 := by
  unfold rowsA
  split
  · rename_i h
    have : lim ≤ 50 := by
      unfold rowsE at h
      repeat' split at h
      all_goals first | (exact absurd h (by decide)) | omega
    rw [List.length_take]
    omega
  · simp

theorem opAt8 {w : World} {b : Nat} {kind on : Int} {text line : List UInt8} {A B C : Int} {back : Bool} (h : w.heap[b]? = some (.cells #[.int .i64 kind, .int .i64 on, .string ⟨text.toArray⟩, .string ⟨line.toArray⟩, .int .i64 A, .int .i64 B, .int .i64 C, .bool back] 73 (0, 0))) :
    w.cell? ⟨b, 2, none⟩ = some (.string ⟨text.toArray⟩) ∧ w.cell? ⟨b, 4, none⟩ = some (.int .i64 A) ∧ w.cell? ⟨b, 5, none⟩ = some (.int .i64 B) ∧ w.cell? ⟨b, 6, none⟩ = some (.int .i64 C) ∧ w.cell? ⟨b, 7, none⟩ = some (.bool back) := by
  simp [World.cell?, h]

set_option maxRecDepth 10000 in
set_option maxHeartbeats 4000000 in
theorem lawRows_any {w : World} {wb k : Nat} {own : Nat → Nat} {qs : List Pair} {tv : List Value} {vps vrs vT : Value} {bk : Bk} {on A B C : Int} {text line : List UInt8} {back : Bool} (h : Inv w wb own qs tv vps vrs vT bk) (h4 : bk.tr.length % 4 = 0) (ht : bk.tr.length ≤ 8388608) (hk : k < qs.length) (hrel : RelA (qs[k].ns.map absN) qs[k].S qs[k].L) (hfine : Fine qs[k].S qs[k].L) (hgl : Glob w) (htx : text.length ≤ 1048576) :
    Calls Tryz.prog 60 #[.pointer (some ⟨wb, 0, none⟩), .int .i64 k, .agg #[.int .i64 5, .int .i64 on, .string ⟨text.toArray⟩, .string ⟨line.toArray⟩, .int .i64 A, .int .i64 B, .int .i64 C, .bool back]] w fun e w' => e = .returned (.bool true) ∧ ∃ own' bk', Inv w' wb own' qs tv vps vrs vT bk' ∧ bk'.tr.length = bk.tr.length + 4 ∧ bk'.tm = bk.tm ∧ Moved (fun b => own b = 0) w w' ∧ (∀ b, b < w.heap.size → own' b = own b) := by
  have hbW : Below w.heap.size w (w.alloc (.cells #[.int .i64 5, .int .i64 on, .string ⟨text.toArray⟩, .string ⟨line.toArray⟩, .int .i64 A, .int .i64 B, .int .i64 C, .bool back] 73)) := (Below.refl _ w).alloc (Nat.le_refl _) _
  have hW := h.fresh (c := 1) hbW
  have hglW := hgl.below hbW
  have hbl := heap_alloc_new w (.cells #[.int .i64 5, .int .i64 on, .string ⟨text.toArray⟩, .string ⟨line.toArray⟩, .int .i64 A, .int .i64 B, .int .i64 C, .bool back] 73)
  have hszW : (w.alloc (.cells #[.int .i64 5, .int .i64 on, .string ⟨text.toArray⟩, .string ⟨line.toArray⟩, .int .i64 A, .int .i64 B, .int .i64 C, .bool back] 73)).heap.size = w.heap.size + 1 := by simp
  have HH := hide h
  have HR := hide hrel
  have HF := hide hfine
  have HT4 := hide h4
  have HBW := hide hbW
  clear h hrel h4 hfine hgl hbW
  go_enter Tryz.func60, Tryz.ntmps60
  go_upto_region 1 with fail
  generalize w.alloc (.cells #[.int .i64 5, .int .i64 on, .string ⟨text.toArray⟩, .string ⟨line.toArray⟩, .int .i64 A, .int .i64 B, .int .i64 C, .bool back] 73) = W at *
  generalize hbn : w.heap.size = b at *
  obtain ⟨d2, d4, d5, d6, d7⟩ := opAt8 hbl
  obtain ⟨gP, capP, eP, c0, cP⟩ := hW.cellP hk
  have hki : (k : Int) < (qs.length : Int) := by omega
  have hc := pRows_any text A B C back ((hW.st k hk).keep (w' := W.drew) (fun _ _ _ => rfl)) (unhide HR) (unhide HF) htx (show ErrAt W.drew from hglW.1) (show MaxAt W.drew from hglW.2.1) (show 8 ≤ W.drew.heap.size from hglW.2.2)
  have HS0 : Hid (W.drew.cell? ⟨wb, 0, none⟩ = some (.slice (some ⟨gP, 0, none⟩) qs.length capP) ∧ W.drew.cell? ⟨gP, k, none⟩ = some (.pointer (some ⟨qs[k].pp, 0, none⟩)) ∧ W.drew.cell? ⟨b, 2, none⟩ = some (.string ⟨text.toArray⟩) ∧ W.drew.cell? ⟨b, 4, none⟩ = some (.int .i64 A) ∧ W.drew.cell? ⟨b, 5, none⟩ = some (.int .i64 B) ∧ W.drew.cell? ⟨b, 6, none⟩ = some (.int .i64 C) ∧ W.drew.cell? ⟨b, 7, none⟩ = some (.bool back)) := ⟨c0, cP, d2, d4, d5, d6, d7⟩
  have HHW := hide hW
  have HGW := hide hglW
  have HBL := hide hbl
  have hwW := (Array.getElem?_eq_some_iff.1 hW.blk).1
  have hgW : gP < W.heap.size := (ownsRow_type hW.rowP (g := gP) (by rw [eP]; rfl)).1
  have hbW : b < W.heap.size := by omega
  clear hW hglW hbl eP c0 cP d2 d4 d5 d6 d7
  go_region_held (fun w' => w'.cell? ⟨wb, 0, none⟩ = some (.slice (some ⟨gP, 0, none⟩) qs.length capP) ∧ w'.cell? ⟨gP, k, none⟩ = some (.pointer (some ⟨qs[k].pp, 0, none⟩)) ∧ w'.cell? ⟨b, 2, none⟩ = some (.string ⟨text.toArray⟩) ∧ w'.cell? ⟨b, 4, none⟩ = some (.int .i64 A) ∧ w'.cell? ⟨b, 5, none⟩ = some (.int .i64 B) ∧ w'.cell? ⟨b, 6, none⟩ = some (.int .i64 C) ∧ w'.cell? ⟨b, 7, none⟩ = some (.bool back)) (first | exact unhide HS0 | exact unhide HS4)
    (first | (go_at_call 20; refine hc.mono ?_; rintro e w4 ⟨la, rfl, hown4, hb4⟩; have HB4 : Hid (Below W.heap.size W w4) := ⟨hb4.os, hb4.tape, hb4.output, hb4.size, hb4.block⟩; have HO4 := hide hown4; have HS4 := hide (show w4.cell? ⟨wb, 0, none⟩ = some (.slice (some ⟨gP, 0, none⟩) qs.length capP) ∧ w4.cell? ⟨gP, k, none⟩ = some (.pointer (some ⟨qs[k].pp, 0, none⟩)) ∧ w4.cell? ⟨b, 2, none⟩ = some (.string ⟨text.toArray⟩) ∧ w4.cell? ⟨b, 4, none⟩ = some (.int .i64 A) ∧ w4.cell? ⟨b, 5, none⟩ = some (.int .i64 B) ∧ w4.cell? ⟨b, 6, none⟩ = some (.int .i64 C) ∧ w4.cell? ⟨b, 7, none⟩ = some (.bool back) from ⟨((unhide HB4).cell (p := ⟨wb, 0, none⟩) hwW).trans (unhide HS0).1, ((unhide HB4).cell (p := ⟨gP, k, none⟩) hgW).trans (unhide HS0).2.1, ((unhide HB4).cell (p := ⟨b, 2, none⟩) hbW).trans (unhide HS0).2.2.1, ((unhide HB4).cell (p := ⟨b, 4, none⟩) hbW).trans (unhide HS0).2.2.2.1, ((unhide HB4).cell (p := ⟨b, 5, none⟩) hbW).trans (unhide HS0).2.2.2.2.1, ((unhide HB4).cell (p := ⟨b, 6, none⟩) hbW).trans (unhide HS0).2.2.2.2.2.1, ((unhide HB4).cell (p := ⟨b, 7, none⟩) hbW).trans (unhide HS0).2.2.2.2.2.2⟩); clear hb4 hown4))
  have h4' := (unhide HHW).fresh (c := 1) (unhide HB4)
  have hfr4 : ∀ g, la.ownBlock = some g → W.heap.size ≤ g ∧ g < w4.heap.size := fun g hg => (unhide HO4).lt g hg
  have rowA4 := unhide HO4
  have hsz4 := (unhide HB4).size
  obtain ⟨gR, capR, eR, c1, cR⟩ := h4'.cellR hk
  have hw4b : wb < w4.heap.size := by omega
  have hg4 : gR < w4.heap.size := (ownsRow_type h4'.rowR (g := gR) (by rw [eR]; rfl)).1
  have hb4b : b < w4.heap.size := by omega
  have HT0 : Hid (w4.drew.cell? ⟨wb, 1, none⟩ = some (.slice (some ⟨gR, 0, none⟩) qs.length capR) ∧ w4.drew.cell? ⟨gR, k, none⟩ = some (.pointer (some ⟨qs[k].pr, 0, none⟩)) ∧ w4.drew.cell? ⟨b, 2, none⟩ = some (.string ⟨text.toArray⟩) ∧ w4.drew.cell? ⟨b, 4, none⟩ = some (.int .i64 A) ∧ w4.drew.cell? ⟨b, 5, none⟩ = some (.int .i64 B) ∧ w4.drew.cell? ⟨b, 6, none⟩ = some (.int .i64 C) ∧ w4.drew.cell? ⟨b, 7, none⟩ = some (.bool back)) := ⟨c1, cR, (unhide HS4).2.2⟩
  have hc2 := refRows_any text A B C back ((h4'.rf k hk).keep (w' := w4.drew) (fun _ _ _ => rfl)) (unhide HR).many (unhide HF) htx
  have HH4 := hide h4'
  have HFR := hide hfr4
  have HRA := hide rowA4
  clear hc HS0 HS4 HO4 h4' hfr4 rowA4 eR c1 cR
  go_wp2_with fail
  go_region_held (fun w' => w'.cell? ⟨wb, 1, none⟩ = some (.slice (some ⟨gR, 0, none⟩) qs.length capR) ∧ w'.cell? ⟨gR, k, none⟩ = some (.pointer (some ⟨qs[k].pr, 0, none⟩)) ∧ w'.cell? ⟨b, 2, none⟩ = some (.string ⟨text.toArray⟩) ∧ w'.cell? ⟨b, 4, none⟩ = some (.int .i64 A) ∧ w'.cell? ⟨b, 5, none⟩ = some (.int .i64 B) ∧ w'.cell? ⟨b, 6, none⟩ = some (.int .i64 C) ∧ w'.cell? ⟨b, 7, none⟩ = some (.bool back)) (first | exact unhide HT0 | exact unhide HS5)
    (first | (go_at_call 93; refine hc2.mono ?_; rintro e w5 ⟨lb, rfl, hown5, hb5⟩; have HB5 : Hid (Below w4.heap.size w4 w5) := ⟨hb5.os, hb5.tape, hb5.output, hb5.size, hb5.block⟩; have HO5 := hide hown5; have HS5 := hide (show w5.cell? ⟨wb, 1, none⟩ = some (.slice (some ⟨gR, 0, none⟩) qs.length capR) ∧ w5.cell? ⟨gR, k, none⟩ = some (.pointer (some ⟨qs[k].pr, 0, none⟩)) ∧ w5.cell? ⟨b, 2, none⟩ = some (.string ⟨text.toArray⟩) ∧ w5.cell? ⟨b, 4, none⟩ = some (.int .i64 A) ∧ w5.cell? ⟨b, 5, none⟩ = some (.int .i64 B) ∧ w5.cell? ⟨b, 6, none⟩ = some (.int .i64 C) ∧ w5.cell? ⟨b, 7, none⟩ = some (.bool back) from ⟨((unhide HB5).cell (p := ⟨wb, 1, none⟩) hw4b).trans (unhide HT0).1, ((unhide HB5).cell (p := ⟨gR, k, none⟩) hg4).trans (unhide HT0).2.1, ((unhide HB5).cell (p := ⟨b, 2, none⟩) hb4b).trans (unhide HT0).2.2.1, ((unhide HB5).cell (p := ⟨b, 4, none⟩) hb4b).trans (unhide HT0).2.2.2.1, ((unhide HB5).cell (p := ⟨b, 5, none⟩) hb4b).trans (unhide HT0).2.2.2.2.1, ((unhide HB5).cell (p := ⟨b, 6, none⟩) hb4b).trans (unhide HT0).2.2.2.2.2.1, ((unhide HB5).cell (p := ⟨b, 7, none⟩) hb4b).trans (unhide HT0).2.2.2.2.2.2⟩); clear hb5 hown5))
  have h5' := (unhide HH4).fresh (c := 1) (unhide HB5)
  have hsz5 := (unhide HB5).size
  have rowA : w5.ownsRow 0 38 3 la _ _ := ownsRow_same (ownsRow_base (unhide HRA) (Nat.zero_le _)) fun g hg => (unhide HB5).block g (unhide HFR g hg).2
  have rowB : w5.ownsRow 0 38 3 lb _ _ := ownsRow_base (unhide HO5) (Nat.zero_le _)
  have hR50 := rowsA_len text A B C back qs[k].L
  have HBB := hide ((unhide HBW).trans (((unhide HB4).mono (by omega)).trans ((unhide HB5).mono (by omega))))
  generalize rowsA text A B C back qs[k].L = R at *
  generalize rowsE text A B C = er at *
  obtain ⟨aa, capa, rfl, -, -, hnila, haoa, hcella, -⟩ := owns_form rowA
  obtain ⟨ab, capb, rfl, -, -, hnilb, haob, hcellb, -⟩ := owns_form rowB
  have H5 := hide h5'
  have HA1 := hide hnila
  have HA2 := hide haoa
  have HA3 := hide hcella
  have HB1' := hide hnilb
  have HB2 := hide haob
  have HB3 := hide hcellb
  have ROWA := hide rowA
  clear hnila haoa hcella hnilb haob hcellb rowA rowB h5' hc2 HT0 HS5 HO5 HRA
  go_wp2_with (first | (go_at_call 57; refine (num_any _ _).mono ?_; rintro e w' ⟨rfl, hww⟩; rw [hww]; clear hww w'))
  go_loopw [13, 14] (fun ok i wr => ok = .bool true ∧ ∃ j m : Nat, j ≤ R.length ∧ i = .int .i64 j ∧ wr = w5.drewN m) (fun _ i _ => R.length - (intOf i).toNat)
  case atStart => exact ⟨rfl, 0, 0, by omega, rfl, rfl⟩
  case round =>
    obtain ⟨rfl, j, m, hj, rfl, rfl⟩ := hrel
    by_cases hlt : j < R.length
    · obtain ⟨⟨ga, oa, sa⟩, rfl⟩ : ∃ a, aa = some a := by
        cases aa with
        | none => have := (unhide HA1 rfl).1; omega
        | some a => exact ⟨a, rfl⟩
      obtain ⟨⟨gb, ob, sb⟩, rfl⟩ : ∃ a, ab = some a := by
        cases ab with
        | none => have := (unhide HB1' rfl).1; omega
        | some a => exact ⟨a, rfl⟩
      obtain ⟨x1, x2, -, -⟩ := unhide HA2 _ rfl
      obtain ⟨y1, y2, -, -⟩ := unhide HB2 _ rfl
      simp only at x1 x2 y1 y2
      subst x1 x2 y1 y2
      obtain ⟨e0, e1, e2⟩ := cellsR_at R j hlt
      have ca0 := (unhide HA3 _ rfl (j * 3) (by omega)).trans e0
      have ca1 := (unhide HA3 _ rfl (j * 3 + 1) (by omega)).trans e1
      have ca2 := (unhide HA3 _ rfl (j * 3 + 2) (by omega)).trans e2
      have cb0 := (unhide HB3 _ rfl (j * 3) (by omega)).trans e0
      have cb1 := (unhide HB3 _ rfl (j * 3 + 1) (by omega)).trans e1
      have cb2 := (unhide HB3 _ rfl (j * 3 + 2) (by omega)).trans e2
      clear e0 e1 e2
      have hji : (j : Int) < (R.length : Int) := by omega
      simp only at ca0 ca1 ca2 cb0 cb1 cb2
      go_upto_region 7 with fail
      go_quiet (fail)
      go_wp2
      go_roundw
      case rel => exact ⟨rfl, j + 1, _, by omega, by go_num, rfl⟩
      case measure => simp [intOf]; omega
    · have h5m := (unhide H5).drawn m
      have rowA' : (w5.drewN m).ownsRow 0 38 3 (.slice aa R.length capa) R.length (R.flatMap cellsR) := unhide ROWA
      have H5M := hide h5m
      clear h5m
      go_wp2_with fail
      refine (bookR_any (unhide H5M).blk (unhide H5M).bk.rowB rowA' hR50 ht).mono ?_
      rintro e w6 ⟨rfl, vR', a1, a2, a3, z1, z2, m0, m1, m2, m3, z3, z4, z5, hmv⟩
      have hfin := (unhide H5M).bookR (unhide HT4) (fun g hg => by
          obtain ⟨l1, l2⟩ := unhide HFR g hg
          refine ⟨?_, by show g < w5.heap.size; omega⟩
          rw [ownAt_old l2, ownAt_new l1]) (fun j hj g hg hg' => by
          have := ((unhide HH).marks j hj).lt hg
          have := (unhide HFR g hg').1
          omega) (fun b' hb' e => by
          have := (unhide HH).bk.lt hb'
          have := (unhide HFR b' e).1
          omega) z1 z2 m0 m1 m2 m3 z3 z4 z5 hmv
      have hmw : Moved (fun b => own b = 0) w w6 := by
        have hb12 : Below w.heap.size w w5 := by rw [hbn]; exact unhide HBB
        refine ⟨hmv.os.trans hb12.os, hmv.tape.trans hb12.tape, hmv.output.trans hb12.output, Nat.le_trans hb12.size hmv.size, fun b' hb' hne => ?_⟩
        rw [hmv.block b' (Nat.lt_of_lt_of_le hb' hb12.size) ?_]
        · exact hb12.block b' hb'
        · rintro (e1 | e1 | e1)
          · rw [e1] at hne; exact hne (unhide HH).oblk
          · exact hne ((unhide HH).bk.oB b' e1)
          · have := (unhide HFR b' e1).1; omega
      have HMW := hide hmw
      have HFN := hide hfin
      clear hfin z1 z2 m0 m1 m2 m3 z3 z4 z5 hmv hmw
      go_wp2
      go_ret
      refine ⟨rfl, _, _, unhide HFN, by simp, rfl, unhide HMW, fun b' hb' => ?_⟩
      have h1 : b' < W.heap.size := by omega
      have h2 : b' < w4.heap.size := by omega
      have h3 : b' < (w5.drewN m).heap.size := by show b' < w5.heap.size; omega
      show ownT _ _ _ b' = _
      unfold ownT
      rw [if_pos h3, ownAt_old h2, ownAt_old h1, ownAt_old hb']

end Go.Proofs.YtbljamcdaoofbaaGreatDoor
