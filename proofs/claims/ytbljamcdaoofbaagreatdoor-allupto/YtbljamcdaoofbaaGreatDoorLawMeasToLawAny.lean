/- Texts LawMeas, LawStep3, LawAny, joined. -/
import Derived.Test.YtbljamcdaoofbaaGreatDoorLawRowsOne
import Derived.Test.YtbljamcdaoofbaaGreatDoorPMPureToPMAll
import Derived.Test.YtbljamcdaoofbaaGreatDoorPGInvToRefMeas
import Derived.Test.YtbljamcdaoofbaaGreatDoorLawStep2One
import Derived.Test.YtbljamcdaoofbaaGreatDoorLawStreams2ToGlob
/- The law's measure, walked. -/
namespace Go.Proofs.YtbljamcdaoofbaaGreatDoor
open Go.RowKit

theorem nodup_leM : ∀ {l m : List (List UInt8)}, l.Nodup → (∀ x ∈ l, x ∈ m) → l.length ≤ m.length
  | [], m, _, _ => Nat.zero_le _
  | a :: l, m, h, hs => by
    have h' := List.nodup_cons.1 h
    have ha := hs a (by simp)
    have := nodup_leM (m := m.erase a) h'.2 (fun x hx => (List.mem_erase_of_ne (show x ≠ a by rintro rfl; exact h'.1 hx)).2 (hs x (by simp [hx])))
    rw [List.length_erase_of_mem ha] at this
    have hm := List.length_pos_of_mem ha
    simp
    omega

/-- there are at most as many samples as streams -/
theorem measA_len (l : List UInt8) (at_ : Int) {ps : List PA} {S : List Strm} {L : List Rw} (h : RelA ps S L) : (measA l at_ L).length ≤ 50 := by
  unfold measA
  split
  · refine Nat.le_trans (smpsL_len _ _ _) ?_
    generalize hT : askedL (parseL l).2.2.ms (parseL l).2.2.fs (at_ - (parseL l).2.2.span + 1) (at_ + 1) L = T
    obtain ⟨k1, k2⟩ := keysL_ris (parseL l).2.2.by_ T
    have hle := nodup_leM (m := ps.map (fun a => keyL (parseL l).2.2.by_ (a.1, 0, []))) (ris_nodup k1) (fun x hx => by
      obtain ⟨r, hr, e⟩ := (k2 x).1 hx
      rw [← hT] at hr
      obtain ⟨a, ha, e2⟩ := h.all r (asked_mem _ _ _ _ _ r hr)
      refine List.mem_map.2 ⟨a, ha, ?_⟩
      rw [← e]
      unfold keyL
      rw [e2])
    rw [List.length_map, ← h.len] at hle
    have := h.six
    omega
  · simp

theorem cellsMs_at (R : List Smp) (k : Nat) (h : k < R.length) : (R.flatMap cellsMs)[k * 2]? = some (SV R[k].1) ∧ (R.flatMap cellsMs)[k * 2 + 1]? = some (.int .i64 R[k].2) := by
  induction R generalizing k with
  | nil => simp at h
  | cons x S ih =>
    rw [List.flatMap_cons]
    cases k with
    | zero => simp [cellsMs]
    | succ k =>
      have := ih k (by simpa using h)
      simp only [cellsMs, List.cons_append, List.nil_append, Nat.add_mul, Nat.one_mul, List.getElem?_cons_succ, List.getElem_cons_succ] at this ⊢
      exact this

set_option maxRecDepth 10000 in
set_option maxHeartbeats 4000000 in
theorem lawMeas_any {w : World} {wb k : Nat} {own : Nat → Nat} {qs : List Pair} {tv : List Value} {vps vrs vT : Value} {bk : Bk} {on A B C : Int} {text line : List UInt8} {back : Bool} (h : Inv w wb own qs tv vps vrs vT bk) (h4 : bk.tm.length % 4 = 0) (ht : bk.tm.length ≤ 8388608) (hk : k < qs.length) (hrel : RelA (qs[k].ns.map absN) qs[k].S qs[k].L) (hfine : Fine qs[k].S qs[k].L) (hgl : Glob w) (htx : text.length ≤ 1048576) :
    Calls Tryz.prog 61 #[.pointer (some ⟨wb, 0, none⟩), .int .i64 k, .agg #[.int .i64 6, .int .i64 on, .string ⟨text.toArray⟩, .string ⟨line.toArray⟩, .int .i64 A, .int .i64 B, .int .i64 C, .bool back]] w fun e w' => e = .returned (.bool true) ∧ ∃ own' bk', Inv w' wb own' qs tv vps vrs vT bk' ∧ bk'.tm.length = bk.tm.length + 4 ∧ bk'.tr = bk.tr ∧ Moved (fun b => own b = 0) w w' ∧ (∀ b, b < w.heap.size → own' b = own b) := by
  have hbW : Below w.heap.size w (w.alloc (.cells #[.int .i64 6, .int .i64 on, .string ⟨text.toArray⟩, .string ⟨line.toArray⟩, .int .i64 A, .int .i64 B, .int .i64 C, .bool back] 73)) := (Below.refl _ w).alloc (Nat.le_refl _) _
  have hW := h.fresh (c := 1) hbW
  have hglW := hgl.below hbW
  have hbl := heap_alloc_new w (.cells #[.int .i64 6, .int .i64 on, .string ⟨text.toArray⟩, .string ⟨line.toArray⟩, .int .i64 A, .int .i64 B, .int .i64 C, .bool back] 73)
  have hszW : (w.alloc (.cells #[.int .i64 6, .int .i64 on, .string ⟨text.toArray⟩, .string ⟨line.toArray⟩, .int .i64 A, .int .i64 B, .int .i64 C, .bool back] 73)).heap.size = w.heap.size + 1 := by simp
  have HH := hide h
  have HR := hide hrel
  have HF := hide hfine
  have HT4 := hide h4
  have HBW := hide hbW
  clear h hrel h4 hfine hgl hbW
  go_enter Tryz.func61, Tryz.ntmps61
  go_upto_region 1 with fail
  generalize w.alloc (.cells #[.int .i64 6, .int .i64 on, .string ⟨text.toArray⟩, .string ⟨line.toArray⟩, .int .i64 A, .int .i64 B, .int .i64 C, .bool back] 73) = W at *
  generalize hbn : w.heap.size = b at *
  obtain ⟨d2, d4, -, -, -⟩ := opAt8 hbl
  obtain ⟨gP, capP, eP, c0, cP⟩ := hW.cellP hk
  have hki : (k : Int) < (qs.length : Int) := by omega
  have hc := pMeas_any text A ((hW.st k hk).keep (w' := W.drew) (fun _ _ _ => rfl)) (unhide HR) (unhide HF) htx (show ErrAt W.drew from hglW.1) (show MaxAt W.drew from hglW.2.1) (show 8 ≤ W.drew.heap.size from hglW.2.2)
  have HS0 : Hid (W.drew.cell? ⟨wb, 0, none⟩ = some (.slice (some ⟨gP, 0, none⟩) qs.length capP) ∧ W.drew.cell? ⟨gP, k, none⟩ = some (.pointer (some ⟨qs[k].pp, 0, none⟩)) ∧ W.drew.cell? ⟨b, 2, none⟩ = some (.string ⟨text.toArray⟩) ∧ W.drew.cell? ⟨b, 4, none⟩ = some (.int .i64 A)) := ⟨c0, cP, d2, d4⟩
  have HHW := hide hW
  have HGW := hide hglW
  have HBL := hide hbl
  have hwW := (Array.getElem?_eq_some_iff.1 hW.blk).1
  have hgW : gP < W.heap.size := (ownsRow_type hW.rowP (g := gP) (by rw [eP]; rfl)).1
  have hbW : b < W.heap.size := by omega
  clear hW hglW hbl eP c0 cP d2 d4
  go_region_held (fun w' => w'.cell? ⟨wb, 0, none⟩ = some (.slice (some ⟨gP, 0, none⟩) qs.length capP) ∧ w'.cell? ⟨gP, k, none⟩ = some (.pointer (some ⟨qs[k].pp, 0, none⟩)) ∧ w'.cell? ⟨b, 2, none⟩ = some (.string ⟨text.toArray⟩) ∧ w'.cell? ⟨b, 4, none⟩ = some (.int .i64 A)) (first | exact unhide HS0 | exact unhide HS4)
    (first | (go_at_call 28; refine hc.mono ?_; rintro e w4 ⟨la, rfl, hown4, hb4⟩; have HB4 : Hid (Below W.heap.size W w4) := ⟨hb4.os, hb4.tape, hb4.output, hb4.size, hb4.block⟩; have HO4 := hide hown4; have HS4 := hide (show w4.cell? ⟨wb, 0, none⟩ = some (.slice (some ⟨gP, 0, none⟩) qs.length capP) ∧ w4.cell? ⟨gP, k, none⟩ = some (.pointer (some ⟨qs[k].pp, 0, none⟩)) ∧ w4.cell? ⟨b, 2, none⟩ = some (.string ⟨text.toArray⟩) ∧ w4.cell? ⟨b, 4, none⟩ = some (.int .i64 A) from ⟨((unhide HB4).cell (p := ⟨wb, 0, none⟩) hwW).trans (unhide HS0).1, ((unhide HB4).cell (p := ⟨gP, k, none⟩) hgW).trans (unhide HS0).2.1, ((unhide HB4).cell (p := ⟨b, 2, none⟩) hbW).trans (unhide HS0).2.2.1, ((unhide HB4).cell (p := ⟨b, 4, none⟩) hbW).trans (unhide HS0).2.2.2⟩); clear hb4 hown4))
  have h4' := (unhide HHW).fresh (c := 1) (unhide HB4)
  have hfr4 : ∀ g, la.ownBlock = some g → W.heap.size ≤ g ∧ g < w4.heap.size := fun g hg => (unhide HO4).lt g hg
  have rowA4 := unhide HO4
  have hsz4 := (unhide HB4).size
  obtain ⟨gR, capR, eR, c1, cR⟩ := h4'.cellR hk
  have hw4b : wb < w4.heap.size := by omega
  have hg4 : gR < w4.heap.size := (ownsRow_type h4'.rowR (g := gR) (by rw [eR]; rfl)).1
  have hb4b : b < w4.heap.size := by omega
  have HT0 : Hid (w4.drew.cell? ⟨wb, 1, none⟩ = some (.slice (some ⟨gR, 0, none⟩) qs.length capR) ∧ w4.drew.cell? ⟨gR, k, none⟩ = some (.pointer (some ⟨qs[k].pr, 0, none⟩)) ∧ w4.drew.cell? ⟨b, 2, none⟩ = some (.string ⟨text.toArray⟩) ∧ w4.drew.cell? ⟨b, 4, none⟩ = some (.int .i64 A)) := ⟨c1, cR, (unhide HS4).2.2⟩
  have hc2 := refMeas_any text A ((h4'.rf k hk).keep (w' := w4.drew) (fun _ _ _ => rfl)) (unhide HR).many (unhide HF) htx
  have HH4 := hide h4'
  have HFR := hide hfr4
  have HRA := hide rowA4
  clear hc HS0 HS4 HO4 h4' hfr4 rowA4 eR c1 cR
  go_wp2_with fail
  go_region_held (fun w' => w'.cell? ⟨wb, 1, none⟩ = some (.slice (some ⟨gR, 0, none⟩) qs.length capR) ∧ w'.cell? ⟨gR, k, none⟩ = some (.pointer (some ⟨qs[k].pr, 0, none⟩)) ∧ w'.cell? ⟨b, 2, none⟩ = some (.string ⟨text.toArray⟩) ∧ w'.cell? ⟨b, 4, none⟩ = some (.int .i64 A)) (first | exact unhide HT0 | exact unhide HS5)
    (first | (go_at_call 95; refine hc2.mono ?_; rintro e w5 ⟨lb, rfl, hown5, hb5⟩; have HB5 : Hid (Below w4.heap.size w4 w5) := ⟨hb5.os, hb5.tape, hb5.output, hb5.size, hb5.block⟩; have HO5 := hide hown5; have HS5 := hide (show w5.cell? ⟨wb, 1, none⟩ = some (.slice (some ⟨gR, 0, none⟩) qs.length capR) ∧ w5.cell? ⟨gR, k, none⟩ = some (.pointer (some ⟨qs[k].pr, 0, none⟩)) ∧ w5.cell? ⟨b, 2, none⟩ = some (.string ⟨text.toArray⟩) ∧ w5.cell? ⟨b, 4, none⟩ = some (.int .i64 A) from ⟨((unhide HB5).cell (p := ⟨wb, 1, none⟩) hw4b).trans (unhide HT0).1, ((unhide HB5).cell (p := ⟨gR, k, none⟩) hg4).trans (unhide HT0).2.1, ((unhide HB5).cell (p := ⟨b, 2, none⟩) hb4b).trans (unhide HT0).2.2.1, ((unhide HB5).cell (p := ⟨b, 4, none⟩) hb4b).trans (unhide HT0).2.2.2⟩); clear hb5 hown5))
  have h5' := (unhide HH4).fresh (c := 1) (unhide HB5)
  have hsz5 := (unhide HB5).size
  have rowA : w5.ownsRow 0 57 2 la _ _ := ownsRow_same (ownsRow_base (unhide HRA) (Nat.zero_le _)) fun g hg => (unhide HB5).block g (unhide HFR g hg).2
  have rowB : w5.ownsRow 0 57 2 lb _ _ := ownsRow_base (unhide HO5) (Nat.zero_le _)
  have hR50 := measA_len text A (unhide HR)
  have HBB := hide ((unhide HBW).trans (((unhide HB4).mono (by omega)).trans ((unhide HB5).mono (by omega))))
  generalize measA text A qs[k].L = R at *
  generalize measE text A = er at *
  obtain ⟨aa, capa, rfl, -, -, hnila, haoa, hcella, -⟩ := owns_form rowA
  obtain ⟨ab, capb, rfl, -, -, hnilb, haob, hcellb, -⟩ := owns_form rowB
  have H5 := hide h5'
  have HA1 := hide hnila
  have HA2 := hide haoa
  have HA3 := hide hcella
  have HB1' := hide hnilb
  have HB2 := hide haob
  have HB3 := hide hcellb
  have ROWA := hide rowA
  clear hnila haoa hcella hnilb haob hcellb rowA rowB h5' hc2 HT0 HS5 HO5 HRA
  go_wp2_with (first | (go_at_call 57; refine (num_any _ _).mono ?_; rintro e w' ⟨rfl, hww⟩; rw [hww]; clear hww w'))
  go_loopw [13, 14] (fun ok i wr => ok = .bool true ∧ ∃ j m : Nat, j ≤ R.length ∧ i = .int .i64 j ∧ wr = w5.drewN m) (fun _ i _ => R.length - (intOf i).toNat)
  case atStart => exact ⟨rfl, 0, 0, by omega, rfl, rfl⟩
  case round =>
    obtain ⟨rfl, j, m, hj, rfl, rfl⟩ := hrel
    by_cases hlt : j < R.length
    · obtain ⟨⟨ga, oa, sa⟩, rfl⟩ : ∃ a, aa = some a := by
        cases aa with
        | none => have := (unhide HA1 rfl).1; omega
        | some a => exact ⟨a, rfl⟩
      obtain ⟨⟨gb, ob, sb⟩, rfl⟩ : ∃ a, ab = some a := by
        cases ab with
        | none => have := (unhide HB1' rfl).1; omega
        | some a => exact ⟨a, rfl⟩
      obtain ⟨x1, x2, -, -⟩ := unhide HA2 _ rfl
      obtain ⟨y1, y2, -, -⟩ := unhide HB2 _ rfl
      simp only at x1 x2 y1 y2
      subst x1 x2 y1 y2
      obtain ⟨e0, e1⟩ := cellsMs_at R j hlt
      have ca0 := (unhide HA3 _ rfl (j * 2) (by omega)).trans e0
      have ca1 := (unhide HA3 _ rfl (j * 2 + 1) (by omega)).trans e1
      have cb0 := (unhide HB3 _ rfl (j * 2) (by omega)).trans e0
      have cb1 := (unhide HB3 _ rfl (j * 2 + 1) (by omega)).trans e1
      clear e0 e1
      have hji : (j : Int) < (R.length : Int) := by omega
      simp only at ca0 ca1 cb0 cb1
      go_upto_region 7 with fail
      go_quiet (fail)
      go_wp2
      go_roundw
      case rel => exact ⟨rfl, j + 1, _, by omega, by go_num, rfl⟩
      case measure => simp [intOf]; omega
    · have h5m := (unhide H5).drawn m
      have rowA' : (w5.drewN m).ownsRow 0 57 2 (.slice aa R.length capa) R.length (R.flatMap cellsMs) := unhide ROWA
      have H5M := hide h5m
      clear h5m
      go_wp2_with fail
      refine (bookS_any (unhide H5M).blk (unhide H5M).bk.rowC rowA' hR50 ht).mono ?_
      rintro e w6 ⟨rfl, vM', a1, a2, a3, z1, z2, m0, m1, m2, m3, z3, z4, z5, hmv⟩
      have hfin := (unhide H5M).bookS (unhide HT4) (fun g hg => by
          obtain ⟨l1, l2⟩ := unhide HFR g hg
          refine ⟨?_, by show g < w5.heap.size; omega⟩
          rw [ownAt_old l2, ownAt_new l1]) (fun j hj g hg hg' => by
          have := ((unhide HH).marks j hj).lt hg
          have := (unhide HFR g hg').1
          omega) (fun b' hb' e => by
          have := (unhide HH).bk.lt hb'
          have := (unhide HFR b' e).1
          omega) z1 z2 m0 m1 m2 m3 z3 z4 z5 hmv
      have hmw : Moved (fun b => own b = 0) w w6 := by
        have hb12 : Below w.heap.size w w5 := by rw [hbn]; exact unhide HBB
        refine ⟨hmv.os.trans hb12.os, hmv.tape.trans hb12.tape, hmv.output.trans hb12.output, Nat.le_trans hb12.size hmv.size, fun b' hb' hne => ?_⟩
        rw [hmv.block b' (Nat.lt_of_lt_of_le hb' hb12.size) ?_]
        · exact hb12.block b' hb'
        · rintro (e1 | e1 | e1)
          · rw [e1] at hne; exact hne (unhide HH).oblk
          · exact hne ((unhide HH).bk.oC b' e1)
          · have := (unhide HFR b' e1).1; omega
      have HMW := hide hmw
      have HFN := hide hfin
      clear hfin z1 z2 m0 m1 m2 m3 z3 z4 z5 hmv hmw
      go_wp2
      go_ret
      refine ⟨rfl, _, _, unhide HFN, by simp, rfl, unhide HMW, fun b' hb' => ?_⟩
      have h1 : b' < W.heap.size := by omega
      have h2 : b' < w4.heap.size := by omega
      have h3 : b' < (w5.drewN m).heap.size := by show b' < w5.heap.size; omega
      show ownT _ _ _ b' = _
      unfold ownT
      rw [if_pos h3, ownAt_old h2, ownAt_old h1, ownAt_old hb']

end Go.Proofs.YtbljamcdaoofbaaGreatDoor

/- The fifth kind of steps, walked. -/
namespace Go.Proofs.YtbljamcdaoofbaaGreatDoor
open Go.RowKit

set_option maxRecDepth 10000 in
set_option maxHeartbeats 2000000 in
theorem stepMeas_any {w0 w : World} {T wb N M k : Nat} {own : Nat → Nat} {qs : List Pair} {tv : List Value} {vps vrs vT : Value} {bk : Bk} {on A B C : Int} {text line : List UInt8} {back : Bool} (h : Good w0 T w wb N M own qs tv vps vrs vT bk) (hgl : Glob w0) (hM : M ≤ 8388608) (hk : k < N) (htx : text.length ≤ 1048576) :
    Calls Tryz.prog 32 #[.pointer (some ⟨wb, 0, none⟩), .int .i64 k, .agg #[.int .i64 6, .int .i64 on, .string ⟨text.toArray⟩, .string ⟨line.toArray⟩, .int .i64 A, .int .i64 B, .int .i64 C, .bool back]] w fun e w' => e = .returned (.bool true) ∧ ∃ own' bk', Good w0 T w' wb N (M + 4) own' qs tv vps vrs vT bk' := by
  have hG := h.box (.cells #[.int .i64 6, .int .i64 on, .string ⟨text.toArray⟩, .string ⟨line.toArray⟩, .int .i64 A, .int .i64 B, .int .i64 C, .bool back] 73)
  have hkq : k < qs.length := by rw [h.num]; exact hk
  have htl : bk.tm.length ≤ 8388608 := Nat.le_trans h.mostC hM
  have hgl' := hgl.below hG.bel
  have HG := hide hG
  have hlr := lawMeas_any (on := on) (A := A) (B := B) (C := C) (text := text) (line := line) (back := back) hG.inv hG.fourC htl hkq (hG.rel k hkq) (hG.fine k hkq) hgl' htx
  clear h hG hgl'
  go_enter Tryz.func32, Tryz.ntmps32
  go_wp2_with fail
  refine hlr.mono ?_
  rintro e w1 ⟨rfl, own', bk', hI, hl, hlm, hm, how⟩
  have hfin : ∃ own' bk', Good w0 T w1 wb N (M + 4) own' qs tv vps vrs vT bk' := by
    have hs0 := (unhide HG).bel.size
    have hbig := (unhide HG).big
    have b1 : Below w0.heap.size _ w1 := ⟨hm.os, hm.tape, hm.output, hm.size, fun b hb => hm.block b (by omega) (by rw [(unhide HG).low b hb]; omega)⟩
    exact ⟨_, _, hI, (unhide HG).rel, (unhide HG).four, (unhide HG).num, Nat.le_trans (unhide HG).most (by omega), (unhide HG).fine, by rw [hlm]; exact (unhide HG).fourB, by rw [hl]; have := (unhide HG).fourC; omega, by rw [hlm]; exact Nat.le_trans (unhide HG).mostB (by omega), by rw [hl]; have := (unhide HG).mostC; omega, (unhide HG).bel.trans b1, fun b hb => by rw [how b (by omega)]; exact (unhide HG).low b hb, hbig⟩
  have HFN := hide hfin
  clear hfin hI hl hlm hm how hlr
  go_wp2
  go_ret
  exact ⟨rfl, unhide HFN⟩

end Go.Proofs.YtbljamcdaoofbaaGreatDoor

/- The law's world at the start; a step of any kind; the book looked at. -/
namespace Go.Proofs.YtbljamcdaoofbaaGreatDoor
open Go.RowKit

theorem Good.start (w0 : World) :
    Good w0 8388709 (w0.alloc (.cells #[.slice none 0 0, .slice none 0 0, .slice none 0 0, .slice none 0 0, .slice none 0 0] 70)) w0.heap.size 0 0 (fun b => if b < w0.heap.size then 8388709 else 0) [] [] (.slice none 0 0) (.slice none 0 0) (.slice none 0 0) ⟨[], .slice none 0 0, [], .slice none 0 0⟩ := by
  refine ⟨⟨heap_alloc_new w0 _, by simp, World.ownsRow_nil _ _ _ _, fun g hg => (by cases hg), World.ownsRow_nil _ _ _ _, fun g hg => (by cases hg), World.ownsRow_nil _ _ _ _, fun g hg => (by cases hg), fun i h => (by cases h), fun i h => (by cases h), fun i h => (by cases h), fun i h => (by cases h), ⟨World.ownsRow_nil _ _ _ _, fun g hg => (by cases hg), fun i h => (by cases h), fun i h => (by cases h), World.ownsRow_nil _ _ _ _, fun g hg => (by cases hg), fun i h => (by cases h), fun i h => (by cases h)⟩⟩, fun i h => (by cases h), rfl, rfl, Nat.le_refl _, fun i h => (by cases h), rfl, rfl, Nat.le_refl _, Nat.le_refl _, (Below.refl _ _).alloc (Nat.le_refl _) _, fun b hb => (by simp [hb]), by omega⟩

/-- All is well, at most so many stores and lists. -/
def Well (w0 : World) (wb k : Nat) (w : World) : Prop :=
  ∃ N M own qs tv vps vrs vT bk, Good w0 8388709 w wb N M own qs tv vps vrs vT bk ∧ 1 ≤ N ∧ N ≤ k + 1 ∧ M ≤ 4 * k + 4

theorem Good.fresh {w0 w w' : World} {T wb N M : Nat} {own : Nat → Nat} {qs : List Pair} {tv : List Value} {vps vrs vT : Value} {bk : Bk} (h : Good w0 T w wb N M own qs tv vps vrs vT bk) (hb : Below w.heap.size w w') : Good w0 T w' wb N M (ownAt own w 1) qs tv vps vrs vT bk :=
  ⟨h.inv.fresh hb, h.rel, h.four, h.num, h.most, h.fine, h.fourB, h.fourC, h.mostB, h.mostC, h.bel.trans (hb.mono h.bel.size), fun b hb => (by rw [ownAt_old (Nat.lt_of_lt_of_le hb h.bel.size)]; exact h.low b hb), h.big⟩

theorem Well.fresh {w0 w w' : World} {wb k : Nat} (h : Well w0 wb k w) (hb : Below w.heap.size w w') : Well w0 wb k w' := by
  obtain ⟨N, M, own, qs, tv, vps, vrs, vT, bk, hG, h1, h2, h3⟩ := h
  exact ⟨N, M, _, qs, tv, vps, vrs, vT, bk, hG.fresh hb, h1, h2, h3⟩

theorem Well.bel {w0 w : World} {wb k : Nat} (h : Well w0 wb k w) : Below w0.heap.size w0 w := by
  obtain ⟨N, M, own, qs, tv, vps, vrs, vT, bk, hG, h1, h2, h3⟩ := h
  exact hG.bel

theorem Well.more {w0 w : World} {wb k k' : Nat} (h : Well w0 wb k w) (hk : k ≤ k') : Well w0 wb k' w := by
  obtain ⟨N, M, own, qs, tv, vps, vrs, vT, bk, hG, h1, h2, h3⟩ := h
  exact ⟨N, M, _, qs, tv, vps, vrs, vT, bk, hG, h1, by omega, by omega⟩

/-- so many stores there are -/
theorem Well.stores {w0 w : World} {wb k : Nat} (h : Well w0 wb k w) (hgl : Glob w0) : ∃ (N cap : Nat) (a : Option Addr), 1 ≤ N ∧ N ≤ k + 1 ∧ w.cell? ⟨wb, 0, none⟩ = some (.slice a N cap) ∧ wb < w.heap.size ∧
    (∀ (d : Nat) w1, Below w.heap.size w w1 → k + 1 ≤ 1048578 → d < N → ∀ (kind on : Int) (text line : List UInt8) (A B C : Int) (back : Bool), 1 ≤ kind → kind ≤ 6 → text.length ≤ 1048576 → line.length ≤ 1048576 →
      Calls Tryz.prog 32 #[.pointer (some ⟨wb, 0, none⟩), .int .i64 d, .agg #[.int .i64 kind, .int .i64 on, .string ⟨text.toArray⟩, .string ⟨line.toArray⟩, .int .i64 A, .int .i64 B, .int .i64 C, .bool back]] w1 fun e w' => e = .returned (.bool true) ∧ Well w0 wb (k + 1) w') := by
  obtain ⟨N, M, own, qs, tv, vps, vrs, vT, bk, hG, h1, h2, h3⟩ := h
  obtain ⟨aP, capP, hvP, -, -, -, -, -, -⟩ := owns_form hG.inv.rowP
  have hc : w.cell? ⟨wb, 0, none⟩ = some vps := by simp [World.cell?, hG.inv.blk]
  refine ⟨N, capP, aP, h1, h2, by rw [hc, hvP, hG.num], (Array.getElem?_eq_some_iff.1 hG.inv.blk).1, ?_⟩
  intro d w1 hb hk hd kind on text line A B C back k1 k4 ht hl
  have hG1 := hG.fresh hb
  have hkk : kind = 1 ∨ kind = 2 ∨ kind = 3 ∨ kind = 4 ∨ kind = 5 ∨ kind = 6 := by omega
  rcases hkk with rfl | rfl | rfl | rfl | rfl | rfl
  · refine (stepNew_any hG1 (by omega)).mono ?_
    rintro e w' ⟨rfl, own', qs', vps', vrs', h'⟩
    exact ⟨rfl, N + 1, M, own', qs', tv, vps', vrs', vT, bk, h', by omega, by omega, by omega⟩
  · refine (stepPush_any hG1 (by omega) hd ht hl).mono ?_
    rintro e w' ⟨rfl, own', qs', h'⟩
    exact ⟨rfl, N, M, own', qs', tv, vps, vrs, vT, bk, h', by omega, by omega, by omega⟩
  · refine (stepStreams_any hG1 (by omega) (by omega) hd).mono ?_
    rintro e w' ⟨rfl, own', tv', vT', h'⟩
    exact ⟨rfl, N, M + 4, own', qs, tv', vps, vrs, vT', bk, h', by omega, by omega, by omega⟩
  · refine (stepDrop_any hG1 (by omega) hd).mono ?_
    rintro e w' ⟨rfl, own', qs', h'⟩
    exact ⟨rfl, N, M, own', qs', tv, vps, vrs, vT, bk, h', by omega, by omega, by omega⟩
  · refine (stepRows_any hG1 hgl (by omega) hd ht).mono ?_
    rintro e w' ⟨rfl, own', bk', h'⟩
    exact ⟨rfl, N, M + 4, own', qs, tv, vps, vrs, vT, bk', h', by omega, by omega, by omega⟩
  · refine (stepMeas_any hG1 hgl (by omega) hd ht).mono ?_
    rintro e w' ⟨rfl, own', bk', h'⟩
    exact ⟨rfl, N, M + 4, own', qs, tv, vps, vrs, vT, bk', h', by omega, by omega, by omega⟩

theorem Well.still {w0 w : World} {wb k : Nat} (h : Well w0 wb k w) (hk : k ≤ 1048580) :
    Calls Tryz.prog 34 #[.pointer (some ⟨wb, 2, none⟩)] w fun e w' => e = .returned (.bool true) ∧ Well w0 wb k w' := by
  have h' := h
  obtain ⟨N, M, own, qs, tv, vps, vrs, vT, bk, hG, h1, h2, h3⟩ := h
  refine (still_any hG.inv.blk hG.inv.rowT hG.inv.marks (by have := hG.most; omega) hG.inv.bk (by have := hG.mostB; omega) (by have := hG.mostC; omega)).mono ?_
  rintro e w' ⟨rfl, hb⟩
  exact ⟨rfl, h'.fresh hb⟩

theorem begins_first (w0 : World) :
    Calls Tryz.prog 31 #[.pointer (some ⟨w0.heap.size, 0, none⟩)] (w0.alloc (.cells #[.slice none 0 0, .slice none 0 0, .slice none 0 0, .slice none 0 0, .slice none 0 0] 70)) fun e w' => e = .returned (.bool true) ∧ Well w0 w0.heap.size 0 w' := by
  have hG := Good.start w0
  refine (begins_any hG.inv (by simp)).mono ?_
  rintro e w1 ⟨rfl, own', vps', vrs', pp, pr, hI, hm, how⟩
  refine ⟨rfl, 1, 0, own', _, [], vps', vrs', _, _, ⟨hI, ?_, rfl, by simp, by simp, ?_, rfl, rfl, by simp, by simp, ?_, ?_, by omega⟩, by omega, by omega, by omega⟩
  · intro i hi
    have : i = 0 := by simpa using hi
    subst this
    exact RelA.empty
  · intro i hi
    have : i = 0 := by simpa using hi
    subst this
    exact Fine.empty
  · have hs0 := hG.bel.size
    exact hG.bel.trans ⟨hm.os, hm.tape, hm.output, hm.size, fun b hb => hm.block b (by omega) (by rw [hG.low b hb]; omega)⟩
  · intro b hb
    have hs0 := hG.bel.size
    rw [how b (by omega)]; exact hG.low b hb

end Go.Proofs.YtbljamcdaoofbaaGreatDoor
