/- Texts PMAll, KMeas, KWhole, KDig, KMean, joined. -/
import Derived.Test.YtbljamcdaoofbaaGreatDoorRefMeasToPMWalk
import Derived.Deep.RegionLaw
import Derived.Test.YtbljamcdaoofbaaGreatDoorKFillToFloatDiv
import Derived.Test.YtbljamcdaoofbaaGreatDoorFloatWordToMeasSpec
/- The program's Measure. -/
namespace Go.Proofs.YtbljamcdaoofbaaGreatDoor
open Go.RowKit

theorem measE_check {l : List UInt8} {at_ : Int} (h1 : l.length ≤ 200) (h2 : (parseL l).2.1 = true) : measE l at_ = (checkME (parseL l).2.2 at_, 0) := by
  unfold measE checkME
  rw [if_neg (by omega), if_neg (by simp [h2])]
  repeat' split
  all_goals rfl

theorem checkME_ok {q : Qry} {at_ : Int} (h : checkME q at_ = 0) : (q.meas == []) = false ∧ 0 ≤ at_ ∧ at_ ≤ 1000000 := by
  unfold checkME at h
  split at h
  · cases h
  · rename_i hm
    split at h
    · cases h
    · rename_i ht
      refine ⟨by simpa using hm, ?_⟩
      simpa [timeB] using ht

/-- the lines of a source, where they lie -/
theorem src_open {w : World} {base : Nat} {s : Src} (h : OkSrc w base s) : ∃ ao cap, s.vl = .slice ao s.lines.length cap ∧ s.lines.length ≤ s.lines.length ∧ (s.lines ≠ [] → ∃ g o, ao = some ⟨g, o, none⟩ ∧ s.lines.length ≤ cap ∧ s.lines.length ≤ 300 ∧ cap ≤ maxLen ∧ g < base ∧ ∀ j, j < s.lines.length * 2 → w.cell? ⟨g, o + j, none⟩ = (s.lines.flatMap cellsN)[j]?) := by
  obtain ⟨⟨ao, cap, e⟩, hl⟩ := h
  refine ⟨ao, cap, e, Nat.le_refl _, fun hn => ?_⟩
  obtain ⟨g, o, cap', e', h2, hlm, h3, h5, h6⟩ := hl hn
  rw [e] at e'
  simp only [Value.slice.injEq, true_and] at e'
  obtain ⟨rfl, rfl⟩ := e'
  exact ⟨g, o, rfl, h2, hlm, h3, h5, h6⟩

set_option maxRecDepth 10000 in
set_option maxHeartbeats 4000000 in
theorem pMeas_any {w : World} {F : Nat → Prop} {p : Nat} {ns : List Node} {va : Value} {S : List Strm} {L : List Rw} (l : List UInt8) (at_ : Int) (h : StoreAt w F p ns va) (hrel : RelA (ns.map absN) S L) (hf : Fine S L) (hl : l.length ≤ 1048576) (hE : ErrAt w) (hG : MaxAt w) (h8 : 8 ≤ w.heap.size) :
    Calls Tryz.prog 28 #[.pointer (some ⟨p, 0, none⟩), .string ⟨l.toArray⟩, .int .i64 at_] w (MeasP3 w (measA l at_ L) (measE l at_).1 (measE l at_).2) := by
  have hrd := lread_any l w hl hE h8
  have HH := hide h
  have HREL := hide hrel
  have HFI := hide hf
  have HNF := hide (NodesFine.of hrel hf)
  have HG := hide hG
  clear h hrel hf hG hE
  go_enter Tryz.func28, Tryz.ntmps28
  go_wp2_with fail
  refine hrd.mono ?_
  rintro e w1 ⟨hb1, hlong, hgood, hbad⟩
  clear hrd
  have HB1 := hide hb1
  clear hb1
  by_cases h2 : 200 < l.length
  · have he := hlong h2
    subst he
    have HE := hide (show measE l at_ = (7, 0) by unfold measE; rw [if_pos h2])
    clear hlong hgood hbad
    go_wp2_with fail
    go_ret3
    exact MeasP3.ers (unhide HE) (by decide) (unhide HB1)
  · have h2' : l.length ≤ 200 := by omega
    cases hp : (parseL l).2.1 with
    | false =>
      have he := hbad h2' hp
      subst he
      have HE := hide (show measE l at_ = ((8 : Int), ((parseL l).1 : Int)) by unfold measE; rw [if_neg h2, if_pos hp])
      clear hlong hgood hbad
      go_wp2_with fail
      go_ret3
      exact MeasP3.ers (unhide HE) (by decide) (unhide HB1)
    | true =>
      obtain ⟨rb, vm, vf, he, hq⟩ := hgood h2' hp
      subst he
      have hce := measE_check (at_ := at_) h2' hp
      have hck := checkMeasure_any at_ hq
      have HQ := hide hq
      obtain ⟨-, -, s3⟩ := parse_small l h2'
      have HS3 := hide s3
      clear hlong hgood hbad hq s3
      go_wp2_with fail
      refine hck.mono ?_
      rintro e w2 ⟨rfl, rfl⟩
      clear hck
      by_cases hc : checkME (parseL l).2.2 at_ = 0
      · obtain ⟨hm0, ht1, ht2⟩ := checkME_ok hc
        obtain ⟨sp1, sp2⟩ := meas_span l hm0
        have HMK := hide (meas_kind l hm0)
        have HA := hide (show measA l at_ L = smpsL (parseL l).2.2 (askedL (parseL l).2.2.ms (parseL l).2.2.fs (at_ - (parseL l).2.2.span + 1) (at_ + 1) L) (keysL (parseL l).2.2.by_ (askedL (parseL l).2.2.ms (parseL l).2.2.fs (at_ - (parseL l).2.2.span + 1) (at_ + 1) L)) by unfold measA; rw [hce, hc, if_pos rfl])
        rw [hc] at hce
        have HE := hide hce
        clear hce hm0
        rw [hc]
        clear hc hp
        have hsz1 := (unhide HB1).size
        have hst1 := (unhide HH).keep (w' := w2) (fun b hb _ => (unhide HB1).block b hb)
        have HST := hide hst1
        have HMX := hide ((unhide HG).below h8 (unhide HB1))
        clear hst1 HH HG
        generalize hqq : (parseL l).2.2 = q at *
        have HQQ := hide hqq
        clear hqq
        obtain ⟨v0, hblk⟩ := (unhide HQ).block
        obtain ⟨-, c1, c2, c3, -, -, -⟩ := cell_of_block6 hblk
        have hrbw := (Array.getElem?_eq_some_iff.1 hblk).1
        have HBK := hide hblk
        clear hblk
        have hgn := gnew_any q.meas q.span w2.drew
        go_upto_region 7 with fail
        go_region_law (go_simp; go_at_call 52; refine hgn.mono ?_; rintro e w3 ⟨rfl, hG3, hb3⟩; dsimp only)
        all_goals
          have hb3' : Below w2.heap.size w2 w3 := ⟨hb3.os, hb3.tape, hb3.output, hb3.size, hb3.block⟩
          have HG3 : Hid (GroupsAt w3 w2.heap.size w2.heap.size q.meas q.span (.slice none 0 0) []) := hG3
          have HB3 := hide hb3'
          have d2 : w3.cell? ⟨rb, 2, none⟩ = some (.int .i64 q.span) := (hb3'.cell (p := ⟨rb, 2, none⟩) hrbw).trans c2
          have hsz3 := hb3'.size
          have hgb3 : w2.heap.size < w3.heap.size := (Array.getElem?_eq_some_iff.1 (unhide HG3).block).1
          have hso := sources_any (at_ - q.span + 1) (at_ + 1) ((unhide HST).keep (w' := w3) (fun b hb _ => hb3'.block b hb)) (unhide HNF) ((unhide HQ).below hb3') (unhide HS3) ((unhide HMX).below (by omega) hb3') (by omega)
          clear hgn hG3 hb3 hb3' c1 c2
          go_wp2_with fail
          refine hso.mono ?_
          rintro e w4 ⟨v4, srcs, rfl, hI4, hss⟩
          clear hso d2
          have hsf := SrcFine.of (unhide HREL) (unhide HFI) q _ _ srcs hss
          have hb4 := hI4.bel
          have hG4 := (unhide HG3).below hb4
          have hMW := MW.start hG4
          have hsz4 := hb4.size
          have e3 : w4.cell? ⟨rb, 3, none⟩ = some (SV q.by_) := (hb4.cell (p := ⟨rb, 3, none⟩) (by show rb < _; omega)).trans (((unhide HB3).cell (p := ⟨rb, 3, none⟩) hrbw).trans c3)
          have hoks := hI4.oks
          obtain ⟨ao, cap, rfl, hnc, hcm, hnil, hao, hcell, -⟩ := owns_form hI4.row
          have hgne : ∀ a, ao = some a → a.block ≠ w2.heap.size := fun a ha => by
            have := (hI4.row.lt a.block (by rw [ha]; rfl)).1
            omega
          have h6 := hsf.six
          have HSS := hide hss
          have HSF := hide hsf
          have HB4 := hide hb4
          have HG4 := hide hG4.block
          have HMW := hide hMW
          have HOK := hide hoks
          have HN := hide hnil
          have HAO := hide hao
          have HC := hide hcell
          have HGN := hide hgne
          clear hss hsf hb4 hG4 hMW hoks hnil hao hcell hgne hI4 c3
          go_wp2_with fail
          go_loopw [57] (fun i wr => ∃ k : Nat, k ≤ srcs.length ∧ i = .int .i64 k ∧ Hid (MW w4 w2.heap.size q.meas q.span (pairsL q.meas q.by_ (srcs.take k)) wr)) (fun i _ => srcs.length - (intOf i).toNat)
          case atStart => exact ⟨0, Nat.zero_le _, rfl, HMW⟩
          case round =>
            clear HMW
            obtain ⟨k, hk, rfl, HM⟩ := hrel
            by_cases hlt : k < srcs.length
            · obtain ⟨⟨g, o, sp⟩, rfl⟩ : ∃ a, ao = some a := by
                cases ao with
                | none => have := (unhide HN rfl).1; omega
                | some a => exact ⟨a, rfl⟩
              obtain ⟨ho, hsp, -, hgw⟩ := unhide HAO _ rfl
              simp only at ho hsp hgw
              subst ho hsp
              have hgn2 : g ≠ w2.heap.size := unhide HGN ⟨g, 0, none⟩ rfl
              obtain ⟨e0, e1⟩ := cellsQ_at srcs k hlt
              have m0 := (((unhide HM).cell (a := ⟨g, k * 2, none⟩) hgw hgn2).trans (unhide HC _ rfl _ (by omega))).trans e0
              have m1 := (((unhide HM).cell (a := ⟨g, k * 2 + 1, none⟩) hgw hgn2).trans (unhide HC _ rfl _ (by omega))).trans e1
              have m3 : wr.cell? ⟨rb, 3, none⟩ = some (SV q.by_) := ((unhide HM).cell (a := ⟨rb, 3, none⟩) (by show rb < _; omega) (by show rb ≠ _; omega)).trans e3
              clear e0 e1
              have hlab := (unhide HSF).labs _ (List.getElem_mem hlt)
              have hlin := (unhide HSF).lines _ (List.getElem_mem hlt)
              have HPL := hide (pairsL_snoc q.meas q.by_ srcs k hlt)
              have HLT := hide (fun j hj => pairs_lt q.meas q.by_ (valueP q.by_ (cutL 44 srcs[k].lab)) srcs k j (unhide HSF).cnt hlt hj)
              obtain ⟨al, cl, hvl, -, hln⟩ := src_open (unhide HOK _ (List.getElem_mem hlt))
              rw [hvl] at m1
              have HLN := hide hln
              have hszr := (unhide HM).size
              clear hvl hln
              generalize srcs[k] = s at *
              obtain ⟨lab, lines, vl⟩ := s
              simp only at m0 m1 hlab hlin HPL HLT HLN
              generalize pairsL q.meas q.by_ (srcs.take k) = P at *
              go_upto_region 11 with fail
              have hbx : Below wr.heap.size wr (wr.alloc (.cells #[SV lab, .slice al lines.length cl] 105)) := (Below.refl _ wr).alloc (Nat.le_refl _) _
              have hbox := heap_alloc_new wr (.cells #[SV lab, .slice al lines.length cl] 105)
              have hM1 := (unhide HM).below hbx
              have hszW : wr.heap.size < (wr.alloc (.cells #[SV lab, .slice al lines.length cl] 105)).heap.size := by simp
              have n3 : (wr.alloc (.cells #[SV lab, .slice al lines.length cl] 105)).cell? ⟨rb, 3, none⟩ = some (SV q.by_) := (hbx.cell (p := ⟨rb, 3, none⟩) (by show rb < _; omega)).trans m3
              obtain ⟨x0, x1, -⟩ := cell_of_block2 hbox
              have HM1 := hide hM1
              clear hbx hbox hM1 HM m0 m1 m3
              generalize wr.alloc (.cells #[SV lab, .slice al lines.length cl] 105) = W at *
              generalize wr.heap.size = bx at *
              have hva := pvalue_in lab q.by_ W.drew hlab.2
              go_region_law (go_simp; go_at_call 53; refine hva.mono ?_; rintro e w5 ⟨rfl, hb5⟩; dsimp only)
              all_goals
                have hb5' : Below W.heap.size W w5 := ⟨hb5.os, hb5.tape, hb5.output, hb5.size, hb5.block⟩
                have y1 := (hb5'.cell (p := ⟨bx, 1, none⟩) hszW).trans x1
                have HM5 := hide ((unhide HM1).below hb5')
                clear hva hb5 hb5' x0 x1 n3 HM1
                generalize valueP q.by_ (cutL 44 lab) = key at *
                go_wp2_with fail
                rename World => wA
                go_loopw [71] (fun i wr => ∃ j : Nat, j ≤ lines.length ∧ i = .int .i64 j ∧ Hid (MW w4 w2.heap.size q.meas q.span (P ++ pairS q.meas key (lines.take j)) wr)) (fun i _ => lines.length - (intOf i).toNat)
                case atStart => exact ⟨0, Nat.zero_le _, rfl, hide (by rw [List.take_zero, show pairS q.meas key [] = [] from rfl, List.append_nil]; exact unhide HM5)⟩
                case round =>
                  clear HM5 y1
                  obtain ⟨j, hj, rfl, HMj⟩ := hrel
                  by_cases hjl : j < lines.length
                  · have hne : lines ≠ [] := by rintro rfl; simp at hjl
                    obtain ⟨gl, ol, rfl, hlc, hl3, hlm, hgl, hcl⟩ := unhide HLN hne
                    have hgln := lines_ne (s := ⟨lab, lines, vl⟩) (unhide HG4) hne hcl
                    obtain ⟨f0, f1⟩ := cellsN_at lines j hjl
                    have l0 := (((unhide HMj).cell (a := ⟨gl, ol + j * 2, none⟩) hgl hgln).trans (hcl (j * 2) (by omega))).trans f0
                    have l1 := (((unhide HMj).cell (a := ⟨gl, ol + j * 2 + 1, none⟩) hgl hgln).trans (hcl (j * 2 + 1) (by omega))).trans f1
                    have hlj := hlin lines[j] (List.getElem_mem hjl)
                    have HPS := hide (pairS_snoc q.meas key lines j hjl)
                    have hPl := unhide HLT j hjl
                    unfold maxLen at hlm
                    clear f0 f1 hcl
                    generalize lines[j] = ln at *
                    obtain ⟨lt, lx⟩ := ln
                    simp only at l0 l1 hlj HPS
                    have hbl : ∀ wX : World, Below wX.heap.size wX (wX.alloc (.cells #[.int .i64 lt, SV lx] 108)) := fun wX => (Below.refl _ wX).alloc (Nat.le_refl _) _
                    go_wp2_with fail
                    refine (madd_any key lx ((unhide HMj).below (hbl _)) hPl hlj).mono ?_
                    rintro e w6 ⟨rfl, hM6⟩
                    have HM6 := hide (show MW w4 w2.heap.size q.meas q.span (P ++ pairS q.meas key (lines.take (j + 1))) w6 from by
                      rw [unhide HPS, ← List.append_assoc]
                      exact hM6)
                    clear hM6 l0 l1
                    go_wp2_with fail
                    go_roundw
                    case rel => exact ⟨j + 1, by omega, by go_num, HM6⟩
                    case measure => simp [intOf]; omega
                  · have HMk := hide (show MW w4 w2.heap.size q.meas q.span (pairsL q.meas q.by_ (srcs.take (k + 1))) _ from by
                      have h1 := unhide HMj
                      rw [List.take_of_length_le (by omega)] at h1
                      rw [unhide HPL]
                      exact h1)
                    go_wp2_with fail
                    go_roundw
                    case rel => exact ⟨k + 1, by omega, by go_num, HMk⟩
                    case measure => simp [intOf]; omega
            · have hks : k = srcs.length := by omega
              subst hks
              obtain ⟨vg, gs, hGs, hOk, hMv⟩ := unhide HM
              rw [List.take_length] at hOk
              have hPn := Nat.le_trans (pairsL_len q.meas q.by_ srcs) (unhide HSF).cnt
              have hsm := samples_any hGs (by omega) (by omega) (by have := hOk.len; omega) (hOk.fit hPn)
              have HMS := hide (meas_same (unhide HREL) (unhide HFI) q _ _ srcs (unhide HSS) (unhide HMK) gs hOk)
              have HBR := hide ((unhide HM).bel (base := w2.heap.size) (Nat.le_refl _) (by omega))
              clear hGs hOk hMv
              go_wp2_with fail
              refine hsm.mono ?_
              rintro e w7 ⟨v7, rfl, hown7, hb7⟩
              clear hsm
              have HF := hide (show MeasP3 w (measA l at_ L) (measE l at_).1 (measE l at_).2 (.returned (.tuple #[v7, .int .i64 0, .int .i64 0])) w7 from by
                rw [unhide HE, unhide HA, unhide HMS]
                have hb23 := (unhide HB1).trans ((unhide HB3).mono hsz1)
                have hb24 := hb23.trans ((unhide HB4).mono hb23.size)
                have hb2r := hb24.trans ((unhide HBR).mono hsz1)
                refine ⟨v7, rfl, ?_, hb2r.trans (hb7.mono hb2r.size)⟩
                rw [List.length_map]
                exact ownsRow_base hown7 hb2r.size)
              clear hown7 hb7
              go_wp2_with fail
              go_ret3
              exact unhide HF
      · have HE := hide hce
        have HC := hide hc
        have hcb : (checkME (parseL l).2.2 at_ == 0) = false := by simpa using hc
        clear hce
        generalize checkME (parseL l).2.2 at_ = er at *
        go_wp2_with fail
        go_ret3
        exact MeasP3.ers (unhide HE) (unhide HC) (unhide HB1)

end Go.Proofs.YtbljamcdaoofbaaGreatDoor

/- A measure without by: one number, or none; loamkeep's Measure. -/
namespace Go.Proofs.YtbljamcdaoofbaaGreatDoor
open Go.RowKit

theorem kmeas_any {w0 w : World} {F : Nat → Prop} {p : Nat} {S : List Strm} {L : List Rw} (l : List UInt8) (at_ : Int) (h : KeepAt w0 w F p S L) (hl : l.length ≤ 1048576) (hg : Glob w0) :
    Calls Tryz.prog 28 #[.pointer (some ⟨p, 0, none⟩), .string ⟨l.toArray⟩, .int .i64 at_] w (MeasP3 w (measA l at_ L) (measE l at_).1 (measE l at_).2) := by
  obtain ⟨ns, va, hst, hrel⟩ := h.st
  have hg' := hg.base h.bel
  exact pMeas_any l at_ hst hrel h.fine hl hg'.1 hg'.2.1 hg'.2.2

theorem keys_none (T : List Rw) (h : T ≠ []) : keysL [] T = [[]] := by
  obtain ⟨k1, k2⟩ := keysL_ris [] T
  refine ris_ext k1 (by simp [Ris]) fun k => ?_
  rw [k2, List.mem_singleton]
  constructor
  · rintro ⟨r, -, e⟩; rw [← e]; simp [keyL]
  · rintro rfl
    obtain ⟨r, hr⟩ := List.exists_mem_of_ne_nil T h
    exact ⟨r, hr, by simp [keyL]⟩

theorem grp_none (T : List Rw) : grpL [] T [] = T := by
  unfold grpL
  exact List.filter_eq_self.2 fun r _ => by simp [keyL]

theorem smps_none (q : Qry) (T : List Rw) (hby : q.by_ = []) (h : T ≠ []) : smpsL q T (keysL q.by_ T) = match grpS q T with | some b => [([], b)] | none => [] := by
  unfold smpsL
  rw [hby, keys_none T h, List.filterMap_cons, grp_none, List.filterMap_nil]
  cases grpS q T <;> rfl

theorem smps_empty (q : Qry) : smpsL q [] (keysL q.by_ []) = [] := rfl

/-- what a measure without by tells: a whole number, or nothing -/
def OneA (R : List Smp) (v : Nat) : Prop := v < 16777216 ∧ ((R = [] ∧ v = 0) ∨ R = [([], fB v 1)])

theorem fB_lt {N : Nat} (h : N < 16777216) : fB N 1 < 2147483648 := by
  by_cases h0 : N = 0
  · rw [h0, fB_zero]; decide
  · obtain ⟨e, m, h1, h2, h3, h4, -⟩ := whole_form (Nat.pos_of_ne_zero h0) h
    rw [h2]
    omega

/-- the lines that a measure asks for -/
def askQ (q : Qry) (at_ : Int) (L : List Rw) : List Rw := askedL q.ms q.fs (at_ - q.span + 1) (at_ + 1) L

theorem measA_ask {l : List UInt8} {at_ : Int} {L : List Rw} (hE : measE l at_ = (0, 0)) : measA l at_ L = smpsL (parseL l).2.2 (askQ (parseL l).2.2 at_ L) (keysL (parseL l).2.2.by_ (askQ (parseL l).2.2 at_ L)) := by
  unfold measA
  rw [hE, if_pos rfl]
  rfl

theorem measE_ok {l : List UInt8} {at_ : Int} {q : Qry} (hl : l.length ≤ 200) (hp : (parseL l).2 = (true, q)) (hm : q.meas ≠ []) (ht : 0 ≤ at_) (ht2 : at_ ≤ 1000000) : measE l at_ = (0, 0) := by
  unfold measE
  rw [hp, if_neg (by omega), if_neg (by simp), if_neg (by simpa using hm), if_neg (by simp [timeB, ht, ht2])]

theorem one_count {q : Qry} {T : List Rw} (hm : q.meas = countT) (hby : q.by_ = []) (hT : T.length ≤ 300) : OneA (smpsL q T (keysL q.by_ T)) T.length := by
  refine ⟨by omega, ?_⟩
  by_cases h : T = []
  · left; rw [h]; exact ⟨rfl, rfl⟩
  · right
    rw [smps_none q T hby h]
    have : grpS q T = some (fB T.length 1) := by unfold grpS smpS; rw [if_pos hm]
    rw [this]

theorem one_bytes {q : Qry} {T : List Rw} (hm : q.meas = bytesT) (hby : q.by_ = []) (hT : T.length ≤ 300) (hl : ∀ r ∈ T, r.2.2.length ≤ 40) : OneA (smpsL q T (keysL q.by_ T)) (bytesL T) := by
  have hb := bytesL_le T hl
  refine ⟨by omega, ?_⟩
  by_cases h : T = []
  · left; rw [h]; exact ⟨rfl, rfl⟩
  · right
    rw [smps_none q T hby h]
    have : grpS q T = some (fB (bytesL T) 1) := by unfold grpS smpS; rw [hm, if_neg (by decide), if_neg (by decide), if_pos rfl]
    rw [this]

theorem one_rate {q : Qry} {T : List Rw} {c : Nat} (hm : q.meas = rateT) (hby : q.by_ = []) (hc : c < 16777216) (hs : 0 < q.span) (hT : T.length = q.span * c) : OneA (smpsL q T (keysL q.by_ T)) c := by
  refine ⟨hc, ?_⟩
  by_cases h : T = []
  · left
    rw [h] at hT ⊢
    refine ⟨rfl, ?_⟩
    rcases Nat.mul_eq_zero.1 hT.symm with e | e
    · omega
    · exact e
  · right
    rw [smps_none q T hby h]
    have : grpS q T = some (fB c 1) := by
      unfold grpS smpS
      rw [hm, if_neg (by decide), if_pos rfl, hT, fB_even hs (Nat.lt_trans hc (by decide))]
    rw [this]

theorem one_mean {q : Qry} {T : List Rw} {v : Nat} (hm : q.meas = meanT) (hby : q.by_ = []) (hv : v < 16777216) (h0 : 0 < manyL T) (hs : sumL T = ((manyL T * v : Nat) : Int)) (hb : manyL T * v < 16777216) : OneA (smpsL q T (keysL q.by_ T)) v := by
  refine ⟨hv, .inr ?_⟩
  have h : T ≠ [] := by rintro rfl; simp [manyL] at h0
  rw [smps_none q T hby h]
  have : grpS q T = some (fB v 1) := by
    unfold grpS smpS
    rw [hm, if_neg (by decide), if_neg (by decide), if_neg (by decide), if_neg (by omega), hs, if_neg (by omega), Int.toNat_natCast, whole_small hb, fB_even h0 (Nat.lt_trans hv (by decide))]
  rw [this]

theorem one_mean_none {q : Qry} {T : List Rw} (hm : q.meas = meanT) (hby : q.by_ = []) (h0 : manyL T = 0) : OneA (smpsL q T (keysL q.by_ T)) 0 := by
  refine ⟨by omega, .inl ⟨?_, rfl⟩⟩
  by_cases h : T = []
  · rw [h]; rfl
  · rw [smps_none q T hby h]
    have : grpS q T = none := by
      unfold grpS smpS
      rw [hm, if_neg (by decide), if_neg (by decide), if_neg (by decide), if_pos h0]
    rw [this]

end Go.Proofs.YtbljamcdaoofbaaGreatDoor

/- loamkeep's whole and one. -/
namespace Go.Proofs.YtbljamcdaoofbaaGreatDoor
open Go.RowKit

set_option maxRecDepth 10000 in
set_option maxHeartbeats 1000000 in
theorem kwhole_any (N : Nat) (hN : N < 16777216) (w : World) :
    Calls Tryz.prog 29 #[.int .i64 ((fB N 1 : Nat) : Int)] w fun e w' => e = .returned (.int .i64 N) ∧ w' = w := by
  by_cases h0 : N = 0
  · subst h0
    rw [fB_zero]
    go_enter Tryz.func29, Tryz.ntmps29
    go_wp2_with fail
    go_ret
    exact ⟨rfl, rfl⟩
  · obtain ⟨e, m, he, hb, hm1, hm2, hm⟩ := whole_form (Nat.pos_of_ne_zero h0) hN
    rw [hb]
    generalize hbb : (e + 126) * 8388608 + m = b
    have hd : (b : Int) / 8388608 = (e : Int) + 127 := by omega
    have hr : (b : Int) % 8388608 = (m : Int) - 8388608 := by omega
    have hbn : ((b : Int) == 0) = false := by simp; omega
    have hbs : (b : Int) < 4294967296 := by omega
    have HM := hide hm
    have i1 : (8388608 : Int) ≤ m := by omega
    have i2 : (m : Int) < 16777216 := by omega
    have i3 : (e : Int) ≤ 23 := by omega
    have j4 : ¬ (b : Int) / 8388608 - 127 < 0 := by omega
    have j5 : ¬ (23 : Int) < (b : Int) / 8388608 - 127 := by omega
    clear hbb hb hm hm1 hm2 hN h0
    go_enter Tryz.func29, Tryz.ntmps29
    go_upto_region 5 with fail
    have HI := hide (⟨i1, i2⟩ : (8388608 : Int) ≤ m ∧ (m : Int) < 16777216)
    have k1 : ¬ (e : Int) < 0 := by omega
    have k2 : ¬ (23 : Int) < (e : Int) := by omega
    clear hd hr hbn hbs i1 i2 j4 j5 i3
    go_wp2_with fail
    go_loopw [4, 5] (fun m' k wr => wr = w ∧ ∃ i a : Nat, a = N * 2 ^ (i - e) ∧ m' = .int .i64 a ∧ k = .int .i64 i ∧ e ≤ i ∧ i ≤ 23 ∧ (a : Int) < 16777216) (fun _ k _ => (intOf k).toNat)
    case atStart => exact ⟨rfl, 23, m, unhide HM, rfl, rfl, he, Nat.le_refl _, (unhide HI).2⟩
    case round =>
      obtain ⟨rfl, i, a, ha, rfl, rfl, hi, hi2, has⟩ := hrel
      have HA := hide ha
      clear ha
      by_cases hlt : e < i
      · have hli : (e : Int) < (i : Int) := by omega
        have hev : a % 2 = 0 ∧ a / 2 = N * 2 ^ (i - 1 - e) := by
          have e1 : a = 2 * (N * 2 ^ (i - 1 - e)) := by
            rw [unhide HA, show i - e = (i - 1 - e) + 1 by omega, Nat.pow_succ]
            ac_rfl
          omega
        have hev2 : (((a : Int) % 2) == 1) = false := by
          rw [beq_eq_false_iff_ne]
          omega
        have HV := hide hev.2
        clear hev
        go_wp2_with fail
        go_roundw
        case rel => exact ⟨trivial, i - 1, a / 2, unhide HV, by go_num, by go_num, by omega, by omega, by omega⟩
        case measure => simp [intOf]; omega
      · have hli : ¬ (e : Int) < (i : Int) := by omega
        have ha0 : a = N := by
          rw [unhide HA, show i - e = 0 by omega]
          simp
        subst ha0
        go_wp2_with fail
        go_ret
        exact ⟨rfl, rfl⟩

/-- what one tells -/
def OneP (w : World) (v : Nat) (e : Ending) (w' : World) : Prop := e = .returned (.int .i64 v) ∧ Below w.heap.size w w'

set_option maxRecDepth 10000 in
set_option maxHeartbeats 1000000 in
theorem one_any {w0 w : World} {F : Nat → Prop} {p : Nat} {S : List Strm} {L : List Rw} (l : List UInt8) (at_ : Int) (v : Nat) (h : KeepAt w0 w F p S L) (hl : l.length ≤ 200) (hg : Glob w0) (hE : measE l at_ = (0, 0)) (hA : OneA (measA l at_ L) v) :
    Calls Tryz.prog 27 #[.pointer (some ⟨p, 0, none⟩), .string ⟨l.toArray⟩, .int .i64 at_] w (OneP w v) := by
  have hm := kmeas_any l at_ h (by omega) hg
  rw [hE] at hm
  obtain ⟨hv, hA⟩ := hA
  go_enter Tryz.func27, Tryz.ntmps27
  go_wp2_with fail
  refine hm.mono ?_
  rintro e w1 ⟨v1, rfl, hown, hb⟩
  clear hm h
  have HB := hide hb
  clear hb
  rcases hA with ⟨hR, rfl⟩ | hR
  · rw [hR] at hown
    obtain ⟨ao, cap, rfl, -, -, -, -, -, -⟩ := owns_form hown
    clear hown hR
    go_wp2_with fail
    go_ret
    exact ⟨rfl, unhide HB⟩
  · rw [hR] at hown
    obtain ⟨g, cap, rfl, -, -, -, -, k, -⟩ := owns_open hown (by simp)
    have c0 : w1.cell? ⟨g, 0, none⟩ = some (SV []) := k 0 (by simp)
    have c1 : w1.cell? ⟨g, 1, none⟩ = some (.int .i64 (fB v 1 : Nat)) := k 1 (by simp)
    have hw := kwhole_any v hv w1
    clear hown hR k hv hE
    generalize fB v 1 = b at *
    go_wp2_with fail
    refine hw.mono ?_
    rintro e w' ⟨rfl, hww⟩
    rw [hww]
    clear hww w' hw
    go_wp2_with fail
    go_ret
    exact ⟨rfl, unhide HB⟩

end Go.Proofs.YtbljamcdaoofbaaGreatDoor

/- Digits of a number; what is asked for is a permutation of what is wanted. -/
namespace Go.Proofs.YtbljamcdaoofbaaGreatDoor
open Go.RowKit

def spanF (a : Nat) (s : List UInt8) : Nat := s.foldl (fun n c => min (10 * n + (c.toNat - 48)) 1000001) a

theorem dig_c : ∀ d, d < 10 → (48 + UInt8.ofNat d).toNat = 48 + d ∧ isD (48 + UInt8.ofNat d) = true := by decide

theorem wordGo_span : ∀ (f n : Nat) (s : List UInt8), n < f → n ≤ 1000000 → s ≠ [] → spanF 0 (wordGo f n s) = spanF n s
  | 0, n, s, h, _, _ => by omega
  | f + 1, n, s, h, hn, hs => by
    unfold wordGo
    by_cases h0 : 0 < n
    · rw [if_pos (.inl h0), wordGo_span f (n / 10) _ (by omega) (by omega) (by simp)]
      have hc := (dig_c (n % 10) (by omega)).1
      show spanF (min (10 * (n / 10) + ((48 + UInt8.ofNat (n % 10)).toNat - 48)) 1000001) s = _
      rw [hc, show min (10 * (n / 10) + (48 + n % 10 - 48)) 1000001 = n by omega]
    · rw [if_neg (by simp [hs]; omega), show n = 0 by omega]

theorem wordGo_dig : ∀ (f n : Nat) (s : List UInt8), s.all isD = true → (wordGo f n s).all isD = true
  | 0, n, s, h => h
  | f + 1, n, s, h => by
    unfold wordGo
    split
    · refine wordGo_dig f _ _ ?_
      rw [List.all_cons, h, (dig_c (n % 10) (by omega)).2]
      rfl
    · exact h

theorem wordGo_ne : ∀ (f n : Nat) (s : List UInt8), s ≠ [] → wordGo f n s ≠ []
  | 0, n, s, h => h
  | f + 1, n, s, h => by
    unfold wordGo
    split
    · exact wordGo_ne f _ _ (by simp)
    · exact h

theorem dig_num {n : Nat} (hn : n ≤ 999999) : (digL n).all isD = true ∧ spanL (digL n) = n ∧ digL n ≠ [] ∧ (digL n).length ≤ 6 := by
  refine ⟨wordGo_dig _ _ _ rfl, ?_, ?_, digL_len n 5 (by omega)⟩
  · show spanF 0 (wordGo (n + 1 + 1) n []) = n
    rw [wordGo, if_pos (.inr rfl), wordGo_span _ _ _ (by omega) (by omega) (by simp)]
    have hc := (dig_c (n % 10) (by omega)).1
    show min (10 * (n / 10) + ((48 + UInt8.ofNat (n % 10)).toNat - 48)) 1000001 = n
    rw [hc]
    omega
  · show wordGo (n + 1 + 1) n [] ≠ []
    rw [wordGo, if_pos (.inr rfl)]
    exact wordGo_ne _ _ _ (by simp)

theorem num_dig {n : Nat} (hn : n ≤ 999999) : numB (digL n) = true ∧ numV (digL n) = n := by
  obtain ⟨h1, h2, h3, h4⟩ := dig_num hn
  have hd : (digL n).head? ≠ some 45 := by
    cases e : digL n with
    | nil => simp
    | cons c r =>
      rw [e, List.all_cons, Bool.and_eq_true] at h1
      rintro ⟨⟩
      exact absurd h1.1 (by decide)
  have hs : numS (digL n) = digL n := by unfold numS; rw [if_neg hd]
  have hB : numB (digL n) = true := by
    unfold numB
    rw [hs, h1]
    have : 1 ≤ (digL n).length := by
      cases e : digL n with
      | nil => exact absurd e h3
      | cons c r => simp
    simp [this, h4]
  refine ⟨hB, ?_⟩
  unfold numV
  rw [if_pos hB, if_neg hd, hs, h2]

theorem insR_perm (o : List Rw) (r : Rw) : (insR o r).Perm (r :: o) := by
  unfold insR
  rw [List.append_assoc, List.singleton_append]
  refine List.perm_middle.trans ?_
  rw [List.take_append_drop]

theorem asked_perm (M : List Mch) (Fs : List Flt) (fr tt : Int) (L : List Rw) : (askedL M Fs fr tt L).Perm (L.filter (wantB M Fs fr tt)) := by
  have h : ∀ (L out : List Rw), (L.foldl (fun out r => if wantB M Fs fr tt r = true then insR out r else out) out).Perm (out ++ L.filter (wantB M Fs fr tt)) := by
    intro L
    induction L with
    | nil => intro out; rw [List.foldl_nil, List.filter_nil, List.append_nil]
    | cons r L ih =>
      intro out
      rw [List.foldl_cons]
      refine (ih _).trans ?_
      by_cases hw : wantB M Fs fr tt r = true
      · rw [if_pos hw, List.filter_cons_of_pos hw]
        refine ((insR_perm out r).append_right _).trans ?_
        exact List.perm_middle.symm
      · rw [if_neg hw, List.filter_cons_of_neg hw]
  exact h L []

theorem many_perm {A B : List Rw} (h : A.Perm B) : manyL A = manyL B := (h.filter _).length_eq
theorem sum_perm {A B : List Rw} (h : A.Perm B) : sumL A = sumL B := perm_sum (h.map _)
theorem bytes_perm {A B : List Rw} (h : A.Perm B) : bytesL A = bytesL B := (h.map _).sum_nat

end Go.Proofs.YtbljamcdaoofbaaGreatDoor

/- What Means keeps, and what its measures come to. -/
namespace Go.Proofs.YtbljamcdaoofbaaGreatDoor
open Go.RowKit

def abL : List UInt8 := [97, 61, 98]
def cdL : List UInt8 := [99, 61, 100]
def no77 : List UInt8 := [110, 111, 32, 55, 55]
def threeM (n i : Nat) : List Rw := [(abL, 5, digL (n + i + 1000)), (abL, 5, digL (n + 1000 - i)), (abL, 5, no77)]
def mA (n k : Nat) : List Rw := (List.range k).flatMap (threeM n)
def sA (k : Nat) : List Strm := if k = 0 then [] else [(abL, 5)]
def mB (c r : Nat) : List Rw := (List.range r).flatMap (fun t => List.replicate c (cdL, ((t + 1 : Nat) : Int), [120]))

theorem mA_succ (n i : Nat) : mA n (i + 1) = mA n i ++ threeM n i := by
  unfold mA
  rw [List.range_succ, List.flatMap_append]
  simp
theorem mB_succ (c r : Nat) : mB c (r + 1) = mB c r ++ List.replicate c (cdL, ((r + 1 : Nat) : Int), [120]) := by
  unfold mB
  rw [List.range_succ, List.flatMap_append]
  simp

theorem mA_len (n k : Nat) : (mA n k).length = 3 * k := by
  induction k with
  | zero => rfl
  | succ k ih => rw [mA_succ, List.length_append, ih]; simp [threeM]; omega
theorem mB_len (c r : Nat) : (mB c r).length = r * c := by
  induction r with
  | zero => simp [mB]
  | succ r ih => rw [mB_succ, List.length_append, ih, List.length_replicate, Nat.succ_mul]

theorem push_new {S : List Strm} {L : List Rw} {l x : List UInt8} {t : Int} (hl : labelsB l = true) (ht : 0 ≤ t) (ht2 : t ≤ 1000000) (hx : x.length ≤ 40) (hS : ∀ y ∈ S, y.1 ≠ l) (h6 : S.length < 6) (hL : L.length < 300) : pushR S L l t x = (0, S ++ [(l, t)], L ++ [(l, t, x)]) := by
  have ha : ¬ at_ S l < S.length := by
    unfold at_
    rw [List.findIdx_lt_length]
    rintro ⟨y, hy, e⟩
    exact hS y hy (by simpa using e)
  unfold pushR
  rw [if_neg (by simp [hl]), if_neg (by simp [timeB, ht, ht2]), if_neg (by omega), dif_neg ha, if_neg (by omega), if_neg (by omega)]

theorem push_old {S : List Strm} {L : List Rw} {l x : List UInt8} {t t0 : Int} (hl : labelsB l = true) (ht : 0 ≤ t) (ht2 : t ≤ 1000000) (hx : x.length ≤ 40) (hS : ∀ y ∈ S, y.1 ≠ l) (ht0 : t0 ≤ t) (hL : L.length < 300) : pushR (S ++ [(l, t0)]) L l t x = (0, S ++ [(l, t)], L ++ [(l, t, x)]) := by
  have ha : at_ (S ++ [(l, t0)]) l = S.length := by
    unfold at_
    rw [List.findIdx_append]
    have : ¬ S.findIdx (fun y => y.1 == l) < S.length := by
      rw [List.findIdx_lt_length]
      rintro ⟨y, hy, e⟩
      exact hS y hy (by simpa using e)
    rw [if_neg this]
    simp
  have hlt : at_ (S ++ [(l, t0)]) l < (S ++ [(l, t0)]).length := by rw [ha]; simp
  have he : (S ++ [(l, t0)])[at_ (S ++ [(l, t0)]) l] = (l, t0) := by
    simp only [ha]
    simp
  unfold pushR
  rw [if_neg (by simp [hl]), if_neg (by simp [timeB, ht, ht2]), if_neg (by omega), dif_pos hlt, he, if_neg (by simp; omega), if_neg (by omega), ha]
  simp

theorem ab_ok : labelsB abL = true := by kernel_rfl
theorem cd_ok : labelsB cdL = true := by kernel_rfl

/-- a line of the first stream -/
theorem push_a {k : Nat} {L : List Rw} {x : List UInt8} (hx : x.length ≤ 40) (hL : L.length < 300) : pushR (sA k) L abL 5 x = (0, sA 1, L ++ [(abL, 5, x)]) := by
  unfold sA
  by_cases h : k = 0
  · rw [if_pos h]
    exact push_new ab_ok (by decide) (by decide) hx (fun y hy => by simp at hy) (by decide) hL
  · rw [if_neg h]
    exact push_old (S := []) ab_ok (by decide) (by decide) hx (fun y hy => by simp at hy) (by decide) hL

/-- a line of the second -/
def sC (k : Nat) (t0 : Option Int) : List Strm := sA k ++ (match t0 with | none => [] | some t => [(cdL, t)])
theorem push_c {k : Nat} {t0 : Option Int} {L : List Rw} {t : Int} (h0 : ∀ x, t0 = some x → x ≤ t) (ht : 0 ≤ t) (ht2 : t ≤ 1000000) (hL : L.length < 300) : pushR (sC k t0) L cdL t [120] = (0, sC k (some t), L ++ [(cdL, t, [120])]) := by
  have hS : ∀ y ∈ sA k, y.1 ≠ cdL := by
    intro y hy
    unfold sA at hy
    split at hy
    · simp at hy
    · rw [List.mem_singleton.1 hy]
      decide
  have hlen : (sA k).length ≤ 1 := by unfold sA; split <;> simp
  unfold sC
  cases t0 with
  | none => rw [List.append_nil]; exact push_new cd_ok ht ht2 (by decide) hS (by omega) hL
  | some x => exact push_old cd_ok ht ht2 (by decide) hS (h0 x rfl) hL

theorem mA_mem {n k : Nat} {r : Rw} (h : r ∈ mA n k) : r.1 = abL ∧ r.2.1 = 5 := by
  obtain ⟨i, -, hr⟩ := List.mem_flatMap.1 h
  simp only [threeM, List.mem_cons, List.not_mem_nil, or_false] at hr
  rcases hr with rfl | rfl | rfl <;> exact ⟨rfl, rfl⟩
theorem mB_mem {c r : Nat} {x : Rw} (h : x ∈ mB c r) : x.1 = cdL ∧ 1 ≤ x.2.1 ∧ x.2.1 ≤ r ∧ x.2.2 = [120] := by
  obtain ⟨t, ht, hx⟩ := List.mem_flatMap.1 h
  have ht := List.mem_range.1 ht
  rw [(List.mem_replicate.1 hx).2]
  refine ⟨rfl, ?_, ?_, rfl⟩
  · show (1 : Int) ≤ ((t + 1 : Nat) : Int); omega
  · show ((t + 1 : Nat) : Int) ≤ r; omega

theorem no77_b : numB no77 = false := by kernel_rfl
theorem x_b : numB [120] = false := by kernel_rfl

theorem mA_many (n k : Nat) (hn : n ≤ 9000) (hk : k ≤ 20) : manyL (mA n k) = 2 * k := by
  induction k with
  | zero => rfl
  | succ k ih =>
    have h1 := (num_dig (n := n + k + 1000) (by omega)).1
    have h2 := (num_dig (n := n + 1000 - k) (by omega)).1
    rw [mA_succ]
    unfold manyL at ih ⊢
    rw [List.filter_append, List.length_append, ih (by omega)]
    simp [threeM, h1, h2, no77_b]
    omega

theorem mA_sum (n k : Nat) (hn : n ≤ 9000) (hk : k ≤ 20) : sumL (mA n k) = ((2 * k * (n + 1000) : Nat) : Int) := by
  induction k with
  | zero => simp [mA, sumL]
  | succ k ih =>
    have h1 := (num_dig (n := n + k + 1000) (by omega)).2
    have h2 := (num_dig (n := n + 1000 - k) (by omega)).2
    rw [mA_succ]
    unfold sumL at ih ⊢
    rw [List.map_append, List.sum_append, ih (by omega)]
    simp only [threeM, List.map_cons, List.map_nil, List.sum_cons, List.sum_nil, h1, h2, numV_zero no77_b]
    rw [show 2 * (k + 1) * (n + 1000) = 2 * k * (n + 1000) + 2 * (n + 1000) by rw [Nat.mul_add 2 k 1, Nat.add_mul]]
    omega

theorem mB_many (c r : Nat) : manyL (mB c r) = 0 := by
  unfold manyL
  rw [List.length_eq_zero_iff, List.filter_eq_nil_iff]
  intro x hx
  rw [(mB_mem hx).2.2.2, x_b]
  simp

def mchA : Mch := ⟨[97], [98], false⟩
def mchC : Mch := ⟨[99], [100], false⟩

theorem okA : okM abL mchA = true := by kernel_rfl
theorem okC : okM cdL mchC = true := by kernel_rfl
theorem okAC : okM abL mchC = false := by kernel_rfl

theorem want_a {n k : Nat} : (mA n k).filter (wantB [mchA] [] 1 6) = mA n k := by
  rw [List.filter_eq_self]
  intro r hr
  obtain ⟨h1, h2⟩ := mA_mem hr
  unfold wantB asksB
  rw [h1, h2]
  simp [okA]

theorem want_c {n k c r : Nat} : (mA n k ++ mB c r).filter (wantB [mchC] [] 1 (r + 1)) = mB c r := by
  rw [List.filter_append, List.filter_eq_nil_iff.2, List.nil_append, List.filter_eq_self]
  · intro x hx
    obtain ⟨h1, h2, h3, -⟩ := mB_mem hx
    unfold wantB asksB
    rw [h1]
    simp [okC]
    omega
  · intro x hx
    obtain ⟨h1, h2⟩ := mA_mem hx
    unfold wantB asksB
    rw [h1]
    simp [okAC]

def qMa : List UInt8 := [109, 101, 97, 110, 40, 123, 97, 61, 34, 98, 34, 125, 91, 53, 93, 41]
theorem pMa : parseL qMa = (16, true, ⟨[mchA], [], meanT, 5, []⟩) := by
  rw [parseF_eq]
  kernel_rfl
theorem eMa : measE qMa 5 = (0, 0) := measE_ok (q := ⟨[mchA], [], meanT, 5, []⟩) (by decide) (by rw [pMa]) (by decide) (by decide) (by decide)

theorem oneMa (n k : Nat) (hn : n ≤ 9000) (hk : k ≤ 20) : OneA (measA qMa 5 (mA n k)) (if k = 0 then 0 else n + 1000) := by
  rw [measA_ask eMa, pMa]
  simp only
  have hp := asked_perm [mchA] [] (5 - (5 : Int) + 1) (5 + 1) (mA n k)
  have e : (5 - (5 : Int) + 1) = 1 ∧ ((5 : Int) + 1) = 6 := by decide
  have hp' : (askQ ⟨[mchA], [], meanT, 5, []⟩ 5 (mA n k)).Perm (mA n k) := by
    rw [e.1, e.2, want_a] at hp
    exact hp
  have h1 := many_perm hp'
  have h2 := sum_perm hp'
  rw [mA_many n k hn hk] at h1
  rw [mA_sum n k hn hk] at h2
  split
  · rename_i h0
    exact one_mean_none rfl rfl (by rw [h1, h0])
  · rename_i h0
    have hb : 2 * k * (n + 1000) ≤ 40 * 10000 := Nat.mul_le_mul (by omega) (by omega)
    exact one_mean rfl rfl (by omega) (by omega) (by rw [h2, h1]) (by rw [h1]; omega)

/-- rate or mean of the second stream -/
def qC (kind d : List UInt8) : List UInt8 := kind ++ 40 :: 123 :: ([99] ++ 61 :: 34 :: ([100] ++ 34 :: 125 :: 91 :: (d ++ 93 :: [41])))

theorem pC {kind d : List UInt8} {r : Nat} (hk : kind = rateT ∨ kind = meanT) (hd : d.all isD = true) (hn : d ≠ []) (hs : spanL d = r) (h1 : 1 ≤ r) (h2 : r ≤ 1000000) : (parseL (qC kind d)).2 = (true, ⟨[mchC], [], kind, r, []⟩) := by
  have hkw : kind ≠ [] ∧ kind.all isL = true ∧ measB kind = true := by rcases hk with rfl | rfl <;> decide
  have ht : ∃ p1 p2 p3 p4 p5 p6 p7 p8 p9 p10 p11, TokR (qC kind d) 0 [⟨0, 0, kind⟩, ⟨3, p1, [40]⟩, ⟨3, p2, [123]⟩, ⟨0, p3, [99]⟩, ⟨3, p4, [61]⟩, ⟨2, p5, [100]⟩, ⟨3, p6, [125]⟩, ⟨3, p7, [91]⟩, ⟨1, p8, d⟩, ⟨3, p9, [93]⟩, ⟨3, p10, [41]⟩, ⟨4, p11, []⟩] :=
    ⟨_, _, _, _, _, _, _, _, _, _, _, TokR.word hkw.1 hkw.2.1 (fun c hc => by cases hc; decide) (TokR.mark (by decide) (TokR.mark (by decide) (TokR.word (by decide) (by decide) (fun c hc => by cases hc; decide) (TokR.mark (by decide) (TokR.str (by decide) (TokR.mark (by decide) (TokR.mark (by decide) (TokR.num hn hd (fun c hc => by cases hc; decide) (TokR.mark (by decide) (TokR.mark (by decide) (TokR.fin _)))))))))))⟩
  obtain ⟨p1, p2, p3, p4, p5, p6, p7, p8, p9, p10, p11, ht⟩ := ht
  rw [ht.parse]
  exact meas_of (j := 7) (e := 11) rfl hkw.2.2 rfl rfl rfl rfl hs h1 h2 rfl rfl rfl rfl

theorem qC_len {kind d : List UInt8} (hk : kind = rateT ∨ kind = meanT) (hd : d.length ≤ 6) : (qC kind d).length ≤ 200 := by
  have : kind.length ≤ 4 := by rcases hk with rfl | rfl <;> decide
  unfold qC
  simp
  omega

theorem eC {kind : List UInt8} {r : Nat} (hk : kind = rateT ∨ kind = meanT) (h1 : 1 ≤ r) (h2 : r ≤ 10) : measE (qC kind (digL r)) r = (0, 0) ∧ (parseL (qC kind (digL r))).2 = (true, ⟨[mchC], [], kind, r, []⟩) := by
  obtain ⟨d1, d2, d3, d4⟩ := dig_num (n := r) (by omega)
  have hp := pC hk d1 d3 d2 h1 (by omega)
  refine ⟨measE_ok (q := ⟨[mchC], [], kind, r, []⟩) (qC_len hk d4) hp ?_ (by omega) (by omega), hp⟩
  show kind ≠ []
  rcases hk with rfl | rfl <;> decide

theorem askC (n k c r : Nat) (kind : List UInt8) : (askQ ⟨[mchC], [], kind, r, []⟩ r (mA n k ++ mB c r)).Perm (mB c r) := by
  have hp := asked_perm [mchC] [] ((r : Int) - (r : Int) + 1) ((r : Int) + 1) (mA n k ++ mB c r)
  rw [show (r : Int) - (r : Int) + 1 = 1 by omega, want_c] at hp
  unfold askQ
  simp only
  rw [show (r : Int) - (r : Int) + 1 = 1 by omega]
  exact hp

theorem oneC_rate (n k c r : Nat) (h1 : 1 ≤ r) (h2 : r ≤ 10) (hc : c ≤ 20) : OneA (measA (qC rateT (digL r)) r (mA n k ++ mB c r)) c := by
  obtain ⟨e1, e2⟩ := eC (.inl rfl) h1 h2
  rw [measA_ask e1, e2]
  exact one_rate rfl rfl (by omega) h1 ((askC n k c r rateT).length_eq.trans (mB_len c r))

theorem oneC_mean (n k c r : Nat) (h1 : 1 ≤ r) (h2 : r ≤ 10) : OneA (measA (qC meanT (digL r)) r (mA n k ++ mB c r)) 0 := by
  obtain ⟨e1, e2⟩ := eC (.inr rfl) h1 h2
  rw [measA_ask e1, e2]
  exact one_mean_none rfl rfl ((many_perm (askC n k c r meanT)).trans (mB_many c r))

end Go.Proofs.YtbljamcdaoofbaaGreatDoor
