/- Texts PMAll, KMeas, KMsr, joined. -/
import Derived.Test.YtbljamcdaoofbaaGreatDoorRefMeasToPMWalk
import Derived.Deep.RegionLaw
import Derived.Test.YtbljamcdaoofbaaGreatDoorKToldToFloatDiv
import Derived.Test.YtbljamcdaoofbaaGreatDoorFloatWordToMeasSpec
/- The program's Measure. -/
namespace Go.Proofs.YtbljamcdaoofbaaGreatDoor
open Go.RowKit

theorem measE_check {l : List UInt8} {at_ : Int} (h1 : l.length ≤ 200) (h2 : (parseL l).2.1 = true) : measE l at_ = (checkME (parseL l).2.2 at_, 0) := by
  unfold measE checkME
  rw [if_neg (by omega), if_neg (by simp [h2])]
  repeat' split
  all_goals rfl

theorem checkME_ok {q : Qry} {at_ : Int} (h : checkME q at_ = 0) : (q.meas == []) = false ∧ 0 ≤ at_ ∧ at_ ≤ 1000000 := by
  unfold checkME at h
  split at h
  · cases h
  · rename_i hm
    split at h
    · cases h
    · rename_i ht
      refine ⟨by simpa using hm, ?_⟩
      simpa [timeB] using ht

/-- the lines of a source, where they lie -/
theorem src_open {w : World} {base : Nat} {s : Src} (h : OkSrc w base s) : ∃ ao cap, s.vl = .slice ao s.lines.length cap ∧ s.lines.length ≤ s.lines.length ∧ (s.lines ≠ [] → ∃ g o, ao = some ⟨g, o, none⟩ ∧ s.lines.length ≤ cap ∧ s.lines.length ≤ 300 ∧ cap ≤ maxLen ∧ g < base ∧ ∀ j, j < s.lines.length * 2 → w.cell? ⟨g, o + j, none⟩ = (s.lines.flatMap cellsN)[j]?) := by
  obtain ⟨⟨ao, cap, e⟩, hl⟩ := h
  refine ⟨ao, cap, e, Nat.le_refl _, fun hn => ?_⟩
  obtain ⟨g, o, cap', e', h2, hlm, h3, h5, h6⟩ := hl hn
  rw [e] at e'
  simp only [Value.slice.injEq, true_and] at e'
  obtain ⟨rfl, rfl⟩ := e'
  exact ⟨g, o, rfl, h2, hlm, h3, h5, h6⟩

set_option maxRecDepth 10000 in
set_option maxHeartbeats 4000000 in
theorem pMeas_any {w : World} {F : Nat → Prop} {p : Nat} {ns : List Node} {va : Value} {S : List Strm} {L : List Rw} (l : List UInt8) (at_ : Int) (h : StoreAt w F p ns va) (hrel : RelA (ns.map absN) S L) (hf : Fine S L) (hl : l.length ≤ 1048576) (hE : ErrAt w) (hG : MaxAt w) (h8 : 8 ≤ w.heap.size) :
    Calls Tryz.prog 28 #[.pointer (some ⟨p, 0, none⟩), .string ⟨l.toArray⟩, .int .i64 at_] w (MeasP3 w (measA l at_ L) (measE l at_).1 (measE l at_).2) := by
  have hrd := lread_any l w hl hE h8
  have HH := hide h
  have HREL := hide hrel
  have HFI := hide hf
  have HNF := hide (NodesFine.of hrel hf)
  have HG := hide hG
  clear h hrel hf hG hE
  go_enter Tryz.func28, Tryz.ntmps28
  go_wp2_with fail
  refine hrd.mono ?_
  rintro e w1 ⟨hb1, hlong, hgood, hbad⟩
  clear hrd
  have HB1 := hide hb1
  clear hb1
  by_cases h2 : 200 < l.length
  · have he := hlong h2
    subst he
    have HE := hide (show measE l at_ = (7, 0) by unfold measE; rw [if_pos h2])
    clear hlong hgood hbad
    go_wp2_with fail
    go_ret3
    exact MeasP3.ers (unhide HE) (by decide) (unhide HB1)
  · have h2' : l.length ≤ 200 := by omega
    cases hp : (parseL l).2.1 with
    | false =>
      have he := hbad h2' hp
      subst he
      have HE := hide (show measE l at_ = ((8 : Int), ((parseL l).1 : Int)) by unfold measE; rw [if_neg h2, if_pos hp])
      clear hlong hgood hbad
      go_wp2_with fail
      go_ret3
      exact MeasP3.ers (unhide HE) (by decide) (unhide HB1)
    | true =>
      obtain ⟨rb, vm, vf, he, hq⟩ := hgood h2' hp
      subst he
      have hce := measE_check (at_ := at_) h2' hp
      have hck := checkMeasure_any at_ hq
      have HQ := hide hq
      obtain ⟨-, -, s3⟩ := parse_small l h2'
      have HS3 := hide s3
      clear hlong hgood hbad hq s3
      go_wp2_with fail
      refine hck.mono ?_
      rintro e w2 ⟨rfl, rfl⟩
      clear hck
      by_cases hc : checkME (parseL l).2.2 at_ = 0
      · obtain ⟨hm0, ht1, ht2⟩ := checkME_ok hc
        obtain ⟨sp1, sp2⟩ := meas_span l hm0
        have HMK := hide (meas_kind l hm0)
        have HA := hide (show measA l at_ L = smpsL (parseL l).2.2 (askedL (parseL l).2.2.ms (parseL l).2.2.fs (at_ - (parseL l).2.2.span + 1) (at_ + 1) L) (keysL (parseL l).2.2.by_ (askedL (parseL l).2.2.ms (parseL l).2.2.fs (at_ - (parseL l).2.2.span + 1) (at_ + 1) L)) by unfold measA; rw [hce, hc, if_pos rfl])
        rw [hc] at hce
        have HE := hide hce
        clear hce hm0
        rw [hc]
        clear hc hp
        have hsz1 := (unhide HB1).size
        have hst1 := (unhide HH).keep (w' := w2) (fun b hb _ => (unhide HB1).block b hb)
        have HST := hide hst1
        have HMX := hide ((unhide HG).below h8 (unhide HB1))
        clear hst1 HH HG
        generalize hqq : (parseL l).2.2 = q at *
        have HQQ := hide hqq
        clear hqq
        obtain ⟨v0, hblk⟩ := (unhide HQ).block
        obtain ⟨-, c1, c2, c3, -, -, -⟩ := cell_of_block6 hblk
        have hrbw := (Array.getElem?_eq_some_iff.1 hblk).1
        have HBK := hide hblk
        clear hblk
        have hgn := gnew_any q.meas q.span w2.drew
        go_upto_region 7 with fail
        go_region_law (go_simp; go_at_call 52; refine hgn.mono ?_; rintro e w3 ⟨rfl, hG3, hb3⟩; dsimp only)
        all_goals
          have hb3' : Below w2.heap.size w2 w3 := ⟨hb3.os, hb3.tape, hb3.output, hb3.size, hb3.block⟩
          have HG3 : Hid (GroupsAt w3 w2.heap.size w2.heap.size q.meas q.span (.slice none 0 0) []) := hG3
          have HB3 := hide hb3'
          have d2 : w3.cell? ⟨rb, 2, none⟩ = some (.int .i64 q.span) := (hb3'.cell (p := ⟨rb, 2, none⟩) hrbw).trans c2
          have hsz3 := hb3'.size
          have hgb3 : w2.heap.size < w3.heap.size := (Array.getElem?_eq_some_iff.1 (unhide HG3).block).1
          have hso := sources_any (at_ - q.span + 1) (at_ + 1) ((unhide HST).keep (w' := w3) (fun b hb _ => hb3'.block b hb)) (unhide HNF) ((unhide HQ).below hb3') (unhide HS3) ((unhide HMX).below (by omega) hb3') (by omega)
          clear hgn hG3 hb3 hb3' c1 c2
          go_wp2_with fail
          refine hso.mono ?_
          rintro e w4 ⟨v4, srcs, rfl, hI4, hss⟩
          clear hso d2
          have hsf := SrcFine.of (unhide HREL) (unhide HFI) q _ _ srcs hss
          have hb4 := hI4.bel
          have hG4 := (unhide HG3).below hb4
          have hMW := MW.start hG4
          have hsz4 := hb4.size
          have e3 : w4.cell? ⟨rb, 3, none⟩ = some (SV q.by_) := (hb4.cell (p := ⟨rb, 3, none⟩) (by show rb < _; omega)).trans (((unhide HB3).cell (p := ⟨rb, 3, none⟩) hrbw).trans c3)
          have hoks := hI4.oks
          obtain ⟨ao, cap, rfl, hnc, hcm, hnil, hao, hcell, -⟩ := owns_form hI4.row
          have hgne : ∀ a, ao = some a → a.block ≠ w2.heap.size := fun a ha => by
            have := (hI4.row.lt a.block (by rw [ha]; rfl)).1
            omega
          have h6 := hsf.six
          have HSS := hide hss
          have HSF := hide hsf
          have HB4 := hide hb4
          have HG4 := hide hG4.block
          have HMW := hide hMW
          have HOK := hide hoks
          have HN := hide hnil
          have HAO := hide hao
          have HC := hide hcell
          have HGN := hide hgne
          clear hss hsf hb4 hG4 hMW hoks hnil hao hcell hgne hI4 c3
          go_wp2_with fail
          go_loopw [57] (fun i wr => ∃ k : Nat, k ≤ srcs.length ∧ i = .int .i64 k ∧ Hid (MW w4 w2.heap.size q.meas q.span (pairsL q.meas q.by_ (srcs.take k)) wr)) (fun i _ => srcs.length - (intOf i).toNat)
          case atStart => exact ⟨0, Nat.zero_le _, rfl, HMW⟩
          case round =>
            clear HMW
            obtain ⟨k, hk, rfl, HM⟩ := hrel
            by_cases hlt : k < srcs.length
            · obtain ⟨⟨g, o, sp⟩, rfl⟩ : ∃ a, ao = some a := by
                cases ao with
                | none => have := (unhide HN rfl).1; omega
                | some a => exact ⟨a, rfl⟩
              obtain ⟨ho, hsp, -, hgw⟩ := unhide HAO _ rfl
              simp only at ho hsp hgw
              subst ho hsp
              have hgn2 : g ≠ w2.heap.size := unhide HGN ⟨g, 0, none⟩ rfl
              obtain ⟨e0, e1⟩ := cellsQ_at srcs k hlt
              have m0 := (((unhide HM).cell (a := ⟨g, k * 2, none⟩) hgw hgn2).trans (unhide HC _ rfl _ (by omega))).trans e0
              have m1 := (((unhide HM).cell (a := ⟨g, k * 2 + 1, none⟩) hgw hgn2).trans (unhide HC _ rfl _ (by omega))).trans e1
              have m3 : wr.cell? ⟨rb, 3, none⟩ = some (SV q.by_) := ((unhide HM).cell (a := ⟨rb, 3, none⟩) (by show rb < _; omega) (by show rb ≠ _; omega)).trans e3
              clear e0 e1
              have hlab := (unhide HSF).labs _ (List.getElem_mem hlt)
              have hlin := (unhide HSF).lines _ (List.getElem_mem hlt)
              have HPL := hide (pairsL_snoc q.meas q.by_ srcs k hlt)
              have HLT := hide (fun j hj => pairs_lt q.meas q.by_ (valueP q.by_ (cutL 44 srcs[k].lab)) srcs k j (unhide HSF).cnt hlt hj)
              obtain ⟨al, cl, hvl, -, hln⟩ := src_open (unhide HOK _ (List.getElem_mem hlt))
              rw [hvl] at m1
              have HLN := hide hln
              have hszr := (unhide HM).size
              clear hvl hln
              generalize srcs[k] = s at *
              obtain ⟨lab, lines, vl⟩ := s
              simp only at m0 m1 hlab hlin HPL HLT HLN
              generalize pairsL q.meas q.by_ (srcs.take k) = P at *
              go_upto_region 11 with fail
              have hbx : Below wr.heap.size wr (wr.alloc (.cells #[SV lab, .slice al lines.length cl] 105)) := (Below.refl _ wr).alloc (Nat.le_refl _) _
              have hbox := heap_alloc_new wr (.cells #[SV lab, .slice al lines.length cl] 105)
              have hM1 := (unhide HM).below hbx
              have hszW : wr.heap.size < (wr.alloc (.cells #[SV lab, .slice al lines.length cl] 105)).heap.size := by simp
              have n3 : (wr.alloc (.cells #[SV lab, .slice al lines.length cl] 105)).cell? ⟨rb, 3, none⟩ = some (SV q.by_) := (hbx.cell (p := ⟨rb, 3, none⟩) (by show rb < _; omega)).trans m3
              obtain ⟨x0, x1, -⟩ := cell_of_block2 hbox
              have HM1 := hide hM1
              clear hbx hbox hM1 HM m0 m1 m3
              generalize wr.alloc (.cells #[SV lab, .slice al lines.length cl] 105) = W at *
              generalize wr.heap.size = bx at *
              have hva := pvalue_in lab q.by_ W.drew hlab.2
              go_region_law (go_simp; go_at_call 53; refine hva.mono ?_; rintro e w5 ⟨rfl, hb5⟩; dsimp only)
              all_goals
                have hb5' : Below W.heap.size W w5 := ⟨hb5.os, hb5.tape, hb5.output, hb5.size, hb5.block⟩
                have y1 := (hb5'.cell (p := ⟨bx, 1, none⟩) hszW).trans x1
                have HM5 := hide ((unhide HM1).below hb5')
                clear hva hb5 hb5' x0 x1 n3 HM1
                generalize valueP q.by_ (cutL 44 lab) = key at *
                go_wp2_with fail
                rename World => wA
                go_loopw [71] (fun i wr => ∃ j : Nat, j ≤ lines.length ∧ i = .int .i64 j ∧ Hid (MW w4 w2.heap.size q.meas q.span (P ++ pairS q.meas key (lines.take j)) wr)) (fun i _ => lines.length - (intOf i).toNat)
                case atStart => exact ⟨0, Nat.zero_le _, rfl, hide (by rw [List.take_zero, show pairS q.meas key [] = [] from rfl, List.append_nil]; exact unhide HM5)⟩
                case round =>
                  clear HM5 y1
                  obtain ⟨j, hj, rfl, HMj⟩ := hrel
                  by_cases hjl : j < lines.length
                  · have hne : lines ≠ [] := by rintro rfl; simp at hjl
                    obtain ⟨gl, ol, rfl, hlc, hl3, hlm, hgl, hcl⟩ := unhide HLN hne
                    have hgln := lines_ne (s := ⟨lab, lines, vl⟩) (unhide HG4) hne hcl
                    obtain ⟨f0, f1⟩ := cellsN_at lines j hjl
                    have l0 := (((unhide HMj).cell (a := ⟨gl, ol + j * 2, none⟩) hgl hgln).trans (hcl (j * 2) (by omega))).trans f0
                    have l1 := (((unhide HMj).cell (a := ⟨gl, ol + j * 2 + 1, none⟩) hgl hgln).trans (hcl (j * 2 + 1) (by omega))).trans f1
                    have hlj := hlin lines[j] (List.getElem_mem hjl)
                    have HPS := hide (pairS_snoc q.meas key lines j hjl)
                    have hPl := unhide HLT j hjl
                    unfold maxLen at hlm
                    clear f0 f1 hcl
                    generalize lines[j] = ln at *
                    obtain ⟨lt, lx⟩ := ln
                    simp only at l0 l1 hlj HPS
                    have hbl : ∀ wX : World, Below wX.heap.size wX (wX.alloc (.cells #[.int .i64 lt, SV lx] 108)) := fun wX => (Below.refl _ wX).alloc (Nat.le_refl _) _
                    go_wp2_with fail
                    refine (madd_any key lx ((unhide HMj).below (hbl _)) hPl hlj).mono ?_
                    rintro e w6 ⟨rfl, hM6⟩
                    have HM6 := hide (show MW w4 w2.heap.size q.meas q.span (P ++ pairS q.meas key (lines.take (j + 1))) w6 from by
                      rw [unhide HPS, ← List.append_assoc]
                      exact hM6)
                    clear hM6 l0 l1
                    go_wp2_with fail
                    go_roundw
                    case rel => exact ⟨j + 1, by omega, by go_num, HM6⟩
                    case measure => simp [intOf]; omega
                  · have HMk := hide (show MW w4 w2.heap.size q.meas q.span (pairsL q.meas q.by_ (srcs.take (k + 1))) _ from by
                      have h1 := unhide HMj
                      rw [List.take_of_length_le (by omega)] at h1
                      rw [unhide HPL]
                      exact h1)
                    go_wp2_with fail
                    go_roundw
                    case rel => exact ⟨k + 1, by omega, by go_num, HMk⟩
                    case measure => simp [intOf]; omega
            · have hks : k = srcs.length := by omega
              subst hks
              obtain ⟨vg, gs, hGs, hOk, hMv⟩ := unhide HM
              rw [List.take_length] at hOk
              have hPn := Nat.le_trans (pairsL_len q.meas q.by_ srcs) (unhide HSF).cnt
              have hsm := samples_any hGs (by omega) (by omega) (by have := hOk.len; omega) (hOk.fit hPn)
              have HMS := hide (meas_same (unhide HREL) (unhide HFI) q _ _ srcs (unhide HSS) (unhide HMK) gs hOk)
              have HBR := hide ((unhide HM).bel (base := w2.heap.size) (Nat.le_refl _) (by omega))
              clear hGs hOk hMv
              go_wp2_with fail
              refine hsm.mono ?_
              rintro e w7 ⟨v7, rfl, hown7, hb7⟩
              clear hsm
              have HF := hide (show MeasP3 w (measA l at_ L) (measE l at_).1 (measE l at_).2 (.returned (.tuple #[v7, .int .i64 0, .int .i64 0])) w7 from by
                rw [unhide HE, unhide HA, unhide HMS]
                have hb23 := (unhide HB1).trans ((unhide HB3).mono hsz1)
                have hb24 := hb23.trans ((unhide HB4).mono hb23.size)
                have hb2r := hb24.trans ((unhide HBR).mono hsz1)
                refine ⟨v7, rfl, ?_, hb2r.trans (hb7.mono hb2r.size)⟩
                rw [List.length_map]
                exact ownsRow_base hown7 hb2r.size)
              clear hown7 hb7
              go_wp2_with fail
              go_ret3
              exact unhide HF
      · have HE := hide hce
        have HC := hide hc
        have hcb : (checkME (parseL l).2.2 at_ == 0) = false := by simpa using hc
        clear hce
        generalize checkME (parseL l).2.2 at_ = er at *
        go_wp2_with fail
        go_ret3
        exact MeasP3.ers (unhide HE) (unhide HC) (unhide HB1)

end Go.Proofs.YtbljamcdaoofbaaGreatDoor

/- A measure without by: one number, or none; loamkeep's Measure. -/
namespace Go.Proofs.YtbljamcdaoofbaaGreatDoor
open Go.RowKit

theorem kmeas_any {w0 w : World} {F : Nat → Prop} {p : Nat} {S : List Strm} {L : List Rw} (l : List UInt8) (at_ : Int) (h : KeepAt w0 w F p S L) (hl : l.length ≤ 1048576) (hg : Glob w0) :
    Calls Tryz.prog 28 #[.pointer (some ⟨p, 0, none⟩), .string ⟨l.toArray⟩, .int .i64 at_] w (MeasP3 w (measA l at_ L) (measE l at_).1 (measE l at_).2) := by
  obtain ⟨ns, va, hst, hrel⟩ := h.st
  have hg' := hg.base h.bel
  exact pMeas_any l at_ hst hrel h.fine hl hg'.1 hg'.2.1 hg'.2.2

theorem keys_none (T : List Rw) (h : T ≠ []) : keysL [] T = [[]] := by
  obtain ⟨k1, k2⟩ := keysL_ris [] T
  refine ris_ext k1 (by simp [Ris]) fun k => ?_
  rw [k2, List.mem_singleton]
  constructor
  · rintro ⟨r, -, e⟩; rw [← e]; simp [keyL]
  · rintro rfl
    obtain ⟨r, hr⟩ := List.exists_mem_of_ne_nil T h
    exact ⟨r, hr, by simp [keyL]⟩

theorem grp_none (T : List Rw) : grpL [] T [] = T := by
  unfold grpL
  exact List.filter_eq_self.2 fun r _ => by simp [keyL]

theorem smps_none (q : Qry) (T : List Rw) (hby : q.by_ = []) (h : T ≠ []) : smpsL q T (keysL q.by_ T) = match grpS q T with | some b => [([], b)] | none => [] := by
  unfold smpsL
  rw [hby, keys_none T h, List.filterMap_cons, grp_none, List.filterMap_nil]
  cases grpS q T <;> rfl

theorem smps_empty (q : Qry) : smpsL q [] (keysL q.by_ []) = [] := rfl

/-- what a measure without by tells: a whole number, or nothing -/
def OneA (R : List Smp) (v : Nat) : Prop := v < 16777216 ∧ ((R = [] ∧ v = 0) ∨ R = [([], fB v 1)])

theorem fB_lt {N : Nat} (h : N < 16777216) : fB N 1 < 2147483648 := by
  by_cases h0 : N = 0
  · rw [h0, fB_zero]; decide
  · obtain ⟨e, m, h1, h2, h3, h4, -⟩ := whole_form (Nat.pos_of_ne_zero h0) h
    rw [h2]
    omega

/-- the lines that a measure asks for -/
def askQ (q : Qry) (at_ : Int) (L : List Rw) : List Rw := askedL q.ms q.fs (at_ - q.span + 1) (at_ + 1) L

theorem measA_ask {l : List UInt8} {at_ : Int} {L : List Rw} (hE : measE l at_ = (0, 0)) : measA l at_ L = smpsL (parseL l).2.2 (askQ (parseL l).2.2 at_ L) (keysL (parseL l).2.2.by_ (askQ (parseL l).2.2 at_ L)) := by
  unfold measA
  rw [hE, if_pos rfl]
  rfl

theorem measE_ok {l : List UInt8} {at_ : Int} {q : Qry} (hl : l.length ≤ 200) (hp : (parseL l).2 = (true, q)) (hm : q.meas ≠ []) (ht : 0 ≤ at_) (ht2 : at_ ≤ 1000000) : measE l at_ = (0, 0) := by
  unfold measE
  rw [hp, if_neg (by omega), if_neg (by simp), if_neg (by simpa using hm), if_neg (by simp [timeB, ht, ht2])]

theorem one_count {q : Qry} {T : List Rw} (hm : q.meas = countT) (hby : q.by_ = []) (hT : T.length ≤ 300) : OneA (smpsL q T (keysL q.by_ T)) T.length := by
  refine ⟨by omega, ?_⟩
  by_cases h : T = []
  · left; rw [h]; exact ⟨rfl, rfl⟩
  · right
    rw [smps_none q T hby h]
    have : grpS q T = some (fB T.length 1) := by unfold grpS smpS; rw [if_pos hm]
    rw [this]

theorem one_bytes {q : Qry} {T : List Rw} (hm : q.meas = bytesT) (hby : q.by_ = []) (hT : T.length ≤ 300) (hl : ∀ r ∈ T, r.2.2.length ≤ 40) : OneA (smpsL q T (keysL q.by_ T)) (bytesL T) := by
  have hb := bytesL_le T hl
  refine ⟨by omega, ?_⟩
  by_cases h : T = []
  · left; rw [h]; exact ⟨rfl, rfl⟩
  · right
    rw [smps_none q T hby h]
    have : grpS q T = some (fB (bytesL T) 1) := by unfold grpS smpS; rw [hm, if_neg (by decide), if_neg (by decide), if_pos rfl]
    rw [this]

theorem one_rate {q : Qry} {T : List Rw} {c : Nat} (hm : q.meas = rateT) (hby : q.by_ = []) (hc : c < 16777216) (hs : 0 < q.span) (hT : T.length = q.span * c) : OneA (smpsL q T (keysL q.by_ T)) c := by
  refine ⟨hc, ?_⟩
  by_cases h : T = []
  · left
    rw [h] at hT ⊢
    refine ⟨rfl, ?_⟩
    rcases Nat.mul_eq_zero.1 hT.symm with e | e
    · omega
    · exact e
  · right
    rw [smps_none q T hby h]
    have : grpS q T = some (fB c 1) := by
      unfold grpS smpS
      rw [hm, if_neg (by decide), if_pos rfl, hT, fB_even hs (Nat.lt_trans hc (by decide))]
    rw [this]

theorem one_mean {q : Qry} {T : List Rw} {v : Nat} (hm : q.meas = meanT) (hby : q.by_ = []) (hv : v < 16777216) (h0 : 0 < manyL T) (hs : sumL T = ((manyL T * v : Nat) : Int)) (hb : manyL T * v < 16777216) : OneA (smpsL q T (keysL q.by_ T)) v := by
  refine ⟨hv, .inr ?_⟩
  have h : T ≠ [] := by rintro rfl; simp [manyL] at h0
  rw [smps_none q T hby h]
  have : grpS q T = some (fB v 1) := by
    unfold grpS smpS
    rw [hm, if_neg (by decide), if_neg (by decide), if_neg (by decide), if_neg (by omega), hs, if_neg (by omega), Int.toNat_natCast, whole_small hb, fB_even h0 (Nat.lt_trans hv (by decide))]
  rw [this]

theorem one_mean_none {q : Qry} {T : List Rw} (hm : q.meas = meanT) (hby : q.by_ = []) (h0 : manyL T = 0) : OneA (smpsL q T (keysL q.by_ T)) 0 := by
  refine ⟨by omega, .inl ⟨?_, rfl⟩⟩
  by_cases h : T = []
  · rw [h]; rfl
  · rw [smps_none q T hby h]
    have : grpS q T = none := by
      unfold grpS smpS
      rw [hm, if_neg (by decide), if_neg (by decide), if_neg (by decide), if_pos h0]
    rw [this]

end Go.Proofs.YtbljamcdaoofbaaGreatDoor

/- loamkeep's third example. -/
namespace Go.Proofs.YtbljamcdaoofbaaGreatDoor
open Go.RowKit

theorem two_f : fB 2 1 = 1073741824 := fB_eq (by decide) (by decide) ⟨127, 8388608, 1, by decide, by decide, by decide, by decide, by decide⟩
theorem one_f : fB 1 1 = 1065353216 := fB_eq (by decide) (by decide) ⟨126, 8388608, 1, by decide, by decide, by decide, by decide, by decide⟩
theorem third_f : fB 2 3 = 1059760811 := fB_eq (by decide) (by decide) ⟨125, 33554432, 3, by decide, by decide, by decide, by decide, by decide⟩

def mq1 : List UInt8 := [99, 111, 117, 110, 116, 40, 123, 97, 112, 112, 61, 34, 119, 101, 98, 34, 125, 91, 49, 48, 93, 41, 32, 98, 121, 32, 122, 111, 110, 101]
def mq2 : List UInt8 := [114, 97, 116, 101, 40, 123, 97, 112, 112, 61, 34, 119, 101, 98, 34, 125, 91, 51, 93, 41]

def mweb : Mch := ⟨[97, 112, 112], [119, 101, 98], false⟩
theorem mp1 : parseL mq1 = (30, true, ⟨[mweb], [], countT, 10, [122, 111, 110, 101]⟩) := by
  rw [parseF_eq]
  kernel_rfl
theorem mp2 : parseL mq2 = (20, true, ⟨[mweb], [], rateT, 3, []⟩) := by
  rw [parseF_eq]
  kernel_rfl

theorem g1 : measE mq1 9 = (0, 0) ∧ measA mq1 9 exL = [([97], 1073741824), ([98], 1065353216)] := by
  have hE : measE mq1 9 = (0, 0) := by
    unfold measE
    rw [parseF_eq]
    kernel_rfl
  refine ⟨hE, ?_⟩
  rw [measA_ask hE, mp1, ← two_f, ← one_f]
  have hT : askQ ⟨[mweb], [], countT, 10, [122, 111, 110, 101]⟩ 9 exL = [(webA, 5, get7), (webB, 5, put12), (webA, 9, t12)] := by kernel_rfl
  simp only
  rw [hT]
  have hK : keysL [122, 111, 110, 101] [(webA, 5, get7), (webB, 5, put12), (webA, 9, t12)] = [[97], [98]] := by kernel_rfl
  rw [hK]
  have hA : grpL [122, 111, 110, 101] [(webA, 5, get7), (webB, 5, put12), (webA, 9, t12)] [97] = [(webA, 5, get7), (webA, 9, t12)] := by kernel_rfl
  have hB : grpL [122, 111, 110, 101] [(webA, 5, get7), (webB, 5, put12), (webA, 9, t12)] [98] = [(webB, 5, put12)] := by kernel_rfl
  simp [smpsL, hA, hB, grpS, smpS]

theorem g2 : measE mq2 5 = (0, 0) ∧ measA mq2 5 exL = [([], 1059760811)] := by
  have hE : measE mq2 5 = (0, 0) := by
    unfold measE
    rw [parseF_eq]
    kernel_rfl
  refine ⟨hE, ?_⟩
  rw [measA_ask hE, mp2, ← third_f]
  have hT : askQ ⟨[mweb], [], rateT, 3, []⟩ 5 exL = [(webA, 5, get7), (webB, 5, put12)] := by kernel_rfl
  simp only
  rw [hT]
  have hK : keysL [] [(webA, 5, get7), (webB, 5, put12)] = [[]] := by kernel_rfl
  rw [hK]
  have hA : grpL [] [(webA, 5, get7), (webB, 5, put12)] [] = [(webA, 5, get7), (webB, 5, put12)] := by kernel_rfl
  have hne : rateT ≠ countT := by decide
  simp [smpsL, hA, grpS, smpS, hne]

theorem g3 : measE q1 5 = (9, 0) := by
  unfold measE
  rw [parseF_eq]
  kernel_rfl

set_option maxRecDepth 10000 in
set_option maxHeartbeats 2000000 in
theorem measuring_any {w : World} (hg : Glob w) : Calls Tryz.prog 24 #[] w fun e w' => e = .returned (.bool true) ∧ Below w.heap.size w w' := by
  have HG := hide hg
  clear hg
  go_enter Tryz.func24, Tryz.ntmps24
  go_wp2_with fail
  refine (example_any w).mono ?_
  rintro e w1 ⟨rfl, F, hk⟩
  have h1 := kmeas_any mq1 9 hk (by decide) (unhide HG)
  rw [g1.1, g1.2] at h1
  have HK := hide hk
  clear hk
  go_wp2_with fail
  refine h1.mono ?_
  rintro e w2 ⟨v1, rfl, hown1, hb1⟩
  have h2 := kmeas_any mq2 5 ((unhide HK).below hb1) (by decide) (unhide HG)
  rw [g2.1, g2.2] at h2
  have HB1 := hide hb1
  clear hb1 h1
  go_wp2_with fail
  refine h2.mono ?_
  rintro e w3 ⟨v2, rfl, hown2, hb2⟩
  have h3 := kmeas_any q1 5 (((unhide HK).below (unhide HB1)).below hb2) (by decide) (unhide HG)
  rw [g3] at h3
  have HB2 := hide hb2
  clear hb2 h2
  go_wp2_with fail
  refine h3.mono ?_
  rintro e w4 ⟨v3, rfl, -, hb3⟩
  have hfin : Below w.heap.size w w4 := (((unhide HK).below (unhide HB1)).below (unhide HB2)).below hb3 |>.bel
  have r1 : w4.ownsRow w1.heap.size 57 2 v1 2 _ := ownsRow_same hown1 fun b hb' => by
    have h1 := (ownsRow_type hown1 hb').1
    rw [hb3.block b (Nat.lt_of_lt_of_le h1 (unhide HB2).size), (unhide HB2).block b h1]
  have r2 : w4.ownsRow w2.heap.size 57 2 v2 1 _ := ownsRow_same hown2 fun b hb' => hb3.block b (ownsRow_type hown2 hb').1
  obtain ⟨x1, c1, rfl, -, -, -, -, k1, -⟩ := owns_open r1 (by omega)
  obtain ⟨x2, c2, rfl, -, -, -, -, k2, -⟩ := owns_open r2 (by omega)
  have a0 : w4.cell? ⟨x1, 0, none⟩ = some (SV [97]) := k1 0 (by omega)
  have a1 : w4.cell? ⟨x1, 1, none⟩ = some (.int .i64 1073741824) := k1 1 (by omega)
  have a2 : w4.cell? ⟨x1, 2, none⟩ = some (SV [98]) := k1 2 (by omega)
  have a3 : w4.cell? ⟨x1, 3, none⟩ = some (.int .i64 1065353216) := k1 3 (by omega)
  have b1 : w4.cell? ⟨x2, 1, none⟩ = some (.int .i64 1059760811) := k2 1 (by omega)
  have HFI := hide hfin
  clear hown1 hown2 hb3 h3 k1 k2 hfin r1 r2
  go_wp2_with fail
  go_ret
  exact ⟨rfl, unhide HFI⟩

end Go.Proofs.YtbljamcdaoofbaaGreatDoor
