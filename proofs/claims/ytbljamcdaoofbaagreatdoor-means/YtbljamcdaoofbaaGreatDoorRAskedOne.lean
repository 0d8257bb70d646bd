/- The reference's asked: the rows that are asked for, in their order. -/
import Derived.Test.YtbljamcdaoofbaaGreatDoorRelPushToAsked
import Derived.Deep.CutBlock
namespace Go.Proofs.YtbljamcdaoofbaaGreatDoor
open Go.RowKit

theorem drewN_more (w : World) (n m : Nat) : (w.drewN n).drewN m = w.drewN (n + m) := by
  simp [World.drewN, Nat.add_assoc]

set_option maxRecDepth 10000 in
set_option maxHeartbeats 4000000 in
theorem asked_any {w : World} {F : Nat → Prop} {p base qb : Nat} {S : List Strm} {L : List Rw} {vS vL vM vF : Value} {meas by_ : List UInt8} {span bad : Int} {M : List Mch} {Fs : List Flt} (fr tt : Int) (hr : RefAt w F p S L vS vL) (hL : L.length ≤ 300)
    (hq : RQAt w base qb vM vF meas span by_ bad M Fs) (hM : M.length ≤ 201) (hF : Fs.length ≤ 201) (hv : ∀ f ∈ Fs, f.text.length ≤ 200) (hx : ∀ r ∈ L, r.1.length ≤ 1048576 ∧ r.2.2.length ≤ 1048576) :
    Calls Tryz.prog 120 #[.pointer (some ⟨p, 0, none⟩), .pointer (some ⟨qb, 0, none⟩), .int .i64 fr, .int .i64 tt] w fun e w' => ∃ v, e = .returned v ∧ w'.ownsRow w.heap.size 38 3 v (askedL M Fs fr tt L).length ((askedL M Fs fr tt L).flatMap cellsR) ∧ Below w.heap.size w w' := by
  obtain ⟨i0, hi, hz0, hz1, hz2⟩ := info_parts Tryz.info38
  obtain ⟨-, c1, -⟩ := cell_of_block2 hr.block
  have hpw := (Array.getElem?_eq_some_iff.1 hr.block).1
  obtain ⟨aL, capL, rfl, hncL, hcmL, nilL, aoL, cellL, -⟩ := owns_form hr.rowL
  have HNL := hide nilL
  have HAL := hide aoL
  have HCL := hide cellL
  have HX := hide hx
  have HQ := hide (fun (W : World) (hb : Below w.heap.size w W) (lab line : List UInt8) (t : Int) (hl : lab.length ≤ 1048576) (hn : line.length ≤ 1048576) => asks_any (t := t) lab line (show RQAt W base qb vM vF meas span by_ bad M Fs from ⟨by rw [hb.block qb (Array.getElem?_eq_some_iff.1 hq.block).1]; exact hq.block, ownsRow_same hq.rowM fun b hb' => hb.block b (ownsRow_type hq.rowM hb').1, ownsRow_same hq.rowF fun b hb' => hb.block b (ownsRow_type hq.rowF hb').1, hq.apart, hq.bqb⟩) hM hF hl hn hv)
  clear hr nilL aoL cellL hx hq hM hF hv
  unfold maxLen at hcmL
  go_enter Tryz.func120, Tryz.ntmps120
  go_wp2_with fail
  go_loopw [9, 10] (fun v i wr => ∃ k : Nat, k ≤ L.length ∧ i = .int .i64 k ∧ wr.ownsRow w.heap.size 38 3 v (askedL M Fs fr tt (L.take k)).length ((askedL M Fs fr tt (L.take k)).flatMap cellsR) ∧ Below w.heap.size w wr) (fun _ i _ => L.length - (intOf i).toNat)
  case atStart => exact ⟨0, Nat.zero_le _, rfl, World.ownsRow_nil _ _ _ _, Below.refl _ _⟩
  case round =>
    obtain ⟨k, hk, rfl, hown, hbr⟩ := hrel
    have hszr := hbr.size
    have d1 : wr.cell? ⟨p, 1, none⟩ = _ := (hbr.cell (p := ⟨p, 1, none⟩) hpw).trans c1
    by_cases hlt : k < L.length
    · obtain ⟨⟨g, o, sp⟩, rfl⟩ : ∃ a, aL = some a := by
        cases aL with
        | none => have := (unhide HNL rfl).1; omega
        | some a => exact ⟨a, rfl⟩
      obtain ⟨ho, hsp, -, hgw⟩ := unhide HAL _ rfl
      simp only at ho hsp hgw
      subst ho hsp
      obtain ⟨e0, e1, e2⟩ := cellsR_at L k hlt
      have m0 := ((hbr.cell (p := ⟨g, k * 3, none⟩) hgw).trans (unhide HCL _ rfl _ (by omega))).trans e0
      have m1 := ((hbr.cell (p := ⟨g, k * 3 + 1, none⟩) hgw).trans (unhide HCL _ rfl _ (by omega))).trans e1
      have m2 := ((hbr.cell (p := ⟨g, k * 3 + 2, none⟩) hgw).trans (unhide HCL _ rfl _ (by omega))).trans e2
      clear e0 e1 e2
      have HS := hide (askedL_snoc M Fs fr tt L k hlt)
      obtain ⟨hx1, hx2⟩ := unhide HX _ (List.getElem_mem hlt)
      have hbX := hbr.alloc hszr (.cells #[SV L[k].1, .int .i64 L[k].2.1, SV L[k].2.2] 38)
      have has := unhide HQ _ hbX L[k].1 L[k].2.2 L[k].2.1 hx1 hx2
      have hbox := heap_alloc_new wr (.cells #[SV L[k].1, .int .i64 L[k].2.1, SV L[k].2.2] 38)
      obtain ⟨x0, x1, x2, -⟩ := cell_of_block3 hbox
      have hownX := hown.alloc (.cells #[SV L[k].1, .int .i64 L[k].2.1, SV L[k].2.2] 38)
      have hXs : wr.heap.size < (wr.alloc (.cells #[SV L[k].1, .int .i64 L[k].2.1, SV L[k].2.2] 38)).heap.size := by simp
      have HW := hide (show wantB M Fs fr tt L[k] = (asksB M Fs L[k].1 L[k].2.2 && !decide (L[k].2.1 < fr) && !decide (tt ≤ L[k].2.1)) from rfl)
      have HLE := hide (askedL_len M Fs fr tt (L.take k))
      go_wp2_with fail
      refine has.mono ?_
      rintro e w5 ⟨rfl, hb5⟩
      have y0 := (hb5.cell (p := ⟨wr.heap.size, 0, none⟩) hXs).trans x0
      have y1 := (hb5.cell (p := ⟨wr.heap.size, 1, none⟩) hXs).trans x1
      have y2 := (hb5.cell (p := ⟨wr.heap.size, 2, none⟩) hXs).trans x2
      have hown5 : w5.ownsRow w.heap.size 38 3 u9 _ _ := ownsRow_same hownX fun b hb' => hb5.block b (ownsRow_type hownX hb').1
      have hbw5 : Below w.heap.size w w5 := hbX.trans (hb5.mono hbX.size)
      have hsz5 := hbw5.size
      have hlen := unhide HLE
      rw [List.length_take] at hlen
      clear hb5 has x0 x1 x2 hXs hbox hown hownX hbX m0 m1 m2 d1 HLE
      generalize askedL M Fs fr tt (L.take k) = O at *
      generalize L[k] = r at *
      obtain ⟨lab, t, line⟩ := r
      simp only at y0 y1 y2 HW HS hx1 hx2 ⊢
      have HBW := hide hbw5
      cases hb : asksB M Fs lab line with
      | false =>
        have HB := hide hb
        go_wp2
        go_roundw
        case rel =>
          refine ⟨k + 1, by omega, by go_num, ?_, unhide HBW⟩
          rw [unhide HS, if_neg (by rw [unhide HW, unhide HB]; simp)]
          exact hown5
        case measure => simp [intOf]; omega
      | true =>
        have HB := hide hb
        clear hb
        by_cases h1 : t < fr
        · go_wp2
          go_roundw
          case rel =>
            refine ⟨k + 1, by omega, by go_num, ?_, unhide HBW⟩
            rw [unhide HS, if_neg (by rw [unhide HW, unhide HB]; simp [h1])]
            exact hown5
          case measure => simp [intOf]; omega
        · by_cases h2 : tt ≤ t
          · go_wp2
            go_roundw
            case rel =>
              refine ⟨k + 1, by omega, by go_num, ?_, unhide HBW⟩
              rw [unhide HS, if_neg (by rw [unhide HW, unhide HB]; simp [h2])]
              exact hown5
            case measure => simp [intOf]; omega
          · have HS2 := hide (show askedL M Fs fr tt (L.take (k + 1)) = insR O (lab, t, line) by rw [unhide HS, if_pos (by rw [unhide HW, unhide HB]; simp [h1, h2])])
            clear HS HW HB
            obtain ⟨aO, capO, rfl, hncO, hcmO, nilO, aoO, cellO, -⟩ := owns_form hown5
            unfold maxLen at hcmO
            have HNO := hide nilO
            have HAO := hide aoO
            have HCO := hide cellO
            have HOW := hide hown5
            clear nilO aoO cellO hown5
            have hO3 : O.length ≤ 300 := by omega
            have hIP := insPos_le O (lab, t, line) O.length
            go_upto_block 2 with fail
            go_cut [13] from 50 to 86 (fun a wx => a = .int .i64 (insPos O (lab, t, line) O.length) ∧ ∃ n, wx = w5.drewN n)
            case first =>
              go_wp2_with fail
              go_loopw [13] (fun a wx => ∃ m : Nat, m ≤ O.length ∧ a = .int .i64 m ∧ insPos O (lab, t, line) O.length = insPos O (lab, t, line) m ∧ ∃ n, wx = w5.drewN n) (fun a _ => (intOf a).toNat)
              case atStart => exact ⟨O.length, Nat.le_refl _, rfl, rfl, 0, rfl⟩
              case round =>
                obtain ⟨m, hm, rfl, hpos, n, rfl⟩ := hrel
                have HP := hide hpos
                clear hpos
                cases m with
                | zero =>
                  go_wp2_with fail
                  go_quiet (fail)
                  go_wp2
                  go_meet
                  exact ⟨by rw [unhide HP]; rfl, (by first | exact ⟨_, rfl⟩ | exact ⟨_, drewN_more _ _ _⟩)⟩
                | succ m =>
                  have hml : m < O.length := by omega
                  have HP2 := hide (show insPos O (lab, t, line) (m + 1) = if gtR (O.getD m ([], 0, [])) (lab, t, line) = true then insPos O (lab, t, line) m else m + 1 from rfl)
                  have hgd : O.getD m ([], 0, []) = O[m] := by simp [List.getD_eq_getElem?_getD, hml]
                  rw [hgd] at HP2
                  obtain ⟨⟨g, o, sp⟩, rfl⟩ : ∃ a, aO = some a := by
                    cases aO with
                    | none => have := (unhide HNO rfl).1; omega
                    | some a => exact ⟨a, rfl⟩
                  obtain ⟨ho, hsp, -, hgw⟩ := unhide HAO _ rfl
                  simp only at ho hsp hgw
                  subst ho hsp
                  obtain ⟨e0, e1, -⟩ := cellsR_at O m hml
                  have q0 := (unhide HCO _ rfl (m * 3) (by omega)).trans e0
                  have q1 := (unhide HCO _ rfl (m * 3 + 1) (by omega)).trans e1
                  clear e0 e1
                  have HG := hide (show gtR O[m] (lab, t, line) = if t = O[m].2.1 then Op.bytesLess lab O[m].1 else decide (t < O[m].2.1) from rfl)
                  generalize O[m] = y at *
                  obtain ⟨yl, yt, yx⟩ := y
                  simp only at q0 q1 HG
                  have hmi : (m : Int) < O.length := by omega
                  have hm0 : (0 : Int) ≤ (m : Int) := by omega
                  by_cases h3 : t < yt
                  · have hg1 : gtR (yl, yt, yx) (lab, t, line) = true := by rw [unhide HG, if_neg (by omega)]; simp [h3]
                    have HG1 := hide hg1
                    clear hg1
                    go_wp2_with fail
                    go_quiet (fail)
                    go_wp2
                    go_roundw
                    case rel =>
                      refine ⟨m, by omega, by go_num, ?_, (by first | exact ⟨_, rfl⟩ | exact ⟨_, drewN_more _ _ _⟩)⟩
                      rw [unhide HP, unhide HP2, if_pos (unhide HG1)]
                    case measure => simp [intOf]
                  · by_cases h4 : t = yt
                    · subst h4
                      have h33 : ¬ t < t := by omega
                      have h44 : (t == t) = true := by simp
                      cases h5 : Op.bytesLess lab yl with
                      | true =>
                        have hg1 : gtR (yl, t, yx) (lab, t, line) = true := by rw [unhide HG, if_pos rfl]; exact h5
                        have HG1 := hide hg1
                        have f1 : Op.bytesLess yl lab = false := less_asymm h5
                        have f2 : (yl == lab) = false := by simpa using (less_ne h5).symm
                        clear hg1
                        go_wp2_with fail
                        go_quiet (fail)
                        go_wp2
                        go_roundw
                        case rel =>
                          refine ⟨m, by omega, by go_num, ?_, (by first | exact ⟨_, rfl⟩ | exact ⟨_, drewN_more _ _ _⟩)⟩
                          rw [unhide HP, unhide HP2, if_pos (unhide HG1)]
                        case measure => simp [intOf]
                      | false =>
                        have hg1 : gtR (yl, t, yx) (lab, t, line) = false := by rw [unhide HG, if_pos rfl]; exact h5
                        have HG1 := hide hg1
                        clear hg1
                        rcases less_total _ _ h5 with e | f1
                        · have f1 : Op.bytesLess yl lab = false := by rw [e]; exact less_irrefl _
                          have f2 : (yl == lab) = true := by simp [e]
                          clear e
                          go_wp2_with fail
                          go_quiet (fail)
                          go_wp2
                          go_meet
                          exact ⟨by rw [unhide HP, unhide HP2, if_neg (by rw [unhide HG1]; simp)]; go_num, (by first | exact ⟨_, rfl⟩ | exact ⟨_, drewN_more _ _ _⟩)⟩
                        · go_wp2_with fail
                          go_quiet (fail)
                          go_wp2
                          go_meet
                          exact ⟨by rw [unhide HP, unhide HP2, if_neg (by rw [unhide HG1]; simp)]; go_num, (by first | exact ⟨_, rfl⟩ | exact ⟨_, drewN_more _ _ _⟩)⟩
                    · have hg1 : gtR (yl, yt, yx) (lab, t, line) = false := by rw [unhide HG, if_neg h4]; simp; omega
                      have HG1 := hide hg1
                      have h6 : ¬ yt = t := fun e => h4 e.symm
                      have h7 : (yt == t) = false := by simpa using h6
                      have h8 : decide (t < yt) = false := by simp; omega
                      have h9 : decide (yt = t) = false := by simpa using h6
                      have h10 : yt < t := by omega
                      clear hg1
                      go_wp2_with fail
                      go_quiet (fail)
                      go_wp2
                      go_meet
                      exact ⟨by rw [unhide HP, unhide HP2, if_neg (by rw [unhide HG1]; simp)]; go_num, (by first | exact ⟨_, rfl⟩ | exact ⟨_, drewN_more _ _ _⟩)⟩
            case rest =>
              obtain ⟨rfl, n5, rfl⟩ := hcut
              have HOW2 : Hid ((w5.drewN n5).ownsRow w.heap.size 38 3 (.slice aO O.length capO) O.length (O.flatMap cellsR)) := HOW
              have hbW : Below w.heap.size w (w5.drewN n5) := Below.drawn (unhide HBW) n5
              have HI2 := hide (show insR O (lab, t, line) = O.take (insPos O (lab, t, line) O.length) ++ [(lab, t, line)] ++ O.drop (insPos O (lab, t, line) O.length) from rfl)
              have y0' : (w5.drewN n5).cell? ⟨wr.heap.size, 0, none⟩ = some (SV lab) := y0
              have y1' : (w5.drewN n5).cell? ⟨wr.heap.size, 1, none⟩ = some (.int .i64 t) := y1
              have y2' : (w5.drewN n5).cell? ⟨wr.heap.size, 2, none⟩ = some (SV line) := y2
              have hwrW : wr.heap.size < (w5.drewN n5).heap.size := World.block_lt_of_cell? _ _ y0'
              have HAO2 : Hid (∀ a, aO = some a → a.off = 0 ∧ a.spot = none ∧ w.heap.size ≤ a.block ∧ a.block < (w5.drewN n5).heap.size) := HAO
              have HCO2 : Hid (∀ a, aO = some a → ∀ j, j < O.length * 3 → (w5.drewN n5).cell? ⟨a.block, j, none⟩ = (O.flatMap cellsR)[j]?) := HCO
              clear y0 y1 y2 HOW HBW HAO HCO hbw5 hsz5
              generalize w5.drewN n5 = W at *
              generalize insPos O (lab, t, line) O.length = a at *
              clear w5
              have hsW := hbW.size
              cases aO with
              | none =>
                have hO0 : O = [] := List.eq_nil_of_length_eq_zero (unhide HNO rfl).1
                have hc0 : capO = 0 := (unhide HNO rfl).2
                subst hO0 hc0
                have ha0 : a = 0 := by simpa using hIP
                subst ha0
                go_upto_region 13 with (at_builtin; refine wpList_append_at _ rfl _ _ 28 rfl w.heap.size 38 i0 _ 3 40 Tryz.underlying28 hi hz0 hz1 hz2 rfl (by decide) (.slice none 0 0) _ _ rfl (World.ownsRow_nil _ _ _ _) none 0 0 [] rfl rfl (fun _ => ⟨rfl, rfl⟩) (by intro _ e; cases e) (by intro u hu; cases hu) (by unfold maxLen; omega) (by omega) hsW ?_; intro v1 w1 hown1 hgrow1 hwh1)
                simp only [Nat.zero_add, List.nil_append] at hown1
                have hb1 : Below w.heap.size w w1 := hbW.grown hgrow1 hsW (fun k hk => by simp [Value.ownBlock] at hk)
                have x0 : w1.cell? ⟨wr.heap.size, 0, none⟩ = some (SV lab) := (World.cell?_of_block (a := ⟨wr.heap.size, 0, none⟩) (hgrow1.block _ hwrW (by simp [Value.ownBlock]))).trans y0'
                have x1 : w1.cell? ⟨wr.heap.size, 1, none⟩ = some (.int .i64 t) := (World.cell?_of_block (a := ⟨wr.heap.size, 1, none⟩) (hgrow1.block _ hwrW (by simp [Value.ownBlock]))).trans y1'
                have x2 : w1.cell? ⟨wr.heap.size, 2, none⟩ = some (SV line) := (World.cell?_of_block (a := ⟨wr.heap.size, 2, none⟩) (hgrow1.block _ hwrW (by simp [Value.ownBlock]))).trans y2'
                clear hgrow1 hwh1 y0' y1' y2'
                have hs1 := hb1.size
                go_upto_region 14 with (at_builtin; refine wpList_append_at _ rfl _ _ 28 rfl w.heap.size 38 i0 _ 3 40 Tryz.underlying28 hi hz0 hz1 hz2 rfl (by decide) v1 _ _ rfl (hown1.alloc _) (some ⟨w1.heap.size, 0, none⟩) 1 1 [SV lab, .int .i64 t, SV line] rfl rfl (by intro e; cases e) (cells_new w1 _ _) (by intro u hu; simp at hu; rcases hu with rfl | rfl | rfl <;> rfl) (by unfold maxLen; omega) (by omega) (by simp; omega) ?_; intro v2 w2 hown2 hgrow2 hwh2)
                have hb2 : Below w.heap.size w w2 := (hb1.alloc hs1 _).grown hgrow2 (by simp; omega) (fun k hk => (hown1.lt k hk).1)
                clear hgrow2 hwh2 x0 x1 x2
                have hs2 := hb2.size
                go_wp2_with (at_builtin; refine wpList_append_at _ rfl _ _ 28 rfl w.heap.size 38 i0 _ 3 40 Tryz.underlying28 hi hz0 hz1 hz2 rfl (by decide) v2 _ _ rfl hown2 none 0 0 [] rfl rfl (fun _ => ⟨rfl, rfl⟩) (by intro _ e; cases e) (by intro u hu; cases hu) (by unfold maxLen; omega) (by omega) (by omega) ?_; intro v3 w3 hown3 hgrow3 hwh3)
                go_roundw
                case rel =>
                  refine ⟨k + 1, by omega, by go_num, ?_, hb2.grown hgrow3 hs2 (fun k hk => (hown2.lt k hk).1)⟩
                  rw [unhide HS2, unhide HI2]
                  exact hown3
                case measure => simp [intOf]; omega
              | some ad =>
                obtain ⟨go, o, sp⟩ := ad
                obtain ⟨ho, hsp, hBg, hgoW⟩ := unhide HAO2 _ rfl
                simp only at ho hsp hBg hgoW
                subst ho hsp
                have hcO := unhide HCO2 _ rfl
                simp only at hcO
                have HCC := hide hcO
                clear hcO HCO2 HAO2 HNO
                go_upto_region 13 with (at_builtin; refine wpList_append_at _ rfl _ _ 28 rfl w.heap.size 38 i0 _ 3 40 Tryz.underlying28 hi hz0 hz1 hz2 rfl (by decide) (.slice none 0 0) _ _ rfl (World.ownsRow_nil _ _ _ _) (some ⟨go, 0, none⟩) a capO ((O.take a).flatMap cellsR) rfl (by rw [flat3_len, List.length_take, Nat.min_eq_left hIP]) (by intro e; cases e) (row_take (unhide HCC) a) (flat3_one _) (by unfold maxLen; omega) (by omega) hsW ?_; intro v1 w1 hown1 hgrow1 hwh1)
                simp only [Nat.zero_add, List.nil_append] at hown1
                have hb1 : Below w.heap.size w w1 := hbW.grown hgrow1 hsW (fun k hk => by simp [Value.ownBlock] at hk)
                have x0 : w1.cell? ⟨wr.heap.size, 0, none⟩ = some (SV lab) := (World.cell?_of_block (a := ⟨wr.heap.size, 0, none⟩) (hgrow1.block _ hwrW (by simp [Value.ownBlock]))).trans y0'
                have x1 : w1.cell? ⟨wr.heap.size, 1, none⟩ = some (.int .i64 t) := (World.cell?_of_block (a := ⟨wr.heap.size, 1, none⟩) (hgrow1.block _ hwrW (by simp [Value.ownBlock]))).trans y1'
                have x2 : w1.cell? ⟨wr.heap.size, 2, none⟩ = some (SV line) := (World.cell?_of_block (a := ⟨wr.heap.size, 2, none⟩) (hgrow1.block _ hwrW (by simp [Value.ownBlock]))).trans y2'
                have g1 : w1.heap[go]? = W.heap[go]? := hgrow1.block _ hgoW (by simp [Value.ownBlock])
                have hgo1 : go < w1.heap.size := Nat.lt_of_lt_of_le hgoW hgrow1.size
                have hv1 : v1.ownBlock ≠ some go := by
                  rcases hwh1 with e | e
                  · rw [e]; simp [Value.ownBlock]
                  · rw [e]; simp; omega
                clear hgrow1 hwh1 y0' y1' y2'
                have hs1 := hb1.size
                go_upto_region 14 with (at_builtin; refine wpList_append_at _ rfl _ _ 28 rfl w.heap.size 38 i0 _ 3 40 Tryz.underlying28 hi hz0 hz1 hz2 rfl (by decide) v1 _ _ rfl (hown1.alloc _) (some ⟨w1.heap.size, 0, none⟩) 1 1 [SV lab, .int .i64 t, SV line] rfl rfl (by intro e; cases e) (cells_new w1 _ _) (by intro u hu; simp at hu; rcases hu with rfl | rfl | rfl <;> rfl) (by unfold maxLen; omega) (by omega) (by simp; omega) ?_; intro v2 w2 hown2 hgrow2 hwh2)
                have hb2 : Below w.heap.size w w2 := (hb1.alloc hs1 _).grown hgrow2 (by simp; omega) (fun k hk => (hown1.lt k hk).1)
                have g2 : w2.heap[go]? = W.heap[go]? := (hgrow2.block _ (by simp; omega) (fun e => hv1 e.symm)).trans ((Go.RowKit.Below.heap_alloc _ _ _ hgo1).trans g1)
                have HC2 := hide (show ∀ j, j < O.length * 3 → w2.cell? ⟨go, j, none⟩ = (O.flatMap cellsR)[j]? from fun j hj => (World.cell?_of_block (a := ⟨go, j, none⟩) g2).trans (unhide HCC j hj))
                clear hgrow2 hwh2 x0 x1 x2 g1 g2 HCC
                have hs2 := hb2.size
                go_wp2_with (at_builtin; refine wpList_append_at _ rfl _ _ 28 rfl w.heap.size 38 i0 _ 3 40 Tryz.underlying28 hi hz0 hz1 hz2 rfl (by decide) v2 _ _ rfl hown2 _ _ _ ((O.drop a).flatMap cellsR) rfl ?c1 ?c2 ?c3 (flat3_one _) (by unfold maxLen; omega) (by omega) (by omega) ?_; rotate_right; intro v3 w3 hown3 hgrow3 hwh3)
                · go_roundw
                  case rel =>
                    refine ⟨k + 1, by omega, by go_num, ?_, hb2.grown hgrow3 hs2 (fun k hk => (hown2.lt k hk).1)⟩
                    rw [unhide HS2, unhide HI2]
                    have hn : (O.take a ++ [(lab, t, line)] ++ O.drop a).length = a + 1 + (O.length - a) := by simp; omega
                    rw [hn, List.flatMap_append, List.flatMap_append]
                    exact hown3
                  case measure => simp [intOf]; omega
                · have := flat3_len (O.drop a)
                  rw [List.length_drop, List.length_flatMap] at this
                  simpa using this
                · intro j u hj
                  have hl := (List.getElem?_eq_some_iff.1 hj).1
                  rw [flat3_len, List.length_drop] at hl
                  omega
                · intro j u hj
                  rw [flat3_drop, List.getElem?_drop] at hj
                  have hl := (List.getElem?_eq_some_iff.1 hj).1
                  rw [flat3_len] at hl
                  exact (unhide HC2 _ hl).trans hj
    · go_wp2
      go_ret
      refine ⟨_, rfl, ?_, hbr⟩
      rw [List.take_of_length_le (by omega)] at hown
      exact hown

end Go.Proofs.YtbljamcdaoofbaaGreatDoor
