/- Texts KOrd, KSmall, KPure, KParse, joined. -/
import Derived.Test.YtbljamcdaoofbaaGreatDoorOwnBaseToKStore
import Derived.Deep.CutBlock
/- Rows in order, as loamkeep puts them. -/
namespace Go.Proofs.YtbljamcdaoofbaaGreatDoor
open Go.RowKit

/-- rows in their order -/
def ordLs (L : List Rw) : List Rw := L.foldl insR []
theorem ordLs_snoc (L : List Rw) (k : Nat) (h : k < L.length) : ordLs (L.take (k + 1)) = insR (ordLs (L.take k)) L[k] := by
  rw [List.take_succ_eq_append_getElem h, ordLs, List.foldl_append]
  rfl
theorem ordLs_len (L : List Rw) : (ordLs L).length = L.length := by
  have h : ∀ (L : List Rw) (o : List Rw), (L.foldl insR o).length = o.length + L.length := by
    intro L
    induction L with
    | nil => intro o; simp
    | cons x L ih =>
      intro o
      rw [List.foldl_cons, ih, insR_len]
      simp
      omega
  have := h L []
  simpa [ordLs] using this

set_option maxRecDepth 10000 in
set_option maxHeartbeats 4000000 in
theorem ordered_any {w : World} {v : Value} {L : List Rw} (h : w.ownsRow 0 38 3 v L.length (L.flatMap cellsR)) (hL : L.length ≤ 300) :
    Calls Tryz.prog 17 #[v] w (RowsP w (ordLs L)) := by
  obtain ⟨i0, hi, hz0, hz1, hz2⟩ := info_parts Tryz.info38
  obtain ⟨aL, capL, rfl, hncL, hcmL, nilL, aoL, cellL, -⟩ := owns_form h
  have HNL := hide nilL
  have HAL := hide aoL
  have HCL := hide cellL
  clear h nilL aoL cellL
  unfold maxLen at hcmL
  go_enter Tryz.func17, Tryz.ntmps17
  go_wp2_with fail
  go_loopw [3, 4] (fun v i wr => ∃ k : Nat, k ≤ L.length ∧ i = .int .i64 k ∧ wr.ownsRow w.heap.size 38 3 v (ordLs (L.take k)).length ((ordLs (L.take k)).flatMap cellsR) ∧ Below w.heap.size w wr) (fun _ i _ => L.length - (intOf i).toNat)
  case atStart => exact ⟨0, Nat.zero_le _, rfl, World.ownsRow_nil _ _ _ _, Below.refl _ _⟩
  case round =>
    obtain ⟨k, hk, rfl, hown, hbr⟩ := hrel
    have hszr := hbr.size
    by_cases hlt : k < L.length
    · obtain ⟨⟨g, o, sp⟩, rfl⟩ : ∃ a, aL = some a := by
        cases aL with
        | none => have := (unhide HNL rfl).1; omega
        | some a => exact ⟨a, rfl⟩
      obtain ⟨ho, hsp, -, hgw⟩ := unhide HAL _ rfl
      simp only at ho hsp hgw
      subst ho hsp
      obtain ⟨e0, e1, e2⟩ := cellsR_at L k hlt
      have y0 := ((hbr.cell (p := ⟨g, k * 3, none⟩) hgw).trans (unhide HCL _ rfl _ (by omega))).trans e0
      have y1 := ((hbr.cell (p := ⟨g, k * 3 + 1, none⟩) hgw).trans (unhide HCL _ rfl _ (by omega))).trans e1
      have y2 := ((hbr.cell (p := ⟨g, k * 3 + 2, none⟩) hgw).trans (unhide HCL _ rfl _ (by omega))).trans e2
      clear e0 e1 e2
      have HS := hide (ordLs_snoc L k hlt)
      have HLE := hide (ordLs_len (L.take k))
      have hown5 := hown
      have hbw5 := hbr
      have hsz5 := hszr
      have hlen := unhide HLE
      rw [List.length_take] at hlen
      clear hown HLE hbr hszr
      generalize ordLs (L.take k) = O at *
      generalize L[k] = r at *
      obtain ⟨lab, t, line⟩ := r
      simp only at y0 y1 y2 HS ⊢
      generalize wr = w5 at *
      have HBW := hide hbw5
      have HS2 := HS
      clear HS
      obtain ⟨aO, capO, rfl, hncO, hcmO, nilO, aoO, cellO, -⟩ := owns_form hown5
      unfold maxLen at hcmO
      have HNO := hide nilO
      have HAO := hide aoO
      have HCO := hide cellO
      have HOW := hide hown5
      clear nilO aoO cellO hown5
      have hO3 : O.length ≤ 300 := by omega
      clear hlen
      have hIP := insPos_le O (lab, t, line) O.length
      have hki : (k : Int) < (L.length : Int) := by omega
      go_upto_block 2 with fail
      go_cut [5] from 15 to 60 (fun a wx => a = .int .i64 (insPos O (lab, t, line) O.length) ∧ ∃ n, wx = w5.drewN n)
      case first =>
        go_wp2_with fail
        go_loopw [5] (fun a wx => ∃ m : Nat, m ≤ O.length ∧ a = .int .i64 m ∧ insPos O (lab, t, line) O.length = insPos O (lab, t, line) m ∧ ∃ n, wx = w5.drewN n) (fun a _ => (intOf a).toNat)
        case atStart => exact ⟨O.length, Nat.le_refl _, rfl, rfl, 0, rfl⟩
        case round =>
          obtain ⟨m, hm, rfl, hpos, n, rfl⟩ := hrel
          have HP := hide hpos
          clear hpos
          cases m with
          | zero =>
            go_wp2_with fail
            go_quiet (fail)
            go_wp2
            go_meet
            exact ⟨by rw [unhide HP]; rfl, (by first | exact ⟨_, rfl⟩ | exact ⟨_, drewN_more _ _ _⟩)⟩
          | succ m =>
            have hml : m < O.length := by omega
            have HP2 := hide (show insPos O (lab, t, line) (m + 1) = if gtR (O.getD m ([], 0, [])) (lab, t, line) = true then insPos O (lab, t, line) m else m + 1 from rfl)
            have hgd : O.getD m ([], 0, []) = O[m] := by simp [List.getD_eq_getElem?_getD, hml]
            rw [hgd] at HP2
            obtain ⟨⟨g2, o, sp⟩, rfl⟩ : ∃ a, aO = some a := by
              cases aO with
              | none => have := (unhide HNO rfl).1; omega
              | some a => exact ⟨a, rfl⟩
            obtain ⟨ho, hsp, -, hgw⟩ := unhide HAO _ rfl
            simp only at ho hsp hgw
            subst ho hsp
            obtain ⟨e0, e1, -⟩ := cellsR_at O m hml
            have q0 := (unhide HCO _ rfl (m * 3) (by omega)).trans e0
            have q1 := (unhide HCO _ rfl (m * 3 + 1) (by omega)).trans e1
            clear e0 e1
            have HG := hide (show gtR O[m] (lab, t, line) = if t = O[m].2.1 then Op.bytesLess lab O[m].1 else decide (t < O[m].2.1) from rfl)
            generalize O[m] = y at *
            obtain ⟨yl, yt, yx⟩ := y
            simp only at q0 q1 HG
            have hmi : (m : Int) < O.length := by omega
            have hm0 : (0 : Int) ≤ (m : Int) := by omega
            by_cases h3 : t < yt
            · have hg1 : gtR (yl, yt, yx) (lab, t, line) = true := by rw [unhide HG, if_neg (by omega)]; simp [h3]
              have HG1 := hide hg1
              clear hg1
              go_wp2_with fail
              go_quiet (fail)
              go_wp2
              go_roundw
              case rel =>
                refine ⟨m, by omega, by go_num, ?_, (by first | exact ⟨_, rfl⟩ | exact ⟨_, drewN_more _ _ _⟩)⟩
                rw [unhide HP, unhide HP2, if_pos (unhide HG1)]
              case measure => simp [intOf]
            · by_cases h4 : t = yt
              · subst h4
                have h33 : ¬ t < t := by omega
                have h44 : (t == t) = true := by simp
                cases h5 : Op.bytesLess lab yl with
                | true =>
                  have hg1 : gtR (yl, t, yx) (lab, t, line) = true := by rw [unhide HG, if_pos rfl]; exact h5
                  have HG1 := hide hg1
                  have f1 : Op.bytesLess yl lab = false := less_asymm h5
                  have f2 : (yl == lab) = false := by simpa using (less_ne h5).symm
                  clear hg1
                  go_wp2_with fail
                  go_quiet (fail)
                  go_wp2
                  go_roundw
                  case rel =>
                    refine ⟨m, by omega, by go_num, ?_, (by first | exact ⟨_, rfl⟩ | exact ⟨_, drewN_more _ _ _⟩)⟩
                    rw [unhide HP, unhide HP2, if_pos (unhide HG1)]
                  case measure => simp [intOf]
                | false =>
                  have hg1 : gtR (yl, t, yx) (lab, t, line) = false := by rw [unhide HG, if_pos rfl]; exact h5
                  have HG1 := hide hg1
                  clear hg1
                  rcases less_total _ _ h5 with e | f1
                  · have f1 : Op.bytesLess yl lab = false := by rw [e]; exact less_irrefl _
                    have f2 : (yl == lab) = true := by simp [e]
                    clear e
                    go_wp2_with fail
                    go_quiet (fail)
                    go_wp2
                    go_meet
                    exact ⟨by rw [unhide HP, unhide HP2, if_neg (by rw [unhide HG1]; simp)]; go_num, (by first | exact ⟨_, rfl⟩ | exact ⟨_, drewN_more _ _ _⟩)⟩
                  · go_wp2_with fail
                    go_quiet (fail)
                    go_wp2
                    go_meet
                    exact ⟨by rw [unhide HP, unhide HP2, if_neg (by rw [unhide HG1]; simp)]; go_num, (by first | exact ⟨_, rfl⟩ | exact ⟨_, drewN_more _ _ _⟩)⟩
              · have hg1 : gtR (yl, yt, yx) (lab, t, line) = false := by rw [unhide HG, if_neg h4]; simp; omega
                have HG1 := hide hg1
                have h6 : ¬ yt = t := fun e => h4 e.symm
                have h7 : (yt == t) = false := by simpa using h6
                have h8 : decide (t < yt) = false := by simp; omega
                have h9 : decide (yt = t) = false := by simpa using h6
                have h10 : yt < t := by omega
                clear hg1
                go_wp2_with fail
                go_quiet (fail)
                go_wp2
                go_meet
                exact ⟨by rw [unhide HP, unhide HP2, if_neg (by rw [unhide HG1]; simp)]; go_num, (by first | exact ⟨_, rfl⟩ | exact ⟨_, drewN_more _ _ _⟩)⟩
      case rest =>
        obtain ⟨rfl, n5, rfl⟩ := hcut
        have HOW2 : Hid ((w5.drewN n5).ownsRow w.heap.size 38 3 (.slice aO O.length capO) O.length (O.flatMap cellsR)) := HOW
        have hbW : Below w.heap.size w (w5.drewN n5) := Below.drawn (unhide HBW) n5
        have HI2 := hide (show insR O (lab, t, line) = O.take (insPos O (lab, t, line) O.length) ++ [(lab, t, line)] ++ O.drop (insPos O (lab, t, line) O.length) from rfl)
        have y0' : (w5.drewN n5).cell? ⟨g, k * 3, none⟩ = some (SV lab) := y0
        have y1' : (w5.drewN n5).cell? ⟨g, k * 3 + 1, none⟩ = some (.int .i64 t) := y1
        have y2' : (w5.drewN n5).cell? ⟨g, k * 3 + 2, none⟩ = some (SV line) := y2
        have hwrW : g < (w5.drewN n5).heap.size := World.block_lt_of_cell? _ _ y0'
        have HAO2 : Hid (∀ a, aO = some a → a.off = 0 ∧ a.spot = none ∧ w.heap.size ≤ a.block ∧ a.block < (w5.drewN n5).heap.size) := HAO
        have HCO2 : Hid (∀ a, aO = some a → ∀ j, j < O.length * 3 → (w5.drewN n5).cell? ⟨a.block, j, none⟩ = (O.flatMap cellsR)[j]?) := HCO
        clear y0 y1 y2 HOW HBW HAO HCO hbw5 hsz5
        generalize w5.drewN n5 = W at *
        generalize insPos O (lab, t, line) O.length = a at *
        clear w5
        have hsW := hbW.size
        cases aO with
        | none =>
          have hO0 : O = [] := List.eq_nil_of_length_eq_zero (unhide HNO rfl).1
          have hc0 : capO = 0 := (unhide HNO rfl).2
          subst hO0 hc0
          have ha0 : a = 0 := by simpa using hIP
          subst ha0
          go_upto_region 10 with (at_builtin; refine wpList_append_at _ rfl _ _ 28 rfl w.heap.size 38 i0 _ 3 40 Tryz.underlying28 hi hz0 hz1 hz2 rfl (by decide) (.slice none 0 0) _ _ rfl (World.ownsRow_nil _ _ _ _) none 0 0 [] rfl rfl (fun _ => ⟨rfl, rfl⟩) (by intro _ e; cases e) (by intro u hu; cases hu) (by unfold maxLen; omega) (by omega) hsW ?_; intro v1 w1 hown1 hgrow1 hwh1)
          simp only [Nat.zero_add, List.nil_append] at hown1
          have hb1 : Below w.heap.size w w1 := hbW.grown hgrow1 hsW (fun k hk => by simp [Value.ownBlock] at hk)
          have x0 : w1.cell? ⟨g, k * 3, none⟩ = some (SV lab) := (World.cell?_of_block (a := ⟨g, k * 3, none⟩) (hgrow1.block _ hwrW (by simp [Value.ownBlock]))).trans y0'
          have x1 : w1.cell? ⟨g, k * 3 + 1, none⟩ = some (.int .i64 t) := (World.cell?_of_block (a := ⟨g, k * 3 + 1, none⟩) (hgrow1.block _ hwrW (by simp [Value.ownBlock]))).trans y1'
          have x2 : w1.cell? ⟨g, k * 3 + 2, none⟩ = some (SV line) := (World.cell?_of_block (a := ⟨g, k * 3 + 2, none⟩) (hgrow1.block _ hwrW (by simp [Value.ownBlock]))).trans y2'
          clear hgrow1 hwh1 y0' y1' y2'
          have hs1 := hb1.size
          go_upto_region 11 with (at_builtin; refine wpList_append_at _ rfl _ _ 28 rfl w.heap.size 38 i0 _ 3 40 Tryz.underlying28 hi hz0 hz1 hz2 rfl (by decide) v1 _ _ rfl (hown1.alloc _) (some ⟨w1.heap.size, 0, none⟩) 1 1 [SV lab, .int .i64 t, SV line] rfl rfl (by intro e; cases e) (cells_new w1 _ _) (by intro u hu; simp at hu; rcases hu with rfl | rfl | rfl <;> rfl) (by unfold maxLen; omega) (by omega) (by simp; omega) ?_; intro v2 w2 hown2 hgrow2 hwh2)
          have hb2 : Below w.heap.size w w2 := (hb1.alloc hs1 _).grown hgrow2 (by simp; omega) (fun k hk => (hown1.lt k hk).1)
          clear hgrow2 hwh2 x0 x1 x2
          have hs2 := hb2.size
          go_wp2_with (at_builtin; refine wpList_append_at _ rfl _ _ 28 rfl w.heap.size 38 i0 _ 3 40 Tryz.underlying28 hi hz0 hz1 hz2 rfl (by decide) v2 _ _ rfl hown2 none 0 0 [] rfl rfl (fun _ => ⟨rfl, rfl⟩) (by intro _ e; cases e) (by intro u hu; cases hu) (by unfold maxLen; omega) (by omega) (by omega) ?_; intro v3 w3 hown3 hgrow3 hwh3)
          go_roundw
          case rel =>
            refine ⟨k + 1, by omega, by go_num, ?_, hb2.grown hgrow3 hs2 (fun k hk => (hown2.lt k hk).1)⟩
            rw [unhide HS2, unhide HI2]
            exact hown3
          case measure => simp [intOf]; omega
        | some ad =>
          obtain ⟨go, o, sp⟩ := ad
          obtain ⟨ho, hsp, hBg, hgoW⟩ := unhide HAO2 _ rfl
          simp only at ho hsp hBg hgoW
          subst ho hsp
          have hcO := unhide HCO2 _ rfl
          simp only at hcO
          have HCC := hide hcO
          clear hcO HCO2 HAO2 HNO
          go_upto_region 10 with (at_builtin; refine wpList_append_at _ rfl _ _ 28 rfl w.heap.size 38 i0 _ 3 40 Tryz.underlying28 hi hz0 hz1 hz2 rfl (by decide) (.slice none 0 0) _ _ rfl (World.ownsRow_nil _ _ _ _) (some ⟨go, 0, none⟩) a capO ((O.take a).flatMap cellsR) rfl (by rw [flat3_len, List.length_take, Nat.min_eq_left hIP]) (by intro e; cases e) (row_take (unhide HCC) a) (flat3_one _) (by unfold maxLen; omega) (by omega) hsW ?_; intro v1 w1 hown1 hgrow1 hwh1)
          simp only [Nat.zero_add, List.nil_append] at hown1
          have hb1 : Below w.heap.size w w1 := hbW.grown hgrow1 hsW (fun k hk => by simp [Value.ownBlock] at hk)
          have x0 : w1.cell? ⟨g, k * 3, none⟩ = some (SV lab) := (World.cell?_of_block (a := ⟨g, k * 3, none⟩) (hgrow1.block _ hwrW (by simp [Value.ownBlock]))).trans y0'
          have x1 : w1.cell? ⟨g, k * 3 + 1, none⟩ = some (.int .i64 t) := (World.cell?_of_block (a := ⟨g, k * 3 + 1, none⟩) (hgrow1.block _ hwrW (by simp [Value.ownBlock]))).trans y1'
          have x2 : w1.cell? ⟨g, k * 3 + 2, none⟩ = some (SV line) := (World.cell?_of_block (a := ⟨g, k * 3 + 2, none⟩) (hgrow1.block _ hwrW (by simp [Value.ownBlock]))).trans y2'
          have g1 : w1.heap[go]? = W.heap[go]? := hgrow1.block _ hgoW (by simp [Value.ownBlock])
          have hgo1 : go < w1.heap.size := Nat.lt_of_lt_of_le hgoW hgrow1.size
          have hv1 : v1.ownBlock ≠ some go := by
            rcases hwh1 with e | e
            · rw [e]; simp [Value.ownBlock]
            · rw [e]; simp; omega
          clear hgrow1 hwh1 y0' y1' y2'
          have hs1 := hb1.size
          go_upto_region 11 with (at_builtin; refine wpList_append_at _ rfl _ _ 28 rfl w.heap.size 38 i0 _ 3 40 Tryz.underlying28 hi hz0 hz1 hz2 rfl (by decide) v1 _ _ rfl (hown1.alloc _) (some ⟨w1.heap.size, 0, none⟩) 1 1 [SV lab, .int .i64 t, SV line] rfl rfl (by intro e; cases e) (cells_new w1 _ _) (by intro u hu; simp at hu; rcases hu with rfl | rfl | rfl <;> rfl) (by unfold maxLen; omega) (by omega) (by simp; omega) ?_; intro v2 w2 hown2 hgrow2 hwh2)
          have hb2 : Below w.heap.size w w2 := (hb1.alloc hs1 _).grown hgrow2 (by simp; omega) (fun k hk => (hown1.lt k hk).1)
          have g2 : w2.heap[go]? = W.heap[go]? := (hgrow2.block _ (by simp; omega) (fun e => hv1 e.symm)).trans ((Go.RowKit.Below.heap_alloc _ _ _ hgo1).trans g1)
          have HC2 := hide (show ∀ j, j < O.length * 3 → w2.cell? ⟨go, j, none⟩ = (O.flatMap cellsR)[j]? from fun j hj => (World.cell?_of_block (a := ⟨go, j, none⟩) g2).trans (unhide HCC j hj))
          clear hgrow2 hwh2 x0 x1 x2 g1 g2 HCC
          have hs2 := hb2.size
          go_wp2_with (at_builtin; refine wpList_append_at _ rfl _ _ 28 rfl w.heap.size 38 i0 _ 3 40 Tryz.underlying28 hi hz0 hz1 hz2 rfl (by decide) v2 _ _ rfl hown2 _ _ _ ((O.drop a).flatMap cellsR) rfl ?c1 ?c2 ?c3 (flat3_one _) (by unfold maxLen; omega) (by omega) (by omega) ?_; rotate_right; intro v3 w3 hown3 hgrow3 hwh3)
          · go_roundw
            case rel =>
              refine ⟨k + 1, by omega, by go_num, ?_, hb2.grown hgrow3 hs2 (fun k hk => (hown2.lt k hk).1)⟩
              rw [unhide HS2, unhide HI2]
              have hn : (O.take a ++ [(lab, t, line)] ++ O.drop a).length = a + 1 + (O.length - a) := by simp; omega
              rw [hn, List.flatMap_append, List.flatMap_append]
              exact hown3
            case measure => simp [intOf]; omega
          · have := flat3_len (O.drop a)
            rw [List.length_drop, List.length_flatMap] at this
            simpa using this
          · intro j u hj
            have hl := (List.getElem?_eq_some_iff.1 hj).1
            rw [flat3_len, List.length_drop] at hl
            omega
          · intro j u hj
            rw [flat3_drop, List.getElem?_drop] at hj
            have hl := (List.getElem?_eq_some_iff.1 hj).1
            rw [flat3_len] at hl
            exact (unhide HC2 _ hl).trans hj
    · go_wp2
      go_ret
      refine ⟨_, rfl, ?_, hbr⟩
      rw [List.take_of_length_le (by omega)] at hown
      exact hown

end Go.Proofs.YtbljamcdaoofbaaGreatDoor

/- loamkeep's same and between. -/
namespace Go.Proofs.YtbljamcdaoofbaaGreatDoor
open Go.RowKit

def inW (fr tt : Int) (r : Rw) : Bool := decide (fr ≤ r.2.1) && decide (r.2.1 < tt)

set_option maxRecDepth 10000 in
set_option maxHeartbeats 2000000 in
theorem same_any {w : World} {va vb : Value} {A : List Rw} (ha : w.ownsRow 0 38 3 va A.length (A.flatMap cellsR)) (hb : w.ownsRow 0 38 3 vb A.length (A.flatMap cellsR)) (hA : A.length ≤ 300) :
    Calls Tryz.prog 18 #[va, vb] w fun e w' => e = .returned (.bool true) ∧ ∃ n, w' = w.drewN n := by
  obtain ⟨aa, capa, rfl, -, hcma, hnila, haoa, hcella, -⟩ := owns_form ha
  obtain ⟨ab, capb, rfl, -, hcmb, hnilb, haob, hcellb, -⟩ := owns_form hb
  have HA1 := hide hnila
  have HA2 := hide haoa
  have HA3 := hide hcella
  have HB1 := hide hnilb
  have HB2 := hide haob
  have HB3 := hide hcellb
  clear hnila haoa hcella hnilb haob hcellb ha hb
  go_enter Tryz.func18, Tryz.ntmps18
  go_wp2_with fail
  go_loopw [5] (fun i wr => ∃ j m : Nat, j ≤ A.length ∧ i = .int .i64 j ∧ wr = w.drewN m) (fun i _ => A.length - (intOf i).toNat)
  case atStart => exact ⟨0, 0, by omega, rfl, rfl⟩
  case round =>
    obtain ⟨j, m, hj, rfl, rfl⟩ := hrel
    by_cases hlt : j < A.length
    · obtain ⟨⟨ga, oa, sa⟩, rfl⟩ : ∃ a, aa = some a := by
        cases aa with
        | none => have := (unhide HA1 rfl).1; omega
        | some a => exact ⟨a, rfl⟩
      obtain ⟨⟨gb, ob, sb⟩, rfl⟩ : ∃ a, ab = some a := by
        cases ab with
        | none => have := (unhide HB1 rfl).1; omega
        | some a => exact ⟨a, rfl⟩
      obtain ⟨x1, x2, -, -⟩ := unhide HA2 _ rfl
      obtain ⟨y1, y2, -, -⟩ := unhide HB2 _ rfl
      simp only at x1 x2 y1 y2
      subst x1 x2 y1 y2
      obtain ⟨e0, e1, e2⟩ := cellsR_at A j hlt
      have ca0 := (unhide HA3 _ rfl (j * 3) (by omega)).trans e0
      have ca1 := (unhide HA3 _ rfl (j * 3 + 1) (by omega)).trans e1
      have ca2 := (unhide HA3 _ rfl (j * 3 + 2) (by omega)).trans e2
      have cb0 := (unhide HB3 _ rfl (j * 3) (by omega)).trans e0
      have cb1 := (unhide HB3 _ rfl (j * 3 + 1) (by omega)).trans e1
      have cb2 := (unhide HB3 _ rfl (j * 3 + 2) (by omega)).trans e2
      clear e0 e1 e2
      have hji : (j : Int) < (A.length : Int) := by omega
      simp only at ca0 ca1 ca2 cb0 cb1 cb2
      go_upto_region 6 with fail
      go_quiet (fail)
      go_wp2
      go_roundw
      case rel => exact ⟨j + 1, _, by omega, by go_num, rfl⟩
      case measure => simp [intOf]; omega
    · go_wp2
      go_ret
      exact ⟨rfl, _, rfl⟩

theorem filter_take_rw (f : Rw → Bool) (L : List Rw) (k : Nat) (h : k < L.length) : (L.take (k + 1)).filter f = (L.take k).filter f ++ (if f L[k] = true then [L[k]] else []) := by
  rw [List.take_succ_eq_append_getElem h, List.filter_append]
  congr 1
  simp only [List.filter_cons, List.filter_nil]

set_option maxRecDepth 10000 in
set_option maxHeartbeats 2000000 in
theorem between_any {w : World} {v : Value} {L : List Rw} (fr tt : Int) (h : w.ownsRow 0 38 3 v L.length (L.flatMap cellsR)) (hL : L.length ≤ 300) :
    Calls Tryz.prog 21 #[v, .int .i64 fr, .int .i64 tt] w (RowsP w (L.filter (inW fr tt))) := by
  obtain ⟨i0, hi, hz0, hz1, hz2⟩ := info_parts Tryz.info38
  obtain ⟨aL, capL, rfl, hncL, hcmL, nilL, aoL, cellL, -⟩ := owns_form h
  have HNL := hide nilL
  have HAL := hide aoL
  have HCL := hide cellL
  clear h nilL aoL cellL
  unfold maxLen at hcmL
  go_enter Tryz.func21, Tryz.ntmps21
  go_wp2_with fail
  go_loopw [7, 8] (fun v i wr => ∃ k : Nat, k ≤ L.length ∧ i = .int .i64 k ∧ wr.ownsRow w.heap.size 38 3 v ((L.take k).filter (inW fr tt)).length (((L.take k).filter (inW fr tt)).flatMap cellsR) ∧ Below w.heap.size w wr) (fun _ i _ => L.length - (intOf i).toNat)
  case atStart => exact ⟨0, Nat.zero_le _, rfl, World.ownsRow_nil _ _ _ _, Below.refl _ _⟩
  case round =>
    obtain ⟨k, hk, rfl, hown, hbr⟩ := hrel
    have hszr := hbr.size
    by_cases hlt : k < L.length
    · obtain ⟨⟨g, o, sp⟩, rfl⟩ : ∃ a, aL = some a := by
        cases aL with
        | none => have := (unhide HNL rfl).1; omega
        | some a => exact ⟨a, rfl⟩
      obtain ⟨ho, hsp, -, hgw⟩ := unhide HAL _ rfl
      simp only at ho hsp hgw
      subst ho hsp
      obtain ⟨e0, e1, e2⟩ := cellsR_at L k hlt
      have m0 := ((hbr.cell (p := ⟨g, k * 3, none⟩) hgw).trans (unhide HCL _ rfl _ (by omega))).trans e0
      have m1 := ((hbr.cell (p := ⟨g, k * 3 + 1, none⟩) hgw).trans (unhide HCL _ rfl _ (by omega))).trans e1
      have m2 := ((hbr.cell (p := ⟨g, k * 3 + 2, none⟩) hgw).trans (unhide HCL _ rfl _ (by omega))).trans e2
      clear e0 e1 e2
      have HS := hide (filter_take_rw (inW fr tt) L k hlt)
      have HW := hide (show inW fr tt L[k] = (decide (fr ≤ L[k].2.1) && decide (L[k].2.1 < tt)) from rfl)
      have hlen : ((L.take k).filter (inW fr tt)).length ≤ 300 := Nat.le_trans (List.length_filter_le _ _) (by simp; omega)
      have hki : (k : Int) < (L.length : Int) := by omega
      generalize (L.take k).filter (inW fr tt) = O at *
      generalize L[k] = r at *
      obtain ⟨lab, t, line⟩ := r
      simp only at m0 m1 m2 HS HW
      have HB := hide hbr
      obtain ⟨aO, cO, rfl, -, -, -, -, -, -⟩ := owns_form hown
      clear hbr
      by_cases h1 : fr ≤ t
      · by_cases h2 : t < tt
        · go_wp2_with (at_builtin; refine wpList_append_at _ rfl _ _ 28 rfl w.heap.size 38 i0 _ 3 40 Tryz.underlying28 hi hz0 hz1 hz2 rfl (by decide) _ _ _ rfl (hown.alloc _) (some ⟨_, 0, none⟩) 1 1 [SV lab, .int .i64 t, SV line] rfl rfl (by intro e; cases e) (cells_new _ _ _) (by intro u hu; simp at hu; rcases hu with rfl | rfl | rfl <;> rfl) (by unfold maxLen; omega) (by omega) (by simp; omega) ?_; intro v6 w6 hown6 hgrow6 hwh6)
          go_roundw
          case rel =>
            refine ⟨k + 1, by omega, by go_num, ?_, ((unhide HB).alloc hszr _).grown hgrow6 (by simp; omega) (fun k hk => (hown.lt k hk).1)⟩
            rw [unhide HS, if_pos (by rw [unhide HW]; simp [h1, h2]), List.flatMap_append, List.length_append]
            exact hown6
          case measure => simp [intOf]; omega
        · go_wp2_with fail
          go_roundw
          case rel =>
            refine ⟨k + 1, by omega, by go_num, ?_, unhide HB⟩
            rw [unhide HS, if_neg (by rw [unhide HW]; simp [h2]), List.append_nil]
            exact hown
          case measure => simp [intOf]; omega
      · go_wp2_with fail
        go_roundw
        case rel =>
          refine ⟨k + 1, by omega, by go_num, ?_, unhide HB⟩
          rw [unhide HS, if_neg (by rw [unhide HW]; simp [h1]), List.append_nil]
          exact hown
        case measure => simp [intOf]; omega
    · go_wp2
      go_ret
      refine ⟨_, rfl, ?_, hbr⟩
      rw [List.take_of_length_le (by omega)] at hown
      exact hown

end Go.Proofs.YtbljamcdaoofbaaGreatDoor

/- Rows in order: what is known of them, without a program. -/
namespace Go.Proofs.YtbljamcdaoofbaaGreatDoor

/-- Two lists of rows in order whose parts by streams are the same are the same. -/
theorem sort_ext : ∀ {A B : List Rw}, SortR A → SortR B → (∀ lab, A.filter (fun x => x.1 == lab) = B.filter (fun x => x.1 == lab)) → A = B
  | [], [], _, _, _ => rfl
  | [], b :: B, _, _, h => by have := h b.1; simp at this
  | a :: A, [], _, _, h => by have := h a.1; simp at this
  | a :: A, b :: B, ha, hb, h => by
    have ha' := List.pairwise_cons.1 ha
    have hb' := List.pairwise_cons.1 hb
    -- the first row of each is in the other one
    have hab : a ∈ b :: B := by
      have h1 : a ∈ (a :: A).filter (fun x => x.1 == a.1) := by simp
      rw [h] at h1
      exact (List.mem_filter.1 h1).1
    have hba : b ∈ a :: A := by
      have h1 : b ∈ (b :: B).filter (fun x => x.1 == b.1) := by simp
      rw [← h] at h1
      exact (List.mem_filter.1 h1).1
    have k1 : keyLess (kR a) (kR b) = false := by
      rcases List.mem_cons.1 hab with e | e
      · rw [e]; exact keyLess_irrefl _
      · exact hb'.1 a e
    have k2 : keyLess (kR b) (kR a) = false := by
      rcases List.mem_cons.1 hba with e | e
      · rw [e]; exact keyLess_irrefl _
      · exact ha'.1 b e
    have hkey : kR a = kR b := by
      rcases keyLess_total k1 with e | e
      · exact e
      · rw [k2] at e; cases e
    have hlab : a.1 = b.1 := congrArg Prod.snd hkey
    have heq : a = b := by
      have h1 := h a.1
      rw [List.filter_cons_of_pos (by simp), List.filter_cons_of_pos (by simp [hlab])] at h1
      exact (List.cons.inj h1).1
    subst heq
    rw [sort_ext ha'.2 hb'.2 (fun lab => ?_)]
    have h1 := h lab
    by_cases e : a.1 = lab
    · rw [List.filter_cons_of_pos (by simp [e]), List.filter_cons_of_pos (by simp [e])] at h1
      exact (List.cons.inj h1).2
    · rw [List.filter_cons_of_neg (by simp [e]), List.filter_cons_of_neg (by simp [e])] at h1
      exact h1

theorem SortR.sub {A B : List Rw} (h : SortR B) (hs : A.Sublist B) : SortR A := List.Pairwise.sublist hs h

/-- rows of a span of time, in order -/
def winL (fr tt : Int) (L : List Rw) : List Rw := askedL [] [] fr tt L

theorem wantB_win (fr tt : Int) (r : Rw) : wantB [] [] fr tt r = inW fr tt r := by
  unfold wantB inW asksB
  simp only [List.all_nil, Bool.true_and]
  have e1 : (!decide (r.2.1 < fr)) = decide (fr ≤ r.2.1) := by
    by_cases h : r.2.1 < fr
    · rw [decide_eq_true h, decide_eq_false (by omega)]; rfl
    · rw [decide_eq_false h, decide_eq_true (by omega)]; rfl
  have e2 : (!decide (tt ≤ r.2.1)) = decide (r.2.1 < tt) := by
    by_cases h : tt ≤ r.2.1
    · rw [decide_eq_true h, decide_eq_false (by omega)]; rfl
    · rw [decide_eq_false h, decide_eq_true (by omega)]; rfl
  rw [e1, e2]

theorem win_spec (fr tt : Int) {L : List Rw} (h : RiseL L) : SortR (winL fr tt L) ∧ (∀ lab, (winL fr tt L).filter (fun x => x.1 == lab) = (L.filter (inW fr tt)).filter (fun x => x.1 == lab)) ∧ (∀ x, x ∈ winL fr tt L ↔ x ∈ L ∧ inW fr tt x = true) := by
  obtain ⟨h1, h2, h3⟩ := askedL_spec [] [] fr tt h
  refine ⟨h1, fun lab => ?_, fun x => ?_⟩
  · rw [winL, h2]
    congr 1
    exact List.filter_congr fun r _ => wantB_win fr tt r
  · rw [winL, h3, wantB_win]

theorem asked_congr {M M' : List Mch} {Fs Fs' : List Flt} {fr tt fr' tt' : Int} {L : List Rw} (h : ∀ r ∈ L, wantB M Fs fr tt r = wantB M' Fs' fr' tt' r) : askedL M Fs fr tt L = askedL M' Fs' fr' tt' L := by
  unfold askedL
  have : ∀ (L : List Rw) (o : List Rw), (∀ r ∈ L, wantB M Fs fr tt r = wantB M' Fs' fr' tt' r) → L.foldl (fun out r => if wantB M Fs fr tt r = true then insR out r else out) o = L.foldl (fun out r => if wantB M' Fs' fr' tt' r = true then insR out r else out) o := by
    intro L
    induction L with
    | nil => intro o _; rfl
    | cons x L ih =>
      intro o hh
      rw [List.foldl_cons, List.foldl_cons, hh x (by simp)]
      exact ih _ (fun r hr => hh r (by simp [hr]))
  exact this L [] h

theorem ordLs_win {L : List Rw} {fr tt : Int} (h : ∀ r ∈ L, inW fr tt r = true) : ordLs L = winL fr tt L := by
  unfold ordLs winL askedL
  have : ∀ (L : List Rw) (o : List Rw), (∀ r ∈ L, inW fr tt r = true) → L.foldl insR o = L.foldl (fun out r => if wantB [] [] fr tt r = true then insR out r else out) o := by
    intro L
    induction L with
    | nil => intro o _; rfl
    | cons x L ih =>
      intro o hh
      rw [List.foldl_cons, List.foldl_cons, wantB_win, if_pos (hh x (by simp))]
      exact ih _ (fun r hr => hh r (by simp [hr]))
  exact this L [] h

/-- two spans that touch -/
theorem win_app {a b c : Int} (hab : a ≤ b) (hbc : b ≤ c) {L : List Rw} (h : RiseL L) : winL a b L ++ winL b c L = winL a c L := by
  obtain ⟨s1, p1, m1⟩ := win_spec a b h
  obtain ⟨s2, p2, m2⟩ := win_spec b c h
  obtain ⟨s3, p3, m3⟩ := win_spec a c h
  refine sort_ext ?_ s3 (fun lab => ?_)
  · refine List.pairwise_append.2 ⟨s1, s2, fun x hx y hy => ?_⟩
    have hx' := ((m1 x).1 hx).2
    have hy' := ((m2 y).1 hy).2
    unfold inW at hx' hy'
    simp only [Bool.and_eq_true, decide_eq_true_eq] at hx' hy'
    unfold keyLess kR
    simp only
    rw [if_neg (by omega)]
    simp
    omega
  · rw [List.filter_append, p1, p2, p3, List.filter_filter, List.filter_filter, List.filter_filter]
    -- the lines of one stream rise by their times
    have key : ∀ L : List Rw, RiseL L → L.filter (fun r => (r.1 == lab) && inW a b r) ++ L.filter (fun r => (r.1 == lab) && inW b c r) = L.filter (fun r => (r.1 == lab) && inW a c r) := by
      intro L
      induction L with
      | nil => intro _; rfl
      | cons x L ih =>
        intro hL
        have hL' := List.pairwise_cons.1 hL
        have ih' := ih hL'.2
        by_cases e : x.1 = lab
        · by_cases h1 : x.2.1 < a
          · rw [List.filter_cons_of_neg (by simp [inW]; omega), List.filter_cons_of_neg (by simp [inW]; omega), List.filter_cons_of_neg (by simp [inW]; omega)]
            exact ih'
          · by_cases h2 : x.2.1 < b
            · rw [List.filter_cons_of_pos (by simp [inW, e]; omega), List.filter_cons_of_neg (by simp [inW]; omega), List.filter_cons_of_pos (by simp [inW, e]; omega), List.cons_append, ih']
            · have hnil : L.filter (fun r => (r.1 == lab) && inW a b r) = [] := by
                rw [List.filter_eq_nil_iff]
                intro y hy
                by_cases e2 : y.1 = lab
                · have := hL'.1 y hy (by rw [e, e2])
                  simp [inW]
                  omega
                · simp [e2]
              by_cases h3 : x.2.1 < c
              · rw [List.filter_cons_of_neg (by simp [inW]; omega), List.filter_cons_of_pos (by simp [inW, e]; omega), List.filter_cons_of_pos (by simp [inW, e]; omega), hnil, List.nil_append]
                rw [hnil, List.nil_append] at ih'
                rw [ih']
              · rw [List.filter_cons_of_neg (by simp [inW]; omega), List.filter_cons_of_neg (by simp [inW]; omega), List.filter_cons_of_neg (by simp [inW]; omega)]
                exact ih'
        · rw [List.filter_cons_of_neg (by simp [e]), List.filter_cons_of_neg (by simp [e]), List.filter_cons_of_neg (by simp [e])]
          exact ih'
    exact key L h

/-- the rows of a span among all rows -/
theorem win_filter {a c fr tt : Int} {L : List Rw} (h : RiseL L) (hall : ∀ r ∈ L, inW fr tt r = true) : (winL fr tt L).filter (inW a c) = winL a c L := by
  obtain ⟨s1, p1, m1⟩ := win_spec fr tt h
  obtain ⟨s3, p3, m3⟩ := win_spec a c h
  refine sort_ext (s1.sub List.filter_sublist) s3 (fun lab => ?_)
  rw [List.filter_filter, p3]
  have e : ((winL fr tt L).filter (fun r => (r.1 == lab) && inW a c r)) = ((winL fr tt L).filter (fun x => x.1 == lab)).filter (inW a c) := by
    rw [List.filter_filter]
    exact List.filter_congr fun r _ => Bool.and_comm _ _
  rw [e, p1, List.filter_filter, List.filter_filter, List.filter_filter]
  refine List.filter_congr fun r hr => ?_
  rw [hall r hr, Bool.and_true, Bool.and_comm]

theorem win_len (fr tt : Int) (L : List Rw) : (winL fr tt L).length ≤ L.length := askedL_len _ _ _ _ _

end Go.Proofs.YtbljamcdaoofbaaGreatDoor

/- Tokens by a bound, so that a query that is written out can be reckoned; the query that asks for all lines. -/
namespace Go.Proofs.YtbljamcdaoofbaaGreatDoor
open Go.RowKit

def toksF : Nat → List UInt8 → Nat → List Tok
  | 0, _, _ => []
  | f + 1, s, p =>
    if (tok1 (s.drop (p + blanks (s.drop p)))).1 < 4 then
      ⟨(tok1 (s.drop (p + blanks (s.drop p)))).1, p + blanks (s.drop p), (tok1 (s.drop (p + blanks (s.drop p)))).2.1⟩ :: toksF f s (p + blanks (s.drop p) + (tok1 (s.drop (p + blanks (s.drop p)))).2.2)
    else [⟨(tok1 (s.drop (p + blanks (s.drop p)))).1, p + blanks (s.drop p), (tok1 (s.drop (p + blanks (s.drop p)))).2.1⟩]

theorem toksF_eq : ∀ (f : Nat) (s : List UInt8) (p : Nat), s.length - p < f → toksF f s p = toks s p
  | 0, s, p, h => by omega
  | f + 1, s, p, h => by
    rw [toksF, toks]
    split
    · rename_i hk
      have hg := tok1_go hk
      rw [List.length_drop] at hg
      rw [toksF_eq f s _ (by omega)]
    · rfl

def parseF (l : List UInt8) : Nat × Bool × Qry := ((tokAt (toksF (l.length + 1) l 0) (wholeI (toksF (l.length + 1) l 0)).1).pos, (wholeI (toksF (l.length + 1) l 0)).2.1, (wholeI (toksF (l.length + 1) l 0)).2.2)
theorem parseF_eq (l : List UInt8) : parseL l = parseF l := by
  unfold parseL parseF
  rw [toksF_eq _ _ _ (by omega)]

/-- the query that asks for all lines -/
def evQ : List UInt8 := [123, 110, 111, 110, 101, 32, 33, 61, 32, 34, 120, 34, 125]
theorem ev_parse : parseL evQ = (13, true, ⟨[⟨[110, 111, 110, 101], [120], true⟩], [], [], 0, []⟩) := by
  rw [parseF_eq]
  kernel_rfl

theorem ev_five : ∀ lab ∈ five, okM lab ⟨[110, 111, 110, 101], [120], true⟩ = true := by
  intro lab h
  simp only [five, List.mem_cons, List.not_mem_nil, or_false] at h
  rcases h with rfl | rfl | rfl | rfl | rfl <;> kernel_rfl

theorem ev_want {fr tt : Int} {r : Rw} (h : r.1 ∈ five) : wantB [⟨[110, 111, 110, 101], [120], true⟩] [] fr tt r = wantB [] [] fr tt r := by
  unfold wantB asksB
  rw [List.all_cons, ev_five _ h]
  rfl

/-- all lines of a span: as many as there may be -/
theorem ev_rows {fr tt lim : Int} {bw : Bool} {L : List Rw} (h5 : ∀ r ∈ L, r.1 ∈ five) (h1 : 0 ≤ fr) (h2 : fr ≤ tt) (h3 : tt ≤ 1000001) (h4 : 0 ≤ lim) (h6 : lim ≤ 50) :
    rowsE evQ fr tt lim = (0, 0) ∧ rowsA evQ fr tt lim bw L = (ordR bw (winL fr tt L)).take lim.toNat := by
  have hE : rowsE evQ fr tt lim = (0, 0) := by
    unfold rowsE
    rw [ev_parse, if_neg (by decide), if_neg (by decide), if_neg (by decide), if_neg (by omega), if_neg (by omega)]
  refine ⟨hE, ?_⟩
  unfold rowsA
  rw [hE, if_pos rfl, ev_parse]
  rw [show askedL [⟨[110, 111, 110, 101], [120], true⟩] [] fr tt L = winL fr tt L from asked_congr fun r hr => ev_want (h5 r hr)]

/-- what holds of a store that loamkeep has filled -/
structure Fill (S : List Strm) (L : List Rw) (t : Int) : Prop where
  labs : ∀ y ∈ S, y.1 ∈ five
  top : ∀ y ∈ S, y.2 ≤ t
  has : ∀ y ∈ S, ∃ r ∈ L, r.1 = y.1 ∧ r.2.1 = y.2
  back : ∀ r ∈ L, ∃ y ∈ S, y.1 = r.1 ∧ r.2.1 ≤ y.2
  uniq : (S.map (·.1)).Nodup
  times : ∀ r ∈ L, 0 ≤ r.2.1 ∧ r.2.1 ≤ t
  lab5 : ∀ r ∈ L, r.1 ∈ five
  short : ∀ r ∈ L, r.2.2.length ≤ 40
  sorted : L.Pairwise (fun a b => a.2.1 ≤ b.2.1)
  t0 : 0 ≤ t

theorem Fill.empty : Fill [] [] 0 := ⟨fun y h => (by cases h), fun y h => (by cases h), fun y h => (by cases h), fun y h => (by cases h), List.Pairwise.nil, fun y h => (by cases h), fun y h => (by cases h), fun y h => (by cases h), List.Pairwise.nil, Int.le_refl _⟩

theorem Fill.rise {S : List Strm} {L : List Rw} {t : Int} (h : Fill S L t) : RiseL L := by
  unfold RiseL
  refine List.Pairwise.imp ?_ h.sorted
  intro a b hh _
  exact hh

theorem five_ok : ∀ lab ∈ five, labelsB lab = true := by
  intro lab h
  simp only [five, List.mem_cons, List.not_mem_nil, or_false] at h
  rcases h with rfl | rfl | rfl | rfl | rfl <;> kernel_rfl
theorem five_len : ∀ lab ∈ five, lab.length ≤ 20 := by
  intro lab h
  simp only [five, List.mem_cons, List.not_mem_nil, or_false] at h
  rcases h with rfl | rfl | rfl | rfl | rfl <;> decide

theorem nodup_le : ∀ {l m : List (List UInt8)}, l.Nodup → (∀ x ∈ l, x ∈ m) → l.length ≤ m.length
  | [], m, _, _ => Nat.zero_le _
  | a :: l, m, h, hs => by
    have h' := List.nodup_cons.1 h
    have ha := hs a (by simp)
    have := nodup_le (m := m.erase a) h'.2 (fun x hx => (List.mem_erase_of_ne (show x ≠ a by rintro rfl; exact h'.1 hx)).2 (hs x (by simp [hx])))
    rw [List.length_erase_of_mem ha] at this
    have hm := List.length_pos_of_mem ha
    simp
    omega

theorem Fill.six {S : List Strm} {L : List Rw} {t : Int} (h : Fill S L t) : S.length ≤ 5 := by
  have := nodup_le (m := five) h.uniq (fun x hx => by
    obtain ⟨y, hy, rfl⟩ := List.mem_map.1 hx
    exact h.labs y hy)
  simpa [five] using this

/-- a line more -/
theorem Fill.push {S : List Strm} {L : List Rw} {t : Int} (h : Fill S L t) {l x : List UInt8} {t' : Int} (hl : l ∈ five) (ht : t ≤ t') (ht2 : t' ≤ 1000000) (hx : x.length ≤ 40) (hn : L.length < 300) :
    (pushR S L l t' x).1 = 0 ∧ (pushR S L l t' x).2.2 = L ++ [(l, t', x)] ∧ Fill (pushR S L l t' x).2.1 (L ++ [(l, t', x)]) t' := by
  have h0 := h.t0
  have e1 : ¬ labelsB l = false := by rw [five_ok l hl]; decide
  have e2 : ¬ timeB t' = false := by unfold timeB; simp; omega
  have e3 : ¬ 40 < x.length := by omega
  have h6 := h.six
  unfold pushR
  rw [if_neg e1, if_neg e2, if_neg e3]
  have hback : ∀ r ∈ L ++ [(l, t', x)], 0 ≤ r.2.1 ∧ r.2.1 ≤ t' := by
    intro r hr
    rcases List.mem_append.1 hr with hr | hr
    · have := h.times r hr; omega
    · rw [List.mem_singleton.1 hr]; exact ⟨by show 0 ≤ t'; omega, Int.le_refl _⟩
  have hlab5 : ∀ r ∈ L ++ [(l, t', x)], r.1 ∈ five := by
    intro r hr
    rcases List.mem_append.1 hr with hr | hr
    · exact h.lab5 r hr
    · rw [List.mem_singleton.1 hr]; exact hl
  have hshort : ∀ r ∈ L ++ [(l, t', x)], r.2.2.length ≤ 40 := by
    intro r hr
    rcases List.mem_append.1 hr with hr | hr
    · exact h.short r hr
    · rw [List.mem_singleton.1 hr]; exact hx
  have hsorted : (L ++ [(l, t', x)]).Pairwise (fun a b => a.2.1 ≤ b.2.1) := by
    rw [List.pairwise_append]
    refine ⟨h.sorted, List.pairwise_singleton _ _, fun a ha b hb => ?_⟩
    rw [List.mem_singleton.1 hb]
    have := h.times a ha
    show a.2.1 ≤ t'
    omega
  by_cases hk : at_ S l < S.length
  · rw [dif_pos hk]
    have htop := h.top _ (List.getElem_mem hk)
    rw [if_neg (by omega), if_neg (by omega)]
    have hlab : S[at_ S l].1 = l := by
      have := List.findIdx_getElem (w := hk)
      change S[List.findIdx (fun y : Strm => y.1 == l) S].1 = l
      simpa using this
    refine ⟨rfl, rfl, ⟨?_, ?_, ?_, ?_, ?_, hback, hlab5, hshort, hsorted, by omega⟩⟩
    · intro y hy
      rcases List.mem_or_eq_of_mem_set hy with hy | rfl
      · exact h.labs y hy
      · exact h.labs (S[at_ S l]) (List.getElem_mem hk)
    · intro y hy
      rcases List.mem_or_eq_of_mem_set hy with hy | rfl
      · have := h.top y hy; omega
      · exact Int.le_refl _
    · intro y hy
      rcases List.mem_or_eq_of_mem_set hy with hy | rfl
      · obtain ⟨r, hr, e⟩ := h.has y hy
        exact ⟨r, by simp [hr], e⟩
      · exact ⟨(l, t', x), by simp, hlab.symm, rfl⟩
    · intro r hr
      have hset : (S[at_ S l].1, t') ∈ S.set (at_ S l) (S[at_ S l].1, t') := List.mem_set hk _
      rcases List.mem_append.1 hr with hr | hr
      · obtain ⟨y, hy, e, hle⟩ := h.back r hr
        by_cases e2 : y.1 = l
        · refine ⟨_, hset, by rw [hlab, ← e2, e], ?_⟩
          have := h.times r hr
          show r.2.1 ≤ t'
          omega
        · refine ⟨y, ?_, e, hle⟩
          obtain ⟨j, hj, rfl⟩ := List.getElem_of_mem hy
          have hne : at_ S l ≠ j := by
            rintro rfl
            exact e2 hlab
          have : (S.set (at_ S l) (S[at_ S l].1, t'))[j]'(by simpa using hj) = S[j] := by
            rw [List.getElem_set, if_neg hne]
          rw [← this]
          exact List.getElem_mem _
      · rw [List.mem_singleton.1 hr]
        exact ⟨_, hset, hlab, Int.le_refl _⟩
    · rw [List.map_set]
      have : (S.map (·.1)).set (at_ S l) S[at_ S l].1 = S.map (·.1) := by
        have e : S[at_ S l].1 = (S.map (·.1))[at_ S l]'(by simpa using hk) := by simp
        rw [e, List.set_getElem_self]
      rw [this]
      exact h.uniq
  · rw [dif_neg hk, if_neg (by omega), if_neg (by omega)]
    have hno : ∀ y ∈ S, y.1 ≠ l := by
      intro y hy e
      have : at_ S l < S.length := by
        unfold at_
        rw [List.findIdx_lt_length]
        exact ⟨y, hy, by simp [e]⟩
      exact hk this
    refine ⟨rfl, rfl, ⟨?_, ?_, ?_, ?_, ?_, hback, hlab5, hshort, hsorted, by omega⟩⟩
    · intro y hy
      rcases List.mem_append.1 hy with hy | hy
      · exact h.labs y hy
      · rw [List.mem_singleton.1 hy]; exact hl
    · intro y hy
      rcases List.mem_append.1 hy with hy | hy
      · have := h.top y hy; omega
      · rw [List.mem_singleton.1 hy]; exact Int.le_refl _
    · intro y hy
      rcases List.mem_append.1 hy with hy | hy
      · obtain ⟨r, hr, e⟩ := h.has y hy
        exact ⟨r, by simp [hr], e⟩
      · rw [List.mem_singleton.1 hy]; exact ⟨(l, t', x), by simp, rfl, rfl⟩
    · intro r hr
      rcases List.mem_append.1 hr with hr | hr
      · obtain ⟨y, hy, e, hle⟩ := h.back r hr
        exact ⟨y, by simp [hy], e, hle⟩
      · rw [List.mem_singleton.1 hr]; exact ⟨(l, t'), by simp, rfl, Int.le_refl _⟩
    · rw [List.map_append]
      refine List.nodup_append.2 ⟨h.uniq, by simp, ?_⟩
      intro a ha b hb
      obtain ⟨y, hy, rfl⟩ := List.mem_map.1 ha
      rw [List.map_cons, List.map_nil, List.mem_singleton] at hb
      subst hb
      exact hno y hy

end Go.Proofs.YtbljamcdaoofbaaGreatDoor
