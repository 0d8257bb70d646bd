/- Texts RPut, RSample, MeasAll, PSamples, PGroup, joined. -/
import Derived.Test.YtbljamcdaoofbaaGreatDoorParseToRefRest
import Derived.Test.YtbljamcdaoofbaaGreatDoorFloatWordToMeasSpec
import Derived.Test.YtbljamcdaoofbaaGreatDoorPValueToRKey
import Derived.Test.YtbljamcdaoofbaaGreatDoorRAskedOne
import Derived.Deep.RegionLaw
import Derived.Deep.CutRange
/- The reference's put, for more texts. -/
namespace Go.Proofs.YtbljamcdaoofbaaGreatDoor
open Go.RowKit

set_option maxRecDepth 10000 in
set_option maxHeartbeats 2000000 in
theorem put_m (l : List (List UInt8)) (v : Value) (s : List UInt8) (w : World) (B : Nat) (hB : B ≤ w.heap.size) (hown : w.ownsRow B 9 1 v l.length (l.map SV)) (hl : l.length ≤ 300) :
    Calls Tryz.prog 118 #[v, .string ⟨s.toArray⟩] w fun e w' => ∃ v', e = .returned v' ∧ w'.ownsRow B 9 1 v' (putL l s).length ((putL l s).map SV) ∧ Below w.heap.size w w' := by
  obtain ⟨i0, hi, hz0, hz1, hz2⟩ := info_parts Tryz.info9
  have hown0 := hown
  obtain ⟨ao, cap, rfl, hnc, hcm, hnil, hao, hcell, hfz⟩ := owns_form hown
  clear hown hfz
  unfold maxLen at hcm
  have HN := hide hnil
  have HA := hide hao
  have HC := hide hcell
  clear hnil hao hcell
  go_enter Tryz.func118, Tryz.ntmps118
  go_wp2
  go_loop [5, 6] (fun a i => ∃ k : Nat, k ≤ l.length ∧ i = .int .i64 k ∧ a = .int .i64 (putK l s k) ∧ (∀ j (h : j < l.length), j < k → (l[j] == s) = false)) (fun _ i => l.length - (intOf i).toNat)
  case atStart => exact ⟨0, Nat.zero_le _, rfl, rfl, fun j _ h => by omega⟩
  case round =>
    obtain ⟨k, hk, rfl, rfl, hno⟩ := hrel
    have HNO := hide hno
    clear hno
    by_cases hlt : k < l.length
    · obtain ⟨⟨g, o, sp⟩, rfl⟩ : ∃ a, ao = some a := by
        cases ao with
        | none => have := (unhide HN rfl).1; omega
        | some a => exact ⟨a, rfl⟩
      obtain ⟨ho, hsp, hBg, hgw⟩ := unhide HA _ rfl
      simp only at ho hsp hgw hBg
      subst ho hsp
      have hc := unhide HC _ rfl k (by omega)
      rw [map_SV_at l k hlt] at hc
      have HP := hide (putK_succ l s k)
      have hpk := putK_le l s k
      go_wp2
      · go_ret
        refine ⟨_, rfl, ?_, Below.refl _ _⟩
        have hm : s ∈ l := by
          have e : l[k] = s := by simpa using ‹(l[k] == s) = true›
          rw [← e]; exact List.getElem_mem hlt
        have hp : putL l s = l := by rw [putL, if_pos (by simpa using hm)]
        rw [hp]
        exact hown0
      · go_round
        case rel =>
          refine ⟨k + 1, by omega, by go_num, ?_, fun j hj hjk => ?_⟩
          · rw [unhide HP, if_pos (by simpa [hlt] using ‹Op.bytesLess l[k] s = true›)]; go_num
          · by_cases e : j = k
            · subst e; assumption
            · exact unhide HNO j hj (by omega)
        case measure => simp [intOf]; omega
      · go_round
        case rel =>
          refine ⟨k + 1, by omega, by go_num, ?_, fun j hj hjk => ?_⟩
          · rw [unhide HP, if_neg (by simpa [hlt] using ‹Op.bytesLess l[k] s = false›)]
          · by_cases e : j = k
            · subst e; assumption
            · exact unhide HNO j hj (by omega)
        case measure => simp [intOf]; omega
    · have hkl : k = l.length := by omega
      have hnm : l.contains s = false := by
        rw [Bool.eq_false_iff]
        intro h
        have hm : s ∈ l := by simpa using h
        obtain ⟨j, hj, e⟩ := List.getElem_of_mem hm
        have := unhide HNO j hj (by omega)
        simp [e] at this
      have hpk := putK_le l s k
      have HP := hide (show putL l s = l.take (putK l s k) ++ [s] ++ l.drop (putK l s k) by rw [putL, hnm, hkl]; rfl)
      generalize putK l s k = a at *
      clear hnm HNO
      cases ao with
      | none =>
        have hl0 : l = [] := List.eq_nil_of_length_eq_zero (unhide HN rfl).1
        have ha0 : a = 0 := by subst hl0; simp at hkl; omega
        have hc0 : cap = 0 := (unhide HN rfl).2
        subst hl0 ha0 hc0
        clear hkl
        go_upto_region 11 with (at_builtin; refine wpList_append_at _ rfl (.tmp 29) (.tmp 32) 33 rfl w.heap.size 9 i0 (.string ByteArray.empty) 1 16 Tryz.underlying33 hi hz0 hz1 hz2 rfl (by decide) (.slice none 0 0) _ _ rfl (World.ownsRow_nil _ _ _ _) none 0 0 [] rfl rfl (fun _ => ⟨rfl, rfl⟩) (by intro _ e; cases e) (by intro u hu; cases hu) (by unfold maxLen; omega) (by omega) (Nat.le_refl _) ?_; intro v1 w1 hown1 hgrow1 hwh1)
        simp only [Nat.zero_add, List.nil_append] at hown1
        have hb1 : Below w.heap.size w w1 := (Below.refl _ w).grown hgrow1 (Nat.le_refl _) (fun k hk => by simp [Value.ownBlock] at hk)
        clear hgrow1 hwh1
        have hs1 := hb1.size
        go_upto_region 12 with (at_builtin; refine wpList_append_at _ rfl (.tmp 34) (.tmp 36) 33 rfl w.heap.size 9 i0 (.string ByteArray.empty) 1 16 Tryz.underlying33 hi hz0 hz1 hz2 rfl (by decide) v1 _ _ rfl (hown1.alloc _) (some ⟨w1.heap.size, 0, none⟩) 1 1 [SV s] rfl rfl (by intro e; cases e) (cells_new w1 _ _) (by intro u hu; simp at hu; subst hu; rfl) (by unfold maxLen; omega) (by omega) (by simp; omega) ?_; intro v2 w2 hown2 hgrow2 hwh2)
        have hb2 : Below w.heap.size w w2 := (hb1.alloc hs1 _).grown hgrow2 (by simp; omega) (fun k hk => (hown1.lt k hk).1)
        clear hgrow2 hwh2
        have hs2 := hb2.size
        go_wp2_with (at_builtin; refine wpList_append_at _ rfl (.tmp 38) (.tmp 41) 33 rfl w.heap.size 9 i0 (.string ByteArray.empty) 1 16 Tryz.underlying33 hi hz0 hz1 hz2 rfl (by decide) v2 _ _ rfl hown2 none 0 0 [] rfl rfl (fun _ => ⟨rfl, rfl⟩) (by intro _ e; cases e) (by intro u hu; cases hu) (by unfold maxLen; omega) (by omega) (by omega) ?_; intro v3 w3 hown3 hgrow3 hwh3)
        go_ret
        refine ⟨v3, rfl, ?_, hb2.grown hgrow3 hs2 (fun k hk => (hown2.lt k hk).1)⟩
        rw [unhide HP]
        exact ownsRow_base hown3 hB
      | some ad =>
        obtain ⟨g, o, sp⟩ := ad
        obtain ⟨ho, hsp, hBg, hgw⟩ := unhide HA _ rfl
        simp only at ho hsp hgw hBg
        subst ho hsp
        have hkeep : ∀ j u, (l.map SV)[j]? = some u → w.cell? ⟨g, j, none⟩ = some u := fun j u hu => by
          have hj : j < l.length := by
            have := (List.getElem?_eq_some_iff.1 hu).1
            simpa using this
          exact (unhide HC _ rfl j (by omega)).trans hu
        have HK := hide hkeep
        clear hkeep
        go_upto_region 11 with (at_builtin; refine wpList_append_at _ rfl (.tmp 29) (.tmp 32) 33 rfl w.heap.size 9 i0 (.string ByteArray.empty) 1 16 Tryz.underlying33 hi hz0 hz1 hz2 rfl (by decide) (.slice none 0 0) _ _ rfl (World.ownsRow_nil _ _ _ _) (some ⟨g, 0, none⟩) a cap ((l.take a).map SV) rfl (by simp; omega) (by intro e; cases e) (take_cells (unhide HK) a) (map_SV_one _) (by unfold maxLen; omega) (by omega) (Nat.le_refl _) ?_; intro v1 w1 hown1 hgrow1 hwh1)
        simp only [Nat.zero_add, List.nil_append] at hown1
        have hb1 : Below w.heap.size w w1 := (Below.refl _ w).grown hgrow1 (Nat.le_refl _) (fun k hk => by simp [Value.ownBlock] at hk)
        clear hgrow1 hwh1
        have hs1 := hb1.size
        go_upto_region 12 with (at_builtin; refine wpList_append_at _ rfl (.tmp 34) (.tmp 36) 33 rfl w.heap.size 9 i0 (.string ByteArray.empty) 1 16 Tryz.underlying33 hi hz0 hz1 hz2 rfl (by decide) v1 _ _ rfl (hown1.alloc _) (some ⟨w1.heap.size, 0, none⟩) 1 1 [SV s] rfl rfl (by intro e; cases e) (cells_new w1 _ _) (by intro u hu; simp at hu; subst hu; rfl) (by unfold maxLen; omega) (by omega) (by simp; omega) ?_; intro v2 w2 hown2 hgrow2 hwh2)
        have hb2 : Below w.heap.size w w2 := (hb1.alloc hs1 _).grown hgrow2 (by simp; omega) (fun k hk => (hown1.lt k hk).1)
        clear hgrow2 hwh2
        have hs2 := hb2.size
        go_wp2_with (at_builtin; refine wpList_append_at _ rfl (.tmp 38) (.tmp 41) 33 rfl w.heap.size 9 i0 (.string ByteArray.empty) 1 16 Tryz.underlying33 hi hz0 hz1 hz2 rfl (by decide) v2 _ _ rfl hown2 _ _ _ ((l.drop a).map SV) rfl ?c1 ?c2 ?c3 (map_SV_one _) (by unfold maxLen; omega) (by omega) (by omega) ?_; rotate_right; intro v3 w3 hown3 hgrow3 hwh3)
        · go_ret
          refine ⟨v3, rfl, ?_, hb2.grown hgrow3 hs2 (fun k hk => (hown2.lt k hk).1)⟩
          rw [unhide HP]
          have hn : (l.take a ++ [s] ++ l.drop a).length = a + 1 + (l.length - a) := by simp; omega
          rw [hn, List.map_append, List.map_append]
          exact ownsRow_base hown3 hB
        · go_ret
          refine ⟨v3, rfl, ?_, hb2.grown hgrow3 hs2 (fun k hk => (hown2.lt k hk).1)⟩
          rw [unhide HP]
          have hn : (l.take a ++ [s] ++ l.drop a).length = a + 1 + (l.length - a) := by simp; omega
          rw [hn, List.map_append, List.map_append]
          exact ownsRow_base hown3 hB
        · intro j u hu
          have := (List.getElem?_eq_some_iff.1 hu).1
          omega
        · intro j u hu
          rw [hb2.cell (by exact hgw)]
          refine unhide HK _ _ ?_
          rw [List.getElem?_map, hu]
          rfl


end Go.Proofs.YtbljamcdaoofbaaGreatDoor

/- The reference's sample. -/
namespace Go.Proofs.YtbljamcdaoofbaaGreatDoor
open Go.RowKit

def SampP (meas : List UInt8) (span : Nat) (G : List Rw) (w : World) (e : Ending) (w' : World) : Prop :=
  e = .returned (.tuple #[.int .i64 ((smpS meas span G.length (bytesL G) (manyL G) (sumL G)).getD 0), .bool (smpS meas span G.length (bytesL G) (manyL G) (sumL G)).isSome]) ∧ ∃ n, w' = w.drewN n

theorem SampP.some {meas : List UInt8} {span x n : Nat} {G : List Rw} {w w' : World} {e : Ending} (h : smpS meas span G.length (bytesL G) (manyL G) (sumL G) = some x) (he : e = .returned (.tuple #[.int .i64 x, .bool true])) (hw : w' = w.drewN n) : SampP meas span G w e w' := by
  unfold SampP
  rw [h]
  exact ⟨he, n, hw⟩
theorem SampP.none {meas : List UInt8} {span n : Nat} {G : List Rw} {w w' : World} {e : Ending} (h : smpS meas span G.length (bytesL G) (manyL G) (sumL G) = none) (he : e = .returned (.tuple #[.int .i64 0, .bool false])) (hw : w' = w.drewN n) : SampP meas span G w e w' := by
  unfold SampP
  rw [h]
  exact ⟨he, n, hw⟩

set_option maxRecDepth 10000 in
set_option maxHeartbeats 2000000 in
theorem sample_any {w : World} {base qb : Nat} {vM vF : Value} {meas by_ : List UInt8} {span : Nat} {bad : Int} {M : List Mch} {Fs : List Flt} {v : Value} {G : List Rw} (hq : RQAt w base qb vM vF meas span by_ bad M Fs) (hs : 0 < span) (hs2 : span ≤ 1000000)
    (hG : w.ownsRow 0 38 3 v G.length (G.flatMap cellsR)) (hG3 : G.length ≤ 300) (hx : ∀ r ∈ G, r.2.2.length ≤ 40) :
    Calls Tryz.prog 122 #[.pointer (some ⟨qb, 0, none⟩), v] w (SampP meas span G w) := by
  obtain ⟨aG, capG, rfl, -, hcm, hnil, hao, hcell, -⟩ := owns_form hG
  have HN := hide hnil
  have HA := hide hao
  have HC := hide hcell
  have HX := hide hx
  obtain ⟨-, -, c2, c3, -, -, -⟩ := rcell6 hq.block
  have HB := hide hq.block
  clear hnil hao hcell hG hq hx c2 c3
  go_enter Tryz.func122, Tryz.ntmps122
  go_wp2_with fail
  go_loopw [6, 7, 8, 9, 10, 11] (fun b m s i _ _ wr => ∃ j n : Nat, j ≤ G.length ∧ i = .int .i64 j ∧ b = .int .i64 (bytesL (G.take j)) ∧ m = .int .i64 (manyL (G.take j)) ∧ s = .int .i64 (sumL (G.take j)) ∧ wr = w.drewN n) (fun _ _ _ i _ _ _ => G.length - (intOf i).toNat)
  case atStart => exact ⟨0, 0, Nat.zero_le _, rfl, rfl, rfl, rfl, rfl⟩
  case round =>
    obtain ⟨j, n, hj, rfl, rfl, rfl, rfl, rfl⟩ := hrel
    by_cases hlt : j < G.length
    · obtain ⟨⟨g, o, sp⟩, rfl⟩ : ∃ a, aG = some a := by
        cases aG with
        | none => have := (unhide HN rfl).1; omega
        | some a => exact ⟨a, rfl⟩
      obtain ⟨ho, hsp, -, -⟩ := unhide HA _ rfl
      simp only at ho hsp
      subst ho hsp
      obtain ⟨-, -, e2⟩ := cellsR_at G j hlt
      have m2 : (w.drewN n).cell? ⟨g, j * 3 + 2, none⟩ = some (SV G[j].2.2) := (unhide HC _ rfl _ (by omega)).trans e2
      have hnum := numbers_any G[j].2.2 (w.drewN n) (by have := unhide HX G[j] (List.getElem_mem _); omega)
      have hl40 := unhide HX G[j] (List.getElem_mem _)
      have HS1 := hide (bytesL_snoc G j hlt)
      have HS2 := hide (manyL_snoc G j hlt)
      have HS3 := hide (sumL_snoc G j hlt)
      have b1 := bytesL_le (G.take j) (fun r hr => unhide HX r (List.mem_of_mem_take hr))
      have b2 := manyL_le (G.take j)
      have b3 := sumL_abs (G.take j)
      have b4 := numV_abs G[j].2.2
      have b5 : numB G[j].2.2 = false → numV G[j].2.2 = 0 := numV_zero
      have htl : (G.take j).length = j := by rw [List.length_take]; omega
      rw [htl] at b1 b2 b3
      have HB5 := hide b5
      clear b5 htl e2
      unfold NumP at hnum
      generalize bytesL (G.take j) = bb at *
      generalize manyL (G.take j) = mm at *
      generalize sumL (G.take j) = ss at *
      generalize hln : G[j].2.2 = ln at *
      have hji : (j : Int) < (G.length : Int) := by omega
      generalize numV ln = nv at *
      cases hnb : numB ln with
      | true =>
        rw [hnb] at hnum HS2
        clear HB5 hln
        go_wp2_with fail
        refine hnum.mono ?_
        rintro e w' ⟨rfl, hww⟩
        rw [hww]
        clear hww w' hnum
        go_wp2_with fail
        go_roundw
        case rel => exact ⟨j + 1, n, by omega, by go_num, by rw [unhide HS1]; go_num, by rw [unhide HS2]; go_num, by rw [unhide HS3], rfl⟩
        case measure => simp [intOf]; omega
      | false =>
        rw [hnb] at hnum HS2
        have hnv : nv = 0 := unhide HB5 hnb
        clear HB5 hln
        go_wp2_with fail
        refine hnum.mono ?_
        rintro e w' ⟨rfl, hww⟩
        rw [hww]
        clear hww w' hnum
        go_wp2_with fail
        go_roundw
        case rel => exact ⟨j + 1, n, by omega, by go_num, by rw [unhide HS1]; go_num, by rw [unhide HS2]; rfl, by rw [unhide HS3, hnv]; simp, rfl⟩
        case measure => simp [intOf]; omega
    · have hjG : j = G.length := by omega
      subst hjG
      rw [List.take_length]
      obtain ⟨-, -, c2, c3, -, -, -⟩ := rcell6 (show (w.drewN n).heap[qb]? = _ from unhide HB)
      have b1 := bytesL_le G (unhide HX)
      have b2 := manyL_le G
      have b3 := sumL_abs G
      clear HN HA HC HX HB
      have f1 := fun A D h1 h2 h3 => rfloat_any A D (w.drewN n) h1 h2 h3
      have f2 := fun B h => rwhole_any B (w.drewN n) h
      generalize hbb : bytesL G = bb at *
      generalize hmm : manyL G = mm at *
      generalize hss : sumL G = ss at *
      generalize hnn : G.length = nn at *
      have HSM : Hid (∀ x, smpS meas span nn bb mm ss = x → smpS meas span G.length (bytesL G) (manyL G) (sumL G) = x) := by
        intro x hx
        rw [hbb, hmm, hss, hnn]
        exact hx
      clear hbb hmm hss hj hlt
      go_upto_region 12 with fail
      cases t1 : (meas == [99, 111, 117, 110, 116]) with
      | true =>
        have HE := hide (unhide HSM (some (fB nn 1)) (by unfold smpS; rw [if_pos (by simpa [countT] using t1)]))
        have k1 := f1 nn 1 (by omega) (by omega) (by omega)
        clear f1 f2 HSM
        go_wp2_with fail
        refine k1.mono ?_
        rintro e w' ⟨rfl, hww⟩
        rw [hww]
        clear hww w' k1
        go_wp2_with fail
        go_ret2
        exact SampP.some (unhide HE) rfl rfl
      | false =>
        have g1 : ¬ meas = countT := by simpa [countT] using t1
        cases t2 : (meas == [114, 97, 116, 101]) with
        | true =>
          have HE := hide (unhide HSM (some (fB nn span)) (by unfold smpS; rw [if_neg g1, if_pos (by simpa [rateT] using t2)]))
          have k1 := f1 nn span (by omega) (by omega) (by omega)
          clear f1 f2 HSM
          go_wp2_with fail
          refine k1.mono ?_
          rintro e w' ⟨rfl, hww⟩
          rw [hww]
          clear hww w' k1
          go_wp2_with fail
          go_ret2
          exact SampP.some (unhide HE) rfl rfl
        | false =>
          have g2 : ¬ meas = rateT := by simpa [rateT] using t2
          cases t3 : (meas == [98, 121, 116, 101, 115]) with
          | true =>
            have HE := hide (unhide HSM (some (fB bb 1)) (by unfold smpS; rw [if_neg g1, if_neg g2, if_pos (by simpa [bytesT] using t3)]))
            have k1 := f1 bb 1 (by omega) (by omega) (by omega)
            clear f1 f2 HSM
            go_wp2_with fail
            refine k1.mono ?_
            rintro e w' ⟨rfl, hww⟩
            rw [hww]
            clear hww w' k1
            go_wp2_with fail
            go_ret2
            exact SampP.some (unhide HE) rfl rfl
          | false =>
            have g3 : ¬ meas = bytesT := by simpa [bytesT] using t3
            by_cases h4 : mm = 0
            · have HE := hide (unhide HSM none (by unfold smpS; rw [if_neg g1, if_neg g2, if_neg g3, if_pos h4]))
              subst h4
              clear f1 f2 HSM
              go_wp2_with fail
              go_ret2
              exact SampP.none (unhide HE) rfl rfl
            · have h4b : ((mm : Int) == 0) = false := by rw [beq_eq_false_iff_ne]; omega
              by_cases h5 : ss < 0
              · obtain ⟨a, rfl⟩ : ∃ a : Nat, ss = -(a : Int) := ⟨(-ss).toNat, by omega⟩
                have ha : a ≤ 300000300 := by omega
                have e5 : (-(-(a : Int))).toNat = a := by omega
                have HE := hide (unhide HSM (some (2147483648 + fB (wholeN (fB a 1)) mm)) (by unfold smpS; rw [if_neg g1, if_neg g2, if_neg g3, if_neg h4, if_pos h5, e5]))
                have h60 : a < 2 ^ 60 := Nat.lt_of_le_of_lt ha (by decide)
                obtain ⟨u1, u2, -⟩ := whole_near h60
                have u3 := fB_whole_lt (D := mm) h60 (by omega) (by omega)
                have k1 := f1 a 1 (by omega) (by omega) (by omega)
                have k2 := f2 (fB a 1) u2
                have k3 := f1 (wholeN (fB a 1)) mm (by omega) (by omega) (by omega)
                generalize fB (wholeN (fB a 1)) mm = z at *
                generalize wholeN (fB a 1) = y at *
                generalize fB a 1 = x at *
                clear f1 f2 HSM h60 e5 u2
                go_wp2_with fail
                refine k1.mono ?_
                rintro e w' ⟨rfl, hww⟩
                rw [hww]
                clear hww w' k1
                go_wp2_with fail
                refine k2.mono ?_
                rintro e w' ⟨rfl, hww⟩
                rw [hww]
                clear hww w' k2
                go_wp2_with fail
                refine k3.mono ?_
                rintro e w' ⟨rfl, hww⟩
                rw [hww]
                clear hww w' k3
                go_wp2_with fail
                go_ret2
                exact SampP.some (unhide HE) (by go_num) rfl
              · obtain ⟨a, rfl⟩ : ∃ a : Nat, ss = (a : Int) := ⟨ss.toNat, by omega⟩
                have ha : a ≤ 300000300 := by omega
                have e5 : ((a : Int)).toNat = a := by omega
                have HE := hide (unhide HSM (some (fB (wholeN (fB a 1)) mm)) (by unfold smpS; rw [if_neg g1, if_neg g2, if_neg g3, if_neg h4, if_neg h5, e5]))
                have h60 : a < 2 ^ 60 := Nat.lt_of_le_of_lt ha (by decide)
                obtain ⟨u1, u2, -⟩ := whole_near h60
                have k1 := f1 a 1 (by omega) (by omega) (by omega)
                have k2 := f2 (fB a 1) u2
                have k3 := f1 (wholeN (fB a 1)) mm (by omega) (by omega) (by omega)
                generalize fB (wholeN (fB a 1)) mm = z at *
                generalize wholeN (fB a 1) = y at *
                generalize fB a 1 = x at *
                clear f1 f2 HSM h60 e5 u2
                go_wp2_with fail
                refine k1.mono ?_
                rintro e w' ⟨rfl, hww⟩
                rw [hww]
                clear hww w' k1
                go_wp2_with fail
                refine k2.mono ?_
                rintro e w' ⟨rfl, hww⟩
                rw [hww]
                clear hww w' k2
                go_wp2_with fail
                refine k3.mono ?_
                rintro e w' ⟨rfl, hww⟩
                rw [hww]
                clear hww w' k3
                go_wp2_with fail
                go_ret2
                exact SampP.some (unhide HE) rfl rfl

end Go.Proofs.YtbljamcdaoofbaaGreatDoor

/- What Measure answers, as a plain function. -/
namespace Go.Proofs.YtbljamcdaoofbaaGreatDoor
open Go.RowKit

abbrev Smp := List UInt8 × Nat
def cellsMs (s : Smp) : List Value := [SV s.1, .int .i64 s.2]

/-- the keys of rows, rising -/
def keysL (by_ : List UInt8) (T : List Rw) : List (List UInt8) := T.foldl (fun ks r => putL ks (keyL by_ r)) []
/-- the rows of a group -/
def grpL (by_ : List UInt8) (T : List Rw) (k : List UInt8) : List Rw := T.filter (fun r => keyL by_ r == k)
noncomputable def grpS (q : Qry) (G : List Rw) : Option Nat := smpS q.meas q.span G.length (bytesL G) (manyL G) (sumL G)
/-- the samples -/
noncomputable def smpsL (q : Qry) (T : List Rw) (ks : List (List UInt8)) : List Smp := ks.filterMap (fun k => (grpS q (grpL q.by_ T k)).map (fun b => (k, b)))

def measE (l : List UInt8) (at_ : Int) : Int × Int :=
  if 200 < l.length then (7, 0)
  else if (parseL l).2.1 = false then (8, (parseL l).1)
  else if ((parseL l).2.2.meas == []) = true then (9, 0)
  else if timeB at_ = false then (10, 0)
  else (0, 0)

noncomputable def measA (l : List UInt8) (at_ : Int) (L : List Rw) : List Smp :=
  if (measE l at_).1 = 0 then smpsL (parseL l).2.2 (askedL (parseL l).2.2.ms (parseL l).2.2.fs (at_ - (parseL l).2.2.span + 1) (at_ + 1) L) (keysL (parseL l).2.2.by_ (askedL (parseL l).2.2.ms (parseL l).2.2.fs (at_ - (parseL l).2.2.span + 1) (at_ + 1) L)) else []

/-- samples, an error and a place came out -/
def MeasP3 (w : World) (R : List Smp) (er pl : Int) (e : Ending) (w' : World) : Prop :=
  ∃ v, e = .returned (.tuple #[v, .int .i64 er, .int .i64 pl]) ∧ w'.ownsRow w.heap.size 57 2 v R.length (R.flatMap cellsMs) ∧ Below w.heap.size w w'

theorem MeasP3.ers {w w' : World} {l : List UInt8} {at_ : Int} {L : List Rw} {er pl : Int} (h : measE l at_ = (er, pl)) (h0 : er ≠ 0) (hb : Below w.heap.size w w') : MeasP3 w (measA l at_ L) (measE l at_).1 (measE l at_).2 (.returned (.tuple #[.slice none 0 0, .int .i64 er, .int .i64 pl])) w' := by
  have : measA l at_ L = [] := by unfold measA; rw [h, if_neg h0]
  rw [this, h]
  exact ⟨_, rfl, World.ownsRow_nil _ _ _ _, hb⟩

theorem keysL_snoc (by_ : List UInt8) (T : List Rw) (k : Nat) (h : k < T.length) : keysL by_ (T.take (k + 1)) = putL (keysL by_ (T.take k)) (keyL by_ T[k]) := by
  rw [List.take_succ_eq_append_getElem h, keysL, List.foldl_append]
  rfl

theorem putL_len1 (l : List (List UInt8)) (s : List UInt8) : (putL l s).length ≤ l.length + 1 := by
  unfold putL
  split
  · omega
  · simp
    omega

theorem keysL_len (by_ : List UInt8) (T : List Rw) : ∀ k, k ≤ T.length → (keysL by_ (T.take k)).length ≤ k := by
  intro k
  induction k with
  | zero => intro _; simp [keysL]
  | succ k ih =>
    intro h
    rw [keysL_snoc by_ T k (by omega)]
    have := putL_len1 (keysL by_ (T.take k)) (keyL by_ T[k])
    have := ih (by omega)
    omega

theorem grpL_snoc (by_ : List UInt8) (T : List Rw) (key : List UInt8) (k : Nat) (h : k < T.length) : grpL by_ (T.take (k + 1)) key = grpL by_ (T.take k) key ++ (if (keyL by_ T[k] == key) = true then [T[k]] else []) := by
  unfold grpL
  rw [List.take_succ_eq_append_getElem h, List.filter_append]
  congr 1
  by_cases e : (keyL by_ T[k] == key) = true
  · rw [if_pos e]; simpa using e
  · rw [if_neg e]; simpa using e

theorem smpsL_snoc (q : Qry) (T : List Rw) (ks : List (List UInt8)) (k : Nat) (h : k < ks.length) : smpsL q T (ks.take (k + 1)) = smpsL q T (ks.take k) ++ (match grpS q (grpL q.by_ T ks[k]) with | some b => [(ks[k], b)] | none => []) := by
  unfold smpsL
  rw [List.take_succ_eq_append_getElem h, List.filterMap_append]
  congr 1
  cases e : grpS q (grpL q.by_ T ks[k]) with
  | none => rw [List.filterMap_cons_none (by rw [e]; rfl), List.filterMap_nil]
  | some b => rw [List.filterMap_cons_some (b := (ks[k], b)) (by rw [e]; rfl), List.filterMap_nil]

theorem smpsL_len (q : Qry) (T : List Rw) (ks : List (List UInt8)) : (smpsL q T ks).length ≤ ks.length := List.length_filterMap_le _ _

theorem spanI_ok {ts : List Tok} {i : Nat} (h : (spanI ts i).2.1 = true) : 1 ≤ (spanI ts i).2.2 ∧ (spanI ts i).2.2 ≤ 1000000 := by
  by_cases h1 : markB ts i [91] = false
  · unfold spanI at h; rw [if_pos h1] at h; simp at h
  · by_cases h2 : spanAt ts (i + 1) = false
    · unfold spanI at h; rw [if_neg h1, if_pos h2] at h; simp at h
    · by_cases h3 : markB ts (i + 2) [93] = false
      · unfold spanI at h; rw [if_neg h1, if_neg h2, if_pos h3] at h; simp at h
      · have h4 : spanAt ts (i + 1) = true := by simpa using h2
        unfold spanAt at h4
        simp only [Bool.and_eq_true, decide_eq_true_eq] at h4
        unfold spanI
        rw [if_neg h1, if_neg h2, if_neg h3]
        exact ⟨h4.1.2, h4.2⟩

/-- a measure has a span -/
theorem meas_span (l : List UInt8) (h : ((parseL l).2.2.meas == []) = false) : 1 ≤ (parseL l).2.2.span ∧ (parseL l).2.2.span ≤ 1000000 := by
  have e : (parseL l).2.2 = (anyI (toks l 0)).2.2 := rfl
  rw [e] at h ⊢
  generalize toks l 0 = ts at *
  by_cases h0 : ((tokAt ts 0).k == 0) = true
  · have e0 : anyI ts = measI ts := by unfold anyI; rw [if_pos h0]
    rw [e0] at h ⊢
    by_cases h1 : ((tokAt ts 0).k == 0 && measB (tokAt ts 0).text) = false
    · unfold measI at h; rw [if_pos h1] at h; simp [emptyQ] at h
    · by_cases h2 : markB ts 1 [40] = false
      · unfold measI at h; rw [if_neg h1, if_pos h2] at h; simp [emptyQ] at h
      · by_cases h3 : (rowsI ts 2).2.1 = false
        · unfold measI at h; rw [if_neg h1, if_neg h2, if_pos h3] at h; simp [emptyQ] at h
        · by_cases h4 : (spanI ts (rowsI ts 2).1).2.1 = false
          · unfold measI at h; rw [if_neg h1, if_neg h2, if_neg h3, if_pos h4] at h; simp [emptyQ] at h
          · by_cases h5 : markB ts (spanI ts (rowsI ts 2).1).1 [41] = false
            · unfold measI at h; rw [if_neg h1, if_neg h2, if_neg h3, if_neg h4, if_pos h5] at h; simp [emptyQ] at h
            · unfold measI
              rw [if_neg h1, if_neg h2, if_neg h3, if_neg h4, if_neg h5]
              exact spanI_ok (by simpa using h4)
  · unfold anyI at h
    rw [if_neg h0] at h
    simp at h

end Go.Proofs.YtbljamcdaoofbaaGreatDoor

/- The program's Samples. -/
namespace Go.Proofs.YtbljamcdaoofbaaGreatDoor
open Go.RowKit

theorem infoSp : (Tryz.prog.info? 57).map (fun i => (i.zero, i.size, i.bytes)) = some (some (.agg #[.string ByteArray.empty, .int .i64 0]), 2, 24) := by kernel_rfl

/-- groups -/
structure GroupsAt (w : World) (base gb : Nat) (kind : List UInt8) (span : Nat) (vg : Value) (gs : List Grp) : Prop where
  block : w.heap[gb]? = some (.cells #[SV kind, .int .i64 span, vg] 139 (0, 0))
  row : w.ownsRow base 148 4 vg gs.length (gs.flatMap cellsG)

/-- a group that is not empty nor too great -/
def GFit (g : Grp) : Prop := 0 < g.n ∧ g.n ≤ 300 ∧ g.b ≤ 12000 ∧ -300000300 ≤ g.s ∧ g.s ≤ 300000300

noncomputable def smpG (kind : List UInt8) (span : Nat) (g : Grp) : Smp := (g.key, valS kind span g.n g.b g.s)

theorem valS_lt {kind : List UInt8} {span n b : Nat} {s : Int} (hs : 0 < span) (hs2 : span ≤ 1000000) (hn : 0 < n) (hn2 : n ≤ 300) (hb : b ≤ 12000) (s1 : -300000300 ≤ s) (s2 : s ≤ 300000300) : valS kind span n b s < 6442450944 := by
  have h60 : (300000300 : Nat) < 2 ^ 60 := by decide
  have k1 : ∀ A D, A < 16777216 → 0 < D → D < 16777216 → fB A D < 4294967296 := fun A D hA h0 h1 => by
    have := fB_whole_lt (A := A) (D := D) (Nat.lt_trans hA (by decide)) h0 h1
    rwa [whole_small hA] at this
  unfold valS
  split
  · have := k1 n span (by omega) hs (by omega); omega
  · split
    · have := k1 b 1 (by omega) (by omega) (by omega); omega
    · split
      · split
        · have := fB_whole_lt (A := (-s).toNat) (D := n) (by omega) hn (by omega); omega
        · have := fB_whole_lt (A := s.toNat) (D := n) (by omega) hn (by omega); omega
      · have := k1 n 1 (by omega) (by omega) (by omega); omega

set_option maxRecDepth 10000 in
set_option maxHeartbeats 1000000 in
theorem samples_any {w : World} {base gb : Nat} {kind : List UInt8} {span : Nat} {vg : Value} {gs : List Grp} (h : GroupsAt w base gb kind span vg gs) (hs : 0 < span) (hs2 : span ≤ 1000000) (hn : gs.length ≤ 300) (hf : ∀ g ∈ gs, GFit g) :
    Calls Tryz.prog 55 #[.pointer (some ⟨gb, 0, none⟩)] w fun e w' => ∃ v, e = .returned v ∧ w'.ownsRow w.heap.size 57 2 v gs.length ((gs.map (smpG kind span)).flatMap cellsMs) ∧ Below w.heap.size w w' := by
  obtain ⟨i0, hi0, hz0, hs0, hb0⟩ := info_parts infoSp
  obtain ⟨ao, cap, rfl, hnc, hcm, hnil, hao, hcell, hfz⟩ := owns_form h.row
  obtain ⟨c0, c1, c2, -⟩ := cell_of_block3 h.block
  have hplt := (Array.getElem?_eq_some_iff.1 h.block).1
  have HN := hide hnil
  have HA := hide hao
  have HC := hide hcell
  have HH := hide h.block
  have HF := hide hf
  clear hnil hao hcell hfz h hf c0 c1
  go_enter Tryz.func55, Tryz.ntmps55
  go_upto_region 2 with (at_make; refine wpList_make_own _ rfl (.const (.int .i64 0)) (.tmp 10) 52 rfl w.heap.size 57 i0 (.agg #[.string ByteArray.empty, .int .i64 0]) 2 Tryz.underlying52 hi0 hz0 hs0 .i64 .i64 _ gs.length rfl rfl rfl (by rw [hb0]; omega) (by unfold maxLen; omega) (Nat.le_refl _) ?_; intro w1 hown1 hgr1)
  have hb1 : Below w.heap.size w w1 := (Below.refl _ w).grown hgr1 (Nat.le_refl _) (fun k hk => by cases hk)
  have c3 : w1.cell? ⟨gb, 2, none⟩ = some (.slice ao gs.length cap) := (hb1.cell (by exact hplt)).trans c2
  clear hgr1 c2
  go_wp2
  go_loopw [3, 5, 17] (fun v _ i wr => ∃ k : Nat, k ≤ gs.length ∧ i = .int .i64 k ∧ wr.ownsRow w.heap.size 57 2 v k (((gs.take k).map (smpG kind span)).flatMap cellsMs) ∧ Hid (Below w.heap.size w wr)) (fun _ _ i _ => gs.length - (intOf i).toNat)
  case atStart => exact ⟨0, by omega, rfl, by simpa using hown1, hide hb1⟩
  case round =>
    obtain ⟨k, hk, rfl, hown, HB⟩ := hrel
    have hsz := (unhide HB).size
    by_cases hlt : k < gs.length
    · obtain ⟨⟨g, o, sp⟩, rfl⟩ : ∃ a, ao = some a := by
        cases ao with
        | none => have := (unhide HN rfl).1; omega
        | some a => exact ⟨a, rfl⟩
      obtain ⟨ho, hsp, -, hgw⟩ := unhide HA _ rfl
      simp only at ho hsp hgw
      subst ho hsp
      obtain ⟨e0, e1, e2, e3⟩ := cellsG_at gs k hlt
      have m0 := (((unhide HB).cell (p := ⟨g, k * 4, none⟩) hgw).trans (unhide HC _ rfl _ (by omega))).trans e0
      have m1 := (((unhide HB).cell (p := ⟨g, k * 4 + 1, none⟩) hgw).trans (unhide HC _ rfl _ (by omega))).trans e1
      have m2 := (((unhide HB).cell (p := ⟨g, k * 4 + 2, none⟩) hgw).trans (unhide HC _ rfl _ (by omega))).trans e2
      have m3 := (((unhide HB).cell (p := ⟨g, k * 4 + 3, none⟩) hgw).trans (unhide HC _ rfl _ (by omega))).trans e3
      clear e0 e1 e2 e3
      go_upto_region 5 with fail
      have HSN := hide (show ((gs.take (k + 1)).map (smpG kind span)).flatMap cellsMs = ((gs.take k).map (smpG kind span)).flatMap cellsMs ++ [SV gs[k].key, .int .i64 (valS kind span gs[k].n gs[k].b gs[k].s)] by rw [List.take_succ_eq_append_getElem hlt, List.map_append, List.flatMap_append]; rfl)
      obtain ⟨t1, t2, t3, t4, t5⟩ := unhide HF gs[k] (List.getElem_mem _)
      have hvl := valS_lt (kind := kind) hs hs2 t1 t2 t3 t4 t5
      have hgbr : wr.heap[gb]? = some (.cells #[SV kind, .int .i64 span, .slice (some ⟨g, 0, none⟩) gs.length cap] 139 (0, 0)) := ((unhide HB).block gb hplt).trans (unhide HH)
      generalize gs[k] = gr at *
      obtain ⟨key, n, b, su⟩ := gr
      simp only at m0 m1 m2 m3 HSN t1 t2 t3 t4 t5 hvl
      have hgw2 : gb < wr.heap.size := by omega
      have hbox := heap_alloc_new wr (.cells #[SV key, .int .i64 n, .int .i64 b, .int .i64 su] 148)
      have hgb2 : (wr.alloc (.cells #[SV key, .int .i64 n, .int .i64 b, .int .i64 su] 148)).heap[gb]? = _ := (Go.RowKit.Below.heap_alloc wr _ gb hgw2).trans hgbr
      have hb2 : Below w.heap.size w (wr.alloc (.cells #[SV key, .int .i64 n, .int .i64 b, .int .i64 su] 148)) := (unhide HB).alloc hsz _
      have hown2 := hown.alloc (.cells #[SV key, .int .i64 n, .int .i64 b, .int .i64 su] 148)
      have hszW : wr.heap.size < (wr.alloc (.cells #[SV key, .int .i64 n, .int .i64 b, .int .i64 su] 148)).heap.size := by simp
      clear m0 m1 m2 m3 hgbr hown HB
      generalize wr.alloc (.cells #[SV key, .int .i64 n, .int .i64 b, .int .i64 su] 148) = W at *
      generalize wr.heap.size = bx at *
      have HGB := hide hgb2
      have HBX := hide hbox
      have HB2 := hide hb2
      have hbc : ∀ j v, (#[SV key, Value.int .i64 n, .int .i64 b, .int .i64 su] : Array Value)[j]? = some v → W.cell? ⟨bx, j, none⟩ = some v := fun j v hj => by rw [cell_of_row W bx j _ _ (0, 0) hbox]; exact hj
      have x0 := hbc 0 _ rfl
      have x1 := hbc 1 _ rfl
      have x2 := hbc 2 _ rfl
      have x3 := hbc 3 _ rfl
      have hbr := bits_run
      obtain ⟨ar, capr, rfl, -, -, -, -, -, -⟩ := owns_form hown2
      clear hbc hgb2 hbox hb2
      have hval := value_any' (w := W.drew) (key := key) (show W.drew.heap[gb]? = _ from unhide HGB) t1 t2 t3 hs hs2 t4 t5
      generalize valS kind span n b su = z at *
      have hwz : IntKind.i64.wrap (z : Int) = (z : Int) := by rw [IntKind.wrap_i64]; omega
      go_region_law (first
        | (refine step_append_at rfl (.tmp 21) (.tmp 30) 52 rfl w.heap.size 57 i0 (.agg #[.string ByteArray.empty, .int .i64 0]) 2 24 Tryz.underlying52 hi0 hz0 hs0 hb0 rfl (by decide) (.slice ar k capr) k _ (by simp [Act.eval]) (hown3.alloc _) (some ⟨w3.heap.size, 0, none⟩) 1 1 [SV key, .int .i64 z] (by simp [Act.eval]) rfl (by intro e; cases e) (cells_new w3 _ _) (by intro u hu; simp at hu; rcases hu with rfl | rfl <;> rfl) (by unfold maxLen; omega) (by omega) (by simp; omega) ?_; intro v4 w4 hown4 hgrow4 hwh4)
        | (go_simp; go_at_call 87; refine hval.mono ?_; rintro e w3 ⟨rfl, hb3⟩; have y0 := (hb3.cell (p := ⟨bx, 0, none⟩) hszW).trans x0; have hown3 := ownsRow_same hown2 (fun g hg => hb3.block g (ownsRow_type hown2 hg).1); have hsz3 : W.heap.size ≤ w3.heap.size := hb3.size; dsimp only))
      all_goals
        have hb3' : Below W.heap.size W w3 := ⟨hb3.os, hb3.tape, hb3.output, hb3.size, hb3.block⟩
        have hw3 : Below w.heap.size w w3 := (unhide HB2).trans (hb3'.mono (unhide HB2).size)
        have HW4 := hide ((hw3.alloc hw3.size _).grown hgrow4 (by have := hw3.size; simp; omega) (fun k hk => (hown3.lt k hk).1))
        clear hb3 hb3' hw3 hgrow4 hwh4 hown3 y0 hval
        go_wp2_with fail
        go_roundw
        case rel =>
          refine ⟨k + 1, by omega, by go_num, ?_, HW4⟩
          rw [unhide HSN]
          exact hown4
        case measure => simp [intOf]; omega
    · go_wp2
      go_ret
      have hkn : k = gs.length := by omega
      subst hkn
      refine ⟨_, rfl, ?_, unhide HB⟩
      rw [List.take_of_length_le (by omega)] at hown
      exact hown

end Go.Proofs.YtbljamcdaoofbaaGreatDoor

/- The program's group: found, or made. -/
namespace Go.Proofs.YtbljamcdaoofbaaGreatDoor
open Go.RowKit

def newG (key : List UInt8) : Grp := ⟨key, 0, 0, 0⟩
/-- groups with one of this key -/
def putG (gs : List Grp) (key : List UInt8) : List Grp := if (∃ g ∈ gs, g.key = key) then gs else gs.take (gplace gs key) ++ [newG key] ++ gs.drop (gplace gs key)

theorem gplace_le (gs : List Grp) (l : List UInt8) : gplace gs l ≤ gs.length := List.length_filter_le _ _

theorem gplace_lt {gs : List Grp} {l : List UInt8} (h : ∃ g ∈ gs, g.key = l) : gplace gs l < gs.length := by
  obtain ⟨g, hg, rfl⟩ := h
  exact List.length_filter_lt_length_iff_exists.2 ⟨g, hg, by simp [less_irrefl]⟩

theorem ownsRow_raise {w : World} {B e size n : Nat} {v : Value} {xs : List Value} (h : w.ownsRow 0 e size v n xs) (hb : ∀ g, v.ownBlock = some g → B ≤ g) : w.ownsRow B e size v n xs := by
  refine ⟨h.1, ?_⟩
  rcases h.2 with h2 | ⟨g, cap, cur, hv, hg, r⟩
  · exact .inl h2
  · exact .inr ⟨g, cap, cur, hv, hb g (by rw [hv]; rfl), r⟩

theorem grp_one (gs : List Grp) : ∀ u ∈ gs.flatMap cellsG, u.oneCell' = true := by
  intro u hu
  obtain ⟨g, -, hg⟩ := List.mem_flatMap.1 hu
  simp [cellsG] at hg
  rcases hg with rfl | rfl | rfl | rfl <;> rfl

theorem grp_take (gs : List Grp) (k : Nat) : (gs.flatMap cellsG).take (k * 4) = (gs.take k).flatMap cellsG := by
  induction gs generalizing k with
  | nil => simp
  | cons x S ih =>
    cases k with
    | zero => simp
    | succ k =>
      rw [List.flatMap_cons, List.take_succ_cons, List.flatMap_cons, ← ih k]
      rw [show (k + 1) * 4 = (cellsG x).length + k * 4 by simp [cellsG]; omega, List.take_length_add_append]

theorem grp_drop (gs : List Grp) (k : Nat) : (gs.flatMap cellsG).drop (k * 4) = (gs.drop k).flatMap cellsG := by
  induction gs generalizing k with
  | nil => simp
  | cons x S ih =>
    cases k with
    | zero => simp
    | succ k =>
      rw [List.flatMap_cons, List.drop_succ_cons, ← ih k]
      rw [show (k + 1) * 4 = (cellsG x).length + k * 4 by simp [cellsG]; omega, List.drop_length_add_append]

theorem GroupsAt.below {w w' : World} {base gb : Nat} {kind : List UInt8} {span : Nat} {vg : Value} {gs : List Grp} (h : GroupsAt w base gb kind span vg gs) (hb : Below w.heap.size w w') : GroupsAt w' base gb kind span vg gs :=
  ⟨(hb.block gb (Array.getElem?_eq_some_iff.1 h.block).1).trans h.block, ownsRow_same h.row fun _ hg => hb.block _ (ownsRow_type h.row hg).1⟩

def GroupP (w : World) (B gb : Nat) (kind : List UInt8) (span : Nat) (gs : List Grp) (key : List UInt8) (e : Ending) (w' : World) : Prop :=
  ∃ g c, e = .returned (.pointer (some ⟨g, gplace gs key * 4, none⟩)) ∧ GroupsAt w' B gb kind span (.slice (some ⟨g, 0, none⟩) (putG gs key).length c) (putG gs key) ∧ Moved (fun b => b = gb ∨ B ≤ b) w w'

set_option maxRecDepth 10000 in
set_option maxHeartbeats 1000000 in
theorem group_any {w : World} {B gb : Nat} {kind : List UInt8} {span : Nat} {vg : Value} {gs : List Grp} (key : List UInt8) (h : GroupsAt w B gb kind span vg gs) (hB : B ≤ w.heap.size) (hn : gs.length ≤ 300) (hr : GRise gs) :
    Calls Tryz.prog 85 #[.pointer (some ⟨gb, 0, none⟩), .string ⟨key.toArray⟩] w (GroupP w B gb kind span gs key) := by
  obtain ⟨c0, c1, c2, fz⟩ := cell_of_block3 h.block
  have hgw := (Array.getElem?_eq_some_iff.1 h.block).1
  have hse := gsearch_any key h.row hn hr
  have hpl := gplace_le gs key
  have HH := hide h
  clear h c0 c1 hr
  go_enter Tryz.func85, Tryz.ntmps85
  go_wp2_with fail
  refine hse.mono ?_
  rintro e w1 ⟨rfl, hb1⟩
  clear hse
  have h1 := (unhide HH).below hb1
  obtain ⟨d0, d1, d2, fz1⟩ := cell_of_block3 h1.block
  have H1 := hide h1
  have HB1 := hide hb1
  have hsz1 := hb1.size
  clear h1 hb1 d0 d1 HH c2 fz
  by_cases hex : ∃ g ∈ gs, g.key = key
  · have hdec : decide (∃ g ∈ gs, g.key = key) = true := by simpa using hex
    have HP := hide (show putG gs key = gs by unfold putG; rw [if_pos hex])
    rw [hdec]
    have hlt := gplace_lt hex
    obtain ⟨g, c, rfl, -⟩ := owns_open (unhide H1).row (by omega)
    have hli : ((gplace gs key : Nat) : Int) < (gs.length : Int) := by omega
    clear hex hdec
    go_wp2_with fail
    go_ret
    refine ⟨g, c, rfl, ?_, Moved.of_below (unhide HB1)⟩
    rw [unhide HP]
    exact unhide H1
  · have hdec : decide (∃ g ∈ gs, g.key = key) = false := by simpa using hex
    have HP := hide (show putG gs key = gs.take (gplace gs key) ++ [newG key] ++ gs.drop (gplace gs key) by unfold putG; rw [if_neg hex])
    rw [hdec]
    clear hex hdec
    have hgv := heap_alloc_new w1 (.cells #[SV key, .int .i64 0, .int .i64 0, .int .i64 0] 148)
    have hrow0 := (ownsRow_base (unhide H1).row (Nat.zero_le _)).alloc (.cells #[SV key, .int .i64 0, .int .i64 0, .int .i64 0] 148)
    have hne : vg.ownBlock ≠ some w1.heap.size := fun e => by have := (ownsRow_type (unhide H1).row e).1; omega
    have hgv' : (w1.alloc (.cells #[SV key, .int .i64 0, .int .i64 0, .int .i64 0] 148)).heap[w1.heap.size]? = some (.cells (cellsG (newG key)).toArray 148 (0, 0)) := hgv
    have hins := ginsert_any (k := gplace gs key) (ys := cellsG (newG key)) hrow0 hgv' rfl hne (by intro u hu; simp [cellsG] at hu; rcases hu with rfl | rfl | rfl | rfl <;> rfl) (grp_one gs) hn hpl
    have hgbn : vg.ownBlock ≠ some gb := fun e => by
      obtain ⟨_, cur, hc⟩ := ownsRow_type (unhide H1).row e
      exact ne_of_type hc (unhide H1).block (by decide) rfl
    have hblk : (w1.alloc (.cells #[SV key, .int .i64 0, .int .i64 0, .int .i64 0] 148)).heap[gb]? = some (.cells #[SV kind, .int .i64 span, vg] 139 (0, 0)) := (Go.RowKit.Below.heap_alloc w1 _ gb (by omega)).trans (unhide H1).block
    have HBK := hide hblk
    have HR1 := hide (unhide H1).row
    clear hgv hgv' hrow0 hblk H1
    go_wp2_with fail
    refine hins.mono ?_
    rintro e w2 ⟨v2, rfl, hown2, hgr2, hwh2⟩
    clear hins
    have hszA : w1.heap.size < (w1.alloc (.cells #[SV key, .int .i64 0, .int .i64 0, .int .i64 0] 148)).heap.size := by simp
    have hb2 : w2.heap[gb]? = some (.cells #[SV kind, .int .i64 span, vg] 139 (0, 0)) := (hgr2.block gb (by omega) (fun e => hgbn e.symm)).trans (unhide HBK)
    have hrise : ∀ g, v2.ownBlock = some g → B ≤ g := fun g hg => by
      rcases hwh2 g hg with e | e
      · exact ((unhide HR1).lt g e).1
      · omega
    have hrow2 := ownsRow_raise hown2 hrise
    have HBW : Hid (Moved (fun b => b = gb ∨ B ≤ b) w w2) := by
      have hbA : Below w.heap.size w (w1.alloc (.cells #[SV key, .int .i64 0, .int .i64 0, .int .i64 0] 148)) := (unhide HB1).alloc hsz1 _
      exact (Moved.of_below hbA).grown hgr2 (fun k hk => .inl (.inr ((unhide HR1).lt k hk).1))
    have hlenE : (putG gs key).length = gs.length + 1 := by rw [unhide HP]; simp; omega
    have hflat : (gs.flatMap cellsG).take (gplace gs key * 4) ++ cellsG (newG key) ++ (gs.flatMap cellsG).drop (gplace gs key * 4) = (putG gs key).flatMap cellsG := by
      rw [unhide HP, grp_take, grp_drop, List.flatMap_append, List.flatMap_append]
      simp
    rw [hflat] at hrow2
    obtain ⟨g2, c2, rfl, -⟩ := owns_open hrow2 (by omega)
    have hne2 : g2 ≠ gb := fun e => by
      obtain ⟨_, cur, hc⟩ := ownsRow_type hrow2 (g := g2) rfl
      exact ne_of_type hc hb2 (by decide) e
    obtain ⟨y0, y1, y2, fz2⟩ := cell_of_block3 hb2
    have HFIN := hide (show GroupsAt (w2.setCell ⟨gb, 2, none⟩ (.slice (some ⟨g2, 0, none⟩) (gs.length + 1) c2)) B gb kind span (.slice (some ⟨g2, 0, none⟩) (gs.length + 1) c2) (putG gs key) from ⟨block3_set2 hb2 _, by
      rw [hlenE]
      exact ownsRow_same hrow2 fun g hg => Go.RowKit.Below.heap_setCell _ _ _ _ (fun e => hne2 (by
        have : some g2 = some g := hg
        exact (Option.some.inj this).trans e))⟩)
    have HB3 := hide (show Moved (fun b => b = gb ∨ B ≤ b) w (w2.setCell ⟨gb, 2, none⟩ (.slice (some ⟨g2, 0, none⟩) (gs.length + 1) c2)) from (unhide HBW).setCell (.inl (.inl rfl)) _)
    have hli : ((gplace gs key : Nat) : Int) < (gs.length : Int) + 1 := by omega
    clear hown2 hgr2 hwh2 hrise hrow2 hflat HBK HR1 HBW hb2
    go_wp2_with fail
    go_ret
    refine ⟨g2, c2, rfl, ?_, unhide HB3⟩
    rw [hlenE]
    exact unhide HFIN

end Go.Proofs.YtbljamcdaoofbaaGreatDoor
