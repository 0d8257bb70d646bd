/- Texts PGInsert, RKey, RPut, RSample, joined. -/
import Derived.Test.YtbljamcdaoofbaaGreatDoorPGCopyToFloatWord
import Derived.Test.YtbljamcdaoofbaaGreatDoorRFloatToPGFind
import Derived.Test.YtbljamcdaoofbaaGreatDoorParseToRefRest
/- slices.Insert of one group. -/
namespace Go.Proofs.YtbljamcdaoofbaaGreatDoor
open Go.RowKit

theorem infoG : (Tryz.prog.info? 148).map (fun i => (i.zero, i.size, i.bytes)) = some (some (.agg #[.string ByteArray.empty, .int .i64 0, .int .i64 0, .int .i64 0]), 4, 40) := by kernel_rfl

theorem spl_shift_many {cur : Array Value} {xs ys : List Value} {N K s : Nat} (hx : cur.toList.take N = xs) (hy : ys.length = s) (hn : N + s ≤ cur.size) (hK : K ≤ N) :
    (spl (spl cur (K + s) (xs.drop K)) K ys).toList.take (N + s) = xs.take K ++ ys ++ xs.drop K := by
  have hl : xs.length = N := by rw [← hx]; simp; omega
  have e1 : (spl cur (K + s) (xs.drop K)).toList = cur.toList.take (K + s) ++ (xs.drop K ++ cur.toList.drop (K + s + (xs.drop K).length)) := by simp [spl]
  have hT : (cur.toList.take (K + s)).length = K + s := by simp; omega
  have e2 : (spl (spl cur (K + s) (xs.drop K)) K ys).toList = xs.take K ++ (ys ++ (xs.drop K ++ cur.toList.drop (K + s + (xs.drop K).length))) := by
    simp only [spl, List.toList_toArray] at e1 ⊢
    rw [e1]
    rw [List.take_append_of_le_length (by omega), List.take_take, Nat.min_eq_left (by omega)]
    rw [hy, List.drop_append_of_le_length (by omega), List.drop_of_length_le (by omega), List.nil_append]
    rw [← hx, List.take_take, Nat.min_eq_left (by omega), List.append_assoc]
  rw [e2]
  have e3 : xs.take K ++ (ys ++ (xs.drop K ++ cur.toList.drop (K + s + (xs.drop K).length))) = (xs.take K ++ ys ++ xs.drop K) ++ cur.toList.drop (K + s + (xs.drop K).length) := by simp
  rw [e3]
  have hlen : (xs.take K ++ ys ++ xs.drop K).length = N + s := by simp; omega
  rw [← hlen]
  exact List.take_left

theorem spl_grown_many {cur : Array Value} {xs ys : List Value} {N K s : Nat} (hl : xs.length = N) (hy : ys.length = s) (hx : cur.toList.take K = xs.take K) (hK : K ≤ N) :
    (spl (spl cur K ys) (K + s) (xs.drop K)).toList.take (N + s) = xs.take K ++ ys ++ xs.drop K := by
  have e1 : (spl cur K ys).toList = xs.take K ++ ys ++ cur.toList.drop (K + s) := by simp [spl, hx, hy]
  have hT : (xs.take K ++ ys).length = K + s := by simp; omega
  have e2 : (spl (spl cur K ys) (K + s) (xs.drop K)).toList = xs.take K ++ ys ++ (xs.drop K ++ (spl cur K ys).toList.drop (K + s + (xs.drop K).length)) := by
    simp only [spl, List.toList_toArray] at e1 ⊢
    rw [e1, List.take_append_of_le_length (by omega), List.take_of_length_le (by omega), List.append_assoc (xs.take K ++ ys)]
  rw [e2, ← List.append_assoc]
  have hlen : (xs.take K ++ ys ++ xs.drop K).length = N + s := by simp; omega
  rw [← hlen]
  exact List.take_left

theorem box_cells {w : World} {gv : Nat} {ys : List Value} {t : TypeId} (hgv : w.heap[gv]? = some (.cells ys.toArray t (0, 0))) : ∀ j v, ys[j]? = some v → w.cell? ((⟨gv, 0, none⟩ : Addr).add j) = some v :=
  row_cells hgv 0 ys (by intro j v hj; rw [Nat.zero_add, List.getElem?_toArray]; exact hj)

def InsP (w : World) (va : Value) (n k : Nat) (xs ys : List Value) (e : Ending) (w' : World) : Prop :=
  ∃ v', e = .returned v' ∧ w'.ownsRow 0 148 4 v' (n + 1) (xs.take (k * 4) ++ ys ++ xs.drop (k * 4)) ∧ w.grownBy w' va.ownBlock ∧ (∀ g, v'.ownBlock = some g → va.ownBlock = some g ∨ w.heap.size ≤ g)

set_option maxRecDepth 10000 in
set_option maxHeartbeats 1000000 in
theorem ginsert_end {w : World} {va : Value} {n gv : Nat} {xs ys : List Value} (h : w.ownsRow 0 148 4 va n xs) (hgv : w.heap[gv]? = some (.cells ys.toArray 148 (0, 0))) (hl : ys.length = 4) (hy : ∀ u ∈ ys, u.oneCell' = true) (hn : n ≤ 300) :
    Calls Tryz.prog 115 #[va, .int .i64 n, .slice (some ⟨gv, 0, none⟩) 1 1] w (InsP w va n n xs ys) := by
  obtain ⟨i0, hi0, hz0, hs0, hb0⟩ := info_parts infoG
  have hxl : xs.length = n * 4 := by have := h.1; omega
  obtain ⟨ao, cap, rfl, hnc, hcm, hnil, hao, hcell, hfz⟩ := owns_form h
  unfold maxLen at hcm
  have hsrc := box_cells hgv
  have HX := hide (show xs.take (n * 4) ++ ys ++ xs.drop (n * 4) = xs ++ ys by rw [List.take_of_length_le (by omega), List.drop_of_length_le (by omega), List.append_nil])
  have hcase : ao = none ∨ ∃ g, ao = some ⟨g, 0, none⟩ := by
    cases ao with
    | none => exact .inl rfl
    | some a =>
      obtain ⟨g, o, sp⟩ := a
      obtain ⟨ho, hsp, -, -⟩ := hao _ rfl
      simp only at ho hsp
      subst ho hsp
      exact .inr ⟨g, rfl⟩
  have HN := hide hnil
  clear hcell hao hnil hfz
  rcases hcase with rfl | ⟨g, rfl⟩
  · obtain ⟨rfl, rfl⟩ := unhide HN rfl
    go_enter Tryz.func115, Tryz.ntmps115
    go_wp2_with (at_builtin; refine wpList_append_at _ rfl (.tmp 23) (.tmp 24) 137 rfl 0 148 i0 _ 4 40 Tryz.underlying137 hi0 hz0 hs0 hb0 rfl (by decide) _ _ _ rfl h (some ⟨gv, 0, none⟩) 1 1 ys rfl (by omega) (by intro e; cases e) (by rintro a ⟨⟩; exact hsrc) hy (by unfold maxLen; omega) (by omega) (Nat.zero_le _) ?_; intro v4 w4 hown4 hgrow4 hwh4)
    go_ret
    refine ⟨v4, rfl, by rw [unhide HX]; simpa using hown4, hgrow4, fun g' hg' => ?_⟩
    rcases hwh4 with hw | hw
    · exact .inl (hw ▸ hg')
    · right; rw [hg'] at hw; simp at hw; omega
  · go_enter Tryz.func115, Tryz.ntmps115
    go_wp2_with (at_builtin; refine wpList_append_at _ rfl (.tmp 23) (.tmp 24) 137 rfl 0 148 i0 _ 4 40 Tryz.underlying137 hi0 hz0 hs0 hb0 rfl (by decide) _ _ _ rfl h (some ⟨gv, 0, none⟩) 1 1 ys rfl (by omega) (by intro e; cases e) (by rintro a ⟨⟩; exact hsrc) hy (by unfold maxLen; omega) (by omega) (Nat.zero_le _) ?_; intro v4 w4 hown4 hgrow4 hwh4)
    all_goals
      go_ret
      refine ⟨v4, rfl, by rw [unhide HX]; exact hown4, hgrow4, fun g' hg' => ?_⟩
      rcases hwh4 with hw | hw
      · exact .inl (hw ▸ hg')
      · right; rw [hg'] at hw; simp at hw; omega

theorem goverlaps_no {w : World} {gv g : Nat} {ys : List Value} {cur : Array Value} (hgv : w.heap[gv]? = some (.cells ys.toArray 148 (0, 0))) (hl : ys.length = 4) (hg : w.heap[g]? = some (.cells cur 148 (0, 0))) (hne : gv ≠ g) (hc : cur.size ≠ 0) (off lb cb : Nat) :
    (callFunc 140 #[.slice (some ⟨gv, 0, none⟩) 1 1, .slice (some ⟨g, off, none⟩) lb cb]).run Tryz.prog w = .ok (.value (.bool false)) w := by
  obtain ⟨i0, hi0, hz0, hs0, hb0⟩ := info_parts infoG
  rw [run_callFunc_extern Tryz.func140 (by kernel_rfl) (by kernel_rfl) (by kernel_rfl) (e := Extern.SlicesOverlaps.overlaps #[137, 137] #[4]) (by kernel_rfl),
    Lib.run_overlaps_apart w 137 4 148 Tryz.underlying137 4 (fun w => by simp [sizeOf, typeInfo, hi0, hs0]) ⟨gv, 0, none⟩ ⟨g, off, none⟩ 1 1 lb cb hne 148 148 4 cur.size (by simp [World.shape?, hgv, hl]) (by simp [World.shape?, hg]) hc (by simp [World.frozen?, hgv]) (by simp [World.frozen?, hgv])]
  rfl

set_option maxRecDepth 10000 in
set_option maxHeartbeats 2000000 in
theorem ginsert_shift {w : World} {n k g cap gv : Nat} {xs ys : List Value} (h : w.ownsRow 0 148 4 (.slice (some ⟨g, 0, none⟩) n cap) n xs) (hgv : w.heap[gv]? = some (.cells ys.toArray 148 (0, 0))) (hl : ys.length = 4) (hne : gv ≠ g) (hy : ∀ u ∈ ys, u.oneCell' = true) (hxs : ∀ u ∈ xs, u.oneCell' = true) (hn : n ≤ 300) (hk : k < n) (hroom : n + 1 ≤ cap) :
    Calls Tryz.prog 115 #[.slice (some ⟨g, 0, none⟩) n cap, .int .i64 k, .slice (some ⟨gv, 0, none⟩) 1 1] w (InsP w (.slice (some ⟨g, 0, none⟩) n cap) n k xs ys) := by
  obtain ⟨i0, hi0, hz0, hs0, hb0⟩ := info_parts infoG
  have hsz : (Tryz.prog.info? 148).map (·.size) = some 4 := by rw [hi0]; simp [hs0]
  obtain ⟨cur, hg, hcm, hcs, htk⟩ : ∃ cur : Array Value, w.heap[g]? = some (.cells cur 148 (0, 0)) ∧ cap ≤ maxLen ∧ cur.size = cap * 4 ∧ cur.toList.take (n * 4) = xs := by
    rcases h.2 with ⟨h', _⟩ | ⟨g', cap', cur, h', _, hg, _, hcm, hcs, ht⟩
    · simp at h'
    · simp only [Value.slice.injEq, Option.some.injEq, Addr.mk.injEq, and_true, true_and] at h'
      obtain ⟨rfl, rfl⟩ := h'
      exact ⟨cur, hg, hcm, by simpa using hcs, by simpa using ht⟩
  unfold maxLen at hcm
  have hxl : xs.length = n * 4 := by have := h.1; omega
  have hov := fun off lb cb => goverlaps_no hgv hl hg hne (by omega) off lb cb
  have hk0 : ¬ (cap = k) := by omega
  have hk1 : ¬ (cap = k + 1) := by omega
  have hkn : ((k : Int) == (n : Int)) = false := by simp; omega
  have hw1 : IntKind.i64.wrap ((k : Int) + 1) = (k : Int) + 1 := by rw [IntKind.wrap_i64]; omega
  have hb1 : (0 : Int) ≤ (k : Int) + 1 := by omega
  have htn : ((k : Int) + 1).toNat = k + 1 := by omega
  have hb3 : (k : Int) ≤ (n : Int) + 1 := by omega
  have hb4 : (k : Int) + 1 ≤ (n : Int) + 1 := by omega
  have hsrc1 := row_cells hg (k * 4) (xs.drop (k * 4)) (by
    intro j v hj
    rw [List.getElem?_drop] at hj
    have hlt : k * 4 + j < xs.length := (List.getElem?_eq_some_iff.1 hj).1
    have e : cur.toList[k * 4 + j]? = xs[k * 4 + j]? := by rw [← htk, List.getElem?_take, if_pos (by omega)]
    rw [← hj, ← e]
    simp)
  have H := hide h
  have HX := hide htk
  clear h htk
  go_enter Tryz.func115, Tryz.ntmps115
  go_wp2
  have hdl : (xs.drop (k * 4)).length = (n - k) * 4 := by rw [List.length_drop, hxl]; omega
  have hmin1 : Nat.min (n + 1 - k) (n - k) = n - k := by simp only [Nat.min_def]; split <;> omega
  have hmin2 : Nat.min 1 (n + 1 - k) = 1 := by simp only [Nat.min_def]; split <;> omega
  go_region_law (refine step_copy_many rfl (.tmp 73) (.tmp 76) 137 137 rfl 148 4 Tryz.underlying137 hsz g ((k + 1) * 4) (n - k) (cap - (k + 1)) ⟨g, k * 4, none⟩ (n + 1 - k) (cap - k) (by simp [Act.eval, Act.put]) (by simp [Act.eval, Act.put]) cur 148 (by exact hg) (xs.drop (k * 4)) (by rw [hdl, hmin1]) (by exact hsrc1) (by rw [hdl]; omega) (fun u hu => hxs u (List.mem_of_mem_drop hu)) ?_; intro w4 hg4 hgr4)
  have hgvl : gv < w.heap.size := (Array.getElem?_eq_some_iff.1 hgv).1
  have hgv4 : w4.heap[gv]? = some (.cells ys.toArray 148 (0, 0)) := by
    rw [hgr4.block gv (by exact hgvl) (fun e => hne (by simpa using e))]
    exact hgv
  have hsrc2 := box_cells hgv4
  have hs4 : (spl cur ((k + 1) * 4) (xs.drop (k * 4))).size = cap * 4 := by rw [size_spl _ _ _ (by rw [hdl]; omega), hcs]
  have HG4 := hide hgr4
  clear hgr4 hsrc1 hov hgv
  go_wp2_with (refine wpList_copy_many _ rfl (.tmp 80) (.tmp 81) 137 137 rfl 148 4 Tryz.underlying137 hsz g (k * 4) (n + 1 - k) (cap - k) ⟨gv, 0, none⟩ 1 1 rfl rfl (spl cur ((k + 1) * 4) (xs.drop (k * 4))) 148 hg4 ys (by rw [hl, hmin2]) hsrc2 (by rw [hl]; omega) hy ?_; intro w5 hg5 hgr5; clear hg4)
  go_ret
  refine ⟨_, rfl, ⟨by simp [hxl, hl]; omega, .inr ⟨g, cap, _, rfl, Nat.zero_le _, hg5, hroom, by unfold maxLen; omega, ?_, ?_⟩⟩, ?_, ?_⟩
  · rw [size_spl _ _ _ (by rw [hl]; omega), hs4]
  · rw [show (n + 1) * 4 = n * 4 + 4 by omega, show (k + 1) * 4 = k * 4 + 4 by omega]
    exact spl_shift_many (unhide HX) hl (by omega) (by omega)
  · have g4 := unhide HG4
    exact ⟨hgr5.os.trans g4.os, hgr5.tape.trans g4.tape, hgr5.output.trans g4.output, Nat.le_trans g4.size hgr5.size, fun j hj hne' => (hgr5.block j (Nat.lt_of_lt_of_le hj g4.size) hne').trans (g4.block j hj hne')⟩
  · intro g' hg'
    left
    simpa [Value.ownBlock] using hg'

set_option maxRecDepth 10000 in
set_option maxHeartbeats 2000000 in
theorem ginsert_grow {w : World} {n k g cap gv : Nat} {xs ys : List Value} (h : w.ownsRow 0 148 4 (.slice (some ⟨g, 0, none⟩) n cap) n xs) (hgv : w.heap[gv]? = some (.cells ys.toArray 148 (0, 0))) (hl : ys.length = 4) (hy : ∀ u ∈ ys, u.oneCell' = true) (hxs : ∀ u ∈ xs, u.oneCell' = true) (hn : n ≤ 300) (hk : k < n) (hroom : ¬ n + 1 ≤ cap) :
    Calls Tryz.prog 115 #[.slice (some ⟨g, 0, none⟩) n cap, .int .i64 k, .slice (some ⟨gv, 0, none⟩) 1 1] w (InsP w (.slice (some ⟨g, 0, none⟩) n cap) n k xs ys) := by
  obtain ⟨i0, hi0, hz0, hs0, hb0⟩ := info_parts infoG
  have hsz : (Tryz.prog.info? 148).map (·.size) = some 4 := by rw [hi0]; simp [hs0]
  obtain ⟨cur, hg, hnc, hcm, hcs, htk⟩ : ∃ cur : Array Value, w.heap[g]? = some (.cells cur 148 (0, 0)) ∧ n ≤ cap ∧ cap ≤ maxLen ∧ cur.size = cap * 4 ∧ cur.toList.take (n * 4) = xs := by
    rcases h.2 with ⟨h', _⟩ | ⟨g', cap', cur, h', _, hg, hnc, hcm, hcs, ht⟩
    · simp at h'
    · simp only [Value.slice.injEq, Option.some.injEq, Addr.mk.injEq, and_true, true_and] at h'
      obtain ⟨rfl, rfl⟩ := h'
      exact ⟨cur, hg, hnc, hcm, by simpa using hcs, by simpa using ht⟩
  have hcn : cap = n := by omega
  subst hcn
  unfold maxLen at hcm
  have hxl : xs.length = cap * 4 := by have := h.1; omega
  have hgl : g < w.heap.size := (Array.getElem?_eq_some_iff.1 hg).1
  have hgvl : gv < w.heap.size := (Array.getElem?_eq_some_iff.1 hgv).1
  have hk0 : ¬ (cap = k) := by omega
  have hkn : ((k : Int) == (cap : Int)) = false := by simp; omega
  have hsrc0 := row_cells hg 0 (xs.take (k * 4)) (by
    intro j v hj
    have hlt : j < k * 4 := by have := (List.getElem?_eq_some_iff.1 hj).1; simp at this; omega
    rw [List.getElem?_take, if_pos hlt] at hj
    have e : cur.toList[j]? = xs[j]? := by rw [← htk, List.getElem?_take, if_pos (by omega)]
    rw [Nat.zero_add, ← hj, ← e]
    simp)
  have hcur : ∀ j v, (xs.drop (k * 4))[j]? = some v → cur[k * 4 + j]? = some v := by
    intro j v hj
    rw [List.getElem?_drop] at hj
    have hlt : k * 4 + j < xs.length := (List.getElem?_eq_some_iff.1 hj).1
    have e : cur.toList[k * 4 + j]? = xs[k * 4 + j]? := by rw [← htk, List.getElem?_take, if_pos (by omega)]
    rw [← hj, ← e]
    simp
  have HCU := hide hcur
  clear h htk hcur
  go_enter Tryz.func115, Tryz.ntmps115
  go_upto_region 10 with (at_builtin; refine wpList_append_zeros_many _ rfl (.tmp 34) (.tmp 39) 137 3 rfl 148 i0 (.agg #[.string ByteArray.empty, .int .i64 0, .int .i64 0, .int .i64 0]) 4 Tryz.underlying137 Tryz.underlying3 hi0 hz0 hs0 (by decide) rfl ⟨g, 0, none⟩ k cap (cap + 1 - k) (xs.take (k * 4)) (by rw [List.length_take]; omega) hsrc0 rfl _ (by omega) rfl (by omega) (by omega) (by unfold maxLen; omega) (by rw [hb0]; omega) ?_; intro w1 G ROW hr1 hG hGm hRs hRt hgr1)
  have hkk : k + (cap + 1 - k) = cap + 1 := by omega
  rw [hkk] at hG ⊢
  clear hkk
  unfold maxLen at hGm
  have hG0 : ¬ (G = k) := by omega
  have hG1 : ¬ (G = k + 1) := by omega
  have hw1 : IntKind.i64.wrap ((k : Int) + 1) = (k : Int) + 1 := by rw [IntKind.wrap_i64]; omega
  have hb1 : (0 : Int) ≤ (k : Int) + 1 := by omega
  have htn : ((k : Int) + 1).toNat = k + 1 := by omega
  have hb3 : (k : Int) ≤ (cap : Int) + 1 := by omega
  have hb4 : (k : Int) + 1 ≤ (cap : Int) + 1 := by omega
  have hb5 : (k : Int) ≤ (cap : Int) := by omega
  have hgv1 : w1.heap[gv]? = some (.cells ys.toArray 148 (0, 0)) := by rw [hgr1.block gv hgvl (by simp)]; exact hgv
  have hg1 : w1.heap[g]? = some (.cells cur 148 (0, 0)) := by rw [hgr1.block g hgl (by simp)]; exact hg
  have hsrc2 := box_cells hgv1
  have hdl : (xs.drop (k * 4)).length = (cap - k) * 4 := by rw [List.length_drop, hxl]; omega
  have hmin1 : Nat.min (cap - k) (cap - k) = cap - k := by simp only [Nat.min_def]; split <;> omega
  have hmin2 : Nat.min 1 (cap + 1 - k) = 1 := by simp only [Nat.min_def]; split <;> omega
  have HG1 := hide hgr1
  have HRT := hide hRt
  have hgN : g ≠ w.heap.size := by omega
  clear hgr1 hgv hsrc0 hRt hg
  go_upto_region 11 with (refine wpList_copy_many _ rfl (.tmp 43) (.tmp 44) 137 137 rfl 148 4 Tryz.underlying137 hsz w.heap.size (k * 4) (cap + 1 - k) (G - k) ⟨gv, 0, none⟩ 1 1 rfl rfl ROW 148 hr1 ys (by rw [hl, hmin2]) hsrc2 (by rw [hl]; omega) hy ?_; intro w2 hr2 hgr2)
  have hg2 : w2.heap[g]? = some (.cells cur 148 (0, 0)) := by
    rw [hgr2.block g (Nat.lt_of_lt_of_le hgl (unhide HG1).size) (fun e => hgN (by simpa using e))]; exact hg1
  have hsrc3 := row_cells hg2 (k * 4) (xs.drop (k * 4)) (unhide HCU)
  have hs2 : (spl ROW (k * 4) ys).size = G * 4 := by rw [size_spl _ _ _ (by rw [hl]; omega), hRs]
  have HG2 := hide hgr2
  clear hgr2 hsrc2 hr1 hg1 hgv1
  go_region_law (refine step_copy_many rfl (.tmp 50) (.tmp 53) 137 137 rfl 148 4 Tryz.underlying137 hsz w.heap.size ((k + 1) * 4) (cap - k) (G - (k + 1)) ⟨g, k * 4, none⟩ (cap - k) (cap - k) (by simp [Act.eval, Act.put]) (by simp [Act.eval, Act.put]) (spl ROW (k * 4) ys) 148 (by exact hr2) (xs.drop (k * 4)) (by rw [hdl, hmin1]) (by exact hsrc3) (by rw [hdl]; omega) (fun u hu => hxs u (List.mem_of_mem_drop hu)) ?_; intro w3 hr3 hgr3)
  go_wp2
  go_ret
  refine ⟨_, rfl, ⟨by simp [hxl, hl]; omega, .inr ⟨w.heap.size, G, _, rfl, Nat.zero_le _, hr3, by omega, by unfold maxLen; omega, ?_, ?_⟩⟩, ?_, ?_⟩
  · rw [size_spl _ _ _ (by rw [hdl]; omega), hs2]
  · rw [show (cap + 1) * 4 = cap * 4 + 4 by omega, show (k + 1) * 4 = k * 4 + 4 by omega]
    exact spl_grown_many hxl hl (unhide HRT) (by omega)
  · have g1 := unhide HG1
    have g2 := unhide HG2
    refine ⟨hgr3.os.trans (g2.os.trans g1.os), hgr3.tape.trans (g2.tape.trans g1.tape), hgr3.output.trans (g2.output.trans g1.output), Nat.le_trans g1.size (Nat.le_trans g2.size hgr3.size), fun j hj _ => ?_⟩
    have hjN : j ≠ w.heap.size := by omega
    have e1 := g1.block j hj (by simp)
    have e2 := g2.block j (Nat.lt_of_lt_of_le hj g1.size) (fun e => hjN (by simpa using e))
    have e3 := hgr3.block j (Nat.lt_of_lt_of_le hj (Nat.le_trans g1.size g2.size)) (fun e => hjN (by simpa using e))
    exact e3.trans (e2.trans e1)
  · intro g' hg'
    right
    simp [Value.ownBlock] at hg'
    omega

theorem ginsert_any {w : World} {va : Value} {n k gv : Nat} {xs ys : List Value} (h : w.ownsRow 0 148 4 va n xs) (hgv : w.heap[gv]? = some (.cells ys.toArray 148 (0, 0))) (hl : ys.length = 4) (hne : va.ownBlock ≠ some gv) (hy : ∀ u ∈ ys, u.oneCell' = true) (hxs : ∀ u ∈ xs, u.oneCell' = true) (hn : n ≤ 300) (hk : k ≤ n) :
    Calls Tryz.prog 115 #[va, .int .i64 k, .slice (some ⟨gv, 0, none⟩) 1 1] w (InsP w va n k xs ys) := by
  by_cases hkn : k = n
  · subst hkn
    exact ginsert_end h hgv hl hy hn
  · obtain ⟨g, c, rfl, -⟩ := owns_open h (by omega)
    by_cases hroom : n + 1 ≤ c
    · exact ginsert_shift h hgv hl (fun e => hne (by rw [e]; rfl)) hy hxs hn (by omega) hroom
    · exact ginsert_grow h hgv hl hy hxs hn (by omega) hroom

end Go.Proofs.YtbljamcdaoofbaaGreatDoor

/- The reference's key. -/
namespace Go.Proofs.YtbljamcdaoofbaaGreatDoor
open Go.RowKit

/-- the group of a row -/
def keyL (by_ : List UInt8) (r : Rw) : List UInt8 := if by_ = [] then [] else valueL by_ (cutL 44 r.1)

set_option maxRecDepth 10000 in
set_option maxHeartbeats 1000000 in
theorem key_any {w : World} {base qb : Nat} {vM vF : Value} {meas by_ : List UInt8} {span : Int} {bad : Int} {M : List Mch} {Fs : List Flt} (r : Rw) (hq : RQAt w base qb vM vF meas span by_ bad M Fs) (hx : r.1.length ≤ 1048576) :
    Calls Tryz.prog 121 #[.pointer (some ⟨qb, 0, none⟩), .agg #[SV r.1, .int .i64 r.2.1, SV r.2.2]] w fun e w' => e = .returned (SV (keyL by_ r)) ∧ Below w.heap.size w w' := by
  obtain ⟨-, -, -, -, c4, -, -⟩ := rcell6 hq.block
  have hqw := (Array.getElem?_eq_some_iff.1 hq.block).1
  clear hq
  obtain ⟨lab, tm, line⟩ := r
  simp only at hx
  have hva := fun W => value_any lab by_ W hx
  go_enter Tryz.func121, Tryz.ntmps121
  cases hm : (by_ == []) with
  | true =>
    have HK := hide (show keyL by_ (lab, tm, line) = [] by unfold keyL; rw [if_pos (by simpa using hm)])
    clear hva
    go_wp2_with fail
    go_ret
    refine ⟨?_, (Below.refl _ w).alloc (Nat.le_refl _) _⟩
    rw [unhide HK]
    rfl
  | false =>
    have HK := hide (show keyL by_ (lab, tm, line) = valueL by_ (cutL 44 lab) by unfold keyL; rw [if_neg (by simpa using hm)])
    go_upto_region 3 with fail
    go_region_law (go_simp; go_at_call 148; refine (hva _).mono ?_; rintro e w5 ⟨rfl, hb5⟩)
    all_goals
      have HB5 := hide hb5
      clear hb5
      go_wp2_with fail
      go_ret
      refine ⟨?_, ?_⟩
      · rw [unhide HK]
        rfl
      · have h1 := unhide HB5
        refine (show Below w.heap.size w (w.alloc (.cells #[SV lab, .int .i64 tm, SV line] 38)) from (Below.refl _ w).alloc (Nat.le_refl _) _).trans ?_
        have h2 : Below (w.alloc (.cells #[SV lab, .int .i64 tm, SV line] 38)).heap.size (w.alloc (.cells #[SV lab, .int .i64 tm, SV line] 38)) w5 := ⟨h1.os, h1.tape, h1.output, h1.size, h1.block⟩
        have h3 := h2.mono (show w.heap.size ≤ (w.alloc (.cells #[SV lab, .int .i64 tm, SV line] 38)).heap.size by simp)
        repeat (first | exact h3 | apply Below.drew | apply Below.drawn)

end Go.Proofs.YtbljamcdaoofbaaGreatDoor

/- The reference's put, for more texts. -/
namespace Go.Proofs.YtbljamcdaoofbaaGreatDoor
open Go.RowKit

set_option maxRecDepth 10000 in
set_option maxHeartbeats 2000000 in
theorem put_m (l : List (List UInt8)) (v : Value) (s : List UInt8) (w : World) (B : Nat) (hB : B ≤ w.heap.size) (hown : w.ownsRow B 9 1 v l.length (l.map SV)) (hl : l.length ≤ 300) :
    Calls Tryz.prog 118 #[v, .string ⟨s.toArray⟩] w fun e w' => ∃ v', e = .returned v' ∧ w'.ownsRow B 9 1 v' (putL l s).length ((putL l s).map SV) ∧ Below w.heap.size w w' := by
  obtain ⟨i0, hi, hz0, hz1, hz2⟩ := info_parts Tryz.info9
  have hown0 := hown
  obtain ⟨ao, cap, rfl, hnc, hcm, hnil, hao, hcell, hfz⟩ := owns_form hown
  clear hown hfz
  unfold maxLen at hcm
  have HN := hide hnil
  have HA := hide hao
  have HC := hide hcell
  clear hnil hao hcell
  go_enter Tryz.func118, Tryz.ntmps118
  go_wp2
  go_loop [5, 6] (fun a i => ∃ k : Nat, k ≤ l.length ∧ i = .int .i64 k ∧ a = .int .i64 (putK l s k) ∧ (∀ j (h : j < l.length), j < k → (l[j] == s) = false)) (fun _ i => l.length - (intOf i).toNat)
  case atStart => exact ⟨0, Nat.zero_le _, rfl, rfl, fun j _ h => by omega⟩
  case round =>
    obtain ⟨k, hk, rfl, rfl, hno⟩ := hrel
    have HNO := hide hno
    clear hno
    by_cases hlt : k < l.length
    · obtain ⟨⟨g, o, sp⟩, rfl⟩ : ∃ a, ao = some a := by
        cases ao with
        | none => have := (unhide HN rfl).1; omega
        | some a => exact ⟨a, rfl⟩
      obtain ⟨ho, hsp, hBg, hgw⟩ := unhide HA _ rfl
      simp only at ho hsp hgw hBg
      subst ho hsp
      have hc := unhide HC _ rfl k (by omega)
      rw [map_SV_at l k hlt] at hc
      have HP := hide (putK_succ l s k)
      have hpk := putK_le l s k
      go_wp2
      · go_ret
        refine ⟨_, rfl, ?_, Below.refl _ _⟩
        have hm : s ∈ l := by
          have e : l[k] = s := by simpa using ‹(l[k] == s) = true›
          rw [← e]; exact List.getElem_mem hlt
        have hp : putL l s = l := by rw [putL, if_pos (by simpa using hm)]
        rw [hp]
        exact hown0
      · go_round
        case rel =>
          refine ⟨k + 1, by omega, by go_num, ?_, fun j hj hjk => ?_⟩
          · rw [unhide HP, if_pos (by simpa [hlt] using ‹Op.bytesLess l[k] s = true›)]; go_num
          · by_cases e : j = k
            · subst e; assumption
            · exact unhide HNO j hj (by omega)
        case measure => simp [intOf]; omega
      · go_round
        case rel =>
          refine ⟨k + 1, by omega, by go_num, ?_, fun j hj hjk => ?_⟩
          · rw [unhide HP, if_neg (by simpa [hlt] using ‹Op.bytesLess l[k] s = false›)]
          · by_cases e : j = k
            · subst e; assumption
            · exact unhide HNO j hj (by omega)
        case measure => simp [intOf]; omega
    · have hkl : k = l.length := by omega
      have hnm : l.contains s = false := by
        rw [Bool.eq_false_iff]
        intro h
        have hm : s ∈ l := by simpa using h
        obtain ⟨j, hj, e⟩ := List.getElem_of_mem hm
        have := unhide HNO j hj (by omega)
        simp [e] at this
      have hpk := putK_le l s k
      have HP := hide (show putL l s = l.take (putK l s k) ++ [s] ++ l.drop (putK l s k) by rw [putL, hnm, hkl]; rfl)
      generalize putK l s k = a at *
      clear hnm HNO
      cases ao with
      | none =>
        have hl0 : l = [] := List.eq_nil_of_length_eq_zero (unhide HN rfl).1
        have ha0 : a = 0 := by subst hl0; simp at hkl; omega
        have hc0 : cap = 0 := (unhide HN rfl).2
        subst hl0 ha0 hc0
        clear hkl
        go_upto_region 11 with (at_builtin; refine wpList_append_at _ rfl (.tmp 29) (.tmp 32) 33 rfl w.heap.size 9 i0 (.string ByteArray.empty) 1 16 Tryz.underlying33 hi hz0 hz1 hz2 rfl (by decide) (.slice none 0 0) _ _ rfl (World.ownsRow_nil _ _ _ _) none 0 0 [] rfl rfl (fun _ => ⟨rfl, rfl⟩) (by intro _ e; cases e) (by intro u hu; cases hu) (by unfold maxLen; omega) (by omega) (Nat.le_refl _) ?_; intro v1 w1 hown1 hgrow1 hwh1)
        simp only [Nat.zero_add, List.nil_append] at hown1
        have hb1 : Below w.heap.size w w1 := (Below.refl _ w).grown hgrow1 (Nat.le_refl _) (fun k hk => by simp [Value.ownBlock] at hk)
        clear hgrow1 hwh1
        have hs1 := hb1.size
        go_upto_region 12 with (at_builtin; refine wpList_append_at _ rfl (.tmp 34) (.tmp 36) 33 rfl w.heap.size 9 i0 (.string ByteArray.empty) 1 16 Tryz.underlying33 hi hz0 hz1 hz2 rfl (by decide) v1 _ _ rfl (hown1.alloc _) (some ⟨w1.heap.size, 0, none⟩) 1 1 [SV s] rfl rfl (by intro e; cases e) (cells_new w1 _ _) (by intro u hu; simp at hu; subst hu; rfl) (by unfold maxLen; omega) (by omega) (by simp; omega) ?_; intro v2 w2 hown2 hgrow2 hwh2)
        have hb2 : Below w.heap.size w w2 := (hb1.alloc hs1 _).grown hgrow2 (by simp; omega) (fun k hk => (hown1.lt k hk).1)
        clear hgrow2 hwh2
        have hs2 := hb2.size
        go_wp2_with (at_builtin; refine wpList_append_at _ rfl (.tmp 38) (.tmp 41) 33 rfl w.heap.size 9 i0 (.string ByteArray.empty) 1 16 Tryz.underlying33 hi hz0 hz1 hz2 rfl (by decide) v2 _ _ rfl hown2 none 0 0 [] rfl rfl (fun _ => ⟨rfl, rfl⟩) (by intro _ e; cases e) (by intro u hu; cases hu) (by unfold maxLen; omega) (by omega) (by omega) ?_; intro v3 w3 hown3 hgrow3 hwh3)
        go_ret
        refine ⟨v3, rfl, ?_, hb2.grown hgrow3 hs2 (fun k hk => (hown2.lt k hk).1)⟩
        rw [unhide HP]
        exact ownsRow_base hown3 hB
      | some ad =>
        obtain ⟨g, o, sp⟩ := ad
        obtain ⟨ho, hsp, hBg, hgw⟩ := unhide HA _ rfl
        simp only at ho hsp hgw hBg
        subst ho hsp
        have hkeep : ∀ j u, (l.map SV)[j]? = some u → w.cell? ⟨g, j, none⟩ = some u := fun j u hu => by
          have hj : j < l.length := by
            have := (List.getElem?_eq_some_iff.1 hu).1
            simpa using this
          exact (unhide HC _ rfl j (by omega)).trans hu
        have HK := hide hkeep
        clear hkeep
        go_upto_region 11 with (at_builtin; refine wpList_append_at _ rfl (.tmp 29) (.tmp 32) 33 rfl w.heap.size 9 i0 (.string ByteArray.empty) 1 16 Tryz.underlying33 hi hz0 hz1 hz2 rfl (by decide) (.slice none 0 0) _ _ rfl (World.ownsRow_nil _ _ _ _) (some ⟨g, 0, none⟩) a cap ((l.take a).map SV) rfl (by simp; omega) (by intro e; cases e) (take_cells (unhide HK) a) (map_SV_one _) (by unfold maxLen; omega) (by omega) (Nat.le_refl _) ?_; intro v1 w1 hown1 hgrow1 hwh1)
        simp only [Nat.zero_add, List.nil_append] at hown1
        have hb1 : Below w.heap.size w w1 := (Below.refl _ w).grown hgrow1 (Nat.le_refl _) (fun k hk => by simp [Value.ownBlock] at hk)
        clear hgrow1 hwh1
        have hs1 := hb1.size
        go_upto_region 12 with (at_builtin; refine wpList_append_at _ rfl (.tmp 34) (.tmp 36) 33 rfl w.heap.size 9 i0 (.string ByteArray.empty) 1 16 Tryz.underlying33 hi hz0 hz1 hz2 rfl (by decide) v1 _ _ rfl (hown1.alloc _) (some ⟨w1.heap.size, 0, none⟩) 1 1 [SV s] rfl rfl (by intro e; cases e) (cells_new w1 _ _) (by intro u hu; simp at hu; subst hu; rfl) (by unfold maxLen; omega) (by omega) (by simp; omega) ?_; intro v2 w2 hown2 hgrow2 hwh2)
        have hb2 : Below w.heap.size w w2 := (hb1.alloc hs1 _).grown hgrow2 (by simp; omega) (fun k hk => (hown1.lt k hk).1)
        clear hgrow2 hwh2
        have hs2 := hb2.size
        go_wp2_with (at_builtin; refine wpList_append_at _ rfl (.tmp 38) (.tmp 41) 33 rfl w.heap.size 9 i0 (.string ByteArray.empty) 1 16 Tryz.underlying33 hi hz0 hz1 hz2 rfl (by decide) v2 _ _ rfl hown2 _ _ _ ((l.drop a).map SV) rfl ?c1 ?c2 ?c3 (map_SV_one _) (by unfold maxLen; omega) (by omega) (by omega) ?_; rotate_right; intro v3 w3 hown3 hgrow3 hwh3)
        · go_ret
          refine ⟨v3, rfl, ?_, hb2.grown hgrow3 hs2 (fun k hk => (hown2.lt k hk).1)⟩
          rw [unhide HP]
          have hn : (l.take a ++ [s] ++ l.drop a).length = a + 1 + (l.length - a) := by simp; omega
          rw [hn, List.map_append, List.map_append]
          exact ownsRow_base hown3 hB
        · go_ret
          refine ⟨v3, rfl, ?_, hb2.grown hgrow3 hs2 (fun k hk => (hown2.lt k hk).1)⟩
          rw [unhide HP]
          have hn : (l.take a ++ [s] ++ l.drop a).length = a + 1 + (l.length - a) := by simp; omega
          rw [hn, List.map_append, List.map_append]
          exact ownsRow_base hown3 hB
        · intro j u hu
          have := (List.getElem?_eq_some_iff.1 hu).1
          omega
        · intro j u hu
          rw [hb2.cell (by exact hgw)]
          refine unhide HK _ _ ?_
          rw [List.getElem?_map, hu]
          rfl


end Go.Proofs.YtbljamcdaoofbaaGreatDoor

/- The reference's sample. -/
namespace Go.Proofs.YtbljamcdaoofbaaGreatDoor
open Go.RowKit

def SampP (meas : List UInt8) (span : Nat) (G : List Rw) (w : World) (e : Ending) (w' : World) : Prop :=
  e = .returned (.tuple #[.int .i64 ((smpS meas span G.length (bytesL G) (manyL G) (sumL G)).getD 0), .bool (smpS meas span G.length (bytesL G) (manyL G) (sumL G)).isSome]) ∧ ∃ n, w' = w.drewN n

theorem SampP.some {meas : List UInt8} {span x n : Nat} {G : List Rw} {w w' : World} {e : Ending} (h : smpS meas span G.length (bytesL G) (manyL G) (sumL G) = some x) (he : e = .returned (.tuple #[.int .i64 x, .bool true])) (hw : w' = w.drewN n) : SampP meas span G w e w' := by
  unfold SampP
  rw [h]
  exact ⟨he, n, hw⟩
theorem SampP.none {meas : List UInt8} {span n : Nat} {G : List Rw} {w w' : World} {e : Ending} (h : smpS meas span G.length (bytesL G) (manyL G) (sumL G) = none) (he : e = .returned (.tuple #[.int .i64 0, .bool false])) (hw : w' = w.drewN n) : SampP meas span G w e w' := by
  unfold SampP
  rw [h]
  exact ⟨he, n, hw⟩

set_option maxRecDepth 10000 in
set_option maxHeartbeats 2000000 in
theorem sample_any {w : World} {base qb : Nat} {vM vF : Value} {meas by_ : List UInt8} {span : Nat} {bad : Int} {M : List Mch} {Fs : List Flt} {v : Value} {G : List Rw} (hq : RQAt w base qb vM vF meas span by_ bad M Fs) (hs : 0 < span) (hs2 : span ≤ 1000000)
    (hG : w.ownsRow 0 38 3 v G.length (G.flatMap cellsR)) (hG3 : G.length ≤ 300) (hx : ∀ r ∈ G, r.2.2.length ≤ 40) :
    Calls Tryz.prog 122 #[.pointer (some ⟨qb, 0, none⟩), v] w (SampP meas span G w) := by
  obtain ⟨aG, capG, rfl, -, hcm, hnil, hao, hcell, -⟩ := owns_form hG
  have HN := hide hnil
  have HA := hide hao
  have HC := hide hcell
  have HX := hide hx
  obtain ⟨-, -, c2, c3, -, -, -⟩ := rcell6 hq.block
  have HB := hide hq.block
  clear hnil hao hcell hG hq hx c2 c3
  go_enter Tryz.func122, Tryz.ntmps122
  go_wp2_with fail
  go_loopw [6, 7, 8, 9, 10, 11] (fun b m s i _ _ wr => ∃ j n : Nat, j ≤ G.length ∧ i = .int .i64 j ∧ b = .int .i64 (bytesL (G.take j)) ∧ m = .int .i64 (manyL (G.take j)) ∧ s = .int .i64 (sumL (G.take j)) ∧ wr = w.drewN n) (fun _ _ _ i _ _ _ => G.length - (intOf i).toNat)
  case atStart => exact ⟨0, 0, Nat.zero_le _, rfl, rfl, rfl, rfl, rfl⟩
  case round =>
    obtain ⟨j, n, hj, rfl, rfl, rfl, rfl, rfl⟩ := hrel
    by_cases hlt : j < G.length
    · obtain ⟨⟨g, o, sp⟩, rfl⟩ : ∃ a, aG = some a := by
        cases aG with
        | none => have := (unhide HN rfl).1; omega
        | some a => exact ⟨a, rfl⟩
      obtain ⟨ho, hsp, -, -⟩ := unhide HA _ rfl
      simp only at ho hsp
      subst ho hsp
      obtain ⟨-, -, e2⟩ := cellsR_at G j hlt
      have m2 : (w.drewN n).cell? ⟨g, j * 3 + 2, none⟩ = some (SV G[j].2.2) := (unhide HC _ rfl _ (by omega)).trans e2
      have hnum := numbers_any G[j].2.2 (w.drewN n) (by have := unhide HX G[j] (List.getElem_mem _); omega)
      have hl40 := unhide HX G[j] (List.getElem_mem _)
      have HS1 := hide (bytesL_snoc G j hlt)
      have HS2 := hide (manyL_snoc G j hlt)
      have HS3 := hide (sumL_snoc G j hlt)
      have b1 := bytesL_le (G.take j) (fun r hr => unhide HX r (List.mem_of_mem_take hr))
      have b2 := manyL_le (G.take j)
      have b3 := sumL_abs (G.take j)
      have b4 := numV_abs G[j].2.2
      have b5 : numB G[j].2.2 = false → numV G[j].2.2 = 0 := numV_zero
      have htl : (G.take j).length = j := by rw [List.length_take]; omega
      rw [htl] at b1 b2 b3
      have HB5 := hide b5
      clear b5 htl e2
      unfold NumP at hnum
      generalize bytesL (G.take j) = bb at *
      generalize manyL (G.take j) = mm at *
      generalize sumL (G.take j) = ss at *
      generalize hln : G[j].2.2 = ln at *
      have hji : (j : Int) < (G.length : Int) := by omega
      generalize numV ln = nv at *
      cases hnb : numB ln with
      | true =>
        rw [hnb] at hnum HS2
        clear HB5 hln
        go_wp2_with fail
        refine hnum.mono ?_
        rintro e w' ⟨rfl, hww⟩
        rw [hww]
        clear hww w' hnum
        go_wp2_with fail
        go_roundw
        case rel => exact ⟨j + 1, n, by omega, by go_num, by rw [unhide HS1]; go_num, by rw [unhide HS2]; go_num, by rw [unhide HS3], rfl⟩
        case measure => simp [intOf]; omega
      | false =>
        rw [hnb] at hnum HS2
        have hnv : nv = 0 := unhide HB5 hnb
        clear HB5 hln
        go_wp2_with fail
        refine hnum.mono ?_
        rintro e w' ⟨rfl, hww⟩
        rw [hww]
        clear hww w' hnum
        go_wp2_with fail
        go_roundw
        case rel => exact ⟨j + 1, n, by omega, by go_num, by rw [unhide HS1]; go_num, by rw [unhide HS2]; rfl, by rw [unhide HS3, hnv]; simp, rfl⟩
        case measure => simp [intOf]; omega
    · have hjG : j = G.length := by omega
      subst hjG
      rw [List.take_length]
      obtain ⟨-, -, c2, c3, -, -, -⟩ := rcell6 (show (w.drewN n).heap[qb]? = _ from unhide HB)
      have b1 := bytesL_le G (unhide HX)
      have b2 := manyL_le G
      have b3 := sumL_abs G
      clear HN HA HC HX HB
      have f1 := fun A D h1 h2 h3 => rfloat_any A D (w.drewN n) h1 h2 h3
      have f2 := fun B h => rwhole_any B (w.drewN n) h
      generalize hbb : bytesL G = bb at *
      generalize hmm : manyL G = mm at *
      generalize hss : sumL G = ss at *
      generalize hnn : G.length = nn at *
      have HSM : Hid (∀ x, smpS meas span nn bb mm ss = x → smpS meas span G.length (bytesL G) (manyL G) (sumL G) = x) := by
        intro x hx
        rw [hbb, hmm, hss, hnn]
        exact hx
      clear hbb hmm hss hj hlt
      go_upto_region 12 with fail
      cases t1 : (meas == [99, 111, 117, 110, 116]) with
      | true =>
        have HE := hide (unhide HSM (some (fB nn 1)) (by unfold smpS; rw [if_pos (by simpa [countT] using t1)]))
        have k1 := f1 nn 1 (by omega) (by omega) (by omega)
        clear f1 f2 HSM
        go_wp2_with fail
        refine k1.mono ?_
        rintro e w' ⟨rfl, hww⟩
        rw [hww]
        clear hww w' k1
        go_wp2_with fail
        go_ret2
        exact SampP.some (unhide HE) rfl rfl
      | false =>
        have g1 : ¬ meas = countT := by simpa [countT] using t1
        cases t2 : (meas == [114, 97, 116, 101]) with
        | true =>
          have HE := hide (unhide HSM (some (fB nn span)) (by unfold smpS; rw [if_neg g1, if_pos (by simpa [rateT] using t2)]))
          have k1 := f1 nn span (by omega) (by omega) (by omega)
          clear f1 f2 HSM
          go_wp2_with fail
          refine k1.mono ?_
          rintro e w' ⟨rfl, hww⟩
          rw [hww]
          clear hww w' k1
          go_wp2_with fail
          go_ret2
          exact SampP.some (unhide HE) rfl rfl
        | false =>
          have g2 : ¬ meas = rateT := by simpa [rateT] using t2
          cases t3 : (meas == [98, 121, 116, 101, 115]) with
          | true =>
            have HE := hide (unhide HSM (some (fB bb 1)) (by unfold smpS; rw [if_neg g1, if_neg g2, if_pos (by simpa [bytesT] using t3)]))
            have k1 := f1 bb 1 (by omega) (by omega) (by omega)
            clear f1 f2 HSM
            go_wp2_with fail
            refine k1.mono ?_
            rintro e w' ⟨rfl, hww⟩
            rw [hww]
            clear hww w' k1
            go_wp2_with fail
            go_ret2
            exact SampP.some (unhide HE) rfl rfl
          | false =>
            have g3 : ¬ meas = bytesT := by simpa [bytesT] using t3
            by_cases h4 : mm = 0
            · have HE := hide (unhide HSM none (by unfold smpS; rw [if_neg g1, if_neg g2, if_neg g3, if_pos h4]))
              subst h4
              clear f1 f2 HSM
              go_wp2_with fail
              go_ret2
              exact SampP.none (unhide HE) rfl rfl
            · have h4b : ((mm : Int) == 0) = false := by rw [beq_eq_false_iff_ne]; omega
              by_cases h5 : ss < 0
              · obtain ⟨a, rfl⟩ : ∃ a : Nat, ss = -(a : Int) := ⟨(-ss).toNat, by omega⟩
                have ha : a ≤ 300000300 := by omega
                have e5 : (-(-(a : Int))).toNat = a := by omega
                have HE := hide (unhide HSM (some (2147483648 + fB (wholeN (fB a 1)) mm)) (by unfold smpS; rw [if_neg g1, if_neg g2, if_neg g3, if_neg h4, if_pos h5, e5]))
                have h60 : a < 2 ^ 60 := Nat.lt_of_le_of_lt ha (by decide)
                obtain ⟨u1, u2, -⟩ := whole_near h60
                have u3 := fB_whole_lt (D := mm) h60 (by omega) (by omega)
                have k1 := f1 a 1 (by omega) (by omega) (by omega)
                have k2 := f2 (fB a 1) u2
                have k3 := f1 (wholeN (fB a 1)) mm (by omega) (by omega) (by omega)
                generalize fB (wholeN (fB a 1)) mm = z at *
                generalize wholeN (fB a 1) = y at *
                generalize fB a 1 = x at *
                clear f1 f2 HSM h60 e5 u2
                go_wp2_with fail
                refine k1.mono ?_
                rintro e w' ⟨rfl, hww⟩
                rw [hww]
                clear hww w' k1
                go_wp2_with fail
                refine k2.mono ?_
                rintro e w' ⟨rfl, hww⟩
                rw [hww]
                clear hww w' k2
                go_wp2_with fail
                refine k3.mono ?_
                rintro e w' ⟨rfl, hww⟩
                rw [hww]
                clear hww w' k3
                go_wp2_with fail
                go_ret2
                exact SampP.some (unhide HE) (by go_num) rfl
              · obtain ⟨a, rfl⟩ : ∃ a : Nat, ss = (a : Int) := ⟨ss.toNat, by omega⟩
                have ha : a ≤ 300000300 := by omega
                have e5 : ((a : Int)).toNat = a := by omega
                have HE := hide (unhide HSM (some (fB (wholeN (fB a 1)) mm)) (by unfold smpS; rw [if_neg g1, if_neg g2, if_neg g3, if_neg h4, if_neg h5, e5]))
                have h60 : a < 2 ^ 60 := Nat.lt_of_le_of_lt ha (by decide)
                obtain ⟨u1, u2, -⟩ := whole_near h60
                have k1 := f1 a 1 (by omega) (by omega) (by omega)
                have k2 := f2 (fB a 1) u2
                have k3 := f1 (wholeN (fB a 1)) mm (by omega) (by omega) (by omega)
                generalize fB (wholeN (fB a 1)) mm = z at *
                generalize wholeN (fB a 1) = y at *
                generalize fB a 1 = x at *
                clear f1 f2 HSM h60 e5 u2
                go_wp2_with fail
                refine k1.mono ?_
                rintro e w' ⟨rfl, hww⟩
                rw [hww]
                clear hww w' k1
                go_wp2_with fail
                refine k2.mono ?_
                rintro e w' ⟨rfl, hww⟩
                rw [hww]
                clear hww w' k2
                go_wp2_with fail
                refine k3.mono ?_
                rintro e w' ⟨rfl, hww⟩
                rw [hww]
                clear hww w' k3
                go_wp2_with fail
                go_ret2
                exact SampP.some (unhide HE) rfl rfl

end Go.Proofs.YtbljamcdaoofbaaGreatDoor
