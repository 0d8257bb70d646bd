/- Texts PInsert, PPush, PPush2, joined. -/
import Derived.Test.YtbljamcdaoofbaaGreatDoorPFindToPAdd
import Derived.Lib.Overlaps
import Derived.Lib.AppendZerosOnto
/- slices.Insert of one stream. -/
namespace Go.Proofs.YtbljamcdaoofbaaGreatDoor
open Go.RowKit

/-- a row with some cells written from a place on -/
def spl (cur : Array Value) (off : Nat) (cs : List Value) : Array Value := (cur.toList.take off ++ cs ++ cur.toList.drop (off + cs.length)).toArray

theorem wp_copy_here {P : Program} (w : World) {o : Oper} {a : Act} {K : Act → World → Prop} {Q : Exit → Act → World → Prop} (d s : Operand) (dT sT : TypeId)
    (ho : o.op = .call { callee := .builtin .copy, args := #[d, s], argTypes := #[dT, sT] }) (elem : TypeId) (hu : P.underlying dT = some (.slice elem)) (hsz : (P.info? elem).map (·.size) = some 1)
    (g off dLen dCap : Nat) (ad : Addr) (sLen sCap : Nat) (hd : a.eval d = .slice (some ⟨g, off, none⟩) dLen dCap) (hs : a.eval s = .slice (some ad) sLen sCap)
    (cur : Array Value) (t : TypeId) (hg : w.heap[g]? = some (.cells cur t (0, 0))) (cs : List Value) (hn : cs.length = Nat.min sLen dLen)
    (hsrc : ∀ j v, cs[j]? = some v → w.cell? (ad.add j) = some v) (hfit : off + cs.length ≤ cur.size) (h1 : ∀ v ∈ cs, v.oneCell' = true)
    (h : ∀ w', w'.heap[g]? = some (.cells (spl cur off cs) t (0, 0)) → w.grownBy w' (some g) → K (a.put o.dst (goInt cs.length)) w') : o.wp P a w K Q := by
  have hrun := run_copy_row (P := P) w dT sT o.type elem g off dLen dCap ad sLen sCap cur t cs hu hsz hg hn hsrc hfit h1
  unfold Oper.wp execOp
  simp only [ho, resolve, invoke, builtin, Sem.run_bind, Sem.run_pure, Result.andThen_ok, List.map_toArray, List.map_cons, List.map_nil, hd, hs, hrun]
  refine h _ ?_ ?_
  · exact setRow_heap w g cur _ t _ hg
  · exact ⟨rfl, rfl, rfl, by simp [World.setRow], fun k _ hk => setRow_other w g k _ (fun e => hk (by rw [e]))⟩

theorem wpList_copy_here {P : Program} (w : World) {ops : Array Oper} {rest : List Oper} {o : Oper} {a : Act} {Q : Exit → Act → World → Prop} (hgd : o.guard = none) (d s : Operand) (dT sT : TypeId)
    (ho : o.op = .call { callee := .builtin .copy, args := #[d, s], argTypes := #[dT, sT] }) (elem : TypeId) (hu : P.underlying dT = some (.slice elem)) (hsz : (P.info? elem).map (·.size) = some 1)
    (g off dLen dCap : Nat) (ad : Addr) (sLen sCap : Nat) (hd : a.eval d = .slice (some ⟨g, off, none⟩) dLen dCap) (hs : a.eval s = .slice (some ad) sLen sCap)
    (cur : Array Value) (t : TypeId) (hg : w.heap[g]? = some (.cells cur t (0, 0))) (cs : List Value) (hn : cs.length = Nat.min sLen dLen)
    (hsrc : ∀ j v, cs[j]? = some v → w.cell? (ad.add j) = some v) (hfit : off + cs.length ≤ cur.size) (h1 : ∀ v ∈ cs, v.oneCell' = true)
    (h : ∀ w', w'.heap[g]? = some (.cells (spl cur off cs) t (0, 0)) → w.grownBy w' (some g) → wpList P ops Q rest (a.put o.dst (goInt cs.length)) w') : wpList P ops Q (o :: rest) a w :=
  wpList_plain hgd fun _ hK => wp_copy_here w d s dT sT ho elem hu hsz g off dLen dCap ad sLen sCap hd hs cur t hg cs hn hsrc hfit h1 fun w' h2 h3 => hK _ _ (h w' h2 h3)

theorem step_copy_here {P : Program} {ops : Array Oper} {o : Oper} {a : Act} {w : World} {K : Act → World → Prop} {Q : Exit → Act → World → Prop} {E : Prop} (hgd : o.guard = none) (d s : Operand) (dT sT : TypeId)
    (ho : o.op = .call { callee := .builtin .copy, args := #[d, s], argTypes := #[dT, sT] }) (elem : TypeId) (hu : P.underlying dT = some (.slice elem)) (hsz : (P.info? elem).map (·.size) = some 1)
    (g off dLen dCap : Nat) (ad : Addr) (sLen sCap : Nat) (hd : a.eval d = .slice (some ⟨g, off, none⟩) dLen dCap) (hs : a.eval s = .slice (some ad) sLen sCap)
    (cur : Array Value) (t : TypeId) (hg : w.heap[g]? = some (.cells cur t (0, 0))) (cs : List Value) (hn : cs.length = Nat.min sLen dLen)
    (hsrc : ∀ j v, cs[j]? = some v → w.cell? (ad.add j) = some v) (hfit : off + cs.length ≤ cur.size) (h1 : ∀ v ∈ cs, v.oneCell' = true)
    (h : ∀ w', w'.heap[g]? = some (.cells (spl cur off cs) t (0, 0)) → w.grownBy w' (some g) → K (a.put o.dst (goInt cs.length)) w') :
    if Region.wanted o (yielded ops a.tmps) = true then Oper.wp P o a w K Q else E := by
  have hw : Region.wanted o (yielded ops a.tmps) = true := by simp [Region.wanted, hgd]
  rw [if_pos hw]
  exact wp_copy_here w d s dT sT ho elem hu hsz g off dLen dCap ad sLen sCap hd hs cur t hg cs hn hsrc hfit h1 h

/-- the cells of a row's block, from a place on -/
theorem row_cells {w : World} {g : Nat} {cur : Array Value} {t : TypeId} (hg : w.heap[g]? = some (.cells cur t (0, 0))) (off : Nat) (cs : List Value) (hcs : ∀ j v, cs[j]? = some v → cur[off + j]? = some v) :
    ∀ j v, cs[j]? = some v → w.cell? ((⟨g, off, none⟩ : Addr).add j) = some v := by
  intro j v hj
  rw [addr_add, cell_of_row w g (off + j) cur t (0, 0) hg]
  exact hcs j v hj

set_option maxRecDepth 10000 in
set_option maxHeartbeats 4000000 in
theorem insert_end {w : World} {va y : Value} {n gv : Nat} {xs : List Value} (h : w.ownsRow 0 79 1 va n xs) (hgv : w.heap[gv]? = some (.cells #[y] 79 (0, 0))) (hy : y.oneCell' = true) (hn : n ≤ 6) :
    Calls Tryz.prog 48 #[va, .int .i64 n, .slice (some ⟨gv, 0, none⟩) 1 1] w fun e w' =>
      ∃ v', e = .returned v' ∧ w'.ownsRow 0 79 1 v' (n + 1) (xs ++ [y]) ∧ w.grownBy w' va.ownBlock ∧ (∀ g, v'.ownBlock = some g → va.ownBlock = some g ∨ w.heap.size ≤ g) := by
  obtain ⟨i0, hi0, hz0, hs0, hb0⟩ := info_parts Tryz.info79
  obtain ⟨ao, cap, rfl, hnc, hcm, hnil, hao, hcell, hfz⟩ := owns_form h
  unfold maxLen at hcm
  have hsrc := row_cells hgv 0 [y] (by intro j v hj; match j, hj with | 0, hj => simpa using hj)
  have hcase : ao = none ∨ ∃ g, ao = some ⟨g, 0, none⟩ := by
    cases ao with
    | none => exact .inl rfl
    | some a =>
      obtain ⟨g, o, sp⟩ := a
      obtain ⟨ho, hsp, -, -⟩ := hao _ rfl
      simp only at ho hsp
      subst ho hsp
      exact .inr ⟨g, rfl⟩
  have HN := hide hnil
  clear hcell hao hnil hfz
  rcases hcase with rfl | ⟨g, rfl⟩
  · obtain ⟨rfl, rfl⟩ := unhide HN rfl
    go_enter Tryz.func48, Tryz.ntmps48
    go_wp2_with (at_builtin; refine wpList_append_at _ rfl (.tmp 23) (.tmp 24) 76 rfl 0 79 i0 (.pointer none) 1 8 Tryz.underlying76 hi0 hz0 hs0 hb0 rfl (by decide) _ _ _ rfl h (some ⟨gv, 0, none⟩) 1 1 [y] rfl rfl (by intro e; cases e) (by rintro a ⟨⟩; exact hsrc) (by intro u hu; simp at hu; subst hu; exact hy) (by unfold maxLen; omega) (by omega) (Nat.zero_le _) ?_; intro v4 w4 hown4 hgrow4 hwh4)
    go_ret
    refine ⟨v4, rfl, by simpa using hown4, hgrow4, fun g' hg' => ?_⟩
    rcases hwh4 with hw | hw
    · exact .inl (hw ▸ hg')
    · right; rw [hg'] at hw; simp at hw; omega
  · go_enter Tryz.func48, Tryz.ntmps48
    go_wp2_with (at_builtin; refine wpList_append_at _ rfl (.tmp 23) (.tmp 24) 76 rfl 0 79 i0 (.pointer none) 1 8 Tryz.underlying76 hi0 hz0 hs0 hb0 rfl (by decide) _ _ _ rfl h (some ⟨gv, 0, none⟩) 1 1 [y] rfl rfl (by intro e; cases e) (by rintro a ⟨⟩; exact hsrc) (by intro u hu; simp at hu; subst hu; exact hy) (by unfold maxLen; omega) (by omega) (Nat.zero_le _) ?_; intro v4 w4 hown4 hgrow4 hwh4)
    all_goals
      go_ret
      refine ⟨v4, rfl, hown4, hgrow4, fun g' hg' => ?_⟩
      rcases hwh4 with hw | hw
      · exact .inl (hw ▸ hg')
      · right; rw [hg'] at hw; simp at hw; omega

theorem size_spl (cur : Array Value) (off : Nat) (cs : List Value) (h : off + cs.length ≤ cur.size) : (spl cur off cs).size = cur.size := by
  simp [spl]; omega

theorem spl_shift {cur : Array Value} {xs : List Value} {n k : Nat} {y : Value} (hx : cur.toList.take n = xs) (hn : n + 1 ≤ cur.size) (hk : k < n) :
    (spl (spl cur (k + 1) (xs.drop k)) k [y]).toList.take (n + 1) = xs.take k ++ [y] ++ xs.drop k := by
  have hl : xs.length = n := by rw [← hx]; simp; omega
  have e1 : (spl cur (k + 1) (xs.drop k)).toList = cur.toList.take (k + 1) ++ (xs.drop k ++ cur.toList.drop (k + 1 + (xs.drop k).length)) := by simp [spl]
  have hT : (cur.toList.take (k + 1)).length = k + 1 := by simp; omega
  have e2 : (spl (spl cur (k + 1) (xs.drop k)) k [y]).toList = xs.take k ++ ([y] ++ (xs.drop k ++ cur.toList.drop (k + 1 + (xs.drop k).length))) := by
    simp only [spl, List.toList_toArray] at e1 ⊢
    rw [e1]
    rw [List.take_append_of_le_length (by omega), List.take_take, Nat.min_eq_left (by omega)]
    rw [List.length_singleton, List.drop_append_of_le_length (by omega), List.drop_of_length_le (by omega), List.nil_append]
    rw [← hx, List.take_take, Nat.min_eq_left (by omega), List.append_assoc]
  rw [e2]
  have e3 : xs.take k ++ ([y] ++ (xs.drop k ++ cur.toList.drop (k + 1 + (xs.drop k).length))) = (xs.take k ++ [y] ++ xs.drop k) ++ cur.toList.drop (k + 1 + (xs.drop k).length) := by simp
  rw [e3]
  have hlen : (xs.take k ++ [y] ++ xs.drop k).length = n + 1 := by simp; omega
  rw [← hlen]
  exact List.take_left

theorem spl_grown {cur : Array Value} {xs : List Value} {n k : Nat} {y : Value} (hl : xs.length = n) (hx : cur.toList.take k = xs.take k) (hk : k < n) :
    (spl (spl cur k [y]) (k + 1) (xs.drop k)).toList.take (n + 1) = xs.take k ++ [y] ++ xs.drop k := by
  have e1 : (spl cur k [y]).toList = xs.take k ++ [y] ++ cur.toList.drop (k + 1) := by simp [spl, hx]
  have hT : (xs.take k ++ [y]).length = k + 1 := by simp; omega
  have e2 : (spl (spl cur k [y]) (k + 1) (xs.drop k)).toList = xs.take k ++ [y] ++ (xs.drop k ++ (spl cur k [y]).toList.drop (k + 1 + (xs.drop k).length)) := by
    simp only [spl, List.toList_toArray] at e1 ⊢
    rw [e1, List.take_append_of_le_length (by omega), List.take_of_length_le (by omega), List.append_assoc (xs.take k ++ [y])]
  rw [e2, ← List.append_assoc]
  have hlen : (xs.take k ++ [y] ++ xs.drop k).length = n + 1 := by simp; omega
  rw [← hlen]
  exact List.take_left

theorem overlaps_no {w : World} {gv g : Nat} {y : Value} {cur : Array Value} (hgv : w.heap[gv]? = some (.cells #[y] 79 (0, 0))) (hg : w.heap[g]? = some (.cells cur 79 (0, 0))) (hne : gv ≠ g) (hc : cur.size ≠ 0) (off lb cb : Nat) :
    (callFunc 79 #[.slice (some ⟨gv, 0, none⟩) 1 1, .slice (some ⟨g, off, none⟩) lb cb]).run Tryz.prog w = .ok (.value (.bool false)) w := by
  obtain ⟨i0, hi0, hz0, hs0, hb0⟩ := info_parts Tryz.info79
  rw [run_callFunc_extern Tryz.func79 (by kernel_rfl) (by kernel_rfl) (by kernel_rfl) (e := Extern.SlicesOverlaps.overlaps #[76, 76] #[4]) (by kernel_rfl),
    Lib.run_overlaps_apart w 76 4 79 Tryz.underlying76 1 (fun w => by simp [sizeOf, typeInfo, hi0, hs0]) ⟨gv, 0, none⟩ ⟨g, off, none⟩ 1 1 lb cb hne 79 79 1 cur.size (by simp [World.shape?, hgv]) (by simp [World.shape?, hg]) hc (by simp [World.frozen?, hgv]) (by simp [World.frozen?, hgv])]
  rfl

set_option maxRecDepth 10000 in
set_option maxHeartbeats 4000000 in
theorem insert_shift {w : World} {y : Value} {n k g cap gv : Nat} {xs : List Value} (h : w.ownsRow 0 79 1 (.slice (some ⟨g, 0, none⟩) n cap) n xs) (hgv : w.heap[gv]? = some (.cells #[y] 79 (0, 0))) (hne : gv ≠ g) (hy : y.oneCell' = true) (hxs : ∀ u ∈ xs, u.oneCell' = true) (hn : n ≤ 6) (hk : k < n) (hroom : n + 1 ≤ cap) :
    Calls Tryz.prog 48 #[.slice (some ⟨g, 0, none⟩) n cap, .int .i64 k, .slice (some ⟨gv, 0, none⟩) 1 1] w fun e w' =>
      ∃ v', e = .returned v' ∧ w'.ownsRow 0 79 1 v' (n + 1) (xs.take k ++ [y] ++ xs.drop k) ∧ w.grownBy w' (some g) ∧ (∀ g', v'.ownBlock = some g' → g' = g ∨ w.heap.size ≤ g') := by
  obtain ⟨i0, hi0, hz0, hs0, hb0⟩ := info_parts Tryz.info79
  have hsz : (Tryz.prog.info? 79).map (·.size) = some 1 := by rw [hi0]; simp [hs0]
  obtain ⟨cur, hg, hcm, hcs, htk⟩ : ∃ cur : Array Value, w.heap[g]? = some (.cells cur 79 (0, 0)) ∧ cap ≤ maxLen ∧ cur.size = cap ∧ cur.toList.take n = xs := by
    rcases h.2 with ⟨h', _⟩ | ⟨g', cap', cur, h', _, hg, _, hcm, hcs, ht⟩
    · simp at h'
    · simp only [Value.slice.injEq, Option.some.injEq, Addr.mk.injEq, and_true, true_and] at h'
      obtain ⟨rfl, rfl⟩ := h'
      exact ⟨cur, hg, hcm, by simpa using hcs, by simpa using ht⟩
  unfold maxLen at hcm
  have hxl : xs.length = n := by simpa using h.1
  have hov := fun lb cb => overlaps_no hgv hg hne (by omega) (k + 1) lb cb
  have hk0 : ¬ (cap = k) := by omega
  have hk1 : ¬ (cap = k + 1) := by omega
  have hkn : ((k : Int) == (n : Int)) = false := by simp; omega
  have hw1 : IntKind.i64.wrap ((k : Int) + 1) = (k : Int) + 1 := by rw [IntKind.wrap_i64]; omega
  have hb1 : (0 : Int) ≤ (k : Int) + 1 := by omega
  have htn : ((k : Int) + 1).toNat = k + 1 := by omega
  have hb3 : (k : Int) ≤ (n : Int) + 1 := by omega
  have hb4 : (k : Int) + 1 ≤ (n : Int) + 1 := by omega
  have hsrc1 := row_cells hg k (xs.drop k) (by
    intro j v hj
    rw [List.getElem?_drop] at hj
    have hlt : k + j < xs.length := (List.getElem?_eq_some_iff.1 hj).1
    have e : cur.toList[k + j]? = xs[k + j]? := by rw [← htk, List.getElem?_take, if_pos (by omega)]
    rw [← hj, ← e]
    simp)
  have H := hide h
  have HX := hide htk
  clear h htk
  go_enter Tryz.func48, Tryz.ntmps48
  go_wp2
  go_region_law (refine step_copy_here rfl (.tmp 73) (.tmp 76) 76 76 rfl 79 Tryz.underlying76 hsz g (k + 1) (n - k) (cap - (k + 1)) ⟨g, k, none⟩ (n + 1 - k) (cap - k) (by simp [Act.eval, Act.put]) (by simp [Act.eval, Act.put]) cur 79 (by exact hg) (xs.drop k) (by rw [List.length_drop, hxl]; simp only [Nat.min_def]; split <;> omega) (by exact hsrc1) (by rw [List.length_drop]; omega) (fun u hu => hxs u (List.mem_of_mem_drop hu)) ?_; intro w4 hg4 hgr4)
  have hgvl : gv < w.heap.size := (Array.getElem?_eq_some_iff.1 hgv).1
  have hgv4 : w4.heap[gv]? = some (.cells #[y] 79 (0, 0)) := by
    rw [hgr4.block gv (by exact hgvl) (fun e => hne (by simpa using e))]
    exact hgv
  have hsrc2 := row_cells hgv4 0 [y] (by intro j v hj; match j, hj with | 0, hj => simpa using hj)
  have hdl : (xs.drop k).length = n - k := by rw [List.length_drop, hxl]
  have hs4 : (spl cur (k + 1) (xs.drop k)).size = cap := by rw [size_spl _ _ _ (by rw [hdl]; omega), hcs]
  have HG4 := hide hgr4
  clear hgr4 hsrc1 hov hgv
  go_wp2_with (refine wpList_copy_here _ rfl (.tmp 80) (.tmp 81) 76 76 rfl 79 Tryz.underlying76 hsz g k (n + 1 - k) (cap - k) ⟨gv, 0, none⟩ 1 1 rfl rfl (spl cur (k + 1) (xs.drop k)) 79 hg4 [y] (by simp only [Nat.min_def, List.length_singleton]; split <;> omega) hsrc2 (by rw [List.length_singleton]; omega) (by intro u hu; simp at hu; subst hu; exact hy) ?_; intro w5 hg5 hgr5; clear hg4)
  go_ret
  refine ⟨_, rfl, ⟨by simp [hxl]; omega, .inr ⟨g, cap, _, rfl, Nat.zero_le _, hg5, hroom, by unfold maxLen; omega, ?_, ?_⟩⟩, ?_, ?_⟩
  · rw [size_spl _ _ _ (by rw [List.length_singleton]; omega), hs4, Nat.mul_one]
  · rw [Nat.mul_one]
    exact spl_shift (unhide HX) (by omega) hk
  · have g4 := unhide HG4
    exact ⟨hgr5.os.trans g4.os, hgr5.tape.trans g4.tape, hgr5.output.trans g4.output, Nat.le_trans g4.size hgr5.size, fun j hj hne' => (hgr5.block j (Nat.lt_of_lt_of_le hj g4.size) hne').trans (g4.block j hj hne')⟩
  · intro g' hg'
    left
    simpa [Value.ownBlock] using hg'.symm

/-- an append of a make, where there is no room, as the walk takes it -/
theorem wpList_append_zeros {P : Program} (w : World) {ops : Array Oper} {rest : List Oper} {o : Oper} {a : Act} {Q : Exit → Act → World → Prop} (hgd : o.guard = none) (s x : Operand) (t tn : TypeId)
    (ho : o.op = .call { callee := .builtin .append, args := #[s, x], argTypes := #[t, tn] }) (e : TypeId) (i : TypeInfo) (z : Value) (ht : P.underlying t = some (.slice e)) (htn : P.underlying tn = some (.int .i64)) (hi : P.info? e = some i) (hz : i.zero = some z)
    (hsz : i.size = 1) (hzs : z.cells.size = 1) (ad : Addr) (k cap m : Nat) (olds : List Value) (hol : olds.length = k) (holds : ∀ j v, olds[j]? = some v → w.cell? (ad.add j) = some v)
    (hs : a.eval s = .slice (some ad) k cap) (q : Int) (hq : q = m) (hx : a.eval x = .int .i64 q) (h0 : 0 < m) (hg : cap < k + m) (h63 : k + m ≤ maxLen) (h47 : (k + m) * i.bytes ≤ 140737488355328)
    (h : ∀ w' G ROW, w'.heap[w.heap.size]? = some (.cells ROW e (0, 0)) → k + m ≤ G → G ≤ maxLen → ROW.size = G → ROW.toList.take k = olds → w.grownBy w' none → wpList P ops Q rest (a.put o.dst (.slice (some ⟨w.heap.size, 0, none⟩) (k + m) G)) w') : wpList P ops Q (o :: rest) a w := by
  subst hq
  have hold : (Builtin.firstCells i.size k (.slice (some ad) k cap)).run P w.drew = .ok olds.toArray w.drew :=
    run_firstCells_some w.drew i.size k ad k cap olds (by rw [hsz, Nat.mul_one]; exact hol) (by simpa using holds)
  have h63' : k + m ≤ 9223372036854775807 := by unfold maxLen at h63; omega
  have h48 : m * i.bytes ≤ 281474976710656 := by
    have : m * i.bytes ≤ (k + m) * i.bytes := Nat.mul_le_mul_right _ (by omega)
    omega
  have hr := Lib.run_append_grow_zeros (P := P) w t tn o.type e i z .i64 .i64 ht htn hi hz (some ad) k cap olds hold m h0 (by omega) hg (by omega) h48 (growslice_fits hg h47)
  refine Lib.wpList_append_run w hgd s x t tn ho _ _ hs hx _ _ hr ?_
  refine h _ _ _ (heap_alloc_new w.drew _) (grownCap_ge w _ _ _) (grownCap_le_maxLen w _ _ _ h63) ?_ ?_ ⟨rfl, rfl, rfl, by simp, fun j hj _ => Go.RowKit.Below.heap_alloc w.drew _ j hj⟩
  · have := grownCap_ge w (k + m) cap e
    simp [Builtin.zeroCells, hzs, hol]
    omega
  · simp only [Array.toList_append, List.append_assoc]
    rw [← hol]
    exact List.take_left

set_option maxRecDepth 10000 in
set_option maxHeartbeats 4000000 in
theorem insert_grow {w : World} {y : Value} {n k g cap gv : Nat} {xs : List Value} (h : w.ownsRow 0 79 1 (.slice (some ⟨g, 0, none⟩) n cap) n xs) (hgv : w.heap[gv]? = some (.cells #[y] 79 (0, 0))) (hy : y.oneCell' = true) (hxs : ∀ u ∈ xs, u.oneCell' = true) (hn : n ≤ 6) (hk : k < n) (hroom : ¬ n + 1 ≤ cap) :
    Calls Tryz.prog 48 #[.slice (some ⟨g, 0, none⟩) n cap, .int .i64 k, .slice (some ⟨gv, 0, none⟩) 1 1] w fun e w' =>
      ∃ v', e = .returned v' ∧ w'.ownsRow 0 79 1 v' (n + 1) (xs.take k ++ [y] ++ xs.drop k) ∧ w.grownBy w' (some g) ∧ (∀ g', v'.ownBlock = some g' → g' = g ∨ w.heap.size ≤ g') := by
  obtain ⟨i0, hi0, hz0, hs0, hb0⟩ := info_parts Tryz.info79
  have hsz : (Tryz.prog.info? 79).map (·.size) = some 1 := by rw [hi0]; simp [hs0]
  obtain ⟨cur, hg, hnc, hcm, hcs, htk⟩ : ∃ cur : Array Value, w.heap[g]? = some (.cells cur 79 (0, 0)) ∧ n ≤ cap ∧ cap ≤ maxLen ∧ cur.size = cap ∧ cur.toList.take n = xs := by
    rcases h.2 with ⟨h', _⟩ | ⟨g', cap', cur, h', _, hg, hnc, hcm, hcs, ht⟩
    · simp at h'
    · simp only [Value.slice.injEq, Option.some.injEq, Addr.mk.injEq, and_true, true_and] at h'
      obtain ⟨rfl, rfl⟩ := h'
      exact ⟨cur, hg, hnc, hcm, by simpa using hcs, by simpa using ht⟩
  have hcn : cap = n := by omega
  subst hcn
  unfold maxLen at hcm
  have hxl : xs.length = cap := by simpa using h.1
  have hgl : g < w.heap.size := (Array.getElem?_eq_some_iff.1 hg).1
  have hgvl : gv < w.heap.size := (Array.getElem?_eq_some_iff.1 hgv).1
  have hk0 : ¬ (cap = k) := by omega
  have hkn : ((k : Int) == (cap : Int)) = false := by simp; omega
  have hsrc0 := row_cells hg 0 (xs.take k) (by
    intro j v hj
    have hlt : j < k := by have := (List.getElem?_eq_some_iff.1 hj).1; simp at this; omega
    rw [List.getElem?_take, if_pos hlt] at hj
    have e : cur.toList[j]? = xs[j]? := by rw [← htk, List.getElem?_take, if_pos (by omega)]
    rw [Nat.zero_add, ← hj, ← e]
    simp)
  have hcur : ∀ j v, (xs.drop k)[j]? = some v → cur[k + j]? = some v := by
    intro j v hj
    rw [List.getElem?_drop] at hj
    have hlt : k + j < xs.length := (List.getElem?_eq_some_iff.1 hj).1
    have e : cur.toList[k + j]? = xs[k + j]? := by rw [← htk, List.getElem?_take, if_pos (by omega)]
    rw [← hj, ← e]
    simp
  have HCU := hide hcur
  clear h htk hcur
  go_enter Tryz.func48, Tryz.ntmps48
  go_upto_region 10 with (at_builtin; refine wpList_append_zeros _ rfl (.tmp 34) (.tmp 39) 76 3 rfl 79 i0 (.pointer none) Tryz.underlying76 Tryz.underlying3 hi0 hz0 hs0 rfl ⟨g, 0, none⟩ k cap (cap + 1 - k) (xs.take k) (by rw [List.length_take]; omega) hsrc0 rfl _ (by omega) rfl (by omega) (by omega) (by unfold maxLen; omega) (by rw [hb0]; omega) ?_; intro w1 G ROW hr1 hG hGm hRs hRt hgr1)
  have hkk : k + (cap + 1 - k) = cap + 1 := by omega
  rw [hkk] at hG ⊢
  clear hkk
  unfold maxLen at hGm
  have hG0 : ¬ (G = k) := by omega
  have hG1 : ¬ (G = k + 1) := by omega
  have hw1 : IntKind.i64.wrap ((k : Int) + 1) = (k : Int) + 1 := by rw [IntKind.wrap_i64]; omega
  have hb1 : (0 : Int) ≤ (k : Int) + 1 := by omega
  have htn : ((k : Int) + 1).toNat = k + 1 := by omega
  have hb3 : (k : Int) ≤ (cap : Int) + 1 := by omega
  have hb4 : (k : Int) + 1 ≤ (cap : Int) + 1 := by omega
  have hb5 : (k : Int) ≤ (cap : Int) := by omega
  have hgv1 : w1.heap[gv]? = some (.cells #[y] 79 (0, 0)) := by rw [hgr1.block gv hgvl (by simp)]; exact hgv
  have hg1 : w1.heap[g]? = some (.cells cur 79 (0, 0)) := by rw [hgr1.block g hgl (by simp)]; exact hg
  have hsrc2 := row_cells hgv1 0 [y] (by intro j v hj; match j, hj with | 0, hj => simpa using hj)
  have HG1 := hide hgr1
  have HRT := hide hRt
  have hgN : g ≠ w.heap.size := by omega
  clear hgr1 hgv hsrc0 hRt hg
  go_upto_region 11 with (refine wpList_copy_here _ rfl (.tmp 43) (.tmp 44) 76 76 rfl 79 Tryz.underlying76 hsz w.heap.size k (cap + 1 - k) (G - k) ⟨gv, 0, none⟩ 1 1 rfl rfl ROW 79 hr1 [y] (by simp only [Nat.min_def, List.length_singleton]; split <;> omega) hsrc2 (by rw [List.length_singleton]; omega) (by intro u hu; simp at hu; subst hu; exact hy) ?_; intro w2 hr2 hgr2)
  have hg2 : w2.heap[g]? = some (.cells cur 79 (0, 0)) := by
    rw [hgr2.block g (Nat.lt_of_lt_of_le hgl (unhide HG1).size) (fun e => hgN (by simpa using e))]; exact hg1
  have hsrc3 := row_cells hg2 k (xs.drop k) (unhide HCU)
  have hs2 : (spl ROW k [y]).size = G := by rw [size_spl _ _ _ (by rw [List.length_singleton]; omega), hRs]
  have HG2 := hide hgr2
  clear hgr2 hsrc2 hr1 hg1 hgv1
  go_region_law (refine step_copy_here rfl (.tmp 50) (.tmp 53) 76 76 rfl 79 Tryz.underlying76 hsz w.heap.size (k + 1) (cap - k) (G - (k + 1)) ⟨g, k, none⟩ (cap - k) (cap - k) (by simp [Act.eval, Act.put]) (by simp [Act.eval, Act.put]) (spl ROW k [y]) 79 (by exact hr2) (xs.drop k) (by rw [List.length_drop, hxl]; simp only [Nat.min_def]; split <;> omega) (by exact hsrc3) (by rw [List.length_drop]; omega) (fun u hu => hxs u (List.mem_of_mem_drop hu)) ?_; intro w3 hr3 hgr3)
  go_wp2
  go_ret
  have hdl : (xs.drop k).length = cap - k := by rw [List.length_drop, hxl]
  refine ⟨_, rfl, ⟨by simp [hxl]; omega, .inr ⟨w.heap.size, G, _, rfl, Nat.zero_le _, hr3, by omega, by unfold maxLen; omega, ?_, ?_⟩⟩, ?_, ?_⟩
  · rw [size_spl _ _ _ (by rw [hdl]; omega), hs2, Nat.mul_one]
  · rw [Nat.mul_one]
    exact spl_grown hxl (unhide HRT) hk
  · have g1 := unhide HG1
    have g2 := unhide HG2
    refine ⟨hgr3.os.trans (g2.os.trans g1.os), hgr3.tape.trans (g2.tape.trans g1.tape), hgr3.output.trans (g2.output.trans g1.output), Nat.le_trans g1.size (Nat.le_trans g2.size hgr3.size), fun j hj _ => ?_⟩
    have hjN : j ≠ w.heap.size := by omega
    have e1 := g1.block j hj (by simp)
    have e2 := g2.block j (Nat.lt_of_lt_of_le hj g1.size) (fun e => hjN (by simpa using e))
    have e3 := hgr3.block j (Nat.lt_of_lt_of_le hj (Nat.le_trans g1.size g2.size)) (fun e => hjN (by simpa using e))
    exact e3.trans (e2.trans e1)
  · intro g' hg'
    right
    simp [Value.ownBlock] at hg'
    omega

end Go.Proofs.YtbljamcdaoofbaaGreatDoor

/- The program's Push: what it answers, and what it leaves in memory. -/
namespace Go.Proofs.YtbljamcdaoofbaaGreatDoor
open Go.RowKit

theorem insert_any {w : World} {va y : Value} {n k gv : Nat} {xs : List Value} (h : w.ownsRow 0 79 1 va n xs) (hgv : w.heap[gv]? = some (.cells #[y] 79 (0, 0))) (hne : ∀ g, va.ownBlock = some g → gv ≠ g) (hy : y.oneCell' = true) (hxs : ∀ u ∈ xs, u.oneCell' = true) (hn : n ≤ 6) (hk : k ≤ n) :
    Calls Tryz.prog 48 #[va, .int .i64 k, .slice (some ⟨gv, 0, none⟩) 1 1] w fun e w' =>
      ∃ v', e = .returned v' ∧ w'.ownsRow 0 79 1 v' (n + 1) (xs.take k ++ [y] ++ xs.drop k) ∧ w.grownBy w' va.ownBlock ∧ (∀ g, v'.ownBlock = some g → va.ownBlock = some g ∨ w.heap.size ≤ g) := by
  have hxl : xs.length = n := by simpa using h.1
  by_cases he : k = n
  · subst he
    refine (insert_end h hgv hy hn).mono ?_
    rintro e w' ⟨v', rfl, h1, h2, h3⟩
    refine ⟨v', rfl, ?_, h2, h3⟩
    rw [List.take_of_length_le (by omega), List.drop_of_length_le (by omega), List.append_nil]
    exact h1
  · obtain ⟨g, cap, rfl, -, -, -, -, -, -⟩ := owns_open h (by omega)
    by_cases hr : n + 1 ≤ cap
    · refine (insert_shift h hgv (hne g rfl) hy hxs hn (by omega) hr).mono ?_
      rintro e w' ⟨v', rfl, h1, h2, h3⟩
      exact ⟨v', rfl, h1, h2, fun g' hg' => by rcases h3 g' hg' with rfl | h; exact .inl rfl; exact .inr h⟩
    · refine (insert_grow h hgv hy hxs hn (by omega) hr).mono ?_
      rintro e w' ⟨v', rfl, h1, h2, h3⟩
      exact ⟨v', rfl, h1, h2, fun g' hg' => by rcases h3 g' hg' with rfl | h; exact .inl rfl; exact .inr h⟩

theorem apart.symm {a b : Node} (h : apart a b) : apart b a := ⟨fun e => h.1 e.symm, fun g hb ha => h.2 g ha hb⟩

theorem StoreAt.apartAt {w : World} {F : Nat → Prop} {p : Nat} {ns : List Node} {va : Value} (h : StoreAt w F p ns va) {i j : Nat} (hi : i < ns.length) (hj : j < ns.length) (hij : i ≠ j) : Go.Proofs.YtbljamcdaoofbaaGreatDoor.apart ns[i] ns[j] := by
  rcases Nat.lt_or_gt_of_ne hij with g | g
  · exact List.pairwise_iff_getElem.1 h.apart i j hi hj g
  · exact (List.pairwise_iff_getElem.1 h.apart j i hj hi g).symm

theorem StoreAt.set {w w' : World} {F : Nat → Prop} {p k : Nat} {ns : List Node} {va : Value} (h : StoreAt w F p ns va) (hk : k < ns.length) {n' : Node} (hn' : NodeAt w' n') (hb : n'.blk = ns[k].blk)
    (hv : ∀ g, n'.vl.ownBlock = some g → ns[k].vl.ownBlock = some g ∨ w.heap.size ≤ g) (hm : Moved (nodeF ns[k]) w w') : StoreAt w' (Plus F w) p (ns.set k n') va := by
  have hK := h.nodes _ (List.getElem_mem hk)
  have hnot : ∀ {b : Nat} {c : Array Value} {e : TypeId} {f : Nat × Nat}, w.heap[b]? = some (.cells c e f) → e ≠ 118 → e ≠ 108 → w'.heap[b]? = w.heap[b]? := by
    intro b c e f hbl h1 h2
    refine hm.block b (Array.getElem?_eq_some_iff.1 hbl).1 ?_
    rintro (rfl | hg)
    · exact ne_of_type hbl hK.block h1 rfl
    · obtain ⟨_, cur, hc⟩ := ownsRow_type hK.row hg
      exact ne_of_type hbl hc h2 rfl
  have hother : ∀ j (hj : j < ns.length), j ≠ k → NodeAt w' ns[j] := by
    intro j hj hjk
    have hJ := h.nodes _ (List.getElem_mem hj)
    have ha := h.apartAt hj hk hjk
    refine hJ.keep (hm.block _ hJ.lt ?_) (fun g hg => hm.block g (ownsRow_type hJ.row hg).1 ?_)
    · rintro (e | hg)
      · exact ha.1 e
      · obtain ⟨_, cur, hc⟩ := ownsRow_type hK.row hg
        exact ne_of_type hJ.block hc (by decide) rfl
    · rintro (e | hg')
      · obtain ⟨_, cur, hc⟩ := ownsRow_type hJ.row hg
        exact ne_of_type hc hK.block (by decide) e
      · exact ha.2 g hg hg'
  have hmap : (ns.set k n').map ptr = ns.map ptr := by
    rw [List.map_set]
    have : ptr n' = (ns.map ptr)[k]'(by simpa using hk) := by simp [ptr, hb]
    rw [this, List.set_getElem_self]
  refine ⟨?_, ?_, ?_, ?_, .inl h.inF, fun g hg => .inl (h.inA g hg), ?_⟩
  · rw [hnot h.block (by decide) (by decide)]; exact h.block
  · rw [hmap, List.length_set]
    refine ownsRow_same h.row fun g hg => ?_
    obtain ⟨_, cur, hc⟩ := ownsRow_type h.row hg
    exact hnot hc (by decide) (by decide)
  · intro n hn
    obtain ⟨j, hj, rfl⟩ := List.getElem_of_mem hn
    rw [List.length_set] at hj
    rw [List.getElem_set]
    split
    · exact hn'
    · exact hother j hj (by omega)
  · rw [List.pairwise_iff_getElem]
    intro i j hi hj hij
    rw [List.length_set] at hi hj
    rw [List.getElem_set, List.getElem_set]
    have key : ∀ j (hj : j < ns.length), j ≠ k → Go.Proofs.YtbljamcdaoofbaaGreatDoor.apart n' ns[j] := by
      intro j hj hjk
      have ha := h.apartAt hk hj (fun e => hjk e.symm)
      refine ⟨by rw [hb]; exact ha.1, fun g hg hgj => ?_⟩
      rcases hv g hg with h1 | h1
      · exact ha.2 g h1 hgj
      · have := (ownsRow_type (h.nodes _ (List.getElem_mem hj)).row hgj).1
        omega
    split
    · split
      · omega
      · exact key j hj (by omega)
    · split
      · exact (key i hi (by omega)).symm
      · exact h.apartAt hi hj (by omega)
  · intro n hn
    obtain ⟨j, hj, rfl⟩ := List.getElem_of_mem hn
    rw [List.length_set] at hj
    rw [List.getElem_set]
    split
    · have := h.inN _ (List.getElem_mem hk)
      refine ⟨.inl (hb ▸ this.1), fun g hg => ?_⟩
      rcases hv g hg with h1 | h1
      · exact .inl (this.2 g h1)
      · exact .inr h1
    · have := h.inN _ (List.getElem_mem hj)
      exact ⟨.inl this.1, fun g hg => .inl (this.2 g hg)⟩

theorem block1_set0 {w : World} {p : Nat} {v0 : Value} {t : TypeId} (h : w.heap[p]? = some (.cells #[v0] t (0, 0))) (u : Value) :
    (w.setCell ⟨p, 0, none⟩ u).heap[p]? = some (.cells #[u] t (0, 0)) := by
  simp [World.setCell, Array.getElem?_modify, h]

theorem StoreAt.ins {w w' : World} {F : Nat → Prop} {p k : Nat} {ns : List Node} {va va' : Value} {m : Node} (h : StoreAt w F p ns va) (hm : NodeAt w' m) (hmb : w.heap.size ≤ m.blk) (hmv : m.vl.ownBlock = none)
    (hrow : w'.ownsRow 0 79 1 va' (ns.length + 1) ((ns.map ptr).take k ++ [ptr m] ++ (ns.map ptr).drop k)) (hva : ∀ g, va'.ownBlock = some g → va.ownBlock = some g ∨ w.heap.size ≤ g)
    (hmo : Moved (fun b => va.ownBlock = some b) w w') :
    StoreAt (w'.setCell ⟨p, 0, none⟩ va') (Plus F w) p (ns.take k ++ [m] ++ ns.drop k) va' ∧ w'.cell? ⟨p, 0, none⟩ = some va ∧ w'.frozen? ⟨p, 0, none⟩ = false ∧ Moved F w (w'.setCell ⟨p, 0, none⟩ va') := by
  have hnot : ∀ {b : Nat} {c : Array Value} {e : TypeId} {f : Nat × Nat}, w.heap[b]? = some (.cells c e f) → e ≠ 79 → w'.heap[b]? = w.heap[b]? := by
    intro b c e f hbl h1
    refine hmo.block b (Array.getElem?_eq_some_iff.1 hbl).1 ?_
    intro hg
    obtain ⟨_, cur, hc⟩ := ownsRow_type h.row hg
    exact ne_of_type hbl hc h1 rfl
  have hp2 : w'.heap[p]? = some (.cells #[va] 78 (0, 0)) := by rw [hnot h.block (by decide)]; exact h.block
  obtain ⟨c0, hf⟩ := cell_of_block1 hp2
  have hset : ∀ {b : Nat} {c : Array Value} {e : TypeId} {f : Nat × Nat}, w'.heap[b]? = some (.cells c e f) → e ≠ 78 → (w'.setCell ⟨p, 0, none⟩ va').heap[b]? = w'.heap[b]? := by
    intro b c e f hbl h1
    exact Go.RowKit.Below.heap_setCell _ _ _ _ (ne_of_type hbl hp2 h1)
  have hold : ∀ n ∈ ns, NodeAt (w'.setCell ⟨p, 0, none⟩ va') n := by
    intro n hn
    have hN := h.nodes n hn
    have h1 : NodeAt w' n := hN.keep (hnot hN.block (by decide)) (fun g hg => by
      obtain ⟨_, cur, hc⟩ := ownsRow_type hN.row hg
      exact hnot hc (by decide))
    exact h1.keep (hset h1.block (by decide)) (fun g hg => by
      obtain ⟨_, cur, hc⟩ := ownsRow_type h1.row hg
      exact hset hc (by decide))
  have hnew : NodeAt (w'.setCell ⟨p, 0, none⟩ va') m := hm.keep (hset hm.block (by decide)) (fun g hg => by rw [hmv] at hg; cases hg)
  have hmem : ∀ n, n ∈ ns.take k ++ [m] ++ ns.drop k → n ∈ ns ∨ n = m := by
    intro n hn
    simp only [List.mem_append, List.mem_singleton] at hn
    rcases hn with (hn | hn) | hn
    · exact .inl (List.mem_of_mem_take hn)
    · exact .inr hn
    · exact .inl (List.mem_of_mem_drop hn)
  have hap : ∀ n ∈ ns, Go.Proofs.YtbljamcdaoofbaaGreatDoor.apart n m := by
    intro n hn
    refine ⟨fun e => ?_, fun g _ hg => by rw [hmv] at hg; cases hg⟩
    have := (h.nodes n hn).lt
    omega
  refine ⟨⟨block1_set0 hp2 va', ?_, ?_, ?_, .inl h.inF, ?_, ?_⟩, c0, hf 0, ?_⟩
  · have hl : (ns.take k ++ [m] ++ ns.drop k).length = ns.length + 1 := by simp; omega
    rw [hl, List.map_append, List.map_append, List.map_take, List.map_drop]
    refine ownsRow_same hrow fun g hg => ?_
    obtain ⟨_, cur, hc⟩ := ownsRow_type hrow hg
    exact hset hc (by decide)
  · intro n hn
    rcases hmem n hn with hn | rfl
    · exact hold n hn
    · exact hnew
  · have hpw := h.apart
    rw [← List.take_append_drop k ns, List.pairwise_append] at hpw
    rw [List.append_assoc, List.pairwise_append]
    refine ⟨hpw.1, ?_, ?_⟩
    · rw [List.singleton_append, List.pairwise_cons]
      exact ⟨fun n hn => (hap n (List.mem_of_mem_drop hn)).symm, hpw.2.1⟩
    · intro a ha b hb
      rw [List.singleton_append, List.mem_cons] at hb
      rcases hb with rfl | hb
      · exact hap a (List.mem_of_mem_take ha)
      · exact hpw.2.2 a ha b hb
  · intro g hg
    rcases hva g hg with h1 | h1
    · exact .inl (h.inA g h1)
    · exact .inr h1
  · intro n hn
    rcases hmem n hn with hn | rfl
    · have := h.inN n hn
      exact ⟨.inl this.1, fun g hg => .inl (this.2 g hg)⟩
    · exact ⟨.inr hmb, fun g hg => by rw [hmv] at hg; cases hg⟩
  · exact (hmo.mono (fun i _ hi => h.inA i hi)).setCell (.inl h.inF) _

end Go.Proofs.YtbljamcdaoofbaaGreatDoor

/- The program's Push, walked. -/
namespace Go.Proofs.YtbljamcdaoofbaaGreatDoor
open Go.RowKit

abbrev PA := List UInt8 × Int × List Ln
def absN (n : Node) : PA := (n.lab, n.latest, n.lines)

def codeP (ns : List Node) (l : List UInt8) (t : Int) (x : List UInt8) : Int := if checkL l t x = 0 then roomC ns l t else checkL l t x

def pushedA (ns : List Node) (l : List UInt8) (t : Int) (x : List UInt8) : List PA :=
  if codeP ns l t x = 0 then
    if ∃ n ∈ ns, n.lab = l then (ns.map absN).set (place ns l) (l, t, ((ns.map absN).getD (place ns l) ([], 0, [])).2.2 ++ [(t, x)])
    else (ns.map absN).take (place ns l) ++ [(l, t, [(t, x)])] ++ (ns.map absN).drop (place ns l)
  else ns.map absN

theorem map_ptr_one (ns : List Node) : ∀ u ∈ ns.map ptr, u.oneCell' = true := by
  intro u hu
  obtain ⟨n, -, rfl⟩ := List.mem_map.1 hu
  rfl

/-- what New and the variadic list lay -/
theorem StoreAt.afterNew {w w1 : World} {F : Nat → Prop} {p : Nat} {ns : List Node} {va : Value} (h : StoreAt w F p ns va) (hb : Below w.heap.size w w1) (o o2 : Obj) :
    StoreAt (w1.alloc o) F p ns va ∧ StoreAt ((w1.alloc o).alloc o2) F p ns va := by
  have hs := hb.size
  have h1 : StoreAt (w1.alloc o) F p ns va := h.keep fun b hlt _ => by
    rw [Go.RowKit.Below.heap_alloc w1 o b (by omega), hb.block b hlt]
  refine ⟨h1, h1.keep fun b hlt _ => ?_⟩
  exact Go.RowKit.Below.heap_alloc _ _ _ hlt

theorem two_new (w : World) (o o2 : Obj) : ((w.alloc o).alloc o2).heap[w.heap.size + 1]? = some o2 := by
  have h := heap_alloc_new (w.alloc o) o2
  simpa using h

theorem own_ne {w w4 : World} {F : Nat → Prop} {p : Nat} {ns : List Node} {va : Value} (h : StoreAt w F p ns va) (hs : w.heap.size ≤ w4.heap.size) : ∀ g, va.ownBlock = some g → w4.heap.size + 1 ≠ g := by
  intro g hg
  have := (ownsRow_type h.row hg).1
  omega

theorem ins_at (ns : List Node) (k : Nat) (hk : k ≤ ns.length) (m : Node) (h : k < (ns.take k ++ [m] ++ ns.drop k).length) : (ns.take k ++ [m] ++ ns.drop k)[k] = m := by
  have hl : (ns.take k).length = k := by simp; omega
  rw [List.getElem_append_left (by simp; omega), List.getElem_append_right (by omega)]
  simp

theorem ins_set (ns : List Node) (k : Nat) (hk : k ≤ ns.length) (m m' : Node) : (ns.take k ++ [m] ++ ns.drop k).set k m' = ns.take k ++ [m'] ++ ns.drop k := by
  have hl : (ns.take k).length = k := by simp; omega
  rw [List.append_assoc, List.set_append_right _ _ (by omega), hl, Nat.sub_self]
  simp

theorem StoreAt.inserted {w w4 w5 : World} {F : Nat → Prop} {p k : Nat} {ns : List Node} {va v5 : Value} {l : List UInt8} (h : StoreAt w F p ns va) (hb : Below w.heap.size w w4)
    (hrow : w5.ownsRow 0 79 1 v5 (ns.length + 1) ((ns.map ptr).take k ++ [.pointer (some ⟨w4.heap.size, 0, none⟩)] ++ (ns.map ptr).drop k))
    (hgr : ((w4.alloc (.cells #[SV l, .int .i64 0, .slice none 0 0] 118)).alloc (.cells #[.pointer (some ⟨w4.heap.size, 0, none⟩)] 79)).grownBy w5 va.ownBlock)
    (hv : ∀ g, v5.ownBlock = some g → va.ownBlock = some g ∨ ((w4.alloc (.cells #[SV l, .int .i64 0, .slice none 0 0] 118)).alloc (.cells #[.pointer (some ⟨w4.heap.size, 0, none⟩)] 79)).heap.size ≤ g) :
    StoreAt (w5.setCell ⟨p, 0, none⟩ v5) (Plus F w) p (ns.take k ++ [(⟨w4.heap.size, l, 0, [], .slice none 0 0⟩ : Node)] ++ ns.drop k) v5 ∧ w5.cell? ⟨p, 0, none⟩ = some va ∧ w5.frozen? ⟨p, 0, none⟩ = false ∧ Moved F w (w5.setCell ⟨p, 0, none⟩ v5) := by
  have hs := hb.size
  refine h.ins (m := (⟨w4.heap.size, l, 0, [], .slice none 0 0⟩ : Node)) ⟨?_, World.ownsRow_nil _ _ _ _⟩ hs rfl hrow ?_ ?_
  · show w5.heap[w4.heap.size]? = _
    rw [hgr.block w4.heap.size (by simp; omega) (fun e => ?_), Go.RowKit.Below.heap_alloc _ _ _ (by simp)]
    · exact heap_alloc_new w4 _
    · have := (ownsRow_type h.row e.symm).1
      omega
  · intro g hg
    rcases hv g hg with h1 | h1
    · exact .inl h1
    · right
      simp at h1
      omega
  · exact (((Moved.of_below hb).alloc _).alloc _).grown hgr (fun b hbk => .inl hbk)

set_option maxRecDepth 10000 in
set_option maxHeartbeats 4000000 in
theorem push_any {w : World} {F : Nat → Prop} {p : Nat} {ns : List Node} {va : Value} (l x : List UInt8) (t : Int) (h : StoreAt w F p ns va) (hn : ns.length ≤ 6) (hs : Rising ns) (ht : total ns ≤ 300) (hl : l.length ≤ 1048576) (hx : x.length ≤ 1048576) :
    Calls Tryz.prog 23 #[.pointer (some ⟨p, 0, none⟩), .string ⟨l.toArray⟩, .int .i64 t, .string ⟨x.toArray⟩] w fun e w' =>
      e = .returned (.int .i64 (codeP ns l t x)) ∧ (∃ ns' va', StoreAt w' (Plus F w) p ns' va' ∧ ns'.map absN = pushedA ns l t x) ∧ Moved F w w' := by
  have HCP := hide (show codeP ns l t x = if checkL l t x = 0 then roomC ns l t else checkL l t x from rfl)
  have HPA := hide (show pushedA ns l t x = if codeP ns l t x = 0 then
    if ∃ n ∈ ns, n.lab = l then (ns.map absN).set (place ns l) (l, t, ((ns.map absN).getD (place ns l) ([], 0, [])).2.2 ++ [(t, x)])
    else (ns.map absN).take (place ns l) ++ [(l, t, [(t, x)])] ++ (ns.map absN).drop (place ns l)
    else ns.map absN from rfl)
  generalize codeP ns l t x = code at *
  generalize pushedA ns l t x = pa at *
  go_enter Tryz.func23, Tryz.ntmps23
  go_wp2_with fail
  refine (checkLine_any l x t _ hl hx).mono ?_
  rintro e w1 ⟨rfl, n1, rfl⟩
  have h1 : StoreAt (w.drewN n1) F p ns va := h.keep fun b _ _ => rfl
  have hm1 : Moved F w (w.drewN n1) := (Moved.refl F w).drawn n1
  have hsz1 : (w.drewN n1).heap.size = w.heap.size := rfl
  generalize w.drewN n1 = W at *
  generalize checkL l t x = c at *
  by_cases hc : c = 0
  · subst hc
    rw [show (if (0 : Int) = 0 then roomC ns l t else 0) = roomC ns l t from if_pos rfl] at HCP
    go_wp2_with fail
    refine (find_any l h1 hn hs).mono ?_
    rintro e w2 ⟨rfl, rfl⟩
    go_wp2_with fail
    refine (checkRoom_any l t h1 hn hs ht).mono ?_
    rintro e w3 ⟨rfl, rfl⟩
    generalize roomC ns l t = r at *
    by_cases hr : r = 0
    · subst hr
      rw [unhide HCP] at HPA
      rw [if_pos rfl] at HPA
      have htk := fun (n : Node) (hm : n ∈ ns) => Nat.le_trans (total_le ns n hm) ht
      obtain ⟨c0, fz⟩ := cell_of_block1 h1.block
      by_cases hex : ∃ n ∈ ns, n.lab = l
      · obtain ⟨hp, hlab⟩ := at_place hs hex
        rw [decide_eq_true hex]
        rw [if_pos hex] at HPA
        obtain ⟨g, cap, rfl, -, hgw, hnc, hcm, hcell, hfz⟩ := owns_open h1.row (by omega)
        have hc := hcell (place ns l) (by omega)
        rw [ptr_at hp] at hc
        have HND := hide (h1.nodes _ (List.getElem_mem hp))
        have hlen := htk _ (List.getElem_mem hp)
        clear hex hcell hfz hs htk fz
        generalize place ns l = k at *
        have HH := hide h1
        clear h1
        go_wp2_with (go_at_call 50; refine (sAdd_any t x (unhide HND) hx hlen).mono ?_; rintro e w4 ⟨rfl, v4, hN4, hv4, hm4⟩)
        go_ret
        have hst := (unhide HH).set hp hN4 rfl hv4 hm4
        refine ⟨ret_int (unhide HCP).symm, ⟨_, _, hst.weaken (fun b hb => by rcases hb with hb | hb; exact .inl hb; exact .inr (by omega)), ?_⟩, hm1.trans (hm4.mono (F1 := F) ?_) (fun _ hf => .inl hf)⟩
        · rw [unhide HPA, List.map_set]
          simp [absN, hlab, hp]
        · intro b _ hb
          have hin := (unhide HH).inN _ (List.getElem_mem hp)
          rcases hb with rfl | hb
          · exact hin.1
          · exact hin.2 b hb
      · rw [decide_eq_false hex]
        rw [if_neg hex] at HPA
        have hple := place_le ns l
        clear hex hs
        generalize place ns l = k at *
        obtain ⟨ao, cap, rfl, -, -, -, -, -, -⟩ := owns_form h1.row
        have HH := hide h1
        have hplt := h1.lt
        clear h1 fz htk
        go_upto_region 9 with fail
        go_region_law (first
          | (go_simp; go_at_call 49; refine (sNew_any l _ hl).mono ?_; rintro e w5 ⟨w4, hb4, rfl, rfl⟩; have hb : Below w3.heap.size w3 w4 := ⟨hb4.os, hb4.tape, hb4.output, hb4.size, hb4.block⟩; have HST := hide (fun o o2 => (unhide HH).afterNew hb o o2); have g1 : ∀ o, (w4.alloc o).cell? ⟨p, 0, none⟩ = some (.slice ao ns.length cap) := fun o => (cell_of_block1 (unhide HST o o).1.block).1; have g2 : ∀ o o2, ((w4.alloc o).alloc o2).cell? ⟨p, 0, none⟩ = some (.slice ao ns.length cap) := fun o o2 => (cell_of_block1 (unhide HST o o2).2.block).1; have hsz4 := hb.size; clear hb4; dsimp only)
          | (go_simp; go_at_call 48; refine (insert_any (y := .pointer (some ⟨w4.heap.size, 0, none⟩)) (gv := w4.heap.size + 1) (unhide HST _ _).2.row (two_new w4 _ _) (own_ne (unhide HH) hsz4) rfl (map_ptr_one ns) hn hple).mono ?_; rintro e w5 ⟨v5, rfl, hrow5, hgr5, hv5⟩; obtain ⟨g5, cap5, rfl, -, -, -, -, -, -⟩ := owns_open hrow5 (by omega); obtain ⟨hU, hu1, hu2, hu3⟩ := (unhide HH).inserted hb hrow5 hgr5 hv5; clear hgr5 hv5 hrow5; dsimp only))
        all_goals
          generalize w5.setCell ⟨p, 0, none⟩ (.slice (some ⟨g5, 0, none⟩) (ns.length + 1) cap5) = U at *
          obtain ⟨cU, fU⟩ := cell_of_block1 hU.block
          have hkl : k < (ns.take k ++ [(⟨w4.heap.size, l, 0, [], .slice none 0 0⟩ : Node)] ++ ns.drop k).length := by simp; omega
          have hke := ins_at ns k hple (⟨w4.heap.size, l, 0, [], .slice none 0 0⟩ : Node) hkl
          have hNU := hU.nodes _ (List.getElem_mem hkl)
          rw [hke] at hNU
          have hcU : U.cell? ⟨g5, k, none⟩ = some (.pointer (some ⟨w4.heap.size, 0, none⟩)) := by
            have hll : (ns.take k ++ [(⟨w4.heap.size, l, 0, [], .slice none 0 0⟩ : Node)] ++ ns.drop k).length = ns.length + 1 := by simp; omega
            have hrw := hU.row
            rw [hll] at hrw
            rw [hrw.cellAt k (by omega), ptr_at hkl, hke]
          have HNU := hide hNU
          have HUU := hide hU
          have HKE := hide hke
          clear hNU hU hke g1 g2 HST
          go_wp2_with (go_at_call 50; refine (sAdd_any t x (unhide HNU) hx (by simp)).mono ?_; rintro e w6 ⟨rfl, v6, hN6, hv6, hm6⟩)
          go_ret
          have hst := (unhide HUU).set hkl hN6 (by rw [unhide HKE]) (by rw [unhide HKE]; exact hv6) (by rw [unhide HKE]; exact hm6)
          refine ⟨ret_int (unhide HCP).symm, ⟨_, _, hst.weaken ?_, ?_⟩, (hm1.trans hu3 (fun _ hf => .inl hf)).trans hm6 ?_⟩
          · have := hu3.size
            rintro b ((hb | hb) | hb)
            · exact .inl hb
            · exact .inr (by omega)
            · exact .inr (by omega)
          · rw [unhide HPA, ins_set ns k hple]
            simp [absN]
          · intro b hb
            right
            rcases hb with rfl | hb
            · show w.heap.size ≤ w4.heap.size
              omega
            · cases hb
    · have hrb : (r == 0) = false := by simpa using hr
      have HR0 := hide hr
      clear hr
      go_wp2
      go_ret
      refine ⟨ret_int (unhide HCP).symm, ⟨ns, va, h1.weaken (fun b hb => .inl hb), ?_⟩, hm1⟩
      rw [unhide HPA, unhide HCP, if_neg (unhide HR0)]
  · have hcb : (c == 0) = false := by simpa using hc
    have HC0 := hide hc
    clear hc
    go_wp2
    go_ret
    have hcode : code = c := by rw [unhide HCP, if_neg (unhide HC0)]
    refine ⟨ret_int hcode.symm, ⟨ns, va, h1.weaken (fun b hb => .inl hb), ?_⟩, hm1⟩
    rw [unhide HPA, hcode, if_neg (unhide HC0)]

end Go.Proofs.YtbljamcdaoofbaaGreatDoor
