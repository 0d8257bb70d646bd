/- slices.Delete of the first lines. -/
import Derived.Test.YtbljamcdaoofbaaGreatDoorPStreams
namespace Go.Proofs.YtbljamcdaoofbaaGreatDoor
open Go.RowKit

theorem step_append_spl {P : Program} {ops : Array Oper} {o : Oper} {a : Act} {w : World} {K : Act → World → Prop} {Q : Exit → Act → World → Prop} {E : Prop}
    (hgd : o.guard = none) (s x : Operand) (t : TypeId) (ho : o.op = .call { callee := .builtin .append, args := #[s, x], argTypes := #[t, t] })
    (e : TypeId) (i : TypeInfo) (size : Nat) (ht : P.underlying t = some (.slice e)) (hi : P.info? e = some i) (hsize : i.size = size)
    (g sCap : Nat) (hs : a.eval s = .slice (some ⟨g, 0, none⟩) 0 sCap) (cur : Array Value) (hg : w.heap[g]? = some (.cells cur e (0, 0)))
    (ad : Addr) (m c : Nat) (news : List Value) (hx : a.eval x = .slice (some ad) m c) (hl : news.length = m * size) (hnews : ∀ j u, news[j]? = some u → w.cell? (ad.add j) = some u) (h1 : ∀ u ∈ news, u.oneCell' = true)
    (hroom : m ≤ sCap) (hfit : news.length ≤ cur.size)
    (h : ∀ w', w'.heap[g]? = some (.cells (spl cur 0 news) e (0, 0)) → w.grownBy w' (some g) → K (a.put o.dst (.slice (some ⟨g, 0, none⟩) m sCap)) w') :
    if Region.wanted o (yielded ops a.tmps) = true then Oper.wp P o a w K Q else E := by
  have hw : Region.wanted o (yielded ops a.tmps) = true := by simp [Region.wanted, hgd]
  rw [if_pos hw]
  subst hsize
  have hr := run_append_room (P := P) w t o.type e i ht hi g 0 sCap cur hg ad m c news hl hnews h1 (by omega) (by omega)
  rw [Nat.zero_add, Nat.zero_mul] at hr
  unfold Oper.wp execOp
  simp only [ho, resolve, invoke, builtin, Sem.run_bind, Sem.run_pure, Result.andThen_ok, List.map_toArray, List.map_cons, List.map_nil, hs, hx, hr]
  refine h _ ?_ ?_
  · exact setRow_heap w g cur _ e _ hg
  · exact ⟨rfl, rfl, rfl, by simp [World.setRow], fun k _ hk => setRow_other w g k _ (fun e => hk (by rw [e]))⟩

/-- clear of a part of a row -/
theorem wpList_clear_here {P : Program} (w : World) {ops : Array Oper} {rest : List Oper} {o : Oper} {a : Act} {Q : Exit → Act → World → Prop} (hgd : o.guard = none) (x : Operand) (t : TypeId)
    (ho : o.op = .call { callee := .builtin .clear, args := #[x], argTypes := #[t] }) (e : TypeId) (i : TypeInfo) (z : Value) (size : Nat) (ht : P.underlying t = some (.slice e)) (hi : P.info? e = some i) (hz : i.zero = some z) (hzs : z.cells.size = size) (hz0 : 0 < size) (hz1 : ∀ j, j < size → (z.cells[j]!).oneCell' = true)
    (g off n c : Nat) (hx : a.eval x = .slice (some ⟨g, off, none⟩) n c) (h0 : 0 < n) (cur : Array Value) (hg : w.heap[g]? = some (.cells cur e (0, 0))) (hfit : off + n * size ≤ cur.size)
    (h : ∀ w' zs, zs.length = n * size → w'.heap[g]? = some (.cells (spl cur off zs) e (0, 0)) → w.grownBy w' (some g) → wpList P ops Q rest (a.put o.dst (.tuple #[])) w') : wpList P ops Q (o :: rest) a w := by
  refine wpList_plain hgd fun K hK => ?_
  have hlen : (Builtin.zeroCells z.cells n).toList.length = n * size := by rw [Array.length_toList, size_zeroCells, hzs]
  have hone : ∀ u ∈ (Builtin.zeroCells z.cells n).toList, u.oneCell' = true := by
    intro u hu
    simp only [Builtin.zeroCells, Array.mem_toList_iff, Array.mem_map] at hu
    obtain ⟨j, _, rfl⟩ := hu
    exact hz1 _ (by rw [hzs]; exact Nat.mod_lt _ hz0)
  have hst := run_storeCells_at P g off e (Builtin.zeroCells z.cells n).toList 0 cur w hg (by rw [hlen]; simpa using hfit) hone
  simp only [Nat.add_zero] at hst
  have hr : (Builtin.clear_ #[t] o.type #[.slice (some ⟨g, off, none⟩) n c]).run P w = .ok (.tuple #[]) (w.setRow g (spl cur off (Builtin.zeroCells z.cells n).toList)) := by
    obtain ⟨m, rfl⟩ : ∃ m, n = m + 1 := ⟨n - 1, by omega⟩
    simp [Builtin.clear_, run_underlying ht, zeroValue, typeInfo, hi, hz, hst, spl]
  unfold Oper.wp execOp
  simp only [ho, resolve, invoke, builtin, Sem.run_bind, Sem.run_pure, Result.andThen_ok, List.map_toArray, List.map_cons, List.map_nil, hx, hr]
  refine hK _ _ (h _ _ hlen ?_ ?_)
  · exact setRow_heap w g cur _ e _ hg
  · exact ⟨rfl, rfl, rfl, by simp [World.setRow], fun k _ hk => setRow_other w g k _ (fun e => hk (by rw [e]))⟩

theorem cellsN_len (ls : List Ln) : (ls.flatMap cellsN).length = ls.length * 2 := by
  induction ls with
  | nil => rfl
  | cons x ls ih => rw [List.flatMap_cons, List.length_append, ih]; simp [cellsN]; omega

theorem cellsN_drop (ls : List Ln) (k : Nat) : (ls.flatMap cellsN).drop (k * 2) = (ls.drop k).flatMap cellsN := by
  induction ls generalizing k with
  | nil => simp
  | cons x ls ih =>
    cases k with
    | zero => simp
    | succ k =>
      rw [List.flatMap_cons, List.drop_succ_cons, ← ih k, Nat.add_mul, Nat.one_mul]
      simp [cellsN]

theorem cellsN_one (ls : List Ln) : ∀ u ∈ ls.flatMap cellsN, u.oneCell' = true := by
  intro u hu
  obtain ⟨x, -, hx⟩ := List.mem_flatMap.1 hu
  simp [cellsN] at hx
  rcases hx with rfl | rfl <;> rfl

theorem cellsN_at (ls : List Ln) (k : Nat) (h : k < ls.length) : (ls.flatMap cellsN)[k * 2]? = some (.int .i64 ls[k].1) ∧ (ls.flatMap cellsN)[k * 2 + 1]? = some (SV ls[k].2) := by
  induction ls generalizing k with
  | nil => simp at h
  | cons x S ih =>
    rw [List.flatMap_cons]
    cases k with
    | zero => simp [cellsN]
    | succ k =>
      have := ih k (by simpa using h)
      simp only [cellsN, List.cons_append, List.nil_append, Nat.add_mul, Nat.one_mul, List.getElem?_cons_succ, List.getElem_cons_succ] at this ⊢
      exact this

theorem spl_head {cur : Array Value} {news zs : List Value} : (spl (spl cur 0 news) news.length zs).toList.take news.length = news := by
  have e : (spl cur 0 news).toList = news ++ cur.toList.drop news.length := by simp [spl]
  have e2 : (spl (spl cur 0 news) news.length zs).toList = news ++ (zs ++ (spl cur 0 news).toList.drop (news.length + zs.length)) := by
    simp only [spl, List.toList_toArray] at e ⊢
    rw [e, List.take_left, List.append_assoc]
  rw [e2]
  exact List.take_left

set_option maxRecDepth 10000 in
set_option maxHeartbeats 4000000 in
theorem delete_any {w : World} {vl : Value} {ls : List Ln} {k : Nat} (h : w.ownsRow 0 108 2 vl ls.length (ls.flatMap cellsN)) (hk : k ≤ ls.length) (hn : ls.length ≤ 300) :
    Calls Tryz.prog 72 #[vl, .int .i64 0, .int .i64 k] w fun e w' =>
      ∃ v', e = .returned v' ∧ w'.ownsRow 0 108 2 v' (ls.drop k).length ((ls.drop k).flatMap cellsN) ∧ w.grownBy w' vl.ownBlock ∧ v'.ownBlock = vl.ownBlock := by
  obtain ⟨i0, hi0, hz0, hs0, hb0⟩ := info_parts Tryz.info108
  obtain ⟨ao, cap, rfl, hnc, hcm, hnil, hao, hcell, hfz⟩ := owns_form h
  unfold maxLen at hcm
  have HN := hide hnil
  clear hcell hao hnil hfz
  by_cases hk0 : k = 0
  · subst hk0
    have H := hide h
    clear h
    cases ao with
    | none =>
      obtain ⟨hl0, rfl⟩ := unhide HN rfl
      have hl1 : ls = [] := List.eq_nil_of_length_eq_zero hl0
      subst hl1
      clear hl0
      go_enter Tryz.func72, Tryz.ntmps72
      go_wp2
      go_ret
      refine ⟨_, rfl, ?_, ⟨rfl, rfl, rfl, Nat.le_refl _, fun _ _ _ => rfl⟩, rfl⟩
      exact unhide H
    | some ad =>
      go_enter Tryz.func72, Tryz.ntmps72
      go_wp2
      all_goals
        go_ret
        refine ⟨_, rfl, ?_, ⟨rfl, rfl, rfl, Nat.le_refl _, fun _ _ _ => rfl⟩, rfl⟩
        simpa using unhide H
  · have hpos : 0 < ls.length := by omega
    obtain ⟨g, cap', hv, cur, hg, hcs, htk⟩ : ∃ g cap', Value.slice ao ls.length cap = .slice (some ⟨g, 0, none⟩) ls.length cap' ∧ ∃ cur : Array Value, w.heap[g]? = some (.cells cur 108 (0, 0)) ∧ cur.size = cap' * 2 ∧ cur.toList.take (ls.length * 2) = ls.flatMap cellsN := by
      rcases h.2 with ⟨_, h'⟩ | ⟨g', cap', cur, h', _, hg, _, _, hcs, ht⟩
      · omega
      · exact ⟨g', cap', h', cur, hg, hcs, ht⟩
    simp only [Value.slice.injEq, true_and] at hv
    obtain ⟨rfl, rfl⟩ := hv
    have hkb : ((0 : Int) == (k : Int)) = false := by simp; omega
    have hsrc := row_cells hg (k * 2) ((ls.drop k).flatMap cellsN) (by
      intro j v hj
      rw [← cellsN_drop, List.getElem?_drop] at hj
      have hlt : k * 2 + j < (ls.flatMap cellsN).length := (List.getElem?_eq_some_iff.1 hj).1
      have e : cur.toList[k * 2 + j]? = (ls.flatMap cellsN)[k * 2 + j]? := by
        rw [← htk, List.getElem?_take, if_pos (by rw [cellsN_len] at hlt; omega)]
      rw [← hj, ← e]
      simp)
    have hdl : (ls.drop k).length = ls.length - k := List.length_drop
    have hll : ((ls.drop k).flatMap cellsN).length = (ls.length - k) * 2 := by rw [cellsN_len, hdl]
    have H := hide h
    clear h htk
    by_cases hck : cap = k
    · have hle : k = ls.length := by omega
      subst hck
      subst hle
      have hnil : (ls.drop ls.length).flatMap cellsN = [] := List.eq_nil_of_length_eq_zero (by rw [hll]; omega)
      have hdz : (ls.drop ls.length).length = 0 := by rw [hdl]; omega
      clear hsrc hll hdl
      go_enter Tryz.func72, Tryz.ntmps72
      go_wp2
      go_region_law (refine step_append_spl rfl (.tmp 22) (.tmp 25) 103 rfl 108 i0 2 Tryz.underlying103 hi0 hs0 g ls.length (by simp [Act.eval, Act.put]) cur (by exact hg) ⟨g, 0, none⟩ 0 0 [] (by simp [Act.eval, Act.put]) rfl (by intro j u hu; cases hu) (by intro u hu; cases hu) (by omega) (by simp) ?_; intro w4 hg4 hgr4)
      have hs4 : (spl cur 0 []).size = ls.length * 2 := by rw [size_spl _ _ _ (by simp), hcs]
      have HG4 := hide hgr4
      clear hgr4
      go_wp2_with (refine wpList_clear_here _ rfl (.tmp 31) 103 rfl 108 i0 (.agg #[.int .i64 0, .string ByteArray.empty]) 2 Tryz.underlying103 hi0 hz0 rfl (by decide) (by intro j hj; match j, hj with | 0, _ => rfl | 1, _ => rfl) g 0 ls.length ls.length rfl (by omega) (spl cur 0 []) hg4 (by omega) ?_; intro w5 zs hzl hg5 hgr5)
      go_ret
      rw [hdz, hnil]
      refine ⟨_, rfl, ⟨rfl, .inr ⟨g, ls.length, _, rfl, Nat.zero_le _, hg5, by omega, by unfold maxLen; omega, ?_, by simp⟩⟩, ?_, rfl⟩
      · rw [size_spl _ _ _ (by omega), hs4]
      · have g4 := unhide HG4
        exact ⟨hgr5.os.trans g4.os, hgr5.tape.trans g4.tape, hgr5.output.trans g4.output, Nat.le_trans g4.size hgr5.size, fun j hj hne' => (hgr5.block j (Nat.lt_of_lt_of_le hj g4.size) hne').trans (g4.block j hj hne')⟩
    · go_enter Tryz.func72, Tryz.ntmps72
      go_wp2
      go_region_law (refine step_append_spl rfl (.tmp 22) (.tmp 25) 103 rfl 108 i0 2 Tryz.underlying103 hi0 hs0 g cap (by simp [Act.eval, Act.put]) cur (by exact hg) ⟨g, k * 2, none⟩ (ls.length - k) (cap - k) ((ls.drop k).flatMap cellsN) (by simp [Act.eval, Act.put]) hll (by exact hsrc) (cellsN_one _) (by omega) (by omega) ?_; intro w4 hg4 hgr4)
      have hc0 : ¬ (cap = ls.length - k) := by omega
      have hs4 : (spl cur 0 ((ls.drop k).flatMap cellsN)).size = cap * 2 := by rw [size_spl _ _ _ (by omega), hcs]
      have HG4 := hide hgr4
      clear hgr4
      go_wp2_with (refine wpList_clear_here _ rfl (.tmp 31) 103 rfl 108 i0 (.agg #[.int .i64 0, .string ByteArray.empty]) 2 Tryz.underlying103 hi0 hz0 rfl (by decide) (by intro j hj; match j, hj with | 0, _ => rfl | 1, _ => rfl) g ((ls.length - k) * 2) (ls.length - (ls.length - k)) (cap - (ls.length - k)) rfl (by omega) (spl cur 0 ((ls.drop k).flatMap cellsN)) hg4 (by omega) ?_; intro w5 zs hzl hg5 hgr5)
      go_ret
      refine ⟨_, rfl, ⟨by rw [hll, hdl], .inr ⟨g, cap, _, by rw [hdl]; rfl, Nat.zero_le _, hg5, by omega, by unfold maxLen; omega, ?_, ?_⟩⟩, ?_, rfl⟩
      · rw [size_spl _ _ _ (by omega), hs4]
      · rw [hdl, ← hll]
        exact spl_head
      · have g4 := unhide HG4
        exact ⟨hgr5.os.trans g4.os, hgr5.tape.trans g4.tape, hgr5.output.trans g4.output, Nat.le_trans g4.size hgr5.size, fun j hj hne' => (hgr5.block j (Nat.lt_of_lt_of_le hj g4.size) hne').trans (g4.block j hj hne')⟩

end Go.Proofs.YtbljamcdaoofbaaGreatDoor
