/- Texts PStreams, PDelete, PDrop, PDropAll, Rel, joined. -/
import Derived.Test.YtbljamcdaoofbaaGreatDoorPInsertToPPush2
/- The program's Streams. -/
namespace Go.Proofs.YtbljamcdaoofbaaGreatDoor
open Go.RowKit

theorem map_lab_snoc (ns : List Node) (k : Nat) (h : k < ns.length) : (ns.take (k + 1)).map (fun n => n.lab) = (ns.take k).map (fun n => n.lab) ++ [ns[k].lab] := by
  rw [List.take_succ_eq_append_getElem h, List.map_append]
  rfl

set_option maxRecDepth 10000 in
set_option maxHeartbeats 2000000 in
theorem streams_any {w : World} {F : Nat → Prop} {p : Nat} {ns : List Node} {va : Value} (h : StoreAt w F p ns va) (hn : ns.length ≤ 6) :
    Calls Tryz.prog 16 #[.pointer (some ⟨p, 0, none⟩)] w fun e w' => ∃ v, e = .returned v ∧ w'.ownsRow w.heap.size 9 1 v ns.length ((ns.map (fun n => n.lab)).map SV) ∧ Below w.heap.size w w' := by
  obtain ⟨i0, hi0, hz0, hs0, hb0⟩ := info_parts Tryz.info9
  obtain ⟨ao, cap, rfl, hnc, hcm, hnil, hao, hcell, hfz⟩ := owns_form h.row
  obtain ⟨c0, fz⟩ := cell_of_block1 h.block
  have hplt := h.lt
  have HN := hide hnil
  have HA := hide hao
  have HC := hide hcell
  have HH := hide h
  clear hnil hao hcell hfz h fz
  go_enter Tryz.func16, Tryz.ntmps16
  go_upto_region 2 with (at_make; refine wpList_make_own _ rfl (.const (.int .i64 0)) (.tmp 10) 33 rfl w.heap.size 9 i0 (.string ByteArray.empty) 1 Tryz.underlying33 hi0 hz0 hs0 .i64 .i64 _ ns.length rfl rfl rfl (by rw [hb0]; omega) (by unfold maxLen; omega) (Nat.le_refl _) ?_; intro w1 hown1 hgr1)
  have hb1 : Below w.heap.size w w1 := (Below.refl _ w).grown hgr1 (Nat.le_refl _) (fun k hk => by cases hk)
  have c1 : w1.cell? ⟨p, 0, none⟩ = some (.slice ao ns.length cap) := (hb1.cell (by exact hplt)).trans c0
  clear hgr1
  go_wp2
  go_loopw [3, 17] (fun v i wr => ∃ k : Nat, k ≤ ns.length ∧ i = .int .i64 k ∧ wr.ownsRow w.heap.size 9 1 v k (((ns.take k).map (fun n => n.lab)).map SV) ∧ Below w.heap.size w wr) (fun _ i _ => ns.length - (intOf i).toNat)
  case atStart => exact ⟨0, by omega, rfl, by simpa using hown1, hb1⟩
  case round =>
    obtain ⟨k, hk, rfl, hown, hbel⟩ := hrel
    have hsz := hbel.size
    by_cases hlt : k < ns.length
    · obtain ⟨⟨g, o, sp⟩, rfl⟩ : ∃ a, ao = some a := by
        cases ao with
        | none => have := (unhide HN rfl).1; omega
        | some a => exact ⟨a, rfl⟩
      obtain ⟨ho, hsp, -, hgw⟩ := unhide HA _ rfl
      simp only at ho hsp hgw
      subst ho hsp
      have hc : wr.cell? ⟨g, k, none⟩ = some (.pointer (some ⟨ns[k].blk, 0, none⟩)) := by
        rw [hbel.cell (by exact hgw), unhide HC _ rfl k (by omega), ptr_at hlt]
      have hN := (unhide HH).nodes _ (List.getElem_mem hlt)
      have HND := hide (hN.keep (w' := wr) (hbel.block _ hN.lt) (fun g hg => hbel.block g (ownsRow_type hN.row hg).1))
      have HS := hide (map_lab_snoc ns k hlt)
      obtain ⟨ar, capr, rfl, -, -, -, -, -, -⟩ := owns_form hown
      clear hN
      go_wp2_with (first
        | (go_at_call 38; refine (sLabels_any (unhide HND)).mono ?_; rintro e w' ⟨rfl, rfl⟩)
        | (at_builtin; refine wpList_append_at _ rfl (.tmp 21) (.tmp 24) 33 rfl w.heap.size 9 i0 (.string ByteArray.empty) 1 16 Tryz.underlying33 hi0 hz0 hs0 hb0 rfl (by decide) _ _ _ rfl (hown.alloc _) (some ⟨_, 0, none⟩) 1 1 [SV ns[k].lab] rfl rfl (by intro e; cases e) (cells_new _ _ _) (by intro u hu; simp at hu; subst hu; rfl) (by unfold maxLen; omega) (by omega) (by simp; omega) ?_; intro v4 w4 hown4 hgrow4 hwh4; have hb4 := (hbel.alloc hsz (.cells #[SV ns[k].lab] 9)).grown hgrow4 (by simp; omega) (fun k hk => (hown.lt k hk).1); clear hgrow4 hwh4))
      go_roundw
      case rel =>
        refine ⟨k + 1, by omega, by go_num, ?_, hb4⟩
        rw [unhide HS, List.map_append]
        exact hown4
      case measure => simp [intOf]; omega
    · go_wp2
      go_ret
      have hkn : k = ns.length := by omega
      subst hkn
      refine ⟨_, rfl, ?_, hbel⟩
      rw [List.take_of_length_le (by omega)] at hown
      exact hown

end Go.Proofs.YtbljamcdaoofbaaGreatDoor

/- slices.Delete of the first lines. -/
namespace Go.Proofs.YtbljamcdaoofbaaGreatDoor
open Go.RowKit

theorem step_append_spl {P : Program} {ops : Array Oper} {o : Oper} {a : Act} {w : World} {K : Act → World → Prop} {Q : Exit → Act → World → Prop} {E : Prop}
    (hgd : o.guard = none) (s x : Operand) (t : TypeId) (ho : o.op = .call { callee := .builtin .append, args := #[s, x], argTypes := #[t, t] })
    (e : TypeId) (i : TypeInfo) (size : Nat) (ht : P.underlying t = some (.slice e)) (hi : P.info? e = some i) (hsize : i.size = size)
    (g sCap : Nat) (hs : a.eval s = .slice (some ⟨g, 0, none⟩) 0 sCap) (cur : Array Value) (hg : w.heap[g]? = some (.cells cur e (0, 0)))
    (ad : Addr) (m c : Nat) (news : List Value) (hx : a.eval x = .slice (some ad) m c) (hl : news.length = m * size) (hnews : ∀ j u, news[j]? = some u → w.cell? (ad.add j) = some u) (h1 : ∀ u ∈ news, u.oneCell' = true)
    (hroom : m ≤ sCap) (hfit : news.length ≤ cur.size)
    (h : ∀ w', w'.heap[g]? = some (.cells (spl cur 0 news) e (0, 0)) → w.grownBy w' (some g) → K (a.put o.dst (.slice (some ⟨g, 0, none⟩) m sCap)) w') :
    if Region.wanted o (yielded ops a.tmps) = true then Oper.wp P o a w K Q else E := by
  have hw : Region.wanted o (yielded ops a.tmps) = true := by simp [Region.wanted, hgd]
  rw [if_pos hw]
  subst hsize
  have hr := run_append_room (P := P) w t o.type e i ht hi g 0 sCap cur hg ad m c news hl hnews h1 (by omega) (by omega)
  rw [Nat.zero_add, Nat.zero_mul] at hr
  unfold Oper.wp execOp
  simp only [ho, resolve, invoke, builtin, Sem.run_bind, Sem.run_pure, Result.andThen_ok, List.map_toArray, List.map_cons, List.map_nil, hs, hx, hr]
  refine h _ ?_ ?_
  · exact setRow_heap w g cur _ e _ hg
  · exact ⟨rfl, rfl, rfl, by simp [World.setRow], fun k _ hk => setRow_other w g k _ (fun e => hk (by rw [e]))⟩

/-- clear of a part of a row -/
theorem wpList_clear_here {P : Program} (w : World) {ops : Array Oper} {rest : List Oper} {o : Oper} {a : Act} {Q : Exit → Act → World → Prop} (hgd : o.guard = none) (x : Operand) (t : TypeId)
    (ho : o.op = .call { callee := .builtin .clear, args := #[x], argTypes := #[t] }) (e : TypeId) (i : TypeInfo) (z : Value) (size : Nat) (ht : P.underlying t = some (.slice e)) (hi : P.info? e = some i) (hz : i.zero = some z) (hzs : z.cells.size = size) (hz0 : 0 < size) (hz1 : ∀ j, j < size → (z.cells[j]!).oneCell' = true)
    (g off n c : Nat) (hx : a.eval x = .slice (some ⟨g, off, none⟩) n c) (h0 : 0 < n) (cur : Array Value) (hg : w.heap[g]? = some (.cells cur e (0, 0))) (hfit : off + n * size ≤ cur.size)
    (h : ∀ w' zs, zs.length = n * size → w'.heap[g]? = some (.cells (spl cur off zs) e (0, 0)) → w.grownBy w' (some g) → wpList P ops Q rest (a.put o.dst (.tuple #[])) w') : wpList P ops Q (o :: rest) a w := by
  refine wpList_plain hgd fun K hK => ?_
  have hlen : (Builtin.zeroCells z.cells n).toList.length = n * size := by rw [Array.length_toList, size_zeroCells, hzs]
  have hone : ∀ u ∈ (Builtin.zeroCells z.cells n).toList, u.oneCell' = true := by
    intro u hu
    simp only [Builtin.zeroCells, Array.mem_toList_iff, Array.mem_map] at hu
    obtain ⟨j, _, rfl⟩ := hu
    exact hz1 _ (by rw [hzs]; exact Nat.mod_lt _ hz0)
  have hst := run_storeCells_at P g off e (Builtin.zeroCells z.cells n).toList 0 cur w hg (by rw [hlen]; simpa using hfit) hone
  simp only [Nat.add_zero] at hst
  have hr : (Builtin.clear_ #[t] o.type #[.slice (some ⟨g, off, none⟩) n c]).run P w = .ok (.tuple #[]) (w.setRow g (spl cur off (Builtin.zeroCells z.cells n).toList)) := by
    obtain ⟨m, rfl⟩ : ∃ m, n = m + 1 := ⟨n - 1, by omega⟩
    simp [Builtin.clear_, run_underlying ht, zeroValue, typeInfo, hi, hz, hst, spl]
  unfold Oper.wp execOp
  simp only [ho, resolve, invoke, builtin, Sem.run_bind, Sem.run_pure, Result.andThen_ok, List.map_toArray, List.map_cons, List.map_nil, hx, hr]
  refine hK _ _ (h _ _ hlen ?_ ?_)
  · exact setRow_heap w g cur _ e _ hg
  · exact ⟨rfl, rfl, rfl, by simp [World.setRow], fun k _ hk => setRow_other w g k _ (fun e => hk (by rw [e]))⟩

theorem cellsN_len (ls : List Ln) : (ls.flatMap cellsN).length = ls.length * 2 := by
  induction ls with
  | nil => rfl
  | cons x ls ih => rw [List.flatMap_cons, List.length_append, ih]; simp [cellsN]; omega

theorem cellsN_drop (ls : List Ln) (k : Nat) : (ls.flatMap cellsN).drop (k * 2) = (ls.drop k).flatMap cellsN := by
  induction ls generalizing k with
  | nil => simp
  | cons x ls ih =>
    cases k with
    | zero => simp
    | succ k =>
      rw [List.flatMap_cons, List.drop_succ_cons, ← ih k, Nat.add_mul, Nat.one_mul]
      simp [cellsN]

theorem cellsN_one (ls : List Ln) : ∀ u ∈ ls.flatMap cellsN, u.oneCell' = true := by
  intro u hu
  obtain ⟨x, -, hx⟩ := List.mem_flatMap.1 hu
  simp [cellsN] at hx
  rcases hx with rfl | rfl <;> rfl

theorem cellsN_at (ls : List Ln) (k : Nat) (h : k < ls.length) : (ls.flatMap cellsN)[k * 2]? = some (.int .i64 ls[k].1) ∧ (ls.flatMap cellsN)[k * 2 + 1]? = some (SV ls[k].2) := by
  induction ls generalizing k with
  | nil => simp at h
  | cons x S ih =>
    rw [List.flatMap_cons]
    cases k with
    | zero => simp [cellsN]
    | succ k =>
      have := ih k (by simpa using h)
      simp only [cellsN, List.cons_append, List.nil_append, Nat.add_mul, Nat.one_mul, List.getElem?_cons_succ, List.getElem_cons_succ] at this ⊢
      exact this

theorem spl_head {cur : Array Value} {news zs : List Value} : (spl (spl cur 0 news) news.length zs).toList.take news.length = news := by
  have e : (spl cur 0 news).toList = news ++ cur.toList.drop news.length := by simp [spl]
  have e2 : (spl (spl cur 0 news) news.length zs).toList = news ++ (zs ++ (spl cur 0 news).toList.drop (news.length + zs.length)) := by
    simp only [spl, List.toList_toArray] at e ⊢
    rw [e, List.take_left, List.append_assoc]
  rw [e2]
  exact List.take_left

set_option maxRecDepth 10000 in
set_option maxHeartbeats 4000000 in
theorem delete_any {w : World} {vl : Value} {ls : List Ln} {k : Nat} (h : w.ownsRow 0 108 2 vl ls.length (ls.flatMap cellsN)) (hk : k ≤ ls.length) (hn : ls.length ≤ 300) :
    Calls Tryz.prog 72 #[vl, .int .i64 0, .int .i64 k] w fun e w' =>
      ∃ v', e = .returned v' ∧ w'.ownsRow 0 108 2 v' (ls.drop k).length ((ls.drop k).flatMap cellsN) ∧ w.grownBy w' vl.ownBlock ∧ v'.ownBlock = vl.ownBlock := by
  obtain ⟨i0, hi0, hz0, hs0, hb0⟩ := info_parts Tryz.info108
  obtain ⟨ao, cap, rfl, hnc, hcm, hnil, hao, hcell, hfz⟩ := owns_form h
  unfold maxLen at hcm
  have HN := hide hnil
  clear hcell hao hnil hfz
  by_cases hk0 : k = 0
  · subst hk0
    have H := hide h
    clear h
    cases ao with
    | none =>
      obtain ⟨hl0, rfl⟩ := unhide HN rfl
      have hl1 : ls = [] := List.eq_nil_of_length_eq_zero hl0
      subst hl1
      clear hl0
      go_enter Tryz.func72, Tryz.ntmps72
      go_wp2
      go_ret
      refine ⟨_, rfl, ?_, ⟨rfl, rfl, rfl, Nat.le_refl _, fun _ _ _ => rfl⟩, rfl⟩
      exact unhide H
    | some ad =>
      go_enter Tryz.func72, Tryz.ntmps72
      go_wp2
      all_goals
        go_ret
        refine ⟨_, rfl, ?_, ⟨rfl, rfl, rfl, Nat.le_refl _, fun _ _ _ => rfl⟩, rfl⟩
        simpa using unhide H
  · have hpos : 0 < ls.length := by omega
    obtain ⟨g, cap', hv, cur, hg, hcs, htk⟩ : ∃ g cap', Value.slice ao ls.length cap = .slice (some ⟨g, 0, none⟩) ls.length cap' ∧ ∃ cur : Array Value, w.heap[g]? = some (.cells cur 108 (0, 0)) ∧ cur.size = cap' * 2 ∧ cur.toList.take (ls.length * 2) = ls.flatMap cellsN := by
      rcases h.2 with ⟨_, h'⟩ | ⟨g', cap', cur, h', _, hg, _, _, hcs, ht⟩
      · omega
      · exact ⟨g', cap', h', cur, hg, hcs, ht⟩
    simp only [Value.slice.injEq, true_and] at hv
    obtain ⟨rfl, rfl⟩ := hv
    have hkb : ((0 : Int) == (k : Int)) = false := by simp; omega
    have hsrc := row_cells hg (k * 2) ((ls.drop k).flatMap cellsN) (by
      intro j v hj
      rw [← cellsN_drop, List.getElem?_drop] at hj
      have hlt : k * 2 + j < (ls.flatMap cellsN).length := (List.getElem?_eq_some_iff.1 hj).1
      have e : cur.toList[k * 2 + j]? = (ls.flatMap cellsN)[k * 2 + j]? := by
        rw [← htk, List.getElem?_take, if_pos (by rw [cellsN_len] at hlt; omega)]
      rw [← hj, ← e]
      simp)
    have hdl : (ls.drop k).length = ls.length - k := List.length_drop
    have hll : ((ls.drop k).flatMap cellsN).length = (ls.length - k) * 2 := by rw [cellsN_len, hdl]
    have H := hide h
    clear h htk
    by_cases hck : cap = k
    · have hle : k = ls.length := by omega
      subst hck
      subst hle
      have hnil : (ls.drop ls.length).flatMap cellsN = [] := List.eq_nil_of_length_eq_zero (by rw [hll]; omega)
      have hdz : (ls.drop ls.length).length = 0 := by rw [hdl]; omega
      clear hsrc hll hdl
      go_enter Tryz.func72, Tryz.ntmps72
      go_wp2
      go_region_law (refine step_append_spl rfl (.tmp 22) (.tmp 25) 103 rfl 108 i0 2 Tryz.underlying103 hi0 hs0 g ls.length (by simp [Act.eval, Act.put]) cur (by exact hg) ⟨g, 0, none⟩ 0 0 [] (by simp [Act.eval, Act.put]) rfl (by intro j u hu; cases hu) (by intro u hu; cases hu) (by omega) (by simp) ?_; intro w4 hg4 hgr4)
      have hs4 : (spl cur 0 []).size = ls.length * 2 := by rw [size_spl _ _ _ (by simp), hcs]
      have HG4 := hide hgr4
      clear hgr4
      go_wp2_with (refine wpList_clear_here _ rfl (.tmp 31) 103 rfl 108 i0 (.agg #[.int .i64 0, .string ByteArray.empty]) 2 Tryz.underlying103 hi0 hz0 rfl (by decide) (by intro j hj; match j, hj with | 0, _ => rfl | 1, _ => rfl) g 0 ls.length ls.length rfl (by omega) (spl cur 0 []) hg4 (by omega) ?_; intro w5 zs hzl hg5 hgr5)
      go_ret
      rw [hdz, hnil]
      refine ⟨_, rfl, ⟨rfl, .inr ⟨g, ls.length, _, rfl, Nat.zero_le _, hg5, by omega, by unfold maxLen; omega, ?_, by simp⟩⟩, ?_, rfl⟩
      · rw [size_spl _ _ _ (by omega), hs4]
      · have g4 := unhide HG4
        exact ⟨hgr5.os.trans g4.os, hgr5.tape.trans g4.tape, hgr5.output.trans g4.output, Nat.le_trans g4.size hgr5.size, fun j hj hne' => (hgr5.block j (Nat.lt_of_lt_of_le hj g4.size) hne').trans (g4.block j hj hne')⟩
    · go_enter Tryz.func72, Tryz.ntmps72
      go_wp2
      go_region_law (refine step_append_spl rfl (.tmp 22) (.tmp 25) 103 rfl 108 i0 2 Tryz.underlying103 hi0 hs0 g cap (by simp [Act.eval, Act.put]) cur (by exact hg) ⟨g, k * 2, none⟩ (ls.length - k) (cap - k) ((ls.drop k).flatMap cellsN) (by simp [Act.eval, Act.put]) hll (by exact hsrc) (cellsN_one _) (by omega) (by omega) ?_; intro w4 hg4 hgr4)
      have hc0 : ¬ (cap = ls.length - k) := by omega
      have hs4 : (spl cur 0 ((ls.drop k).flatMap cellsN)).size = cap * 2 := by rw [size_spl _ _ _ (by omega), hcs]
      have HG4 := hide hgr4
      clear hgr4
      go_wp2_with (refine wpList_clear_here _ rfl (.tmp 31) 103 rfl 108 i0 (.agg #[.int .i64 0, .string ByteArray.empty]) 2 Tryz.underlying103 hi0 hz0 rfl (by decide) (by intro j hj; match j, hj with | 0, _ => rfl | 1, _ => rfl) g ((ls.length - k) * 2) (ls.length - (ls.length - k)) (cap - (ls.length - k)) rfl (by omega) (spl cur 0 ((ls.drop k).flatMap cellsN)) hg4 (by omega) ?_; intro w5 zs hzl hg5 hgr5)
      go_ret
      refine ⟨_, rfl, ⟨by rw [hll, hdl], .inr ⟨g, cap, _, by rw [hdl]; rfl, Nat.zero_le _, hg5, by omega, by unfold maxLen; omega, ?_, ?_⟩⟩, ?_, rfl⟩
      · rw [size_spl _ _ _ (by omega), hs4]
      · rw [hdl, ← hll]
        exact spl_head
      · have g4 := unhide HG4
        exact ⟨hgr5.os.trans g4.os, hgr5.tape.trans g4.tape, hgr5.output.trans g4.output, Nat.le_trans g4.size hgr5.size, fun j hj hne' => (hgr5.block j (Nat.lt_of_lt_of_le hj g4.size) hne').trans (g4.block j hj hne')⟩

end Go.Proofs.YtbljamcdaoofbaaGreatDoor

/- The program's Drop. -/
namespace Go.Proofs.YtbljamcdaoofbaaGreatDoor
open Go.RowKit

/-- times never fall -/
def InOrder (ls : List Ln) : Prop := ls.Pairwise (fun a b => a.1 ≤ b.1)
/-- how many lines are below a time -/
def goneN (ls : List Ln) (b : Int) : Nat := (ls.filter (fun x => decide (x.1 < b))).length

theorem gone_split {ls : List Ln} (b : Int) (r : Nat) (hr : r ≤ ls.length) (h1 : ∀ j (hj : j < ls.length), j < r → ls[j].1 < b) (h2 : ∀ j (hj : j < ls.length), r ≤ j → b ≤ ls[j].1) : goneN ls b = r ∧ ls.filter (fun x => decide (b ≤ x.1)) = ls.drop r := by
  have e1 : (ls.take r).filter (fun x => decide (x.1 < b)) = ls.take r := by
    rw [List.filter_eq_self]
    intro n hn
    obtain ⟨j, hj, rfl⟩ := List.getElem_of_mem hn
    simp only [List.length_take] at hj
    rw [List.getElem_take]
    simpa using h1 j (by omega) (by omega)
  have e2 : (ls.drop r).filter (fun x => decide (x.1 < b)) = [] := by
    rw [List.filter_eq_nil_iff]
    intro n hn
    obtain ⟨j, hj, rfl⟩ := List.getElem_of_mem hn
    simp only [List.length_drop] at hj
    rw [List.getElem_drop]
    simpa using h2 (r + j) (by omega) (by omega)
  have e3 : (ls.take r).filter (fun x => decide (b ≤ x.1)) = [] := by
    rw [List.filter_eq_nil_iff]
    intro n hn
    obtain ⟨j, hj, rfl⟩ := List.getElem_of_mem hn
    simp only [List.length_take] at hj
    rw [List.getElem_take]
    simpa using h1 j (by omega) (by omega)
  have e4 : (ls.drop r).filter (fun x => decide (b ≤ x.1)) = ls.drop r := by
    rw [List.filter_eq_self]
    intro n hn
    obtain ⟨j, hj, rfl⟩ := List.getElem_of_mem hn
    simp only [List.length_drop] at hj
    rw [List.getElem_drop]
    simpa using h2 (r + j) (by omega) (by omega)
  constructor
  · unfold goneN
    conv => lhs; rw [← List.take_append_drop r ls]
    rw [List.filter_append, e1, e2]
    simp; omega
  · conv => lhs; rw [← List.take_append_drop r ls]
    rw [List.filter_append, e3, e4, List.nil_append]

theorem order_mono {ls : List Ln} (h : InOrder ls) {i j : Nat} (hij : i ≤ j) (hj : j < ls.length) : (ls[i]'(by omega)).1 ≤ ls[j].1 := by
  rcases Nat.lt_or_eq_of_le hij with hlt | rfl
  · exact List.pairwise_iff_getElem.1 h i j (by omega) hj hlt
  · exact Int.le_refl _

set_option maxRecDepth 10000 in
set_option maxHeartbeats 1000000 in
theorem drop1_any {w : World} {n : Node} {bs bb i : Nat} {b : Int} (h : NodeAt w n) (hbs : w.cell? ⟨bs, 0, none⟩ = some (.pointer (some ⟨n.blk, 0, none⟩))) (hbb : w.cell? ⟨bb, 0, none⟩ = some (.int .i64 b)) (hi : i < n.lines.length) (hn : n.lines.length ≤ 300) :
    Calls Tryz.prog 71 #[.int .i64 i, .pointer (some ⟨bs, 0, none⟩), .pointer (some ⟨bb, 0, none⟩)] w fun e w' => e = .returned (.bool (decide (b ≤ n.lines[i].1))) ∧ ∃ k, w' = w.drewN k := by
  obtain ⟨c0, c1, c2, fz⟩ := cell_of_block3 h.block
  obtain ⟨g, cap, hv, -, hgw, hnc, hcm, hcell, hfz⟩ := owns_open h.row (by omega)
  rw [hv] at c2
  have hc := hcell (i * 2) (by omega)
  rw [(cellsN_at n.lines i hi).1] at hc
  have hii : (i : Int) < (n.lines.length : Int) := by omega
  clear hcell hfz fz hv
  go_enter Tryz.func71, Tryz.ntmps71
  go_wp2
  go_quiet (fail)
  go_wp2
  go_ret
  exact ⟨rfl, _, rfl⟩

set_option maxRecDepth 10000 in
set_option maxHeartbeats 2000000 in
theorem sortSearch_any {w : World} {n : Node} {bs bb : Nat} {b : Int} (h : NodeAt w n) (hbs : w.cell? ⟨bs, 0, none⟩ = some (.pointer (some ⟨n.blk, 0, none⟩))) (hbb : w.cell? ⟨bb, 0, none⟩ = some (.int .i64 b)) (hn : n.lines.length ≤ 300) (hs : InOrder n.lines) :
    Calls Tryz.prog 70 #[.int .i64 n.lines.length, .func (.func 71) #[] #[.pointer (some ⟨bs, 0, none⟩), .pointer (some ⟨bb, 0, none⟩)]] w fun e w' => (∃ r : Nat, e = .returned (.int .i64 r) ∧ r ≤ n.lines.length ∧ goneN n.lines b = r ∧ n.lines.filter (fun x => decide (b ≤ x.1)) = n.lines.drop r) ∧ ∃ k, w' = w.drewN k := by
  have HH := hide h
  have HBS := hide hbs
  have HBB := hide hbb
  have HS := hide hs
  clear h hbs hbb hs
  go_enter Tryz.func70, Tryz.ntmps70
  go_wp2
  go_loopw [5, 6] (fun i j wr => ∃ a c : Nat, a ≤ c ∧ c ≤ n.lines.length ∧ i = .int .i64 a ∧ j = .int .i64 c ∧ (∀ k (hk : k < n.lines.length), k < a → n.lines[k].1 < b) ∧ (∀ k (hk : k < n.lines.length), c ≤ k → b ≤ n.lines[k].1) ∧ ∃ m, wr = w.drewN m) (fun i j _ => (intOf j).toNat - (intOf i).toNat)
  case atStart => exact ⟨0, n.lines.length, by omega, by omega, rfl, rfl, fun k _ h => by omega, fun k hk h => by omega, 0, rfl⟩
  case round =>
    obtain ⟨a, c, hac, hc, rfl, rfl, h1, h2, m, rfl⟩ := hrel
    have H1 := hide h1
    have H2 := hide h2
    clear h1 h2
    by_cases hlt : a < c
    · go_upto_region 4 with fail
      obtain ⟨hm1, hm2⟩ := mid_bounds hlt
      rw [show ((a : Int) + (c : Int)) / 2 = (((a + c) / 2 : Nat) : Int) by omega]
      generalize (a + c) / 2 = q at *
      have hql : q < n.lines.length := by omega
      have HND := hide ((unhide HH).keep (w' := w.drewN m) rfl (fun _ _ => rfl))
      by_cases hb : b ≤ n.lines[q].1
      · have hd : decide (b ≤ n.lines[q].1) = true := by simpa using hb
        go_wp2_with (go_at_call 71; refine (drop1_any (unhide HND) (unhide HBS) (unhide HBB) hql hn).mono ?_; rintro e w' ⟨rfl, k, rfl⟩)
        go_roundw
        case rel =>
          refine ⟨a, q, by omega, by omega, rfl, rfl, unhide H1, fun j hj hqj => ?_, m + k, by simp [World.drewN]⟩
          exact Int.le_trans hb (order_mono (unhide HS) hqj hj)
        case measure => simp [intOf]; omega
      · have hd : decide (b ≤ n.lines[q].1) = false := by simpa using hb
        go_wp2_with (go_at_call 71; refine (drop1_any (unhide HND) (unhide HBS) (unhide HBB) hql hn).mono ?_; rintro e w' ⟨rfl, k, rfl⟩)
        go_roundw
        case rel =>
          refine ⟨q + 1, c, by omega, by omega, by go_num, rfl, fun j hj hjq => ?_, unhide H2, m + k, by simp [World.drewN]⟩
          have := order_mono (unhide HS) (show j ≤ q by omega) hql
          omega
        case measure => simp [intOf]; omega
    · have he : a = c := by omega
      subst he
      go_wp2
      go_ret
      obtain ⟨e1, e2⟩ := gone_split b a hc (unhide H1) (unhide H2)
      exact ⟨⟨a, rfl, hc, e1, e2⟩, m, rfl⟩


theorem NodeAt.dropped {w w0 w1 : World} {n : Node} {v' : Value} {k : Nat} (h : NodeAt w0 n) (hm0 : Moved (nodeF n) w w0)
    (hr : w1.ownsRow 0 108 2 v' (n.lines.drop k).length ((n.lines.drop k).flatMap cellsN)) (hg : w0.grownBy w1 n.vl.ownBlock) :
    NodeAt (w1.setCell ⟨n.blk, 2, none⟩ v') { n with lines := n.lines.drop k, vl := v' } ∧ w1.cell? ⟨n.blk, 2, none⟩ = some n.vl ∧ w1.frozen? ⟨n.blk, 2, none⟩ = false ∧ Moved (nodeF n) w (w1.setCell ⟨n.blk, 2, none⟩ v') := by
  have hm1 : Moved (nodeF n) w w1 := hm0.grown hg (fun b hb => .inl (.inr hb))
  have hp2 : w1.heap[n.blk]? = some (.cells #[SV n.lab, .int .i64 n.latest, n.vl] 118 (0, 0)) := by
    rw [hg.block n.blk h.lt (fun e => ?_), h.block]
    obtain ⟨_, cur, hc⟩ := ownsRow_type h.row e.symm
    exact ne_of_type hc h.block (by decide) rfl
  obtain ⟨_, _, c2, hf⟩ := cell_of_block3 hp2
  refine ⟨⟨block3_set2 hp2 v', ?_⟩, c2, hf 2, hm1.setCell (.inl (.inl rfl)) _⟩
  refine ownsRow_same hr fun g hgo => Go.RowKit.Below.heap_setCell _ _ _ _ ?_
  obtain ⟨_, cur, hc⟩ := ownsRow_type hr hgo
  exact ne_of_type hc hp2 (by decide)

theorem drewN_NodeAt {w : World} {n : Node} (h : NodeAt w n) (m : Nat) : NodeAt (w.drewN m) n := h.keep rfl (fun _ _ => rfl)

set_option maxRecDepth 10000 in
set_option maxHeartbeats 4000000 in
theorem sDrop_any {w : World} {n : Node} (b : Int) (h : NodeAt w n) (hn : n.lines.length ≤ 300) (hs : InOrder n.lines) :
    Calls Tryz.prog 44 #[.pointer (some ⟨n.blk, 0, none⟩), .int .i64 b] w fun e w' =>
      e = .returned (.int .i64 (goneN n.lines b)) ∧ ∃ v', NodeAt w' { n with lines := n.lines.filter (fun x => decide (b ≤ x.1)), vl := v' } ∧ (∀ g, v'.ownBlock = some g → n.vl.ownBlock = some g ∨ w.heap.size ≤ g) ∧ Moved (nodeF n) w w' := by
  have hlt := h.lt
  have hm2 : Moved (nodeF n) w ((w.alloc (.cells #[.pointer (some ⟨n.blk, 0, none⟩)] 79)).alloc (.cells #[.int .i64 b] 3)) := ((Moved.refl _ w).alloc _).alloc _
  have h2 : NodeAt ((w.alloc (.cells #[.pointer (some ⟨n.blk, 0, none⟩)] 79)).alloc (.cells #[.int .i64 b] 3)) n :=
    h.keep (by rw [Go.RowKit.Below.heap_alloc _ _ _ (by simp; omega), Go.RowKit.Below.heap_alloc _ _ _ hlt]) (fun g hg => by
      have := (ownsRow_type h.row hg).1
      rw [Go.RowKit.Below.heap_alloc _ _ _ (by simp; omega), Go.RowKit.Below.heap_alloc _ _ _ this])
  have b1 : ((w.alloc (.cells #[.pointer (some ⟨n.blk, 0, none⟩)] 79)).alloc (.cells #[.int .i64 b] 3)).heap[w.heap.size]? = some (.cells #[.pointer (some ⟨n.blk, 0, none⟩)] 79 (0, 0)) := by
    rw [Go.RowKit.Below.heap_alloc _ _ _ (by simp)]; exact heap_alloc_new w _
  have b2 := two_new w (.cells #[.pointer (some ⟨n.blk, 0, none⟩)] 79) (.cells #[.int .i64 b] 3)
  have hs2 : ((w.alloc (.cells #[.pointer (some ⟨n.blk, 0, none⟩)] 79)).alloc (.cells #[.int .i64 b] 3)).heap.size = w.heap.size + 2 := by simp
  clear h
  go_enter Tryz.func44, Tryz.ntmps44
  go_upto_region 1 with fail
  generalize (w.alloc (.cells #[.pointer (some ⟨n.blk, 0, none⟩)] 79)).alloc (.cells #[.int .i64 b] 3) = W at *
  obtain ⟨p1, -⟩ := cell_of_block1 b1
  obtain ⟨p2, -⟩ := cell_of_block1 b2
  obtain ⟨c0, c1, c2, fz⟩ := cell_of_block3 h2.block
  obtain ⟨ao, cap, hv, -, -, -, -, -, -⟩ := owns_form h2.row
  rw [hv] at c2
  have HV := hide hv
  have HH := hide h2
  have b2' := b2
  clear hv fz h2 b2
  go_wp2_with fail
  refine (sortSearch_any (unhide HH) p1 p2 hn hs).mono ?_
  rintro e w2 ⟨⟨r, rfl, hr, hgone, hflt⟩, k, rfl⟩
  have HG := hide hgone
  have HF := hide hflt
  have hrow := (unhide HH).row
  rw [unhide HV] at hrow
  have hh : ∀ j : Nat, (W.drewN j).heap = W.heap := fun _ => rfl
  have HNK := hide (drewN_NodeAt (unhide HH) (k + 1))
  have hmk : Moved (nodeF n) w (W.drewN (k + 1)) := hm2.drawn _
  have hown : ∀ g, n.vl.ownBlock = some g → g < w.heap.size := fun g hg => by
    obtain ⟨hl, cur, hc⟩ := ownsRow_type (unhide HH).row hg
    have h1 : g ≠ w.heap.size := ne_of_type hc b1 (by decide)
    have h2 : g ≠ w.heap.size + 1 := ne_of_type hc b2' (by decide)
    omega
  have HO := hide hown
  clear hgone hflt hown hh
  go_upto_region 2 with fail
  go_region_law (go_simp; go_at_call 72; refine (delete_any (by exact hrow) hr hn).mono ?_; rintro e w5 ⟨v5, rfl, hr5, hg5, hv5⟩; obtain ⟨a5, cap5, rfl, -, -, -, -, -, -⟩ := owns_form hr5; rw [← unhide HV] at hg5 hv5; have p5 : w5.cell? ⟨w.heap.size, 0, none⟩ = some (.pointer (some ⟨n.blk, 0, none⟩)) := (World.cell?_of_block (hg5.block w.heap.size (by show w.heap.size < W.heap.size; omega) (fun e => by have := unhide HO _ e.symm; omega))).trans p1; obtain ⟨hfin, e2, ef, hmf⟩ := NodeAt.dropped (k := r) (unhide HNK) hmk hr5 hg5; rw [unhide HV] at e2; clear hg5 hr5; dsimp only)
  all_goals
    go_wp2
    go_ret
    rw [List.length_drop] at hfin hmf hv5
    refine ⟨ret_int (by rw [unhide HG]), .slice a5 (n.lines.length - r) cap5, ?_, ?_, hmf⟩
    · rw [unhide HF]
      exact hfin
    · intro g hg
      left
      rw [← hv5]
      exact hg

end Go.Proofs.YtbljamcdaoofbaaGreatDoor

/- The program's Drop over all its streams. -/
namespace Go.Proofs.YtbljamcdaoofbaaGreatDoor
open Go.RowKit

/-- a stream without the lines below a time -/
def cutN (b : Int) (n : PA) : PA := (n.1, n.2.1, n.2.2.filter (fun x => decide (b ≤ x.1)))

def goneAll (ns : List Node) (b : Int) : Nat := (ns.map (fun n => goneN n.lines b)).sum

theorem goneAll_snoc (ns : List Node) (b : Int) (k : Nat) (h : k < ns.length) : goneAll (ns.take (k + 1)) b = goneAll (ns.take k) b + goneN ns[k].lines b := by
  unfold goneAll
  rw [List.take_succ_eq_append_getElem h, List.map_append, List.sum_append]
  simp
theorem goneN_le (ls : List Ln) (b : Int) : goneN ls b ≤ ls.length := List.length_filter_le _ _
theorem goneAll_le (ns : List Node) (b : Int) : goneAll ns b ≤ total ns := by
  induction ns with
  | nil => simp [goneAll, total]
  | cons n ns ih =>
    have := goneN_le n.lines b
    simp only [goneAll, total, List.map_cons, List.sum_cons] at ih ⊢
    omega

def dropI (ns : List Node) (b : Int) : Int := if timeB b = true then (goneAll ns b : Int) else 0
def dropE (b : Int) : Int := if timeB b = true then 0 else 2
def dropA (ns : List Node) (b : Int) : List PA := if timeB b = true then (ns.map absN).map (cutN b) else ns.map absN
theorem drop_no {b : Int} (h : timeB b = false) (ns : List Node) : dropI ns b = 0 ∧ dropE b = 2 ∧ dropA ns b = ns.map absN := by simp [dropI, dropE, dropA, h]
theorem drop_yes {b : Int} (h : timeB b = true) (ns : List Node) : dropI ns b = goneAll ns b ∧ dropE b = 0 ∧ dropA ns b = (ns.map absN).map (cutN b) := by simp [dropI, dropE, dropA, h]
theorem ret_two {a b c d : Int} (h1 : a = c) (h2 : b = d) : Ending.returned (.tuple #[.int .i64 a, .int .i64 b]) = .returned (.tuple #[.int .i64 c, .int .i64 d]) := by rw [h1, h2]

theorem cut_step (X Y : List PA) (f : PA → PA) (k : Nat) (h : k < X.length) (hY : Y = (X.take k).map f ++ X.drop k) : Y[k]? = some X[k] ∧ Y.set k (f X[k]) = (X.take (k + 1)).map f ++ X.drop (k + 1) := by
  have hl : ((X.take k).map f).length = k := by simp; omega
  rw [hY, List.drop_eq_getElem_cons h]
  constructor
  · rw [List.getElem?_append_right (by omega), hl, Nat.sub_self]
    rfl
  · rw [List.set_append_right _ _ (by omega), hl, Nat.sub_self, List.set_cons_zero, List.take_succ_eq_append_getElem h, List.map_append]
    simp

set_option maxRecDepth 10000 in
set_option maxHeartbeats 4000000 in
theorem drop_any {w : World} {F : Nat → Prop} {p : Nat} {ns : List Node} {va : Value} (b : Int) (h : StoreAt w F p ns va) (hn : ns.length ≤ 6) (ht : total ns ≤ 300) (hs : ∀ n ∈ ns, InOrder n.lines) :
    Calls Tryz.prog 22 #[.pointer (some ⟨p, 0, none⟩), .int .i64 b] w fun e w' =>
      e = .returned (.tuple #[.int .i64 (dropI ns b), .int .i64 (dropE b)]) ∧ (∃ ns' va', StoreAt w' (Plus F w) p ns' va' ∧ ns'.map absN = dropA ns b) ∧ Moved F w w' := by
  obtain ⟨ao, cap, rfl, hnc, hcm, hnil, hao, hcell, hfz⟩ := owns_form h.row
  obtain ⟨c0, fz⟩ := cell_of_block1 h.block
  have HN := hide hnil
  have HH := hide h
  have HS := hide hs
  clear hnil hao hcell hfz fz h hs
  go_enter Tryz.func22, Tryz.ntmps22
  go_wp2_with fail
  refine (isTime_any b _).mono ?_
  rintro e w1 ⟨rfl, rfl⟩
  cases hb : timeB b with
  | false =>
    have HB := hide (drop_no hb ns)
    clear hb
    go_wp2
    go_ret2
    exact ⟨ret_two (unhide HB).1.symm (unhide HB).2.1.symm, ⟨ns, _, (unhide HH).weaken (fun _ hf => .inl hf), (unhide HB).2.2.symm⟩, Moved.refl _ _⟩
  | true =>
    have HB := hide (drop_yes hb ns)
    clear hb
    go_wp2
    go_loopw [6, 17] (fun s i wr => ∃ (k : Nat) (ns' : List Node), k ≤ ns.length ∧ i = .int .i64 k ∧ s = .int .i64 (goneAll (ns.take k) b) ∧ StoreAt wr (Plus F w1) p ns' (.slice ao ns.length cap) ∧ ns'.length = ns.length ∧
        (∀ j (h1 : j < ns.length) (h2 : j < ns'.length), k ≤ j → ns'[j].lines = ns[j].lines) ∧ ns'.map absN = ((ns.map absN).take k).map (cutN b) ++ (ns.map absN).drop k ∧ Moved F w1 wr) (fun _ i _ => ns.length - (intOf i).toNat)
    case atStart => exact ⟨0, ns, by omega, rfl, rfl, (unhide HH).weaken (fun _ hf => .inl hf), rfl, fun _ _ _ _ => rfl, by simp, Moved.refl _ _⟩
    case round =>
      obtain ⟨k, ns', hk, rfl, rfl, hst, hlen, hls, habs, hmv⟩ := hrel
      have HST := hide hst
      have HLS := hide hls
      have HAB := hide habs
      have HMV := hide hmv
      clear hls habs hmv
      by_cases hlt : k < ns.length
      · obtain ⟨ao', cap', he, -, -, hnil', hao', hcell', -⟩ := owns_form hst.row
        rw [hlen] at he
        simp only [Value.slice.injEq, true_and] at he
        obtain ⟨rfl, rfl⟩ := he
        obtain ⟨⟨g, o, sp⟩, rfl⟩ : ∃ a, ao = some a := by
          cases ao with
          | none => have := (unhide HN rfl).1; omega
          | some a => exact ⟨a, rfl⟩
        obtain ⟨ho, hsp, -, hgw⟩ := hao' _ rfl
        simp only at ho hsp hgw
        subst ho hsp
        have hlt' : k < ns'.length := by omega
        have hc := hcell' _ rfl k (by omega)
        rw [ptr_at hlt'] at hc
        have hN := (unhide HST).nodes _ (List.getElem_mem hlt')
        have hlk := unhide HLS k hlt hlt' (Nat.le_refl _)
        have hll : ns'[k].lines.length ≤ 300 := by
          rw [hlk]
          exact Nat.le_trans (total_le ns _ (List.getElem_mem hlt)) ht
        have hio : InOrder ns'[k].lines := by rw [hlk]; exact unhide HS _ (List.getElem_mem hlt)
        have HND := hide hN
        have HLK := hide hlk
        have hg1 := goneAll_le (ns.take k) b
        have hg2 := goneAll_le (ns.take (k + 1)) b
        have hg3 := total_take ns k
        have hg4 := total_take ns (k + 1)
        rw [goneAll_snoc ns b k hlt] at hg2
        have hg5 : goneN ns'[k].lines b = goneN ns[k].lines b := by rw [hlk]
        have HG5 := hide hg5
        have hg6 : goneAll (ns.take k) b + goneN ns'[k].lines b ≤ 300 := by rw [hg5]; omega
        clear hN hlk hcell' hao' hnil' hst hg5 hg2
        go_wp2_with (go_at_call 44; refine (sDrop_any b (unhide HND) hll hio).mono ?_; rintro e w4 ⟨rfl, v4, hN4, hv4, hm4⟩)
        go_roundw
        case rel =>
          have hst4 := (unhide HST).set hlt' hN4 rfl hv4 hm4
          have hsz := (unhide HMV).size
          refine ⟨k + 1, _, by omega, by go_num, ?_, hst4.weaken ?_, by simpa using hlen, ?_, ?_, ?_⟩
          · rw [goneAll_snoc ns b k hlt, unhide HG5]; go_num
          · rintro c ((hc | hc) | hc)
            · exact .inl hc
            · exact .inr hc
            · exact .inr (by omega)
          · intro j h1 h2 hkj
            rw [List.length_set] at h2
            rw [List.getElem_set, if_neg (by omega)]
            exact unhide HLS j h1 h2 (by omega)
          · have hX : k < (ns.map absN).length := by simpa using hlt
            obtain ⟨hx1, hx2⟩ := cut_step (ns.map absN) (ns'.map absN) (cutN b) k hX (unhide HAB)
            rw [List.map_set, ← hx2]
            have hx3 : absN ns'[k] = (ns.map absN)[k] := by
              rw [List.getElem?_map, List.getElem?_eq_getElem hlt', Option.map_some] at hx1
              exact Option.some.inj hx1
            rw [← hx3]
            rfl
          · refine (unhide HMV).trans hm4 ?_
            intro c hc
            have hin := (unhide HST).inN _ (List.getElem_mem hlt')
            rcases hc with rfl | hc
            · exact hin.1
            · exact hin.2 c hc
        case measure => simp [intOf]; omega
      · go_wp2
        go_ret2
        refine ⟨ret_two ?_ (unhide HB).2.1.symm, ⟨ns', _, unhide HST, ?_⟩, unhide HMV⟩
        · rw [List.take_of_length_le (by omega), (unhide HB).1]
        · rw [(unhide HB).2.2, unhide HAB, List.take_of_length_le (by simp; omega), List.drop_of_length_le (by simp; omega)]
          simp

end Go.Proofs.YtbljamcdaoofbaaGreatDoor

/- The program's state and the reference's: what ties them, and that each call keeps it. -/
namespace Go.Proofs.YtbljamcdaoofbaaGreatDoor

theorem less_total : ∀ (a b : List UInt8), Op.bytesLess a b = false → a = b ∨ Op.bytesLess b a = true
  | [], [], _ => .inl rfl
  | [], _ :: _, h => by simp [Op.bytesLess] at h
  | _ :: _, [], _ => .inr rfl
  | x :: a, y :: b, h => by
    simp only [Op.bytesLess, Bool.or_eq_false_iff, Bool.and_eq_false_iff, decide_eq_false_iff_not, beq_eq_false_iff_ne] at h
    obtain ⟨h1, h2⟩ := h
    by_cases e : x = y
    · subst e
      rcases h2 with h2 | h2
      · exact absurd rfl h2
      · rcases less_total a b h2 with rfl | h3
        · exact .inl rfl
        · right; simp [Op.bytesLess, h3]
    · right
      have hlt : y < x := by
        have h1' : ¬ x.toNat < y.toNat := h1
        have e' : x.toNat ≠ y.toNat := fun hh => e (UInt8.toNat_inj.1 hh)
        show y.toNat < x.toNat
        omega
      simp [Op.bytesLess, hlt]

theorem less_ne {a b : List UInt8} (h : Op.bytesLess a b = true) : a ≠ b := by
  rintro rfl
  rw [less_irrefl] at h
  cases h
theorem less_asymm {a b : List UInt8} (h : Op.bytesLess a b = true) : Op.bytesLess b a = false := by
  rw [Bool.eq_false_iff]
  intro h'
  have := less_trans h h'
  rw [less_irrefl] at this
  cases this

/-- texts that rise -/
def Ris (l : List (List UInt8)) : Prop := l.Pairwise (fun a b => Op.bytesLess a b = true)

theorem ris_ext : ∀ {a b : List (List UInt8)}, Ris a → Ris b → (∀ x, x ∈ a ↔ x ∈ b) → a = b
  | [], [], _, _, _ => rfl
  | [], y :: b, _, _, h => by have := (h y).2 (by simp); simp at this
  | x :: a, [], _, _, h => by have := (h x).1 (by simp); simp at this
  | x :: a, y :: b, ha, hb, h => by
    have ha' := List.pairwise_cons.1 ha
    have hb' := List.pairwise_cons.1 hb
    have hxy : x = y := by
      have h1 := (h x).1 (by simp)
      have h2 := (h y).2 (by simp)
      rcases List.mem_cons.1 h1 with e | e
      · exact e
      · rcases List.mem_cons.1 h2 with e2 | e2
        · exact e2.symm
        · have l1 := hb'.1 x e
          have l2 := ha'.1 y e2
          have := less_asymm l1
          rw [l2] at this
          cases this
    subst hxy
    rw [ris_ext ha'.2 hb'.2 (fun z => ?_)]
    constructor
    · intro hz
      have := (h z).1 (List.mem_cons_of_mem _ hz)
      rcases List.mem_cons.1 this with e | e
      · subst e
        have := ha'.1 z hz
        rw [less_irrefl] at this; cases this
      · exact e
    · intro hz
      have := (h z).2 (List.mem_cons_of_mem _ hz)
      rcases List.mem_cons.1 this with e | e
      · subst e
        have := hb'.1 z hz
        rw [less_irrefl] at this; cases this
      · exact e

/-- into rising texts, at the place -/
theorem ris_ins {l : List (List UInt8)} {s : List UInt8} {k : Nat} (h : Ris l) (h1 : ∀ x ∈ l.take k, Op.bytesLess x s = true) (h2 : ∀ x ∈ l.drop k, Op.bytesLess s x = true) : Ris (l.take k ++ [s] ++ l.drop k) := by
  unfold Ris at h ⊢
  rw [← List.take_append_drop k l, List.pairwise_append] at h
  rw [List.append_assoc, List.pairwise_append]
  refine ⟨h.1, ?_, ?_⟩
  · rw [List.singleton_append, List.pairwise_cons]
    exact ⟨h2, h.2.1⟩
  · intro a ha b hb
    rw [List.singleton_append, List.mem_cons] at hb
    rcases hb with rfl | hb
    · exact h1 a ha
    · exact h.2.2 a ha b hb

theorem mem_ins {α : Type} (l : List α) (s x : α) (k : Nat) : x ∈ l.take k ++ [s] ++ l.drop k ↔ x = s ∨ x ∈ l := by
  conv => rhs; rw [← List.take_append_drop k l]
  simp only [List.mem_append, List.mem_singleton]
  constructor
  · rintro ((h | h) | h)
    · exact .inr (.inl h)
    · exact .inl h
    · exact .inr (.inr h)
  · rintro (h | h | h)
    · exact .inl (.inr h)
    · exact .inl (.inl h)
    · exact .inr h

/-- where a text is put: all ahead of it are less, none behind it is -/
theorem putK_spec {l : List (List UInt8)} (s : List UInt8) (h : Ris l) : ∀ k, k ≤ l.length → (∀ j (hj : j < l.length), j < putK l s k → Op.bytesLess l[j] s = true) ∧ (∀ j (hj : j < l.length), putK l s k ≤ j → j < k → Op.bytesLess l[j] s = false)
  | 0, _ => ⟨fun j _ hk => by simp [putK] at hk, fun j _ _ hk => by omega⟩
  | k + 1, hk => by
    have ih := putK_spec s h k (by omega)
    have hk' : k < l.length := by omega
    have hd : l.getD k [] = l[k] := by simp [hk']
    rw [putK_succ, hd]
    split
    · rename_i hless
      refine ⟨fun j hj hjk => ?_, fun j hj h1 h2 => by omega⟩
      rcases Nat.lt_or_eq_of_le (Nat.le_of_lt_succ hjk) with g | rfl
      · exact less_trans (List.pairwise_iff_getElem.1 h j k hj hk' g) hless
      · exact hless
    · rename_i hless
      refine ⟨ih.1, fun j hj h1 h2 => ?_⟩
      by_cases e : j = k
      · subst e; simpa using hless
      · exact ih.2 j hj h1 (by omega)

theorem putL_ris {l : List (List UInt8)} (s : List UInt8) (h : Ris l) : Ris (putL l s) ∧ ∀ x, x ∈ putL l s ↔ x = s ∨ x ∈ l := by
  unfold putL
  split
  · rename_i hc
    have hm : s ∈ l := by simpa using hc
    refine ⟨h, fun x => ⟨fun hx => .inr hx, ?_⟩⟩
    rintro (rfl | hx)
    · exact hm
    · exact hx
  · rename_i hc
    have hm : s ∉ l := by simpa using hc
    have hp := putK_spec s h l.length (Nat.le_refl _)
    refine ⟨ris_ins h ?_ ?_, fun x => mem_ins l s x _⟩
    · intro x hx
      obtain ⟨j, hj, rfl⟩ := List.getElem_of_mem hx
      simp only [List.length_take] at hj
      rw [List.getElem_take]
      exact hp.1 j (by omega) (show j < putAt l s by omega)
    · intro x hx
      obtain ⟨j, hj, rfl⟩ := List.getElem_of_mem hx
      simp only [List.length_drop] at hj
      rw [List.getElem_drop]
      have hf := hp.2 (putAt l s + j) (by omega) (by show putAt l s ≤ _; omega) (by omega)
      rcases less_total _ _ hf with e | e
      · exact absurd (e ▸ List.getElem_mem _) hm
      · exact e

theorem streams_ris (S : List Strm) : ∀ l, Ris l → Ris (S.foldl (fun l x => putL l x.1) l) ∧ ∀ x, x ∈ S.foldl (fun l x => putL l x.1) l ↔ x ∈ l ∨ ∃ y ∈ S, y.1 = x := by
  induction S with
  | nil => intro l h; exact ⟨h, fun x => by simp⟩
  | cons y S ih =>
    intro l h
    rw [List.foldl_cons]
    obtain ⟨h1, h2⟩ := putL_ris y.1 h
    obtain ⟨h3, h4⟩ := ih _ h1
    refine ⟨h3, fun x => ?_⟩
    rw [h4, h2]
    constructor
    · rintro ((e | e) | ⟨z, hz, e⟩)
      · exact .inr ⟨y, by simp, e.symm⟩
      · exact .inl e
      · exact .inr ⟨z, List.mem_cons_of_mem _ hz, e⟩
    · rintro (e | ⟨z, hz, e⟩)
      · exact .inl (.inr e)
      · rcases List.mem_cons.1 hz with rfl | hz
        · exact .inl (.inl e.symm)
        · exact .inr ⟨z, hz, e⟩

/-- What ties the program's streams to the reference's streams and lines. -/
structure RelA (ps : List PA) (S : List Strm) (L : List Rw) : Prop where
  ris : Ris (ps.map (·.1))
  uniq : (S.map (·.1)).Nodup
  len : S.length = ps.length
  mem : ∀ y : Strm, y ∈ S ↔ ∃ a ∈ ps, (a.1, a.2.1) = y
  lines : ∀ a ∈ ps, a.2.2 = (L.filter (fun r => r.1 == a.1)).map (fun r => (r.2.1, r.2.2))
  all : ∀ r ∈ L, ∃ a ∈ ps, a.1 = r.1
  late : ∀ a ∈ ps, ∀ x ∈ a.2.2, x.1 ≤ a.2.1
  order : ∀ a ∈ ps, InOrder a.2.2
  six : S.length ≤ 6
  many : L.length ≤ 300

theorem RelA.streams {ps : List PA} {S : List Strm} {L : List Rw} (h : RelA ps S L) : ps.map (·.1) = streamsR S := by
  obtain ⟨h1, h2⟩ := streams_ris S [] List.Pairwise.nil
  refine ris_ext h.ris h1 fun x => ?_
  rw [streamsR, h2]
  constructor
  · intro hx
    obtain ⟨a, ha, rfl⟩ := List.mem_map.1 hx
    exact .inr ⟨(a.1, a.2.1), (h.mem _).2 ⟨a, ha, rfl⟩, rfl⟩
  · rintro (hx | ⟨y, hy, rfl⟩)
    · simp at hx
    · obtain ⟨a, ha, rfl⟩ := (h.mem y).1 hy
      exact List.mem_map.2 ⟨a, ha, rfl⟩

end Go.Proofs.YtbljamcdaoofbaaGreatDoor
