/- Texts PStreams, PDelete, PQueue, PDrop, joined. -/
import Derived.Test.YtbljamcdaoofbaaGreatDoorPInsertToPPush2
import Derived.Test.YtbljamcdaoofbaaGreatDoorPFindToPAdd
/- The program's Streams. -/
namespace Go.Proofs.YtbljamcdaoofbaaGreatDoor
open Go.RowKit

theorem map_lab_snoc (ns : List Node) (k : Nat) (h : k < ns.length) : (ns.take (k + 1)).map (fun n => n.lab) = (ns.take k).map (fun n => n.lab) ++ [ns[k].lab] := by
  rw [List.take_succ_eq_append_getElem h, List.map_append]
  rfl

set_option maxRecDepth 10000 in
set_option maxHeartbeats 2000000 in
theorem streams_any {w : World} {F : Nat → Prop} {p : Nat} {ns : List Node} {va : Value} (h : StoreAt w F p ns va) (hn : ns.length ≤ 6) :
    Calls Tryz.prog 16 #[.pointer (some ⟨p, 0, none⟩)] w fun e w' => ∃ v, e = .returned v ∧ w'.ownsRow w.heap.size 9 1 v ns.length ((ns.map (fun n => n.lab)).map SV) ∧ Below w.heap.size w w' := by
  obtain ⟨i0, hi0, hz0, hs0, hb0⟩ := info_parts Tryz.info9
  obtain ⟨ao, cap, rfl, hnc, hcm, hnil, hao, hcell, hfz⟩ := owns_form h.row
  obtain ⟨c0, fz⟩ := cell_of_block1 h.block
  have hplt := h.lt
  have HN := hide hnil
  have HA := hide hao
  have HC := hide hcell
  have HH := hide h
  clear hnil hao hcell hfz h fz
  go_enter Tryz.func16, Tryz.ntmps16
  go_upto_region 2 with (at_make; refine wpList_make_own _ rfl (.const (.int .i64 0)) (.tmp 10) 33 rfl w.heap.size 9 i0 (.string ByteArray.empty) 1 Tryz.underlying33 hi0 hz0 hs0 .i64 .i64 _ ns.length rfl rfl rfl (by rw [hb0]; omega) (by unfold maxLen; omega) (Nat.le_refl _) ?_; intro w1 hown1 hgr1)
  have hb1 : Below w.heap.size w w1 := (Below.refl _ w).grown hgr1 (Nat.le_refl _) (fun k hk => by cases hk)
  have c1 : w1.cell? ⟨p, 0, none⟩ = some (.slice ao ns.length cap) := (hb1.cell (by exact hplt)).trans c0
  clear hgr1
  go_wp2
  go_loopw [3, 17] (fun v i wr => ∃ k : Nat, k ≤ ns.length ∧ i = .int .i64 k ∧ wr.ownsRow w.heap.size 9 1 v k (((ns.take k).map (fun n => n.lab)).map SV) ∧ Below w.heap.size w wr) (fun _ i _ => ns.length - (intOf i).toNat)
  case atStart => exact ⟨0, by omega, rfl, by simpa using hown1, hb1⟩
  case round =>
    obtain ⟨k, hk, rfl, hown, hbel⟩ := hrel
    have hsz := hbel.size
    by_cases hlt : k < ns.length
    · obtain ⟨⟨g, o, sp⟩, rfl⟩ : ∃ a, ao = some a := by
        cases ao with
        | none => have := (unhide HN rfl).1; omega
        | some a => exact ⟨a, rfl⟩
      obtain ⟨ho, hsp, -, hgw⟩ := unhide HA _ rfl
      simp only at ho hsp hgw
      subst ho hsp
      have hc : wr.cell? ⟨g, k, none⟩ = some (.pointer (some ⟨ns[k].blk, 0, none⟩)) := by
        rw [hbel.cell (by exact hgw), unhide HC _ rfl k (by omega), ptr_at hlt]
      have hN := (unhide HH).nodes _ (List.getElem_mem hlt)
      have HND := hide (hN.keep (w' := wr) (hbel.block _ hN.lt) (fun g hg => hbel.block g (ownsRow_type hN.row hg).1))
      have HS := hide (map_lab_snoc ns k hlt)
      obtain ⟨ar, capr, rfl, -, -, -, -, -, -⟩ := owns_form hown
      clear hN
      go_wp2_with (first
        | (go_at_call 38; refine (sLabels_any (unhide HND)).mono ?_; rintro e w' ⟨rfl, rfl⟩)
        | (at_builtin; refine wpList_append_at _ rfl (.tmp 21) (.tmp 24) 33 rfl w.heap.size 9 i0 (.string ByteArray.empty) 1 16 Tryz.underlying33 hi0 hz0 hs0 hb0 rfl (by decide) _ _ _ rfl (hown.alloc _) (some ⟨_, 0, none⟩) 1 1 [SV ns[k].lab] rfl rfl (by intro e; cases e) (cells_new _ _ _) (by intro u hu; simp at hu; subst hu; rfl) (by unfold maxLen; omega) (by omega) (by simp; omega) ?_; intro v4 w4 hown4 hgrow4 hwh4; have hb4 := (hbel.alloc hsz (.cells #[SV ns[k].lab] 9)).grown hgrow4 (by simp; omega) (fun k hk => (hown.lt k hk).1); clear hgrow4 hwh4))
      go_roundw
      case rel =>
        refine ⟨k + 1, by omega, by go_num, ?_, hb4⟩
        rw [unhide HS, List.map_append]
        exact hown4
      case measure => simp [intOf]; omega
    · go_wp2
      go_ret
      have hkn : k = ns.length := by omega
      subst hkn
      refine ⟨_, rfl, ?_, hbel⟩
      rw [List.take_of_length_le (by omega)] at hown
      exact hown

end Go.Proofs.YtbljamcdaoofbaaGreatDoor

/- slices.Delete of the first lines. -/
namespace Go.Proofs.YtbljamcdaoofbaaGreatDoor
open Go.RowKit

theorem step_append_spl {P : Program} {ops : Array Oper} {o : Oper} {a : Act} {w : World} {K : Act → World → Prop} {Q : Exit → Act → World → Prop} {E : Prop}
    (hgd : o.guard = none) (s x : Operand) (t : TypeId) (ho : o.op = .call { callee := .builtin .append, args := #[s, x], argTypes := #[t, t] })
    (e : TypeId) (i : TypeInfo) (size : Nat) (ht : P.underlying t = some (.slice e)) (hi : P.info? e = some i) (hsize : i.size = size)
    (g sCap : Nat) (hs : a.eval s = .slice (some ⟨g, 0, none⟩) 0 sCap) (cur : Array Value) (hg : w.heap[g]? = some (.cells cur e (0, 0)))
    (ad : Addr) (m c : Nat) (news : List Value) (hx : a.eval x = .slice (some ad) m c) (hl : news.length = m * size) (hnews : ∀ j u, news[j]? = some u → w.cell? (ad.add j) = some u) (h1 : ∀ u ∈ news, u.oneCell' = true)
    (hroom : m ≤ sCap) (hfit : news.length ≤ cur.size)
    (h : ∀ w', w'.heap[g]? = some (.cells (spl cur 0 news) e (0, 0)) → w.grownBy w' (some g) → K (a.put o.dst (.slice (some ⟨g, 0, none⟩) m sCap)) w') :
    if Region.wanted o (yielded ops a.tmps) = true then Oper.wp P o a w K Q else E := by
  have hw : Region.wanted o (yielded ops a.tmps) = true := by simp [Region.wanted, hgd]
  rw [if_pos hw]
  subst hsize
  have hr := run_append_room (P := P) w t o.type e i ht hi g 0 sCap cur hg ad m c news hl hnews h1 (by omega) (by omega)
  rw [Nat.zero_add, Nat.zero_mul] at hr
  unfold Oper.wp execOp
  simp only [ho, resolve, invoke, builtin, Sem.run_bind, Sem.run_pure, Result.andThen_ok, List.map_toArray, List.map_cons, List.map_nil, hs, hx, hr]
  refine h _ ?_ ?_
  · exact setRow_heap w g cur _ e _ hg
  · exact ⟨rfl, rfl, rfl, by simp [World.setRow], fun k _ hk => setRow_other w g k _ (fun e => hk (by rw [e]))⟩

/-- clear of a part of a row -/
theorem wpList_clear_here {P : Program} (w : World) {ops : Array Oper} {rest : List Oper} {o : Oper} {a : Act} {Q : Exit → Act → World → Prop} (hgd : o.guard = none) (x : Operand) (t : TypeId)
    (ho : o.op = .call { callee := .builtin .clear, args := #[x], argTypes := #[t] }) (e : TypeId) (i : TypeInfo) (z : Value) (size : Nat) (ht : P.underlying t = some (.slice e)) (hi : P.info? e = some i) (hz : i.zero = some z) (hzs : z.cells.size = size) (hz0 : 0 < size) (hz1 : ∀ j, j < size → (z.cells[j]!).oneCell' = true)
    (g off n c : Nat) (hx : a.eval x = .slice (some ⟨g, off, none⟩) n c) (h0 : 0 < n) (cur : Array Value) (hg : w.heap[g]? = some (.cells cur e (0, 0))) (hfit : off + n * size ≤ cur.size)
    (h : ∀ w' zs, zs.length = n * size → w'.heap[g]? = some (.cells (spl cur off zs) e (0, 0)) → w.grownBy w' (some g) → wpList P ops Q rest (a.put o.dst (.tuple #[])) w') : wpList P ops Q (o :: rest) a w := by
  refine wpList_plain hgd fun K hK => ?_
  have hlen : (Builtin.zeroCells z.cells n).toList.length = n * size := by rw [Array.length_toList, size_zeroCells, hzs]
  have hone : ∀ u ∈ (Builtin.zeroCells z.cells n).toList, u.oneCell' = true := by
    intro u hu
    simp only [Builtin.zeroCells, Array.mem_toList_iff, Array.mem_map] at hu
    obtain ⟨j, _, rfl⟩ := hu
    exact hz1 _ (by rw [hzs]; exact Nat.mod_lt _ hz0)
  have hst := run_storeCells_at P g off e (Builtin.zeroCells z.cells n).toList 0 cur w hg (by rw [hlen]; simpa using hfit) hone
  simp only [Nat.add_zero] at hst
  have hr : (Builtin.clear_ #[t] o.type #[.slice (some ⟨g, off, none⟩) n c]).run P w = .ok (.tuple #[]) (w.setRow g (spl cur off (Builtin.zeroCells z.cells n).toList)) := by
    obtain ⟨m, rfl⟩ : ∃ m, n = m + 1 := ⟨n - 1, by omega⟩
    simp [Builtin.clear_, run_underlying ht, zeroValue, typeInfo, hi, hz, hst, spl]
  unfold Oper.wp execOp
  simp only [ho, resolve, invoke, builtin, Sem.run_bind, Sem.run_pure, Result.andThen_ok, List.map_toArray, List.map_cons, List.map_nil, hx, hr]
  refine hK _ _ (h _ _ hlen ?_ ?_)
  · exact setRow_heap w g cur _ e _ hg
  · exact ⟨rfl, rfl, rfl, by simp [World.setRow], fun k _ hk => setRow_other w g k _ (fun e => hk (by rw [e]))⟩

theorem cellsN_len (ls : List Ln) : (ls.flatMap cellsN).length = ls.length * 2 := by
  induction ls with
  | nil => rfl
  | cons x ls ih => rw [List.flatMap_cons, List.length_append, ih]; simp [cellsN]; omega

theorem cellsN_drop (ls : List Ln) (k : Nat) : (ls.flatMap cellsN).drop (k * 2) = (ls.drop k).flatMap cellsN := by
  induction ls generalizing k with
  | nil => simp
  | cons x ls ih =>
    cases k with
    | zero => simp
    | succ k =>
      rw [List.flatMap_cons, List.drop_succ_cons, ← ih k, Nat.add_mul, Nat.one_mul]
      simp [cellsN]

theorem cellsN_one (ls : List Ln) : ∀ u ∈ ls.flatMap cellsN, u.oneCell' = true := by
  intro u hu
  obtain ⟨x, -, hx⟩ := List.mem_flatMap.1 hu
  simp [cellsN] at hx
  rcases hx with rfl | rfl <;> rfl

theorem cellsN_at (ls : List Ln) (k : Nat) (h : k < ls.length) : (ls.flatMap cellsN)[k * 2]? = some (.int .i64 ls[k].1) ∧ (ls.flatMap cellsN)[k * 2 + 1]? = some (SV ls[k].2) := by
  induction ls generalizing k with
  | nil => simp at h
  | cons x S ih =>
    rw [List.flatMap_cons]
    cases k with
    | zero => simp [cellsN]
    | succ k =>
      have := ih k (by simpa using h)
      simp only [cellsN, List.cons_append, List.nil_append, Nat.add_mul, Nat.one_mul, List.getElem?_cons_succ, List.getElem_cons_succ] at this ⊢
      exact this

theorem spl_head {cur : Array Value} {news zs : List Value} : (spl (spl cur 0 news) news.length zs).toList.take news.length = news := by
  have e : (spl cur 0 news).toList = news ++ cur.toList.drop news.length := by simp [spl]
  have e2 : (spl (spl cur 0 news) news.length zs).toList = news ++ (zs ++ (spl cur 0 news).toList.drop (news.length + zs.length)) := by
    simp only [spl, List.toList_toArray] at e ⊢
    rw [e, List.take_left, List.append_assoc]
  rw [e2]
  exact List.take_left

set_option maxRecDepth 10000 in
set_option maxHeartbeats 4000000 in
theorem delete_any {w : World} {vl : Value} {ls : List Ln} {k : Nat} (h : w.ownsRow 0 108 2 vl ls.length (ls.flatMap cellsN)) (hk : k ≤ ls.length) (hn : ls.length ≤ 300) :
    Calls Tryz.prog 72 #[vl, .int .i64 0, .int .i64 k] w fun e w' =>
      ∃ v', e = .returned v' ∧ w'.ownsRow 0 108 2 v' (ls.drop k).length ((ls.drop k).flatMap cellsN) ∧ w.grownBy w' vl.ownBlock ∧ v'.ownBlock = vl.ownBlock := by
  obtain ⟨i0, hi0, hz0, hs0, hb0⟩ := info_parts Tryz.info108
  obtain ⟨ao, cap, rfl, hnc, hcm, hnil, hao, hcell, hfz⟩ := owns_form h
  unfold maxLen at hcm
  have HN := hide hnil
  clear hcell hao hnil hfz
  by_cases hk0 : k = 0
  · subst hk0
    have H := hide h
    clear h
    cases ao with
    | none =>
      obtain ⟨hl0, rfl⟩ := unhide HN rfl
      have hl1 : ls = [] := List.eq_nil_of_length_eq_zero hl0
      subst hl1
      clear hl0
      go_enter Tryz.func72, Tryz.ntmps72
      go_wp2
      go_ret
      refine ⟨_, rfl, ?_, ⟨rfl, rfl, rfl, Nat.le_refl _, fun _ _ _ => rfl⟩, rfl⟩
      exact unhide H
    | some ad =>
      go_enter Tryz.func72, Tryz.ntmps72
      go_wp2
      all_goals
        go_ret
        refine ⟨_, rfl, ?_, ⟨rfl, rfl, rfl, Nat.le_refl _, fun _ _ _ => rfl⟩, rfl⟩
        simpa using unhide H
  · have hpos : 0 < ls.length := by omega
    obtain ⟨g, cap', hv, cur, hg, hcs, htk⟩ : ∃ g cap', Value.slice ao ls.length cap = .slice (some ⟨g, 0, none⟩) ls.length cap' ∧ ∃ cur : Array Value, w.heap[g]? = some (.cells cur 108 (0, 0)) ∧ cur.size = cap' * 2 ∧ cur.toList.take (ls.length * 2) = ls.flatMap cellsN := by
      rcases h.2 with ⟨_, h'⟩ | ⟨g', cap', cur, h', _, hg, _, _, hcs, ht⟩
      · omega
      · exact ⟨g', cap', h', cur, hg, hcs, ht⟩
    simp only [Value.slice.injEq, true_and] at hv
    obtain ⟨rfl, rfl⟩ := hv
    have hkb : ((0 : Int) == (k : Int)) = false := by simp; omega
    have hsrc := row_cells hg (k * 2) ((ls.drop k).flatMap cellsN) (by
      intro j v hj
      rw [← cellsN_drop, List.getElem?_drop] at hj
      have hlt : k * 2 + j < (ls.flatMap cellsN).length := (List.getElem?_eq_some_iff.1 hj).1
      have e : cur.toList[k * 2 + j]? = (ls.flatMap cellsN)[k * 2 + j]? := by
        rw [← htk, List.getElem?_take, if_pos (by rw [cellsN_len] at hlt; omega)]
      rw [← hj, ← e]
      simp)
    have hdl : (ls.drop k).length = ls.length - k := List.length_drop
    have hll : ((ls.drop k).flatMap cellsN).length = (ls.length - k) * 2 := by rw [cellsN_len, hdl]
    have H := hide h
    clear h htk
    by_cases hck : cap = k
    · have hle : k = ls.length := by omega
      subst hck
      subst hle
      have hnil : (ls.drop ls.length).flatMap cellsN = [] := List.eq_nil_of_length_eq_zero (by rw [hll]; omega)
      have hdz : (ls.drop ls.length).length = 0 := by rw [hdl]; omega
      clear hsrc hll hdl
      go_enter Tryz.func72, Tryz.ntmps72
      go_wp2
      go_region_law (refine step_append_spl rfl (.tmp 22) (.tmp 25) 103 rfl 108 i0 2 Tryz.underlying103 hi0 hs0 g ls.length (by simp [Act.eval, Act.put]) cur (by exact hg) ⟨g, 0, none⟩ 0 0 [] (by simp [Act.eval, Act.put]) rfl (by intro j u hu; cases hu) (by intro u hu; cases hu) (by omega) (by simp) ?_; intro w4 hg4 hgr4)
      have hs4 : (spl cur 0 []).size = ls.length * 2 := by rw [size_spl _ _ _ (by simp), hcs]
      have HG4 := hide hgr4
      clear hgr4
      go_wp2_with (refine wpList_clear_here _ rfl (.tmp 31) 103 rfl 108 i0 (.agg #[.int .i64 0, .string ByteArray.empty]) 2 Tryz.underlying103 hi0 hz0 rfl (by decide) (by intro j hj; match j, hj with | 0, _ => rfl | 1, _ => rfl) g 0 ls.length ls.length rfl (by omega) (spl cur 0 []) hg4 (by omega) ?_; intro w5 zs hzl hg5 hgr5)
      go_ret
      rw [hdz, hnil]
      refine ⟨_, rfl, ⟨rfl, .inr ⟨g, ls.length, _, rfl, Nat.zero_le _, hg5, by omega, by unfold maxLen; omega, ?_, by simp⟩⟩, ?_, rfl⟩
      · rw [size_spl _ _ _ (by omega), hs4]
      · have g4 := unhide HG4
        exact ⟨hgr5.os.trans g4.os, hgr5.tape.trans g4.tape, hgr5.output.trans g4.output, Nat.le_trans g4.size hgr5.size, fun j hj hne' => (hgr5.block j (Nat.lt_of_lt_of_le hj g4.size) hne').trans (g4.block j hj hne')⟩
    · go_enter Tryz.func72, Tryz.ntmps72
      go_wp2
      go_region_law (refine step_append_spl rfl (.tmp 22) (.tmp 25) 103 rfl 108 i0 2 Tryz.underlying103 hi0 hs0 g cap (by simp [Act.eval, Act.put]) cur (by exact hg) ⟨g, k * 2, none⟩ (ls.length - k) (cap - k) ((ls.drop k).flatMap cellsN) (by simp [Act.eval, Act.put]) hll (by exact hsrc) (cellsN_one _) (by omega) (by omega) ?_; intro w4 hg4 hgr4)
      have hc0 : ¬ (cap = ls.length - k) := by omega
      have hs4 : (spl cur 0 ((ls.drop k).flatMap cellsN)).size = cap * 2 := by rw [size_spl _ _ _ (by omega), hcs]
      have HG4 := hide hgr4
      clear hgr4
      go_wp2_with (refine wpList_clear_here _ rfl (.tmp 31) 103 rfl 108 i0 (.agg #[.int .i64 0, .string ByteArray.empty]) 2 Tryz.underlying103 hi0 hz0 rfl (by decide) (by intro j hj; match j, hj with | 0, _ => rfl | 1, _ => rfl) g ((ls.length - k) * 2) (ls.length - (ls.length - k)) (cap - (ls.length - k)) rfl (by omega) (spl cur 0 ((ls.drop k).flatMap cellsN)) hg4 (by omega) ?_; intro w5 zs hzl hg5 hgr5)
      go_ret
      refine ⟨_, rfl, ⟨by rw [hll, hdl], .inr ⟨g, cap, _, by rw [hdl]; rfl, Nat.zero_le _, hg5, by omega, by unfold maxLen; omega, ?_, ?_⟩⟩, ?_, rfl⟩
      · rw [size_spl _ _ _ (by omega), hs4]
      · rw [hdl, ← hll]
        exact spl_head
      · have g4 := unhide HG4
        exact ⟨hgr5.os.trans g4.os, hgr5.tape.trans g4.tape, hgr5.output.trans g4.output, Nat.le_trans g4.size hgr5.size, fun j hj hne' => (hgr5.block j (Nat.lt_of_lt_of_le hj g4.size) hne').trans (g4.block j hj hne')⟩

end Go.Proofs.YtbljamcdaoofbaaGreatDoor

/- The program's queue of sources in memory; its small calls. -/
namespace Go.Proofs.YtbljamcdaoofbaaGreatDoor
open Go.RowKit

/-- lines of one stream that are still to come: labels, lines, the slice that holds them -/
structure Src where
  lab : List UInt8
  lines : List Ln
  vl : Value

def cellsQ (s : Src) : List Value := [SV s.lab, s.vl]

/-- The lines of a source can be read; they lie below base. -/
def LinesAt (w : World) (base : Nat) (s : Src) : Prop :=
  ∃ g o cap, s.vl = .slice (some ⟨g, o, none⟩) s.lines.length cap ∧ s.lines.length ≤ cap ∧ s.lines.length ≤ 300 ∧ cap ≤ maxLen ∧ g < base ∧ (∀ j, j < s.lines.length * 2 → w.cell? ⟨g, o + j, none⟩ = (s.lines.flatMap cellsN)[j]?)

theorem LinesAt.below {w w' : World} {base : Nat} {s : Src} (h : LinesAt w base s) (hb : Below base w w') : LinesAt w' base s := by
  obtain ⟨g, o, cap, h1, h2, hlm, h3, h5, h6⟩ := h
  exact ⟨g, o, cap, h1, h2, hlm, h3, h5, fun j hj => (hb.cell (p := ⟨g, o + j, none⟩) h5).trans (h6 j hj)⟩

/-- the line that comes next -/
def nextLn (bw : Bool) (L : List Ln) : Ln := if bw = true then L.getLastD (0, []) else L.headD (0, [])
/-- the lines behind it -/
def restLn (bw : Bool) (L : List Ln) : List Ln := if bw = true then L.dropLast else L.tail

/-- The queue lies at block qp, with sources ss. -/
structure QAt (w : World) (base qp : Nat) (bw : Bool) (vS : Value) (ss : List Src) : Prop where
  block : w.heap[qp]? = some (.cells #[vS, .bool bw] 123 (0, 0))
  row : w.ownsRow base 105 2 vS ss.length (ss.flatMap cellsQ)
  lines : ∀ s ∈ ss, LinesAt w base s
  full : ∀ s ∈ ss, s.lines ≠ []
  bqp : base ≤ qp
  few : ss.length ≤ 6

def qF (qp : Nat) (vS : Value) : Nat → Prop := fun b => b = qp ∨ vS.ownBlock = some b

theorem QAt.base_le {w : World} {base qp : Nat} {bw : Bool} {vS : Value} {ss : List Src} (h : QAt w base qp bw vS ss) : base ≤ w.heap.size :=
  Nat.le_trans h.bqp (Nat.le_of_lt (Array.getElem?_eq_some_iff.1 h.block).1)

theorem QAt.below {w w' : World} {base qp : Nat} {bw : Bool} {vS : Value} {ss : List Src} (h : QAt w base qp bw vS ss) (hb : Below w.heap.size w w') : QAt w' base qp bw vS ss := by
  refine ⟨?_, ?_, fun s hs => (h.lines s hs).below (hb.mono h.base_le), h.full, h.bqp, h.few⟩
  · rw [hb.block qp (Array.getElem?_eq_some_iff.1 h.block).1]; exact h.block
  · exact ownsRow_same h.row fun b hb' => hb.block b (ownsRow_type h.row hb').1

theorem cellsQ_at (L : List Src) (k : Nat) (h : k < L.length) : (L.flatMap cellsQ)[k * 2]? = some (SV L[k].lab) ∧ (L.flatMap cellsQ)[k * 2 + 1]? = some L[k].vl := by
  induction L generalizing k with
  | nil => simp at h
  | cons x S ih =>
    rw [List.flatMap_cons]
    cases k with
    | zero => simp [cellsQ]
    | succ k =>
      have := ih k (by simpa using h)
      simp only [cellsQ, List.cons_append, List.nil_append, Nat.add_mul, Nat.one_mul, List.getElem?_cons_succ, List.getElem_cons_succ] at this ⊢
      exact this

set_option maxHeartbeats 400000 in
theorem qLen_any {w : World} {base qp : Nat} {bw : Bool} {vS : Value} {ss : List Src} (h : QAt w base qp bw vS ss) :
    Calls Tryz.prog 65 #[.pointer (some ⟨qp, 0, none⟩)] w fun e w' => e = .returned (.int .i64 ss.length) ∧ w' = w := by
  obtain ⟨c0, c1, fz⟩ := cell_of_block2 h.block
  obtain ⟨ao, cap, rfl, -, -, -, -, -, -⟩ := owns_form h.row
  clear h
  go_enter Tryz.func65, Tryz.ntmps65
  go_wp2
  go_ret
  exact ⟨rfl, rfl⟩

theorem nextLn_fw {L : List Ln} (h : L ≠ []) : nextLn false L = L[0]'(List.length_pos_iff.2 h) := by
  cases L with
  | nil => exact absurd rfl h
  | cons x L => rfl
theorem nextLn_bw {L : List Ln} (h : L ≠ []) : nextLn true L = L[L.length - 1]'(by have := List.length_pos_iff.2 h; omega) := by
  simp only [nextLn, if_true]
  rw [List.getLastD_eq_getLast?, List.getLast?_eq_getElem?, List.getElem?_eq_getElem (by have := List.length_pos_iff.2 h; omega)]
  rfl

theorem rowSize : (Tryz.prog.info? 38).map (·.size) = some 3 := by kernel_rfl
theorem srcSize : (Tryz.prog.info? 105).map (·.size) = some 2 := by kernel_rfl
theorem heap_two (w : World) (a b : Obj) : ((w.alloc a).alloc b).heap[w.heap.size + 1]? = some b := by
  have := heap_alloc_new (w.alloc a) b
  simpa using this
theorem heap_two3 (w : World) (a b c : Obj) : (((w.alloc a).alloc b).alloc c).heap[w.heap.size + 1]? = some b :=
  (Go.RowKit.Below.heap_alloc _ c _ (by simp)).trans (heap_two w a b)
theorem below3 (w : World) (a b c : Obj) : Below w.heap.size w (((w.alloc a).alloc b).alloc c) :=
  (((Below.refl _ w).alloc (Nat.le_refl _) a).alloc (by simp) b).alloc (by simp; omega) c
theorem below2 (w : World) (a b : Obj) : Below w.heap.size w ((w.alloc a).alloc b) :=
  ((Below.refl _ w).alloc (Nat.le_refl _) a).alloc (by simp) b

set_option maxRecDepth 10000 in
set_option maxHeartbeats 2000000 in
theorem qNext_any {w : World} {base qp : Nat} {bw : Bool} {vS : Value} (s : Src) (hb : w.heap[qp]? = some (.cells #[vS, .bool bw] 123 (0, 0))) (hs : LinesAt w base s) (hne : s.lines ≠ []) (hbase : base ≤ w.heap.size) :
    Calls Tryz.prog 101 #[.pointer (some ⟨qp, 0, none⟩), .agg #[SV s.lab, s.vl]] w fun e w' => e = .returned (.agg #[SV s.lab, .int .i64 (nextLn bw s.lines).1, SV (nextLn bw s.lines).2]) ∧ Below w.heap.size w w' := by
  obtain ⟨c0, c1, fz⟩ := cell_of_block2 hb
  have hqp := (Array.getElem?_eq_some_iff.1 hb).1
  obtain ⟨g, o, cap, hvl, h2, hlm, h3, h5, h6⟩ := hs
  have hpos := List.length_pos_iff.2 hne
  obtain ⟨a0, a1⟩ := cellsN_at s.lines 0 hpos
  obtain ⟨z0, z1⟩ := cellsN_at s.lines (s.lines.length - 1) (by omega)
  have m0 : w.cell? ⟨g, o, none⟩ = _ := (h6 0 (by omega)).trans a0
  have m1 : w.cell? ⟨g, o + 1, none⟩ = _ := (h6 1 (by omega)).trans a1
  have l0 : w.cell? ⟨g, o + (s.lines.length - 1) * 2, none⟩ = _ := (h6 ((s.lines.length - 1) * 2) (by omega)).trans z0
  have l1 : w.cell? ⟨g, o + (s.lines.length - 1) * 2 + 1, none⟩ = _ := (h6 ((s.lines.length - 1) * 2 + 1) (by omega)).trans z1
  have hgw : g < w.heap.size := by omega
  have HF := hide (nextLn_fw hne)
  have HW := hide (nextLn_bw hne)
  rw [hvl]
  have hq1 : qp < w.heap.size + 1 := by omega
  have hq2 : qp < w.heap.size + 1 + 1 := by omega
  have hq3 : qp < w.heap.size + 2 := by omega
  have hg1 : g < w.heap.size + 1 := by omega
  have hg2 : g < w.heap.size + 1 + 1 := by omega
  have hg3 : g < w.heap.size + 2 := by omega
  clear h6 a0 a1 z0 z1 hvl hb fz c0 h5 hbase
  cases bw with
  | false =>
    go_enter Tryz.func101, Tryz.ntmps101
    go_wp2
    refine bodyPost_ret (results_cell_row (p := 4) (ty := 38) rfl _ _ (w.heap.size + 1) _ _ _ _ rfl (heap_two3 _ _ _ _) Tryz.underlying38 rfl rowSize) rfl ?_
    refine ⟨?_, below3 _ _ _ _⟩
    rw [unhide HF]
  | true =>
    go_enter Tryz.func101, Tryz.ntmps101
    go_wp2
    refine bodyPost_ret (results_cell_row (p := 4) (ty := 38) rfl _ _ (w.heap.size + 1) _ _ _ _ rfl (heap_two3 _ _ _ _) Tryz.underlying38 rfl rowSize) rfl ?_
    refine ⟨?_, below3 _ _ _ _⟩
    rw [unhide HW]

theorem restLn_len (bw : Bool) (L : List Ln) : (restLn bw L).length = L.length - 1 := by
  cases bw <;> simp [restLn]

theorem flat_tail (L : List Ln) (j : Nat) : (L.tail.flatMap cellsN)[j]? = (L.flatMap cellsN)[2 + j]? := by
  cases L with
  | nil => simp
  | cons x L =>
    simp only [List.tail_cons, List.flatMap_cons, cellsN, List.cons_append, List.nil_append]
    rw [show 2 + j = j + 1 + 1 by omega]
    rfl
theorem flat_init (L : List Ln) (j : Nat) (h : j < (L.length - 1) * 2) : (L.dropLast.flatMap cellsN)[j]? = (L.flatMap cellsN)[j]? := by
  by_cases hne : L = []
  · subst hne; rfl
  · have hl : L.flatMap cellsN = L.dropLast.flatMap cellsN ++ cellsN (L.getLast hne) := by
      conv => lhs; rw [← List.dropLast_concat_getLast hne]
      simp
    rw [hl, List.getElem?_append_left]
    have : ∀ M : List Ln, (M.flatMap cellsN).length = M.length * 2 := by
      intro M
      induction M with
      | nil => rfl
      | cons x M ih => simp [cellsN, ih]; omega
    rw [this]
    simpa using h

set_option maxRecDepth 10000 in
set_option maxHeartbeats 2000000 in
theorem qBehind_any {w : World} {base qp : Nat} {bw : Bool} {vS : Value} (s : Src) (hb : w.heap[qp]? = some (.cells #[vS, .bool bw] 123 (0, 0))) (hs : LinesAt w base s) (hne : s.lines ≠ []) (hbase : base ≤ w.heap.size) :
    Calls Tryz.prog 102 #[.pointer (some ⟨qp, 0, none⟩), .agg #[SV s.lab, s.vl]] w fun e w' => ∃ v, e = .returned (.agg #[SV s.lab, v]) ∧ LinesAt w' base ⟨s.lab, restLn bw s.lines, v⟩ ∧ Below w.heap.size w w' := by
  obtain ⟨c0, c1, fz⟩ := cell_of_block2 hb
  have hqp := (Array.getElem?_eq_some_iff.1 hb).1
  have hs0 := hs
  obtain ⟨g, o, cap, hvl, h2, hlm, h3, h5, h6⟩ := hs
  have hpos := List.length_pos_iff.2 hne
  have HRL := hide (restLn_len bw s.lines)
  have HS0 := hide hs0
  have H6 := hide h6
  rw [hvl]
  have hq1 : qp < w.heap.size + 1 := by omega
  clear h6 hvl hb fz c0 hs0
  cases bw with
  | false =>
    by_cases hc : cap = 1
    · subst hc
      go_enter Tryz.func102, Tryz.ntmps102
      go_wp2
      refine bodyPost_ret (results_cell_row (p := 4) (ty := 105) rfl _ _ (w.heap.size + 1) _ _ _ _ rfl (heap_two _ _ _) Tryz.underlying105 rfl srcSize) rfl ?_
      refine ⟨_, rfl, ⟨g, o, 0, ?_, ?_, ?_, by unfold maxLen; omega, h5, ?_⟩, below2 _ _ _⟩
      · rw [show (⟨s.lab, restLn false s.lines, _⟩ : Src).lines.length = s.lines.length - 1 from unhide HRL, show s.lines.length - 1 = 0 by omega]
      · rw [show (⟨s.lab, restLn false s.lines, _⟩ : Src).lines.length = s.lines.length - 1 from unhide HRL]; omega
      · rw [show (⟨s.lab, restLn false s.lines, _⟩ : Src).lines.length = s.lines.length - 1 from unhide HRL]; omega
      · intro j hj
        rw [show (⟨s.lab, restLn false s.lines, _⟩ : Src).lines.length = s.lines.length - 1 from unhide HRL] at hj
        omega
    · go_enter Tryz.func102, Tryz.ntmps102
      go_wp2
      refine bodyPost_ret (results_cell_row (p := 4) (ty := 105) rfl _ _ (w.heap.size + 1) _ _ _ _ rfl (heap_two _ _ _) Tryz.underlying105 rfl srcSize) rfl ?_
      refine ⟨_, rfl, ⟨g, o + 2, cap - 1, ?_, ?_, ?_, by omega, h5, ?_⟩, below2 _ _ _⟩
      · rw [show (⟨s.lab, restLn false s.lines, _⟩ : Src).lines.length = s.lines.length - 1 from unhide HRL]
      · rw [show (⟨s.lab, restLn false s.lines, _⟩ : Src).lines.length = s.lines.length - 1 from unhide HRL]; omega
      · rw [show (⟨s.lab, restLn false s.lines, _⟩ : Src).lines.length = s.lines.length - 1 from unhide HRL]; omega
      · intro j hj
        rw [show (⟨s.lab, restLn false s.lines, _⟩ : Src).lines.length = s.lines.length - 1 from unhide HRL] at hj
        refine ((below2 w _ _).cell (p := ⟨g, o + 2 + j, none⟩) (by show g < _; omega)).trans ?_
        rw [show o + 2 + j = o + (2 + j) by omega, unhide H6 _ (by omega)]
        exact (flat_tail s.lines j).symm
  | true =>
    go_enter Tryz.func102, Tryz.ntmps102
    go_wp2
    refine bodyPost_ret (results_cell_row (p := 4) (ty := 105) rfl _ _ (w.heap.size + 1) _ _ _ _ rfl (heap_two _ _ _) Tryz.underlying105 rfl srcSize) rfl ?_
    refine ⟨_, rfl, ⟨g, o, cap, ?_, ?_, ?_, h3, h5, ?_⟩, below2 _ _ _⟩
    · rw [show (⟨s.lab, restLn true s.lines, _⟩ : Src).lines.length = s.lines.length - 1 from unhide HRL]
    · rw [show (⟨s.lab, restLn true s.lines, _⟩ : Src).lines.length = s.lines.length - 1 from unhide HRL]; omega
    · rw [show (⟨s.lab, restLn true s.lines, _⟩ : Src).lines.length = s.lines.length - 1 from unhide HRL]; omega
    · intro j hj
      rw [show (⟨s.lab, restLn true s.lines, _⟩ : Src).lines.length = s.lines.length - 1 from unhide HRL] at hj
      refine ((below2 w _ _).cell (p := ⟨g, o + j, none⟩) (by show g < _; omega)).trans ?_
      rw [unhide H6 _ (by omega)]
      exact (flat_init s.lines j hj).symm

end Go.Proofs.YtbljamcdaoofbaaGreatDoor

/- The program's Drop. -/
namespace Go.Proofs.YtbljamcdaoofbaaGreatDoor
open Go.RowKit

/-- times never fall -/
def InOrder (ls : List Ln) : Prop := ls.Pairwise (fun a b => a.1 ≤ b.1)
/-- how many lines are below a time -/
def goneN (ls : List Ln) (b : Int) : Nat := (ls.filter (fun x => decide (x.1 < b))).length

theorem gone_split {ls : List Ln} (b : Int) (r : Nat) (hr : r ≤ ls.length) (h1 : ∀ j (hj : j < ls.length), j < r → ls[j].1 < b) (h2 : ∀ j (hj : j < ls.length), r ≤ j → b ≤ ls[j].1) : goneN ls b = r ∧ ls.filter (fun x => decide (b ≤ x.1)) = ls.drop r := by
  have e1 : (ls.take r).filter (fun x => decide (x.1 < b)) = ls.take r := by
    rw [List.filter_eq_self]
    intro n hn
    obtain ⟨j, hj, rfl⟩ := List.getElem_of_mem hn
    simp only [List.length_take] at hj
    rw [List.getElem_take]
    simpa using h1 j (by omega) (by omega)
  have e2 : (ls.drop r).filter (fun x => decide (x.1 < b)) = [] := by
    rw [List.filter_eq_nil_iff]
    intro n hn
    obtain ⟨j, hj, rfl⟩ := List.getElem_of_mem hn
    simp only [List.length_drop] at hj
    rw [List.getElem_drop]
    simpa using h2 (r + j) (by omega) (by omega)
  have e3 : (ls.take r).filter (fun x => decide (b ≤ x.1)) = [] := by
    rw [List.filter_eq_nil_iff]
    intro n hn
    obtain ⟨j, hj, rfl⟩ := List.getElem_of_mem hn
    simp only [List.length_take] at hj
    rw [List.getElem_take]
    simpa using h1 j (by omega) (by omega)
  have e4 : (ls.drop r).filter (fun x => decide (b ≤ x.1)) = ls.drop r := by
    rw [List.filter_eq_self]
    intro n hn
    obtain ⟨j, hj, rfl⟩ := List.getElem_of_mem hn
    simp only [List.length_drop] at hj
    rw [List.getElem_drop]
    simpa using h2 (r + j) (by omega) (by omega)
  constructor
  · unfold goneN
    conv => lhs; rw [← List.take_append_drop r ls]
    rw [List.filter_append, e1, e2]
    simp; omega
  · conv => lhs; rw [← List.take_append_drop r ls]
    rw [List.filter_append, e3, e4, List.nil_append]

theorem order_mono {ls : List Ln} (h : InOrder ls) {i j : Nat} (hij : i ≤ j) (hj : j < ls.length) : (ls[i]'(by omega)).1 ≤ ls[j].1 := by
  rcases Nat.lt_or_eq_of_le hij with hlt | rfl
  · exact List.pairwise_iff_getElem.1 h i j (by omega) hj hlt
  · exact Int.le_refl _

set_option maxRecDepth 10000 in
set_option maxHeartbeats 1000000 in
theorem drop1_any {w : World} {n : Node} {bs bb i : Nat} {b : Int} (h : NodeAt w n) (hbs : w.cell? ⟨bs, 0, none⟩ = some (.pointer (some ⟨n.blk, 0, none⟩))) (hbb : w.cell? ⟨bb, 0, none⟩ = some (.int .i64 b)) (hi : i < n.lines.length) (hn : n.lines.length ≤ 300) :
    Calls Tryz.prog 71 #[.int .i64 i, .pointer (some ⟨bs, 0, none⟩), .pointer (some ⟨bb, 0, none⟩)] w fun e w' => e = .returned (.bool (decide (b ≤ n.lines[i].1))) ∧ ∃ k, w' = w.drewN k := by
  obtain ⟨c0, c1, c2, fz⟩ := cell_of_block3 h.block
  obtain ⟨g, cap, hv, -, hgw, hnc, hcm, hcell, hfz⟩ := owns_open h.row (by omega)
  rw [hv] at c2
  have hc := hcell (i * 2) (by omega)
  rw [(cellsN_at n.lines i hi).1] at hc
  have hii : (i : Int) < (n.lines.length : Int) := by omega
  clear hcell hfz fz hv
  go_enter Tryz.func71, Tryz.ntmps71
  go_wp2
  go_quiet (fail)
  go_wp2
  go_ret
  exact ⟨rfl, _, rfl⟩

set_option maxRecDepth 10000 in
set_option maxHeartbeats 2000000 in
theorem sortSearch_any {w : World} {n : Node} {bs bb : Nat} {b : Int} (h : NodeAt w n) (hbs : w.cell? ⟨bs, 0, none⟩ = some (.pointer (some ⟨n.blk, 0, none⟩))) (hbb : w.cell? ⟨bb, 0, none⟩ = some (.int .i64 b)) (hn : n.lines.length ≤ 300) (hs : InOrder n.lines) :
    Calls Tryz.prog 70 #[.int .i64 n.lines.length, .func (.func 71) #[] #[.pointer (some ⟨bs, 0, none⟩), .pointer (some ⟨bb, 0, none⟩)]] w fun e w' => (∃ r : Nat, e = .returned (.int .i64 r) ∧ r ≤ n.lines.length ∧ goneN n.lines b = r ∧ n.lines.filter (fun x => decide (b ≤ x.1)) = n.lines.drop r) ∧ ∃ k, w' = w.drewN k := by
  have HH := hide h
  have HBS := hide hbs
  have HBB := hide hbb
  have HS := hide hs
  clear h hbs hbb hs
  go_enter Tryz.func70, Tryz.ntmps70
  go_wp2
  go_loopw [5, 6] (fun i j wr => ∃ a c : Nat, a ≤ c ∧ c ≤ n.lines.length ∧ i = .int .i64 a ∧ j = .int .i64 c ∧ (∀ k (hk : k < n.lines.length), k < a → n.lines[k].1 < b) ∧ (∀ k (hk : k < n.lines.length), c ≤ k → b ≤ n.lines[k].1) ∧ ∃ m, wr = w.drewN m) (fun i j _ => (intOf j).toNat - (intOf i).toNat)
  case atStart => exact ⟨0, n.lines.length, by omega, by omega, rfl, rfl, fun k _ h => by omega, fun k hk h => by omega, 0, rfl⟩
  case round =>
    obtain ⟨a, c, hac, hc, rfl, rfl, h1, h2, m, rfl⟩ := hrel
    have H1 := hide h1
    have H2 := hide h2
    clear h1 h2
    by_cases hlt : a < c
    · go_upto_region 4 with fail
      obtain ⟨hm1, hm2⟩ := mid_bounds hlt
      rw [show ((a : Int) + (c : Int)) / 2 = (((a + c) / 2 : Nat) : Int) by omega]
      generalize (a + c) / 2 = q at *
      have hql : q < n.lines.length := by omega
      have HND := hide ((unhide HH).keep (w' := w.drewN m) rfl (fun _ _ => rfl))
      by_cases hb : b ≤ n.lines[q].1
      · have hd : decide (b ≤ n.lines[q].1) = true := by simpa using hb
        go_wp2_with (go_at_call 71; refine (drop1_any (unhide HND) (unhide HBS) (unhide HBB) hql hn).mono ?_; rintro e w' ⟨rfl, k, rfl⟩)
        go_roundw
        case rel =>
          refine ⟨a, q, by omega, by omega, rfl, rfl, unhide H1, fun j hj hqj => ?_, m + k, by simp [World.drewN]⟩
          exact Int.le_trans hb (order_mono (unhide HS) hqj hj)
        case measure => simp [intOf]; omega
      · have hd : decide (b ≤ n.lines[q].1) = false := by simpa using hb
        go_wp2_with (go_at_call 71; refine (drop1_any (unhide HND) (unhide HBS) (unhide HBB) hql hn).mono ?_; rintro e w' ⟨rfl, k, rfl⟩)
        go_roundw
        case rel =>
          refine ⟨q + 1, c, by omega, by omega, by go_num, rfl, fun j hj hjq => ?_, unhide H2, m + k, by simp [World.drewN]⟩
          have := order_mono (unhide HS) (show j ≤ q by omega) hql
          omega
        case measure => simp [intOf]; omega
    · have he : a = c := by omega
      subst he
      go_wp2
      go_ret
      obtain ⟨e1, e2⟩ := gone_split b a hc (unhide H1) (unhide H2)
      exact ⟨⟨a, rfl, hc, e1, e2⟩, m, rfl⟩


theorem NodeAt.dropped {w w0 w1 : World} {n : Node} {v' : Value} {k : Nat} (h : NodeAt w0 n) (hm0 : Moved (nodeF n) w w0)
    (hr : w1.ownsRow 0 108 2 v' (n.lines.drop k).length ((n.lines.drop k).flatMap cellsN)) (hg : w0.grownBy w1 n.vl.ownBlock) :
    NodeAt (w1.setCell ⟨n.blk, 2, none⟩ v') { n with lines := n.lines.drop k, vl := v' } ∧ w1.cell? ⟨n.blk, 2, none⟩ = some n.vl ∧ w1.frozen? ⟨n.blk, 2, none⟩ = false ∧ Moved (nodeF n) w (w1.setCell ⟨n.blk, 2, none⟩ v') := by
  have hm1 : Moved (nodeF n) w w1 := hm0.grown hg (fun b hb => .inl (.inr hb))
  have hp2 : w1.heap[n.blk]? = some (.cells #[SV n.lab, .int .i64 n.latest, n.vl] 118 (0, 0)) := by
    rw [hg.block n.blk h.lt (fun e => ?_), h.block]
    obtain ⟨_, cur, hc⟩ := ownsRow_type h.row e.symm
    exact ne_of_type hc h.block (by decide) rfl
  obtain ⟨_, _, c2, hf⟩ := cell_of_block3 hp2
  refine ⟨⟨block3_set2 hp2 v', ?_⟩, c2, hf 2, hm1.setCell (.inl (.inl rfl)) _⟩
  refine ownsRow_same hr fun g hgo => Go.RowKit.Below.heap_setCell _ _ _ _ ?_
  obtain ⟨_, cur, hc⟩ := ownsRow_type hr hgo
  exact ne_of_type hc hp2 (by decide)

theorem drewN_NodeAt {w : World} {n : Node} (h : NodeAt w n) (m : Nat) : NodeAt (w.drewN m) n := h.keep rfl (fun _ _ => rfl)

set_option maxRecDepth 10000 in
set_option maxHeartbeats 4000000 in
theorem sDrop_any {w : World} {n : Node} (b : Int) (h : NodeAt w n) (hn : n.lines.length ≤ 300) (hs : InOrder n.lines) :
    Calls Tryz.prog 44 #[.pointer (some ⟨n.blk, 0, none⟩), .int .i64 b] w fun e w' =>
      e = .returned (.int .i64 (goneN n.lines b)) ∧ ∃ v', NodeAt w' { n with lines := n.lines.filter (fun x => decide (b ≤ x.1)), vl := v' } ∧ (∀ g, v'.ownBlock = some g → n.vl.ownBlock = some g ∨ w.heap.size ≤ g) ∧ Moved (nodeF n) w w' := by
  have hlt := h.lt
  have hm2 : Moved (nodeF n) w ((w.alloc (.cells #[.pointer (some ⟨n.blk, 0, none⟩)] 79)).alloc (.cells #[.int .i64 b] 3)) := ((Moved.refl _ w).alloc _).alloc _
  have h2 : NodeAt ((w.alloc (.cells #[.pointer (some ⟨n.blk, 0, none⟩)] 79)).alloc (.cells #[.int .i64 b] 3)) n :=
    h.keep (by rw [Go.RowKit.Below.heap_alloc _ _ _ (by simp; omega), Go.RowKit.Below.heap_alloc _ _ _ hlt]) (fun g hg => by
      have := (ownsRow_type h.row hg).1
      rw [Go.RowKit.Below.heap_alloc _ _ _ (by simp; omega), Go.RowKit.Below.heap_alloc _ _ _ this])
  have b1 : ((w.alloc (.cells #[.pointer (some ⟨n.blk, 0, none⟩)] 79)).alloc (.cells #[.int .i64 b] 3)).heap[w.heap.size]? = some (.cells #[.pointer (some ⟨n.blk, 0, none⟩)] 79 (0, 0)) := by
    rw [Go.RowKit.Below.heap_alloc _ _ _ (by simp)]; exact heap_alloc_new w _
  have b2 := two_new w (.cells #[.pointer (some ⟨n.blk, 0, none⟩)] 79) (.cells #[.int .i64 b] 3)
  have hs2 : ((w.alloc (.cells #[.pointer (some ⟨n.blk, 0, none⟩)] 79)).alloc (.cells #[.int .i64 b] 3)).heap.size = w.heap.size + 2 := by simp
  clear h
  go_enter Tryz.func44, Tryz.ntmps44
  go_upto_region 1 with fail
  generalize (w.alloc (.cells #[.pointer (some ⟨n.blk, 0, none⟩)] 79)).alloc (.cells #[.int .i64 b] 3) = W at *
  obtain ⟨p1, -⟩ := cell_of_block1 b1
  obtain ⟨p2, -⟩ := cell_of_block1 b2
  obtain ⟨c0, c1, c2, fz⟩ := cell_of_block3 h2.block
  obtain ⟨ao, cap, hv, -, -, -, -, -, -⟩ := owns_form h2.row
  rw [hv] at c2
  have HV := hide hv
  have HH := hide h2
  have b2' := b2
  clear hv fz h2 b2
  go_wp2_with fail
  refine (sortSearch_any (unhide HH) p1 p2 hn hs).mono ?_
  rintro e w2 ⟨⟨r, rfl, hr, hgone, hflt⟩, k, rfl⟩
  have HG := hide hgone
  have HF := hide hflt
  have hrow := (unhide HH).row
  rw [unhide HV] at hrow
  have hh : ∀ j : Nat, (W.drewN j).heap = W.heap := fun _ => rfl
  have HNK := hide (drewN_NodeAt (unhide HH) (k + 1))
  have hmk : Moved (nodeF n) w (W.drewN (k + 1)) := hm2.drawn _
  have hown : ∀ g, n.vl.ownBlock = some g → g < w.heap.size := fun g hg => by
    obtain ⟨hl, cur, hc⟩ := ownsRow_type (unhide HH).row hg
    have h1 : g ≠ w.heap.size := ne_of_type hc b1 (by decide)
    have h2 : g ≠ w.heap.size + 1 := ne_of_type hc b2' (by decide)
    omega
  have HO := hide hown
  clear hgone hflt hown hh
  go_upto_region 2 with fail
  go_region_law (go_simp; go_at_call 72; refine (delete_any (by exact hrow) hr hn).mono ?_; rintro e w5 ⟨v5, rfl, hr5, hg5, hv5⟩; obtain ⟨a5, cap5, rfl, -, -, -, -, -, -⟩ := owns_form hr5; rw [← unhide HV] at hg5 hv5; have p5 : w5.cell? ⟨w.heap.size, 0, none⟩ = some (.pointer (some ⟨n.blk, 0, none⟩)) := (World.cell?_of_block (hg5.block w.heap.size (by show w.heap.size < W.heap.size; omega) (fun e => by have := unhide HO _ e.symm; omega))).trans p1; obtain ⟨hfin, e2, ef, hmf⟩ := NodeAt.dropped (k := r) (unhide HNK) hmk hr5 hg5; rw [unhide HV] at e2; clear hg5 hr5; dsimp only)
  all_goals
    go_wp2
    go_ret
    rw [List.length_drop] at hfin hmf hv5
    refine ⟨ret_int (by rw [unhide HG]), .slice a5 (n.lines.length - r) cap5, ?_, ?_, hmf⟩
    · rw [unhide HF]
      exact hfin
    · intro g hg
      left
      rw [← hv5]
      exact hg

end Go.Proofs.YtbljamcdaoofbaaGreatDoor
