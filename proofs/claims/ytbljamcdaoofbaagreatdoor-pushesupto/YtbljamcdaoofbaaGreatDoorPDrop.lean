/- The program's Drop. -/
import Derived.Test.YtbljamcdaoofbaaGreatDoorPDelete
namespace Go.Proofs.YtbljamcdaoofbaaGreatDoor
open Go.RowKit

/-- times never fall -/
def InOrder (ls : List Ln) : Prop := ls.Pairwise (fun a b => a.1 ≤ b.1)
/-- how many lines are below a time -/
def goneN (ls : List Ln) (b : Int) : Nat := (ls.filter (fun x => decide (x.1 < b))).length

theorem gone_split {ls : List Ln} (b : Int) (r : Nat) (hr : r ≤ ls.length) (h1 : ∀ j (hj : j < ls.length), j < r → ls[j].1 < b) (h2 : ∀ j (hj : j < ls.length), r ≤ j → b ≤ ls[j].1) : goneN ls b = r ∧ ls.filter (fun x => decide (b ≤ x.1)) = ls.drop r := by
  have e1 : (ls.take r).filter (fun x => decide (x.1 < b)) = ls.take r := by
    rw [List.filter_eq_self]
    intro n hn
    obtain ⟨j, hj, rfl⟩ := List.getElem_of_mem hn
    simp only [List.length_take] at hj
    rw [List.getElem_take]
    simpa using h1 j (by omega) (by omega)
  have e2 : (ls.drop r).filter (fun x => decide (x.1 < b)) = [] := by
    rw [List.filter_eq_nil_iff]
    intro n hn
    obtain ⟨j, hj, rfl⟩ := List.getElem_of_mem hn
    simp only [List.length_drop] at hj
    rw [List.getElem_drop]
    simpa using h2 (r + j) (by omega) (by omega)
  have e3 : (ls.take r).filter (fun x => decide (b ≤ x.1)) = [] := by
    rw [List.filter_eq_nil_iff]
    intro n hn
    obtain ⟨j, hj, rfl⟩ := List.getElem_of_mem hn
    simp only [List.length_take] at hj
    rw [List.getElem_take]
    simpa using h1 j (by omega) (by omega)
  have e4 : (ls.drop r).filter (fun x => decide (b ≤ x.1)) = ls.drop r := by
    rw [List.filter_eq_self]
    intro n hn
    obtain ⟨j, hj, rfl⟩ := List.getElem_of_mem hn
    simp only [List.length_drop] at hj
    rw [List.getElem_drop]
    simpa using h2 (r + j) (by omega) (by omega)
  constructor
  · unfold goneN
    conv => lhs; rw [← List.take_append_drop r ls]
    rw [List.filter_append, e1, e2]
    simp; omega
  · conv => lhs; rw [← List.take_append_drop r ls]
    rw [List.filter_append, e3, e4, List.nil_append]

theorem order_mono {ls : List Ln} (h : InOrder ls) {i j : Nat} (hij : i ≤ j) (hj : j < ls.length) : (ls[i]'(by omega)).1 ≤ ls[j].1 := by
  rcases Nat.lt_or_eq_of_le hij with hlt | rfl
  · exact List.pairwise_iff_getElem.1 h i j (by omega) hj hlt
  · exact Int.le_refl _

set_option maxRecDepth 10000 in
set_option maxHeartbeats 1000000 in
theorem drop1_any {w : World} {n : Node} {bs bb i : Nat} {b : Int} (h : NodeAt w n) (hbs : w.cell? ⟨bs, 0, none⟩ = some (.pointer (some ⟨n.blk, 0, none⟩))) (hbb : w.cell? ⟨bb, 0, none⟩ = some (.int .i64 b)) (hi : i < n.lines.length) (hn : n.lines.length ≤ 300) :
    Calls Tryz.prog 71 #[.int .i64 i, .pointer (some ⟨bs, 0, none⟩), .pointer (some ⟨bb, 0, none⟩)] w fun e w' => e = .returned (.bool (decide (b ≤ n.lines[i].1))) ∧ ∃ k, w' = w.drewN k := by
  obtain ⟨c0, c1, c2, fz⟩ := cell_of_block3 h.block
  obtain ⟨g, cap, hv, -, hgw, hnc, hcm, hcell, hfz⟩ := owns_open h.row (by omega)
  rw [hv] at c2
  have hc := hcell (i * 2) (by omega)
  rw [(cellsN_at n.lines i hi).1] at hc
  have hii : (i : Int) < (n.lines.length : Int) := by omega
  clear hcell hfz fz hv
  go_enter Tryz.func71, Tryz.ntmps71
  go_wp2
  go_quiet (fail)
  go_wp2
  go_ret
  exact ⟨rfl, _, rfl⟩

set_option maxRecDepth 10000 in
set_option maxHeartbeats 2000000 in
theorem sortSearch_any {w : World} {n : Node} {bs bb : Nat} {b : Int} (h : NodeAt w n) (hbs : w.cell? ⟨bs, 0, none⟩ = some (.pointer (some ⟨n.blk, 0, none⟩))) (hbb : w.cell? ⟨bb, 0, none⟩ = some (.int .i64 b)) (hn : n.lines.length ≤ 300) (hs : InOrder n.lines) :
    Calls Tryz.prog 70 #[.int .i64 n.lines.length, .func (.func 71) #[] #[.pointer (some ⟨bs, 0, none⟩), .pointer (some ⟨bb, 0, none⟩)]] w fun e w' => (∃ r : Nat, e = .returned (.int .i64 r) ∧ r ≤ n.lines.length ∧ goneN n.lines b = r ∧ n.lines.filter (fun x => decide (b ≤ x.1)) = n.lines.drop r) ∧ ∃ k, w' = w.drewN k := by
  have HH := hide h
  have HBS := hide hbs
  have HBB := hide hbb
  have HS := hide hs
  clear h hbs hbb hs
  go_enter Tryz.func70, Tryz.ntmps70
  go_wp2
  go_loopw [5, 6] (fun i j wr => ∃ a c : Nat, a ≤ c ∧ c ≤ n.lines.length ∧ i = .int .i64 a ∧ j = .int .i64 c ∧ (∀ k (hk : k < n.lines.length), k < a → n.lines[k].1 < b) ∧ (∀ k (hk : k < n.lines.length), c ≤ k → b ≤ n.lines[k].1) ∧ ∃ m, wr = w.drewN m) (fun i j _ => (intOf j).toNat - (intOf i).toNat)
  case atStart => exact ⟨0, n.lines.length, by omega, by omega, rfl, rfl, fun k _ h => by omega, fun k hk h => by omega, 0, rfl⟩
  case round =>
    obtain ⟨a, c, hac, hc, rfl, rfl, h1, h2, m, rfl⟩ := hrel
    have H1 := hide h1
    have H2 := hide h2
    clear h1 h2
    by_cases hlt : a < c
    · go_upto_region 4 with fail
      obtain ⟨hm1, hm2⟩ := mid_bounds hlt
      rw [show ((a : Int) + (c : Int)) / 2 = (((a + c) / 2 : Nat) : Int) by omega]
      generalize (a + c) / 2 = q at *
      have hql : q < n.lines.length := by omega
      have HND := hide ((unhide HH).keep (w' := w.drewN m) rfl (fun _ _ => rfl))
      by_cases hb : b ≤ n.lines[q].1
      · have hd : decide (b ≤ n.lines[q].1) = true := by simpa using hb
        go_wp2_with (go_at_call 71; refine (drop1_any (unhide HND) (unhide HBS) (unhide HBB) hql hn).mono ?_; rintro e w' ⟨rfl, k, rfl⟩)
        go_roundw
        case rel =>
          refine ⟨a, q, by omega, by omega, rfl, rfl, unhide H1, fun j hj hqj => ?_, m + k, by simp [World.drewN]⟩
          exact Int.le_trans hb (order_mono (unhide HS) hqj hj)
        case measure => simp [intOf]; omega
      · have hd : decide (b ≤ n.lines[q].1) = false := by simpa using hb
        go_wp2_with (go_at_call 71; refine (drop1_any (unhide HND) (unhide HBS) (unhide HBB) hql hn).mono ?_; rintro e w' ⟨rfl, k, rfl⟩)
        go_roundw
        case rel =>
          refine ⟨q + 1, c, by omega, by omega, by go_num, rfl, fun j hj hjq => ?_, unhide H2, m + k, by simp [World.drewN]⟩
          have := order_mono (unhide HS) (show j ≤ q by omega) hql
          omega
        case measure => simp [intOf]; omega
    · have he : a = c := by omega
      subst he
      go_wp2
      go_ret
      obtain ⟨e1, e2⟩ := gone_split b a hc (unhide H1) (unhide H2)
      exact ⟨⟨a, rfl, hc, e1, e2⟩, m, rfl⟩


theorem NodeAt.dropped {w w0 w1 : World} {n : Node} {v' : Value} {k : Nat} (h : NodeAt w0 n) (hm0 : Moved (nodeF n) w w0)
    (hr : w1.ownsRow 0 108 2 v' (n.lines.drop k).length ((n.lines.drop k).flatMap cellsN)) (hg : w0.grownBy w1 n.vl.ownBlock) :
    NodeAt (w1.setCell ⟨n.blk, 2, none⟩ v') { n with lines := n.lines.drop k, vl := v' } ∧ w1.cell? ⟨n.blk, 2, none⟩ = some n.vl ∧ w1.frozen? ⟨n.blk, 2, none⟩ = false ∧ Moved (nodeF n) w (w1.setCell ⟨n.blk, 2, none⟩ v') := by
  have hm1 : Moved (nodeF n) w w1 := hm0.grown hg (fun b hb => .inl (.inr hb))
  have hp2 : w1.heap[n.blk]? = some (.cells #[SV n.lab, .int .i64 n.latest, n.vl] 118 (0, 0)) := by
    rw [hg.block n.blk h.lt (fun e => ?_), h.block]
    obtain ⟨_, cur, hc⟩ := ownsRow_type h.row e.symm
    exact ne_of_type hc h.block (by decide) rfl
  obtain ⟨_, _, c2, hf⟩ := cell_of_block3 hp2
  refine ⟨⟨block3_set2 hp2 v', ?_⟩, c2, hf 2, hm1.setCell (.inl (.inl rfl)) _⟩
  refine ownsRow_same hr fun g hgo => Go.RowKit.Below.heap_setCell _ _ _ _ ?_
  obtain ⟨_, cur, hc⟩ := ownsRow_type hr hgo
  exact ne_of_type hc hp2 (by decide)

theorem drewN_NodeAt {w : World} {n : Node} (h : NodeAt w n) (m : Nat) : NodeAt (w.drewN m) n := h.keep rfl (fun _ _ => rfl)

set_option maxRecDepth 10000 in
set_option maxHeartbeats 4000000 in
theorem sDrop_any {w : World} {n : Node} (b : Int) (h : NodeAt w n) (hn : n.lines.length ≤ 300) (hs : InOrder n.lines) :
    Calls Tryz.prog 44 #[.pointer (some ⟨n.blk, 0, none⟩), .int .i64 b] w fun e w' =>
      e = .returned (.int .i64 (goneN n.lines b)) ∧ ∃ v', NodeAt w' { n with lines := n.lines.filter (fun x => decide (b ≤ x.1)), vl := v' } ∧ (∀ g, v'.ownBlock = some g → n.vl.ownBlock = some g ∨ w.heap.size ≤ g) ∧ Moved (nodeF n) w w' := by
  have hlt := h.lt
  have hm2 : Moved (nodeF n) w ((w.alloc (.cells #[.pointer (some ⟨n.blk, 0, none⟩)] 79)).alloc (.cells #[.int .i64 b] 3)) := ((Moved.refl _ w).alloc _).alloc _
  have h2 : NodeAt ((w.alloc (.cells #[.pointer (some ⟨n.blk, 0, none⟩)] 79)).alloc (.cells #[.int .i64 b] 3)) n :=
    h.keep (by rw [Go.RowKit.Below.heap_alloc _ _ _ (by simp; omega), Go.RowKit.Below.heap_alloc _ _ _ hlt]) (fun g hg => by
      have := (ownsRow_type h.row hg).1
      rw [Go.RowKit.Below.heap_alloc _ _ _ (by simp; omega), Go.RowKit.Below.heap_alloc _ _ _ this])
  have b1 : ((w.alloc (.cells #[.pointer (some ⟨n.blk, 0, none⟩)] 79)).alloc (.cells #[.int .i64 b] 3)).heap[w.heap.size]? = some (.cells #[.pointer (some ⟨n.blk, 0, none⟩)] 79 (0, 0)) := by
    rw [Go.RowKit.Below.heap_alloc _ _ _ (by simp)]; exact heap_alloc_new w _
  have b2 := two_new w (.cells #[.pointer (some ⟨n.blk, 0, none⟩)] 79) (.cells #[.int .i64 b] 3)
  have hs2 : ((w.alloc (.cells #[.pointer (some ⟨n.blk, 0, none⟩)] 79)).alloc (.cells #[.int .i64 b] 3)).heap.size = w.heap.size + 2 := by simp
  clear h
  go_enter Tryz.func44, Tryz.ntmps44
  go_upto_region 1 with fail
  generalize (w.alloc (.cells #[.pointer (some ⟨n.blk, 0, none⟩)] 79)).alloc (.cells #[.int .i64 b] 3) = W at *
  obtain ⟨p1, -⟩ := cell_of_block1 b1
  obtain ⟨p2, -⟩ := cell_of_block1 b2
  obtain ⟨c0, c1, c2, fz⟩ := cell_of_block3 h2.block
  obtain ⟨ao, cap, hv, -, -, -, -, -, -⟩ := owns_form h2.row
  rw [hv] at c2
  have HV := hide hv
  have HH := hide h2
  have b2' := b2
  clear hv fz h2 b2
  go_wp2_with fail
  refine (sortSearch_any (unhide HH) p1 p2 hn hs).mono ?_
  rintro e w2 ⟨⟨r, rfl, hr, hgone, hflt⟩, k, rfl⟩
  have HG := hide hgone
  have HF := hide hflt
  have hrow := (unhide HH).row
  rw [unhide HV] at hrow
  have hh : ∀ j : Nat, (W.drewN j).heap = W.heap := fun _ => rfl
  have HNK := hide (drewN_NodeAt (unhide HH) (k + 1))
  have hmk : Moved (nodeF n) w (W.drewN (k + 1)) := hm2.drawn _
  have hown : ∀ g, n.vl.ownBlock = some g → g < w.heap.size := fun g hg => by
    obtain ⟨hl, cur, hc⟩ := ownsRow_type (unhide HH).row hg
    have h1 : g ≠ w.heap.size := ne_of_type hc b1 (by decide)
    have h2 : g ≠ w.heap.size + 1 := ne_of_type hc b2' (by decide)
    omega
  have HO := hide hown
  clear hgone hflt hown hh
  go_upto_region 2 with fail
  go_region_law (go_simp; go_at_call 72; refine (delete_any (by exact hrow) hr hn).mono ?_; rintro e w5 ⟨v5, rfl, hr5, hg5, hv5⟩; obtain ⟨a5, cap5, rfl, -, -, -, -, -, -⟩ := owns_form hr5; rw [← unhide HV] at hg5 hv5; have p5 : w5.cell? ⟨w.heap.size, 0, none⟩ = some (.pointer (some ⟨n.blk, 0, none⟩)) := (World.cell?_of_block (hg5.block w.heap.size (by show w.heap.size < W.heap.size; omega) (fun e => by have := unhide HO _ e.symm; omega))).trans p1; obtain ⟨hfin, e2, ef, hmf⟩ := NodeAt.dropped (k := r) (unhide HNK) hmk hr5 hg5; rw [unhide HV] at e2; clear hg5 hr5; dsimp only)
  all_goals
    go_wp2
    go_ret
    rw [List.length_drop] at hfin hmf hv5
    refine ⟨ret_int (by rw [unhide HG]), .slice a5 (n.lines.length - r) cap5, ?_, ?_, hmf⟩
    · rw [unhide HF]
      exact hfin
    · intro g hg
      left
      rw [← hv5]
      exact hg

end Go.Proofs.YtbljamcdaoofbaaGreatDoor
