/- The program's stream: a new one, and one line more. -/
import Derived.Test.YtbljamcdaoofbaaGreatDoorPFind
import Derived.Deep.RegionLaw
namespace Go.Proofs.YtbljamcdaoofbaaGreatDoor
open Go.RowKit

theorem Tryz.info108 : (Tryz.prog.info? 108).map (fun i => (i.zero, i.size, i.bytes)) = some (some (.agg #[.int .i64 0, .string ByteArray.empty]), 2, 24) := by kernel_rfl
theorem Tryz.info79 : (Tryz.prog.info? 79).map (fun i => (i.zero, i.size, i.bytes)) = some (some (.pointer none), 1, 8) := by kernel_rfl

/-- an append as one step of a region that draws its order -/
theorem step_append_at {P : Program} {ops : Array Oper} {o : Oper} {a : Act} {w : World} {K : Act → World → Prop} {Q : Exit → Act → World → Prop} {E : Prop}
    (hgd : o.guard = none) (s x : Operand) (t : TypeId)
    (ho : o.op = .call { callee := .builtin .append, args := #[s, x], argTypes := #[t, t] })
    (base : Nat) (e : TypeId) (i : TypeInfo) (z : Value) (size bytes : Nat) (ht : P.underlying t = some (.slice e)) (hi : P.info? e = some i) (hz : i.zero = some z)
    (hsize : i.size = size) (hby : i.bytes = bytes) (hzs : z.cells.size = size) (hsz : 0 < size)
    (v : Value) (n : Nat) (xs : List Value) (hs : a.eval s = v) (hown : w.ownsRow base e size v n xs)
    (ao : Option Addr) (m c : Nat) (news : List Value) (hx : a.eval x = .slice ao m c) (hl : news.length = m * size) (hno : ao = none → m = 0 ∧ c = 0)
    (hnews : ∀ a, ao = some a → ∀ j u, news[j]? = some u → w.cell? (a.add j) = some u) (h1 : ∀ u ∈ news, u.oneCell' = true)
    (h63 : n + m ≤ maxLen) (hbytes : (n + m) * bytes ≤ 140737488355328) (hbase : base ≤ w.heap.size)
    (h : ∀ v' w', w'.ownsRow base e size v' (n + m) (xs ++ news) → w.grownBy w' v.ownBlock → (v'.ownBlock = v.ownBlock ∨ v'.ownBlock = some w.heap.size) → K (a.put o.dst v') w') :
    if Region.wanted o (yielded ops a.tmps) = true then Oper.wp P o a w K Q else E := by
  have hw : Region.wanted o (yielded ops a.tmps) = true := by simp [Region.wanted, hgd]
  rw [if_pos hw]
  exact wp_append_at w s x t ho base e i z size bytes ht hi hz hsize hby hzs hsz v n xs hs hown ao m c news hx hl hno hnews h1 h63 hbytes hbase h

set_option maxHeartbeats 400000 in
theorem new_any (w : World) : Calls Tryz.prog 30 #[] w fun e w' => e = .returned (.pointer (some ⟨w.heap.size, 0, none⟩)) ∧ w' = w.alloc (.cells #[.slice none 0 0] 78) := by
  go_enter Tryz.func30, Tryz.ntmps30
  go_wp2
  go_ret
  exact ⟨rfl, rfl⟩

set_option maxHeartbeats 400000 in
theorem sNew_any (l : List UInt8) (w : World) (hl : l.length ≤ 1048576) :
    Calls Tryz.prog 49 #[.string ⟨l.toArray⟩] w fun e w' => ∃ w1, Below w.heap.size w w1 ∧ e = .returned (.pointer (some ⟨w1.heap.size, 0, none⟩)) ∧ w' = w1.alloc (.cells #[SV l, .int .i64 0, .slice none 0 0] 118) := by
  go_enter Tryz.func49, Tryz.ntmps49
  go_wp2_with fail
  refine (clone_any l _ hl).mono ?_
  rintro e w1 ⟨rfl, hb⟩
  go_wp2
  go_ret
  exact ⟨w1, hb, rfl, rfl⟩

theorem cell_alloc {w : World} {o : Obj} {a : Addr} (h : a.block < w.heap.size) : (w.alloc o).cell? a = w.cell? a := World.cell?_of_block (Go.RowKit.Below.heap_alloc w o a.block h)

/-- the blocks of a stream -/
def nodeF (n : Node) : Nat → Prop := fun b => b = n.blk ∨ n.vl.ownBlock = some b

theorem block3_set1 {w : World} {p : Nat} {v0 v1 v2 : Value} {t : TypeId} (h : w.heap[p]? = some (.cells #[v0, v1, v2] t (0, 0))) (u : Value) :
    (w.setCell ⟨p, 1, none⟩ u).heap[p]? = some (.cells #[v0, u, v2] t (0, 0)) := by
  simp [World.setCell, Array.getElem?_modify, h]
theorem block3_set2 {w : World} {p : Nat} {v0 v1 v2 : Value} {t : TypeId} (h : w.heap[p]? = some (.cells #[v0, v1, v2] t (0, 0))) (u : Value) :
    (w.setCell ⟨p, 2, none⟩ u).heap[p]? = some (.cells #[v0, v1, u] t (0, 0)) := by
  simp [World.setCell, Array.getElem?_modify, h]

theorem NodeAt.setLatest {w : World} {n : Node} (h : NodeAt w n) (t : Int) : NodeAt (w.setCell ⟨n.blk, 1, none⟩ (.int .i64 t)) { n with latest := t } := by
  refine ⟨block3_set1 h.block _, ownsRow_same h.row fun g hg => Go.RowKit.Below.heap_setCell _ _ _ _ ?_⟩
  obtain ⟨_, cur, hc⟩ := ownsRow_type h.row hg
  exact ne_of_type hc h.block (by decide)

theorem NodeAt.app {w w2 : World} {n : Node} {o : Obj} {y : Ln} {v' : Value} (h : NodeAt w n)
    (hg : (w.alloc o).grownBy w2 n.vl.ownBlock) (ho : w2.ownsRow 0 108 2 v' (n.lines.length + 1) (n.lines.flatMap cellsN ++ cellsN y)) :
    NodeAt (w2.setCell ⟨n.blk, 2, none⟩ v') { n with lines := n.lines ++ [y], vl := v' } ∧ w2.cell? ⟨n.blk, 2, none⟩ = some n.vl ∧ w2.frozen? ⟨n.blk, 2, none⟩ = false ∧ Moved (nodeF n) w (w2.setCell ⟨n.blk, 2, none⟩ v') := by
  have hpl := h.lt
  have hm : Moved (nodeF n) w w2 := ((Moved.refl _ w).alloc o).grown hg (fun k hk => .inl (.inr hk))
  have hp2 : w2.heap[n.blk]? = some (.cells #[SV n.lab, .int .i64 n.latest, n.vl] 118 (0, 0)) := by
    rw [hg.block n.blk (by simp; omega) (fun e => ?_), Go.RowKit.Below.heap_alloc w o n.blk hpl, h.block]
    obtain ⟨_, cur, hc⟩ := ownsRow_type h.row e.symm
    exact ne_of_type hc h.block (by decide) rfl
  obtain ⟨_, _, c2, hf⟩ := cell_of_block3 hp2
  refine ⟨⟨block3_set2 hp2 v', ?_⟩, c2, hf 2, hm.setCell (.inl (.inl rfl)) _⟩
  simp only [List.length_append, List.length_singleton, List.flatMap_append, List.flatMap_cons, List.flatMap_nil, List.append_nil]
  refine ownsRow_same ho fun g hgo => Go.RowKit.Below.heap_setCell _ _ _ _ ?_
  obtain ⟨_, cur, hc⟩ := ownsRow_type ho hgo
  exact ne_of_type hc hp2 (by decide)

set_option maxRecDepth 10000 in
set_option maxHeartbeats 2000000 in
theorem sAdd_any {w : World} {n : Node} (t : Int) (x : List UInt8) (h : NodeAt w n) (hx : x.length ≤ 1048576) (hn : n.lines.length ≤ 300) :
    Calls Tryz.prog 50 #[.pointer (some ⟨n.blk, 0, none⟩), .int .i64 t, .string ⟨x.toArray⟩] w fun e w' =>
      e = .returned (.tuple #[]) ∧ ∃ v', NodeAt w' { n with latest := t, lines := n.lines ++ [(t, x)], vl := v' } ∧ (∀ g, v'.ownBlock = some g → n.vl.ownBlock = some g ∨ w.heap.size ≤ g) ∧ Moved (nodeF n) w w' := by
  obtain ⟨i0, hi0, hz0, hs0, hb0⟩ := info_parts Tryz.info108
  obtain ⟨c0, c1, c2, fz⟩ := cell_of_block3 h.block
  have hf1 := fz 1
  have hlt := h.lt
  have hfin := h.setLatest t
  have hm0 : Moved (nodeF n) w (w.setCell ⟨n.blk, 1, none⟩ (.int .i64 t)) := (Moved.refl _ w).setCell (.inl (.inl rfl)) _
  go_enter Tryz.func50, Tryz.ntmps50
  go_upto_region 1 with fail
  generalize w.setCell ⟨n.blk, 1, none⟩ (.int .i64 t) = W at *
  obtain ⟨d0, d1, d2, fd⟩ := cell_of_block3 hfin.block
  simp only at d0 d1 d2 fd
  obtain ⟨ao, cap, hv, -, -, -, -, -, -⟩ := owns_form hfin.row
  simp only at hv
  rw [hv] at d2
  have HV := hide hv
  have HF := hide hfin
  have hltW := hm0.size
  clear hv c0 c1 c2 fz hf1 h hfin fd
  go_region_law (first
    | (refine step_append_at rfl (.tmp 14) (.tmp 19) 103 rfl 0 108 i0 (.agg #[.int .i64 0, .string ByteArray.empty]) 2 24 Tryz.underlying103 hi0 hz0 hs0 hb0 rfl (by decide) (.slice ao n.lines.length cap) n.lines.length (n.lines.flatMap cellsN) (by simp [Act.eval]) (row1.alloc _) (some ⟨w1.heap.size, 0, none⟩) 1 1 (cellsN (t, x)) (by simp [Act.eval]) rfl (by intro e; cases e) (cells_new w1 _ _) (by intro u hu; simp [cellsN] at hu; rcases hu with rfl | rfl <;> rfl) (by unfold maxLen; omega) (by omega) (Nat.zero_le _) ?_; intro v4 w4 hown4 hgrow4 hwh4; obtain ⟨a4, cap4, rfl, -, -, -, -, -, -⟩ := owns_form hown4; rw [← unhide HV] at hgrow4 hwh4; obtain ⟨hfin, e2, ef, hmf⟩ := hN1.app hgrow4 hown4; simp only at e2 ef; clear hgrow4 hown4)
    | (go_simp; go_at_call 81; refine (clone_any x _ hx).mono ?_; rintro e w1 ⟨rfl, hb1⟩; have hN1 := (unhide HF).keep (hb1.block _ (by simp; omega)) (fun g hg => hb1.block g (by have := (ownsRow_type (unhide HF).row hg).1; simpa using this)); have row1 := hN1.row; have g2 := (cell_of_block3 hN1.block).2.2.1; simp only at row1 g2; rw [unhide HV] at row1 g2; have g3 : ∀ o, (w1.alloc o).cell? ⟨n.blk, 2, none⟩ = some (.slice ao n.lines.length cap) := fun o => (cell_alloc hN1.lt).trans g2; have hsz1 := hb1.size; have hm1 : Moved (nodeF n) w w1 := hm0.drew.trans (F1 := fun _ => False) (Moved.of_below hb1) (fun _ h => h.elim); clear hb1; dsimp only))
  all_goals
    go_end0
    refine ⟨rfl, _, hfin, ?_, hm1.trans hmf (fun b hb => .inl hb)⟩
    intro g hg
    rcases hwh4 with hw | hw
    · exact .inl (hw ▸ hg)
    · right
      rw [hg] at hw
      simp at hw
      have := hm1.size
      omega

end Go.Proofs.YtbljamcdaoofbaaGreatDoor
