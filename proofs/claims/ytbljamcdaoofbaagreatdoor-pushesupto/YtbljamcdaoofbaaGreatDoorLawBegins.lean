/- One store more, the document's beside it. -/
import Derived.Test.YtbljamcdaoofbaaGreatDoorLawInv
namespace Go.Proofs.YtbljamcdaoofbaaGreatDoor
open Go.RowKit

theorem Tryz.info27 : (Tryz.prog.info? 27).map (fun i => (i.zero, i.size, i.bytes)) = some (some (.pointer none), 1, 8) := by kernel_rfl
theorem Tryz.info111 : (Tryz.prog.info? 111).map (fun i => (i.zero, i.size, i.bytes)) = some (some (.pointer none), 1, 8) := by kernel_rfl

/-- a block that is of neither of the two kinds that are touched stays -/
theorem kept_of {w u : World} {row : Option Nat} {b : Nat} {o : Obj} (hg : (w.alloc o).grownBy u row) (hb : b < w.heap.size) (hne : row ≠ some b) : u.heap[b]? = w.heap[b]? := by
  rw [hg.block b (by simp; omega) (fun e => hne e.symm), Go.RowKit.Below.heap_alloc w o b hb]

theorem row_ne {w : World} {e : TypeId} {v : Value} {n b : Nat} {xs : List Value} {c : Array Value} {t : TypeId} {f : Nat × Nat} (h : w.ownsRow 0 e 1 v n xs) (hb : w.heap[b]? = some (.cells c t f)) (ht : e ≠ t) : v.ownBlock ≠ some b := by
  intro hv
  obtain ⟨_, cur, hc⟩ := ownsRow_type h hv
  exact ne_of_type hc hb ht rfl

theorem row_kept {w u : World} {e : TypeId} {v : Value} {n : Nat} {xs : List Value} {row : Option Nat} {o : Obj} (h : w.ownsRow 0 e 1 v n xs) (hg : (w.alloc o).grownBy u row) (hr : ∀ g, v.ownBlock = some g → row ≠ some g) : u.ownsRow 0 e 1 v n xs :=
  ownsRow_same h fun g hgo => kept_of hg (ownsRow_type h hgo).1 (hr g hgo)
theorem row_set {u : World} {e : TypeId} {v x : Value} {n wb j : Nat} {xs : List Value} {c : Array Value} {t : TypeId} {f : Nat × Nat} (h : u.ownsRow 0 e 1 v n xs) (hb : u.heap[wb]? = some (.cells c t f)) (ht : e ≠ t) : (u.setCell ⟨wb, j, none⟩ x).ownsRow 0 e 1 v n xs :=
  ownsRow_same h fun g hgo => Go.RowKit.Below.heap_setCell _ _ _ _ (fun e' => by
    have := row_ne h hb ht
    exact this (by rw [hgo]; exact congrArg some e'))
theorem rows_apart {w : World} {e e' : TypeId} {v v' : Value} {n n' : Nat} {xs xs' : List Value} (h : w.ownsRow 0 e 1 v n xs) (h' : w.ownsRow 0 e' 1 v' n' xs') (ht : e ≠ e') : ∀ g, v.ownBlock = some g → v'.ownBlock ≠ some g := by
  intro g hg hg'
  obtain ⟨_, cur, hc⟩ := ownsRow_type h hg
  obtain ⟨_, cur', hc'⟩ := ownsRow_type h' hg'
  exact ne_of_type hc hc' ht rfl

/-- what the two stores of begins come to -/
theorem begins_half {w W w2 : World} {wb : Nat} {own : Nat → Nat} {qs : List Pair} {tv : List Value} {vps vrs vT v2 : Value} {o : Obj} {xs : List Value} (h : Inv w wb own qs tv vps vrs vT) (hm1 : Moved (fun b => own b = 0) w W) (hsz : W.heap.size = w.heap.size + 1)
    (hblk1 : W.heap[wb]? = some (.cells #[vps, vrs, vT, .slice none 0 0, .slice none 0 0] 70 (0, 0))) (hP1 : W.ownsRow 0 27 1 vps qs.length (qs.map (fun q => .pointer (some ⟨q.pp, 0, none⟩)))) (hR1 : W.ownsRow 0 111 1 vrs qs.length (qs.map (fun q => .pointer (some ⟨q.pr, 0, none⟩)))) (hT1 : W.ownsRow 0 33 1 vT tv.length tv)
    (hpp1 : W.heap[w.heap.size]? = some (.cells #[.slice none 0 0] 78 (0, 0))) (g2 : (W.alloc o).grownBy w2 vps.ownBlock) (o2 : w2.ownsRow 0 27 1 v2 (qs.length + 1) xs) (p2 : v2.ownBlock = vps.ownBlock ∨ v2.ownBlock = some (W.alloc o).heap.size) :
    (w2.setCell ⟨wb, 0, none⟩ v2).heap[wb]? = some (.cells #[v2, vrs, vT, .slice none 0 0, .slice none 0 0] 70 (0, 0)) ∧ (w2.setCell ⟨wb, 0, none⟩ v2).ownsRow 0 27 1 v2 (qs.length + 1) xs ∧ (w2.setCell ⟨wb, 0, none⟩ v2).ownsRow 0 111 1 vrs qs.length (qs.map (fun q => .pointer (some ⟨q.pr, 0, none⟩))) ∧ (w2.setCell ⟨wb, 0, none⟩ v2).ownsRow 0 33 1 vT tv.length tv ∧
      (w2.setCell ⟨wb, 0, none⟩ v2).heap[w.heap.size]? = some (.cells #[.slice none 0 0] 78 (0, 0)) ∧ Moved (fun b => own b = 0) w (w2.setCell ⟨wb, 0, none⟩ v2) ∧ (∀ g, v2.ownBlock = some g → vps.ownBlock = some g ∨ w.heap.size + 1 ≤ g) := by
  have hb2 := (kept_of g2 (Array.getElem?_eq_some_iff.1 hblk1).1 (row_ne hP1 hblk1 (by decide))).trans hblk1
  have hpp2 := (kept_of g2 (Array.getElem?_eq_some_iff.1 hpp1).1 (row_ne hP1 hpp1 (by decide))).trans hpp1
  refine ⟨block5_set0 hb2 v2, row_set o2 hb2 (by decide), row_set (row_kept hR1 g2 (fun g hg => rows_apart hR1 hP1 (by decide) g hg)) hb2 (by decide), row_set (row_kept hT1 g2 (fun g hg => rows_apart hT1 hP1 (by decide) g hg)) hb2 (by decide), ?_, ?_, ?_⟩
  · rw [Go.RowKit.Below.heap_setCell _ _ _ _ (ne_of_type hpp2 hb2 (by decide))]; exact hpp2
  · exact (((hm1.alloc o).grown g2 (fun g hg => .inl (h.oP g hg))).setCell (.inl h.oblk) _)
  · intro g hg
    rcases p2 with e | e
    · exact .inl (e ▸ hg)
    · right; rw [hg] at e; simp at e; omega

theorem begins_end {w U w4 : World} {wb : Nat} {own : Nat → Nat} {qs : List Pair} {tv : List Value} {vps vrs vT v2 v4 : Value} {o : Obj} (h : Inv w wb own qs tv vps vrs vT) (hsz : w.heap.size + 1 ≤ U.heap.size)
    (z1 : U.heap[wb]? = some (.cells #[v2, vrs, vT, .slice none 0 0, .slice none 0 0] 70 (0, 0))) (z2 : U.ownsRow 0 27 1 v2 (qs.length + 1) (qs.map (fun q => .pointer (some ⟨q.pp, 0, none⟩)) ++ [.pointer (some ⟨w.heap.size, 0, none⟩)])) (z3 : U.ownsRow 0 111 1 vrs qs.length (qs.map (fun q => .pointer (some ⟨q.pr, 0, none⟩)))) (z4 : U.ownsRow 0 33 1 vT tv.length tv)
    (z5 : U.heap[w.heap.size]? = some (.cells #[.slice none 0 0] 78 (0, 0))) (z6 : Moved (fun b => own b = 0) w U) (z7 : ∀ g, v2.ownBlock = some g → vps.ownBlock = some g ∨ w.heap.size + 1 ≤ g)
    (g4 : ((U.alloc (.cells #[.slice none 0 0, .slice none 0 0] 114)).alloc o).grownBy w4 vrs.ownBlock) (o4 : w4.ownsRow 0 111 1 v4 (qs.length + 1) (qs.map (fun q => .pointer (some ⟨q.pr, 0, none⟩)) ++ [.pointer (some ⟨U.heap.size, 0, none⟩)])) (p4 : v4.ownBlock = vrs.ownBlock ∨ v4.ownBlock = some ((U.alloc (.cells #[.slice none 0 0, .slice none 0 0] 114)).alloc o).heap.size) :
    w4.cell? ⟨wb, 1, none⟩ = some vrs ∧ w4.frozen? ⟨wb, 1, none⟩ = false ∧ Inv (w4.setCell ⟨wb, 1, none⟩ v4) wb (ownNew own w qs.length w.heap.size U.heap.size) (qs ++ [(⟨w.heap.size, [], .slice none 0 0, U.heap.size, [], [], .slice none 0 0, .slice none 0 0⟩ : Pair)]) tv v2 v4 vT ∧ Moved (fun b => own b = 0) w (w4.setCell ⟨wb, 1, none⟩ v4) := by
  have kp : ∀ {b : Nat} {c : Array Value} {t : TypeId} {f : Nat × Nat}, U.heap[b]? = some (.cells c t f) → 111 ≠ t → w4.heap[b]? = U.heap[b]? := by
    intro b c t f hb ht
    have hl := (Array.getElem?_eq_some_iff.1 hb).1
    rw [kept_of g4 (by simp; omega) (row_ne z3 hb ht), Go.RowKit.Below.heap_alloc _ _ _ hl]
  have kr : ∀ {e : TypeId} {v : Value} {n : Nat} {xs : List Value}, U.ownsRow 0 e 1 v n xs → e ≠ 111 → w4.ownsRow 0 e 1 v n xs := by
    intro e v n xs hr he
    exact ownsRow_same hr fun g hg => by
      obtain ⟨_, cur, hc⟩ := ownsRow_type hr hg
      exact kp hc (fun e' => he e'.symm)
  have hb4 := (kp z1 (by decide)).trans z1
  have hpr4 : w4.heap[U.heap.size]? = some (.cells #[.slice none 0 0, .slice none 0 0] 114 (0, 0)) := by
    rw [kept_of g4 (by simp) (fun e => ?_)]
    · exact heap_alloc_new U _
    · have := (ownsRow_type z3 e).1
      omega
  obtain ⟨-, c1, -, -, -, fz⟩ := cell_of_block5 hb4
  have hset : ∀ {b : Nat} {c : Array Value} {t : TypeId} {f : Nat × Nat}, w4.heap[b]? = some (.cells c t f) → t ≠ 70 → (w4.setCell ⟨wb, 1, none⟩ v4).heap[b]? = w4.heap[b]? := fun hb ht => Go.RowKit.Below.heap_setCell _ _ _ _ (ne_of_type hb hb4 ht)
  have hmv : Moved (fun b => own b = 0) w (w4.setCell ⟨wb, 1, none⟩ v4) := (((z6.alloc _).alloc o).grown g4 (fun g hg => .inl (h.oR g hg))).setCell (.inl h.oblk) _
  refine ⟨c1, fz 1, ?_, hmv⟩
  have hpp4 := (kp z5 (by decide)).trans z5
  refine h.new hmv (block5_set1 hb4 v4) (row_set (kr z2 (by decide)) hb4 (by decide)) ?_ (row_set o4 hb4 (by decide)) ?_ (row_set (kr z4 (by decide)) hb4 (by decide)) ((hset hpp4 (by decide)).trans hpp4) (Nat.le_refl _) ((hset hpr4 (by decide)).trans hpr4) (by omega)
  · intro g hg
    rcases z7 g hg with e | e
    · exact .inl e
    · right
      have := (ownsRow_type z2 hg).1
      omega
  · intro g hg
    rcases p4 with e | e
    · exact .inl (e ▸ hg)
    · right; rw [hg] at e; simp at e; omega

set_option maxRecDepth 10000 in
set_option maxHeartbeats 4000000 in
theorem begins_any {w : World} {wb : Nat} {own : Nat → Nat} {qs : List Pair} {tv : List Value} {vps vrs vT : Value} (h : Inv w wb own qs tv vps vrs vT) (hq : qs.length ≤ 4194304) :
    Calls Tryz.prog 31 #[.pointer (some ⟨wb, 0, none⟩)] w fun e w' => e = .returned (.bool true) ∧
      ∃ own' vps' vrs' pp pr, Inv w' wb own' (qs ++ [(⟨pp, [], .slice none 0 0, pr, [], [], .slice none 0 0, .slice none 0 0⟩ : Pair)]) tv vps' vrs' vT ∧ Moved (fun b => own b = 0) w w' ∧ (∀ b, b < w.heap.size → own' b = own b) := by
  obtain ⟨i0, hi0, hz0, hs0, hb0⟩ := info_parts Tryz.info27
  obtain ⟨i1, hi1, hz1, hs1, hb1⟩ := info_parts Tryz.info111
  obtain ⟨aP, capP, hvP, -, -, -, -, -, -⟩ := owns_form h.rowP
  obtain ⟨aR, capR, hvR, -, -, -, -, -, -⟩ := owns_form h.rowR
  have hwl := (Array.getElem?_eq_some_iff.1 h.blk).1
  have HH := hide h
  -- behind New
  have hblk1 : (w.alloc (.cells #[.slice none 0 0] 78)).heap[wb]? = some (.cells #[vps, vrs, vT, .slice none 0 0, .slice none 0 0] 70 (0, 0)) := by rw [Go.RowKit.Below.heap_alloc _ _ _ hwl]; exact h.blk
  have hP1 : (w.alloc (.cells #[.slice none 0 0] 78)).ownsRow 0 27 1 vps qs.length (qs.map (fun q => .pointer (some ⟨q.pp, 0, none⟩))) := h.rowP.alloc _
  have hR1 : (w.alloc (.cells #[.slice none 0 0] 78)).ownsRow 0 111 1 vrs qs.length (qs.map (fun q => .pointer (some ⟨q.pr, 0, none⟩))) := h.rowR.alloc _
  have hT1 : (w.alloc (.cells #[.slice none 0 0] 78)).ownsRow 0 33 1 vT tv.length tv := h.rowT.alloc _
  have hm1 : Moved (fun b => own b = 0) w (w.alloc (.cells #[.slice none 0 0] 78)) := (Moved.refl _ w).alloc _
  have hpp1 : (w.alloc (.cells #[.slice none 0 0] 78)).heap[w.heap.size]? = some (.cells #[.slice none 0 0] 78 (0, 0)) := heap_alloc_new w _
  have hs1' : (w.alloc (.cells #[.slice none 0 0] 78)).heap.size = w.heap.size + 1 := by simp
  clear h
  go_enter Tryz.func31, Tryz.ntmps31
  go_wp2_with fail
  refine (new_any _).mono ?_
  rintro e w1 ⟨rfl, rfl⟩
  generalize w.alloc (.cells #[.slice none 0 0] 78) = W at *
  obtain ⟨c0, c1, c2, -, -, fz⟩ := cell_of_block5 hblk1
  rw [hvP] at c0
  rw [hvR] at c1
  have HVP := hide hvP
  have HVR := hide hvR
  have rowP' := hP1
  rw [hvP] at rowP'
  have HSZ := hide hs1'
  clear hvP hvR fz hs1'
  go_upto_region 5 with (at_builtin; refine wpList_append_at _ rfl (.tmp 11) (.tmp 13) 62 rfl 0 27 i0 (.pointer none) 1 8 Tryz.underlying62 hi0 hz0 hs0 hb0 rfl (by decide) _ _ _ rfl (rowP'.alloc _) (some ⟨W.heap.size, 0, none⟩) 1 1 [.pointer (some ⟨w.heap.size, 0, none⟩)] rfl rfl (by intro e; cases e) (cells_new W _ _) (by intro u hu; simp at hu; subst hu; rfl) (by unfold maxLen; omega) (by omega) (Nat.zero_le _) ?_; intro v2 w2 o2 g2 p2; obtain ⟨a2, cap2, rfl, -, -, -, -, -, -⟩ := owns_form o2; rw [← unhide HVP] at g2 p2; have hb2 := (kept_of g2 (Array.getElem?_eq_some_iff.1 hblk1).1 (row_ne hP1 hblk1 (by decide))).trans hblk1; obtain ⟨e0, e1, -, -, -, ef⟩ := cell_of_block5 hb2; rw [unhide HVP] at e0; have ef0 := ef 0; clear ef)
  obtain ⟨z1, z2, z3, z4, z5, z6, z7⟩ := begins_half (unhide HH) hm1 (unhide HSZ) hblk1 hP1 hR1 hT1 hpp1 g2 o2 p2
  clear g2 o2 p2 hb2 e0 e1 ef0 hblk1 hP1 hR1 hT1 hpp1 hm1 rowP' c0 c1 c2
  generalize w2.setCell ⟨wb, 0, none⟩ (.slice a2 (qs.length + 1) cap2) = U at *
  obtain ⟨-, c1, c2, -, -, -⟩ := cell_of_block5 z1
  rw [unhide HVR] at c1
  have rowR' := z3
  rw [unhide HVR] at rowR'
  have hzw := (Array.getElem?_eq_some_iff.1 z1).1
  have k1 : ∀ o, (U.alloc o).cell? ⟨wb, 1, none⟩ = some (.slice aR qs.length capR) := fun o => (cell_alloc (a := ⟨wb, 1, none⟩) hzw).trans c1
  go_wp2_with (at_builtin; refine wpList_append_at _ rfl (.tmp 21) (.tmp 24) 63 rfl 0 111 i1 (.pointer none) 1 8 Tryz.underlying63 hi1 hz1 hs1 hb1 rfl (by decide) (.slice aR qs.length capR) _ _ rfl ((rowR'.alloc _).alloc _) (some ⟨U.heap.size + 1, 0, none⟩) 1 1 [.pointer (some ⟨U.heap.size, 0, none⟩)] rfl rfl (by intro e; cases e) (by have := cells_new (U.alloc (.cells #[.slice none 0 0, .slice none 0 0] 114)) [.pointer (some ⟨U.heap.size, 0, none⟩)] 111; simpa using this) (by intro u hu; simp at hu; subst hu; rfl) (by unfold maxLen; omega) (by omega) (Nat.zero_le _) ?_; intro v4 w4 o4 g4 p4; obtain ⟨a4, cap4, rfl, -, -, -, -, -, -⟩ := owns_form o4; rw [← unhide HVR] at g4 p4; obtain ⟨y1, y2, y3, y4⟩ := begins_end (unhide HH) (by have := z6.size; have := (Array.getElem?_eq_some_iff.1 z5).1; omega) z1 z2 z3 z4 z5 z6 z7 g4 o4 p4; rw [unhide HVR] at y1; clear g4 o4 p4)
  go_ret
  exact ⟨rfl, _, _, _, _, _, y3, y4, fun b hb => if_pos hb⟩

end Go.Proofs.YtbljamcdaoofbaaGreatDoor
