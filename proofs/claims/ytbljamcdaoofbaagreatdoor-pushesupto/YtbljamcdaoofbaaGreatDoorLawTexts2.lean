/- The book: one list more, walked. -/
import Derived.Test.YtbljamcdaoofbaaGreatDoorLawTexts
namespace Go.Proofs.YtbljamcdaoofbaaGreatDoor
open Go.RowKit

theorem cell_of_block5 {w : World} {p : Nat} {v0 v1 v2 v3 v4 : Value} {t : TypeId} (h : w.heap[p]? = some (.cells #[v0, v1, v2, v3, v4] t (0, 0))) :
    w.cell? ⟨p, 0, none⟩ = some v0 ∧ w.cell? ⟨p, 1, none⟩ = some v1 ∧ w.cell? ⟨p, 2, none⟩ = some v2 ∧ w.cell? ⟨p, 3, none⟩ = some v3 ∧ w.cell? ⟨p, 4, none⟩ = some v4 ∧ (∀ j, w.frozen? ⟨p, j, none⟩ = false) :=
  ⟨by simp [World.cell?, h], by simp [World.cell?, h], by simp [World.cell?, h], by simp [World.cell?, h], by simp [World.cell?, h], fun j => by simp [World.frozen?, h]⟩
theorem block5_set2 {w : World} {p : Nat} {v0 v1 v2 v3 v4 : Value} {t : TypeId} (h : w.heap[p]? = some (.cells #[v0, v1, v2, v3, v4] t (0, 0))) (u : Value) :
    (w.setCell ⟨p, 2, none⟩ u).heap[p]? = some (.cells #[v0, v1, u, v3, v4] t (0, 0)) := by
  simp [World.setCell, Array.getElem?_modify, h]

theorem rep_set (X : Value) (xs : List Value) (k : Nat) (h : k < xs.length) : (List.replicate k X ++ xs.drop k).set k X = List.replicate (k + 1) X ++ xs.drop (k + 1) := by
  rw [List.set_append_right _ _ (by simp), List.length_replicate, Nat.sub_self, List.drop_eq_getElem_cons h, List.set_cons_zero, List.replicate_succ', List.append_assoc]
  rfl

/-- the blocks that a list more in the book touches -/
def bookF (wb : Nat) (vT vl : Value) : Nat → Prop := fun b => b = wb ∨ vT.ownBlock = some b ∨ vl.ownBlock = some b

theorem MarkAt.alloc {w : World} {v X : Value} (h : MarkAt w v X) (o : Obj) : MarkAt (w.alloc o) v X :=
  h.keep (by simp) fun g _ hgl j => .inl (cell_alloc (a := ⟨g, j, none⟩) hgl)

theorem markLt {w : World} {v X : Value} (h : MarkAt w v X) {g : Nat} (hg : v.ownBlock = some g) : g < w.heap.size := by
  obtain ⟨ao, n, cap, rfl, hn, hnil, hao⟩ := h
  cases ao with
  | none => cases hg
  | some a => cases hg; exact (hao a rfl).2.2.1

/-- the book and the list, in the midst of it -/
structure Mid (w0 : World) (wb n : Nat) (v0 v1 vT v3 v4 vl X : Value) (tv : List Value) (w : World) : Prop where
  mv : Moved (bookF wb vT vl) w0 w
  blk : w.heap[wb]? = some (.cells #[v0, v1, vT, v3, v4] 70 (0, 0))
  rowT : w.ownsRow 0 33 1 vT tv.length tv
  rowL : w.ownsRow 0 9 1 vl n (List.replicate n X)

theorem Mid.next {w0 w u : World} {wb n : Nat} {v0 v1 vT v3 v4 vl X : Value} {tv : List Value} {o : Obj} (h : Mid w0 wb n v0 v1 vT v3 v4 vl X tv w) (hg : (w.alloc o).grownBy u vl.ownBlock) (hl : u.ownsRow 0 9 1 vl n (List.replicate n X)) : Mid w0 wb n v0 v1 vT v3 v4 vl X tv u := by
  have hwl := (Array.getElem?_eq_some_iff.1 h.blk).1
  refine ⟨(h.mv.alloc o).grown hg (fun g hg => .inl (.inr (.inr hg))), ?_, ?_, hl⟩
  · rw [hg.block wb (by simp; omega) (fun e => ?_), Go.RowKit.Below.heap_alloc w o wb hwl]; exact h.blk
    obtain ⟨_, cur, hc⟩ := ownsRow_type h.rowL e.symm
    exact ne_of_type hc h.blk (by decide) rfl
  · refine ownsRow_same h.rowT fun g hgT => ?_
    obtain ⟨hgl, cur', hc'⟩ := ownsRow_type h.rowT hgT
    rw [hg.block g (by simp; omega) (fun e => ?_), Go.RowKit.Below.heap_alloc w o g hgl]
    obtain ⟨_, cur, hc⟩ := ownsRow_type h.rowL e.symm
    exact ne_of_type hc hc' (by decide) rfl

theorem rep_app1 (n : Nat) (X : Value) : List.replicate n X ++ [X] = List.replicate (n + 1) X := by rw [List.replicate_succ']
theorem rep_app2 (n : Nat) (X : Value) : List.replicate n X ++ [X, X] = List.replicate (n + 2) X := by
  rw [show [X, X] = [X] ++ [X] from rfl, ← List.append_assoc, rep_app1, rep_app1]
theorem rep_app3 (n : Nat) (X : Value) : List.replicate n X ++ [X, X, X] = List.replicate (n + 3) X := by
  rw [show [X, X, X] = [X, X] ++ [X] from rfl, ← List.append_assoc, rep_app2, rep_app1]

theorem Mid.last {w0 w u : World} {wb n : Nat} {v0 v1 vT vT' v3 v4 vl X : Value} {tv bs : List Value} {o : Obj} (h : Mid w0 wb n v0 v1 vT v3 v4 vl X tv w) (hg : (w.alloc o).grownBy u vT.ownBlock) (hr : u.ownsRow 0 33 1 vT' (tv.length + 4) bs)
    (hTl : ∀ g, vT.ownBlock = some g → g < w0.heap.size ∧ vl.ownBlock ≠ some g) (hwb : wb < w0.heap.size ∧ vl.ownBlock ≠ some wb) :
    (u.setCell ⟨wb, 2, none⟩ vT').heap[wb]? = some (.cells #[v0, v1, vT', v3, v4] 70 (0, 0)) ∧ (u.setCell ⟨wb, 2, none⟩ vT').ownsRow 0 33 1 vT' (tv.length + 4) bs ∧ u.cell? ⟨wb, 2, none⟩ = some vT ∧ u.frozen? ⟨wb, 2, none⟩ = false ∧ Moved (bookF wb vT vl) w0 (u.setCell ⟨wb, 2, none⟩ vT') ∧
      (∀ v, MarkAt w v X → (∀ g, v.ownBlock = some g → vl.ownBlock = some g ∨ w0.heap.size ≤ g) → MarkAt (u.setCell ⟨wb, 2, none⟩ vT') v X) := by
  have hwl := (Array.getElem?_eq_some_iff.1 h.blk).1
  have hbu : u.heap[wb]? = some (.cells #[v0, v1, vT, v3, v4] 70 (0, 0)) := by
    rw [hg.block wb (by simp; omega) (fun e => ?_), Go.RowKit.Below.heap_alloc w o wb hwl]; exact h.blk
    obtain ⟨_, cur, hc⟩ := ownsRow_type h.rowT e.symm
    exact ne_of_type hc h.blk (by decide) rfl
  obtain ⟨-, -, c2, -, -, fz⟩ := cell_of_block5 hbu
  refine ⟨block5_set2 hbu vT', ?_, c2, fz 2, ((h.mv.alloc o).grown hg (fun g hg => .inl (.inr (.inl hg)))).setCell (.inl (.inl rfl)) _, ?_⟩
  · refine ownsRow_same hr fun g hgo => Go.RowKit.Below.heap_setCell _ _ _ _ ?_
    obtain ⟨_, cur, hc⟩ := ownsRow_type hr hgo
    exact ne_of_type hc hbu (by decide)
  · intro v hv hty
    have hsz := hg.size
    refine hv.keep (by simp at hsz ⊢; omega) fun g hgo hgl j => .inl ?_
    have hgw : g ≠ wb := by
      rintro rfl
      rcases hty g hgo with e | e
      · exact hwb.2 e
      · omega
    have h1 : u.heap[g]? = w.heap[g]? := by
      rw [hg.block g (by simp; omega) (fun e' => ?_), Go.RowKit.Below.heap_alloc w o g hgl]
      obtain ⟨l1, l2⟩ := hTl g e'.symm
      rcases hty g hgo with e | e
      · exact l2 e
      · omega
    have h2 : (u.setCell ⟨wb, 2, none⟩ vT').heap[g]? = u.heap[g]? := Go.RowKit.Below.heap_setCell _ _ _ _ hgw
    exact World.cell?_of_block (a := ⟨g, j, none⟩) (h2.trans h1)

set_option maxRecDepth 10000 in
set_option maxHeartbeats 4000000 in
theorem texts_any {w : World} {wb n : Nat} {v0 v1 v3 v4 vT vl : Value} {tv xs : List Value} (hb : w.heap[wb]? = some (.cells #[v0, v1, vT, v3, v4] 70 (0, 0))) (hT : w.ownsRow 0 33 1 vT tv.length tv) (hl : w.ownsRow 0 9 1 vl n xs) (hn : n ≤ 6) (ht : tv.length ≤ 8388608) :
    Calls Tryz.prog 92 #[.pointer (some ⟨wb, 2, none⟩), vl] w fun e w' => e = .returned (.tuple #[]) ∧ ∃ vT' a1 a2 a3,
      w'.heap[wb]? = some (.cells #[v0, v1, vT', v3, v4] 70 (0, 0)) ∧ w'.ownsRow 0 33 1 vT' (tv.length + 4) (tv ++ [vl, a1, a2, a3]) ∧
      MarkAt w' vl (SV (wordL (tv.length / 4))) ∧ MarkAt w' a1 (SV (wordL (tv.length / 4))) ∧ MarkAt w' a2 (SV (wordL (tv.length / 4))) ∧ MarkAt w' a3 (SV (wordL (tv.length / 4))) ∧
      (∀ g, vT'.ownBlock = some g → vT.ownBlock = some g ∨ w.heap.size ≤ g) ∧ (∀ v, v = a1 ∨ v = a2 ∨ v = a3 → ∀ g, v.ownBlock = some g → vl.ownBlock = some g ∨ w.heap.size ≤ g) ∧ (∀ v, v = vl ∨ v = a1 ∨ v = a2 ∨ v = a3 → ∀ g, v.ownBlock = some g → vT'.ownBlock ≠ some g) ∧ Moved (bookF wb vT vl) w w' := by
  obtain ⟨i0, hi0, hz0, hs0, hb0⟩ := info_parts Tryz.info9
  obtain ⟨i1, hi1, hz1, hs1, hb1⟩ := info_parts Tryz.info33
  have hxl : xs.length = n := by simpa using hl.1
  obtain ⟨-, -, c2, -, -, fz⟩ := cell_of_block5 hb
  obtain ⟨aT, capT, hvT, -, -, -, -, -, -⟩ := owns_form hT
  rw [hvT] at c2
  have hwl := (Array.getElem?_eq_some_iff.1 hb).1
  have hq : ((tv.length : Int)) / 4 = ((tv.length / 4 : Nat) : Int) := by omega
  have HQ := hide hq
  have HVT := hide hvT
  clear hvT fz hq
  go_enter Tryz.func92, Tryz.ntmps92
  go_wp2_with fail
  rw [unhide HQ]
  refine (word_any (tv.length / 4) _ (by omega)).mono ?_
  rintro e w1 ⟨rfl, hbw⟩
  generalize hxw : wordL (tv.length / 4) = xl
  have HXL := hide hxw
  clear hxw
  have hm1 : Moved (bookF wb vT vl) w w1 := Moved.of_below hbw
  have hb1' : w1.heap[wb]? = some (.cells #[v0, v1, vT, v3, v4] 70 (0, 0)) := by rw [hbw.block wb hwl]; exact hb
  have hT1 : w1.ownsRow 0 33 1 vT tv.length tv := ownsRow_same hT fun g hg => hbw.block g (ownsRow_type hT hg).1
  have hl1 : w1.ownsRow 0 9 1 vl n xs := ownsRow_same hl fun g hg => hbw.block g (ownsRow_type hl hg).1
  have hsz1 := hbw.size
  have HTL := hide (show ∀ g, vT.ownBlock = some g → g < w.heap.size ∧ vl.ownBlock ≠ some g from fun g hg => by
    obtain ⟨h1, cur, hc⟩ := ownsRow_type hT hg
    refine ⟨h1, fun e => ?_⟩
    obtain ⟨_, cur', hc'⟩ := ownsRow_type hl e
    exact ne_of_type hc hc' (by decide) rfl)
  have HWB := hide (show wb < w.heap.size ∧ vl.ownBlock ≠ some wb from ⟨hwl, fun e => by
    obtain ⟨_, cur', hc'⟩ := ownsRow_type hl e
    exact ne_of_type hc' hb (by decide) rfl⟩)
  have hvs : ∃ ao cap, vl = .slice ao n cap ∧ n ≤ cap ∧ (ao = none → n = 0) := by
    obtain ⟨ao, cap, e, h1, -, h2, -, -, -⟩ := owns_form hl
    exact ⟨ao, cap, e, h1, fun e' => (h2 e').1⟩
  obtain ⟨ao, cap, hvl, hncap, hnil⟩ := hvs
  subst hvl
  have HN := hide hnil
  clear hb hT hl hbw c2 hnil
  go_wp2
  go_loopw [5] (fun i wr => ∃ k : Nat, k ≤ n ∧ i = .int .i64 k ∧ wr.ownsRow 0 9 1 (.slice ao n cap) n (List.replicate k (SV xl) ++ xs.drop k) ∧ w1.grownBy wr (Value.slice ao n cap).ownBlock) (fun i _ => n - (intOf i).toNat)
  case atStart => exact ⟨0, by omega, rfl, by simpa using hl1, ⟨rfl, rfl, rfl, Nat.le_refl _, fun _ _ _ => rfl⟩⟩
  case round =>
    obtain ⟨k, hk, rfl, hown, hgr⟩ := hrel
    by_cases hlt : k < n
    · obtain ⟨g, cap', hv, -, hgw, -, -, hcell, hfz⟩ := owns_open hown (by omega)
      simp only [Value.slice.injEq, true_and] at hv
      obtain ⟨rfl, rfl⟩ := hv
      have hc := hcell k (by omega)
      have hf := hfz k
      have hlen : k < (List.replicate k (SV xl) ++ xs.drop k).length := by simp; omega
      rw [List.getElem?_eq_getElem hlen] at hc
      have HS := hide (hown.stored k (SV xl))
      have HG := hide hgr
      clear hcell hfz hgr
      go_wp2
      go_roundw
      case rel =>
        obtain ⟨h1, h2⟩ := unhide HS
        rw [rep_set _ _ _ (by omega)] at h1
        have hg := unhide HG
        exact ⟨k + 1, by omega, by go_num, h1, ⟨h2.os.trans hg.os, h2.tape.trans hg.tape, h2.output.trans hg.output, Nat.le_trans hg.size h2.size, fun j hj hne => (h2.block j (Nat.lt_of_lt_of_le hj hg.size) hne).trans (hg.block j hj hne)⟩⟩
      case measure => simp [intOf]; omega
    · have hkn : k = n := by omega
      subst hkn
      rw [List.drop_of_length_le (by omega), List.append_nil] at hown
      have hmr : Moved (bookF wb vT (.slice ao k cap)) w wr := hm1.grown hgr (fun g hg => .inl (.inr (.inr hg)))
      have hbr : wr.heap[wb]? = some (.cells #[v0, v1, vT, v3, v4] 70 (0, 0)) := by
        rw [hgr.block wb (by omega) (fun e => ?_)]; exact hb1'
        obtain ⟨_, cur, hc⟩ := ownsRow_type hl1 e.symm
        exact ne_of_type hc hb1' (by decide) rfl
      have hTr : wr.ownsRow 0 33 1 vT tv.length tv := ownsRow_same hT1 fun g hg => hgr.block g (ownsRow_type hT1 hg).1 (fun e => by
        obtain ⟨_, cur, hc⟩ := ownsRow_type hl1 e.symm
        obtain ⟨_, cur', hc'⟩ := ownsRow_type hT1 hg
        exact ne_of_type hc hc' (by decide) rfl)
      have hMid : Mid w wb k v0 v1 vT v3 v4 (.slice ao k cap) (SV xl) tv wr := ⟨hmr, hbr, hTr, hown⟩
      clear hgr hT1 hl1 hb1' hm1 hmr hbr hTr
      go_upto_region 6 with (at_builtin; refine wpList_append_keep _ rfl (.tmp 26) (.tmp 28) 33 rfl 9 i0 (.string ByteArray.empty) 1 16 Tryz.underlying33 hi0 hz0 hs0 hb0 rfl (by decide) _ _ _ rfl (hown.alloc _) ⟨wr.heap.size, 0, none⟩ 1 1 [SV xl] rfl rfl (cells_new wr _ _ _ rfl) (by intro u hu; simp at hu; subst hu; rfl) (by unfold maxLen; omega) (by omega) ?_; intro a1 u1 o1 g1 p1 k1 m1)
      have hMid1 := hMid.next g1 k1
      rw [rep_app1] at o1
      have q1 := mark_of_row o1 (by omega)
      have s1 : ∀ g, a1.ownBlock = some g → (Value.slice ao k cap).ownBlock = some g ∨ w.heap.size ≤ g := by
        intro g hg
        rcases p1 with e | e
        · exact .inl (e ▸ hg)
        · right; rw [hg] at e; simp at e; have := hMid.mv.size; omega
      have Q1 := hide q1
      have M1 := hide hMid1
      have S1 := hide s1
      have O1 := hide o1
      clear g1 p1 m1 q1 hMid1 s1 o1 hown
      go_upto_region 7 with (at_builtin; refine wpList_append_keep _ rfl (.tmp 30) (.tmp 33) 33 rfl 9 i0 (.string ByteArray.empty) 1 16 Tryz.underlying33 hi0 hz0 hs0 hb0 rfl (by decide) _ _ _ rfl (k1.alloc _) ⟨u1.heap.size, 0, none⟩ 2 2 [SV xl, SV xl] rfl rfl (cells_new u1 _ _ _ rfl) (by intro u hu; simp at hu; subst hu; rfl) (by unfold maxLen; omega) (by omega) ?_; intro a2 u2 o2 g2 p2 k2 m2)
      have hMid2 := (unhide M1).next g2 k2
      rw [rep_app2] at o2
      have q2 := mark_of_row o2 (by omega)
      have q12 := ((unhide Q1).alloc _).grown g2 (by intro y hy; simpa using hy) m2
      have s2 : ∀ g, a2.ownBlock = some g → (Value.slice ao k cap).ownBlock = some g ∨ w.heap.size ≤ g := by
        intro g hg
        rcases p2 with e | e
        · exact .inl (e ▸ hg)
        · right; rw [hg] at e; simp at e; have := (unhide M1).mv.size; omega
      have Q2 := hide q2
      have Q12 := hide q12
      have M2 := hide hMid2
      have S2 := hide s2
      have f2 := owns_form o2
      clear g2 p2 m2 q2 q12 hMid2 s2 o2 k1
      go_upto_region 8 with (at_builtin; refine wpList_append_keep _ rfl (.tmp 35) (.tmp 39) 33 rfl 9 i0 (.string ByteArray.empty) 1 16 Tryz.underlying33 hi0 hz0 hs0 hb0 rfl (by decide) _ _ _ rfl (k2.alloc _) ⟨u2.heap.size, 0, none⟩ 3 3 [SV xl, SV xl, SV xl] rfl rfl (cells_new u2 _ _ _ rfl) (by intro u hu; simp at hu; subst hu; rfl) (by unfold maxLen; omega) (by omega) ?_; intro a3 u3 o3 g3 p3 k3 m3)
      have hMid3 := (unhide M2).next g3 k3
      rw [rep_app3] at o3
      have q3 := mark_of_row o3 (by omega)
      have q13 := ((unhide Q12).alloc _).grown g3 (by intro y hy; simpa using hy) m3
      have q23 := ((unhide Q2).alloc _).grown g3 (by intro y hy; simpa using hy) m3
      have q03 := mark_of_row k3 (by omega)
      have s3 : ∀ g, a3.ownBlock = some g → (Value.slice ao k cap).ownBlock = some g ∨ w.heap.size ≤ g := by
        intro g hg
        rcases p3 with e | e
        · exact .inl (e ▸ hg)
        · right; rw [hg] at e; simp at e; have := (unhide M2).mv.size; omega
      obtain ⟨ao3, cap3, rfl, -, -, -, -, -, -⟩ := owns_form o3
      obtain ⟨ao2, cap2, rfl, -, -, -, -, -, -⟩ := f2
      obtain ⟨ao1, cap1, rfl, -, -, -, -, -, -⟩ := owns_form (unhide O1)
      obtain ⟨-, -, d2, -, -, fd⟩ := cell_of_block5 hMid3.blk
      rw [unhide HVT] at d2
      have rowT3 := hMid3.rowT
      rw [unhide HVT] at rowT3
      have M3 := hide hMid3
      have Q03 := hide q03
      have Q13 := hide q13
      have Q23 := hide q23
      have Q3 := hide q3
      have S3 := hide s3
      clear g3 p3 m3 q3 q13 q23 q03 hMid3 s3 o3 k2 k3 fd
      go_wp2_with (at_builtin; refine wpList_append_at _ rfl (.tmp 45) (.tmp 50) 64 rfl 0 33 i1 (.slice none 0 0) 1 24 Tryz.underlying64 hi1 hz1 hs1 hb1 rfl (by decide) _ _ _ rfl (rowT3.alloc _) (some ⟨u3.heap.size, 0, none⟩) 4 4 [.slice ao k cap, .slice ao1 (k + 1) cap1, .slice ao2 (k + 2) cap2, .slice ao3 (k + 3) cap3] rfl rfl (by intro e; cases e) (cells_new u3 _ _) (by intro u hu; simp at hu; rcases hu with rfl | rfl | rfl | rfl <;> rfl) (by unfold maxLen; omega) (by omega) (Nat.zero_le _) ?_; intro vT' u4 o4 g4 p4; obtain ⟨aT', capT', rfl, -, -, -, -, -, -⟩ := owns_form o4; rw [← unhide HVT] at g4 p4; obtain ⟨z1, z2, z3, z4, z5, z6⟩ := (unhide M3).last g4 o4 (unhide HTL) (unhide HWB); rw [unhide HVT] at z3; clear g4 o4)
      go_end0
      rw [unhide HXL]
      refine ⟨rfl, _, _, _, _, z1, z2, z6 _ (unhide Q03) (fun g hg => .inl hg), z6 _ (unhide Q13) (unhide S1), z6 _ (unhide Q23) (unhide S2), z6 _ (unhide Q3) (unhide S3), ?_, ?_, ?_, z5⟩
      · intro g hg
        rcases p4 with e | e
        · exact .inl (e ▸ hg)
        · right; rw [hg] at e; simp at e; have := (unhide M3).mv.size; omega
      · rintro v (rfl | rfl | rfl)
        · exact unhide S1
        · exact unhide S2
        · exact unhide S3
      · have key : ∀ v : Value, (∀ g, v.ownBlock = some g → g < u3.heap.size) → (∀ g, v.ownBlock = some g → (Value.slice ao k cap).ownBlock = some g ∨ w.heap.size ≤ g) → ∀ g, v.ownBlock = some g → (Value.slice aT' (tv.length + 4) capT').ownBlock ≠ some g := by
          intro v h1 h2 g hg hT
          rcases p4 with e | e
          · rw [e] at hT
            obtain ⟨l1, l2⟩ := unhide HTL g hT
            rcases h2 g hg with e2 | e2
            · exact l2 e2
            · omega
          · rw [hT] at e
            simp at e
            have := h1 g hg
            omega
        rintro v (rfl | rfl | rfl | rfl)
        · exact key _ (fun g hg => markLt (unhide Q03) hg) (fun g hg => .inl hg)
        · exact key _ (fun g hg => markLt (unhide Q13) hg) (unhide S1)
        · exact key _ (fun g hg => markLt (unhide Q23) hg) (unhide S2)
        · exact key _ (fun g hg => markLt (unhide Q3) hg) (unhide S3)

end Go.Proofs.YtbljamcdaoofbaaGreatDoor
