/- Texts LawTexts2, LawBook, joined. -/
import Derived.Test.YtbljamcdaoofbaaGreatDoorRelPushToLawTexts
/- The book: one list more, walked. -/
namespace Go.Proofs.YtbljamcdaoofbaaGreatDoor
open Go.RowKit

theorem cell_of_block5 {w : World} {p : Nat} {v0 v1 v2 v3 v4 : Value} {t : TypeId} (h : w.heap[p]? = some (.cells #[v0, v1, v2, v3, v4] t (0, 0))) :
    w.cell? ⟨p, 0, none⟩ = some v0 ∧ w.cell? ⟨p, 1, none⟩ = some v1 ∧ w.cell? ⟨p, 2, none⟩ = some v2 ∧ w.cell? ⟨p, 3, none⟩ = some v3 ∧ w.cell? ⟨p, 4, none⟩ = some v4 ∧ (∀ j, w.frozen? ⟨p, j, none⟩ = false) :=
  ⟨by simp [World.cell?, h], by simp [World.cell?, h], by simp [World.cell?, h], by simp [World.cell?, h], by simp [World.cell?, h], fun j => by simp [World.frozen?, h]⟩
theorem block5_set2 {w : World} {p : Nat} {v0 v1 v2 v3 v4 : Value} {t : TypeId} (h : w.heap[p]? = some (.cells #[v0, v1, v2, v3, v4] t (0, 0))) (u : Value) :
    (w.setCell ⟨p, 2, none⟩ u).heap[p]? = some (.cells #[v0, v1, u, v3, v4] t (0, 0)) := by
  simp [World.setCell, Array.getElem?_modify, h]

theorem rep_set (X : Value) (xs : List Value) (k : Nat) (h : k < xs.length) : (List.replicate k X ++ xs.drop k).set k X = List.replicate (k + 1) X ++ xs.drop (k + 1) := by
  rw [List.set_append_right _ _ (by simp), List.length_replicate, Nat.sub_self, List.drop_eq_getElem_cons h, List.set_cons_zero, List.replicate_succ', List.append_assoc]
  rfl

/-- the blocks that a list more in the book touches -/
def bookF (wb : Nat) (vT vl : Value) : Nat → Prop := fun b => b = wb ∨ vT.ownBlock = some b ∨ vl.ownBlock = some b

theorem MarkAt.alloc {w : World} {v X : Value} (h : MarkAt w v X) (o : Obj) : MarkAt (w.alloc o) v X :=
  h.keep (by simp) fun g _ hgl j => .inl (cell_alloc (a := ⟨g, j, none⟩) hgl)

theorem markLt {w : World} {v X : Value} (h : MarkAt w v X) {g : Nat} (hg : v.ownBlock = some g) : g < w.heap.size := by
  obtain ⟨ao, n, cap, rfl, hn, hnil, hao⟩ := h
  cases ao with
  | none => cases hg
  | some a => cases hg; exact (hao a rfl).2.2.1

/-- the book and the list, in the midst of it -/
structure Mid (w0 : World) (wb n : Nat) (v0 v1 vT v3 v4 vl X : Value) (tv : List Value) (w : World) : Prop where
  mv : Moved (bookF wb vT vl) w0 w
  blk : w.heap[wb]? = some (.cells #[v0, v1, vT, v3, v4] 70 (0, 0))
  rowT : w.ownsRow 0 33 1 vT tv.length tv
  rowL : w.ownsRow 0 9 1 vl n (List.replicate n X)

theorem Mid.next {w0 w u : World} {wb n : Nat} {v0 v1 vT v3 v4 vl X : Value} {tv : List Value} {o : Obj} (h : Mid w0 wb n v0 v1 vT v3 v4 vl X tv w) (hg : (w.alloc o).grownBy u vl.ownBlock) (hl : u.ownsRow 0 9 1 vl n (List.replicate n X)) : Mid w0 wb n v0 v1 vT v3 v4 vl X tv u := by
  have hwl := (Array.getElem?_eq_some_iff.1 h.blk).1
  refine ⟨(h.mv.alloc o).grown hg (fun g hg => .inl (.inr (.inr hg))), ?_, ?_, hl⟩
  · rw [hg.block wb (by simp; omega) (fun e => ?_), Go.RowKit.Below.heap_alloc w o wb hwl]; exact h.blk
    obtain ⟨_, cur, hc⟩ := ownsRow_type h.rowL e.symm
    exact ne_of_type hc h.blk (by decide) rfl
  · refine ownsRow_same h.rowT fun g hgT => ?_
    obtain ⟨hgl, cur', hc'⟩ := ownsRow_type h.rowT hgT
    rw [hg.block g (by simp; omega) (fun e => ?_), Go.RowKit.Below.heap_alloc w o g hgl]
    obtain ⟨_, cur, hc⟩ := ownsRow_type h.rowL e.symm
    exact ne_of_type hc hc' (by decide) rfl

theorem rep_app1 (n : Nat) (X : Value) : List.replicate n X ++ [X] = List.replicate (n + 1) X := by rw [List.replicate_succ']
theorem rep_app2 (n : Nat) (X : Value) : List.replicate n X ++ [X, X] = List.replicate (n + 2) X := by
  rw [show [X, X] = [X] ++ [X] from rfl, ← List.append_assoc, rep_app1, rep_app1]
theorem rep_app3 (n : Nat) (X : Value) : List.replicate n X ++ [X, X, X] = List.replicate (n + 3) X := by
  rw [show [X, X, X] = [X, X] ++ [X] from rfl, ← List.append_assoc, rep_app2, rep_app1]

theorem Mid.last {w0 w u : World} {wb n : Nat} {v0 v1 vT vT' v3 v4 vl X : Value} {tv bs : List Value} {o : Obj} (h : Mid w0 wb n v0 v1 vT v3 v4 vl X tv w) (hg : (w.alloc o).grownBy u vT.ownBlock) (hr : u.ownsRow 0 33 1 vT' (tv.length + 4) bs)
    (hTl : ∀ g, vT.ownBlock = some g → g < w0.heap.size ∧ vl.ownBlock ≠ some g) (hwb : wb < w0.heap.size ∧ vl.ownBlock ≠ some wb) :
    (u.setCell ⟨wb, 2, none⟩ vT').heap[wb]? = some (.cells #[v0, v1, vT', v3, v4] 70 (0, 0)) ∧ (u.setCell ⟨wb, 2, none⟩ vT').ownsRow 0 33 1 vT' (tv.length + 4) bs ∧ u.cell? ⟨wb, 2, none⟩ = some vT ∧ u.frozen? ⟨wb, 2, none⟩ = false ∧ Moved (bookF wb vT vl) w0 (u.setCell ⟨wb, 2, none⟩ vT') ∧
      (∀ v, MarkAt w v X → (∀ g, v.ownBlock = some g → vl.ownBlock = some g ∨ w0.heap.size ≤ g) → MarkAt (u.setCell ⟨wb, 2, none⟩ vT') v X) := by
  have hwl := (Array.getElem?_eq_some_iff.1 h.blk).1
  have hbu : u.heap[wb]? = some (.cells #[v0, v1, vT, v3, v4] 70 (0, 0)) := by
    rw [hg.block wb (by simp; omega) (fun e => ?_), Go.RowKit.Below.heap_alloc w o wb hwl]; exact h.blk
    obtain ⟨_, cur, hc⟩ := ownsRow_type h.rowT e.symm
    exact ne_of_type hc h.blk (by decide) rfl
  obtain ⟨-, -, c2, -, -, fz⟩ := cell_of_block5 hbu
  refine ⟨block5_set2 hbu vT', ?_, c2, fz 2, ((h.mv.alloc o).grown hg (fun g hg => .inl (.inr (.inl hg)))).setCell (.inl (.inl rfl)) _, ?_⟩
  · refine ownsRow_same hr fun g hgo => Go.RowKit.Below.heap_setCell _ _ _ _ ?_
    obtain ⟨_, cur, hc⟩ := ownsRow_type hr hgo
    exact ne_of_type hc hbu (by decide)
  · intro v hv hty
    have hsz := hg.size
    refine hv.keep (by simp at hsz ⊢; omega) fun g hgo hgl j => .inl ?_
    have hgw : g ≠ wb := by
      rintro rfl
      rcases hty g hgo with e | e
      · exact hwb.2 e
      · omega
    have h1 : u.heap[g]? = w.heap[g]? := by
      rw [hg.block g (by simp; omega) (fun e' => ?_), Go.RowKit.Below.heap_alloc w o g hgl]
      obtain ⟨l1, l2⟩ := hTl g e'.symm
      rcases hty g hgo with e | e
      · exact l2 e
      · omega
    have h2 : (u.setCell ⟨wb, 2, none⟩ vT').heap[g]? = u.heap[g]? := Go.RowKit.Below.heap_setCell _ _ _ _ hgw
    exact World.cell?_of_block (a := ⟨g, j, none⟩) (h2.trans h1)

set_option maxRecDepth 10000 in
set_option maxHeartbeats 4000000 in
theorem texts_any {w : World} {wb n : Nat} {v0 v1 v3 v4 vT vl : Value} {tv xs : List Value} (hb : w.heap[wb]? = some (.cells #[v0, v1, vT, v3, v4] 70 (0, 0))) (hT : w.ownsRow 0 33 1 vT tv.length tv) (hl : w.ownsRow 0 9 1 vl n xs) (hn : n ≤ 6) (ht : tv.length ≤ 8388608) :
    Calls Tryz.prog 92 #[.pointer (some ⟨wb, 2, none⟩), vl] w fun e w' => e = .returned (.tuple #[]) ∧ ∃ vT' a1 a2 a3,
      w'.heap[wb]? = some (.cells #[v0, v1, vT', v3, v4] 70 (0, 0)) ∧ w'.ownsRow 0 33 1 vT' (tv.length + 4) (tv ++ [vl, a1, a2, a3]) ∧
      MarkAt w' vl (SV (wordL (tv.length / 4))) ∧ MarkAt w' a1 (SV (wordL (tv.length / 4))) ∧ MarkAt w' a2 (SV (wordL (tv.length / 4))) ∧ MarkAt w' a3 (SV (wordL (tv.length / 4))) ∧
      (∀ g, vT'.ownBlock = some g → vT.ownBlock = some g ∨ w.heap.size ≤ g) ∧ (∀ v, v = a1 ∨ v = a2 ∨ v = a3 → ∀ g, v.ownBlock = some g → vl.ownBlock = some g ∨ w.heap.size ≤ g) ∧ (∀ v, v = vl ∨ v = a1 ∨ v = a2 ∨ v = a3 → ∀ g, v.ownBlock = some g → vT'.ownBlock ≠ some g) ∧ Moved (bookF wb vT vl) w w' := by
  obtain ⟨i0, hi0, hz0, hs0, hb0⟩ := info_parts Tryz.info9
  obtain ⟨i1, hi1, hz1, hs1, hb1⟩ := info_parts Tryz.info33
  have hxl : xs.length = n := by simpa using hl.1
  obtain ⟨-, -, c2, -, -, fz⟩ := cell_of_block5 hb
  obtain ⟨aT, capT, hvT, -, -, -, -, -, -⟩ := owns_form hT
  rw [hvT] at c2
  have hwl := (Array.getElem?_eq_some_iff.1 hb).1
  have hq : ((tv.length : Int)) / 4 = ((tv.length / 4 : Nat) : Int) := by omega
  have HQ := hide hq
  have HVT := hide hvT
  clear hvT fz hq
  go_enter Tryz.func92, Tryz.ntmps92
  go_wp2_with fail
  rw [unhide HQ]
  refine (word_any (tv.length / 4) _ (by omega)).mono ?_
  rintro e w1 ⟨rfl, hbw⟩
  generalize hxw : wordL (tv.length / 4) = xl
  have HXL := hide hxw
  clear hxw
  have hm1 : Moved (bookF wb vT vl) w w1 := Moved.of_below hbw
  have hb1' : w1.heap[wb]? = some (.cells #[v0, v1, vT, v3, v4] 70 (0, 0)) := by rw [hbw.block wb hwl]; exact hb
  have hT1 : w1.ownsRow 0 33 1 vT tv.length tv := ownsRow_same hT fun g hg => hbw.block g (ownsRow_type hT hg).1
  have hl1 : w1.ownsRow 0 9 1 vl n xs := ownsRow_same hl fun g hg => hbw.block g (ownsRow_type hl hg).1
  have hsz1 := hbw.size
  have HTL := hide (show ∀ g, vT.ownBlock = some g → g < w.heap.size ∧ vl.ownBlock ≠ some g from fun g hg => by
    obtain ⟨h1, cur, hc⟩ := ownsRow_type hT hg
    refine ⟨h1, fun e => ?_⟩
    obtain ⟨_, cur', hc'⟩ := ownsRow_type hl e
    exact ne_of_type hc hc' (by decide) rfl)
  have HWB := hide (show wb < w.heap.size ∧ vl.ownBlock ≠ some wb from ⟨hwl, fun e => by
    obtain ⟨_, cur', hc'⟩ := ownsRow_type hl e
    exact ne_of_type hc' hb (by decide) rfl⟩)
  have hvs : ∃ ao cap, vl = .slice ao n cap ∧ n ≤ cap ∧ (ao = none → n = 0) := by
    obtain ⟨ao, cap, e, h1, -, h2, -, -, -⟩ := owns_form hl
    exact ⟨ao, cap, e, h1, fun e' => (h2 e').1⟩
  obtain ⟨ao, cap, hvl, hncap, hnil⟩ := hvs
  subst hvl
  have HN := hide hnil
  clear hb hT hl hbw c2 hnil
  go_wp2
  go_loopw [5] (fun i wr => ∃ k : Nat, k ≤ n ∧ i = .int .i64 k ∧ wr.ownsRow 0 9 1 (.slice ao n cap) n (List.replicate k (SV xl) ++ xs.drop k) ∧ w1.grownBy wr (Value.slice ao n cap).ownBlock) (fun i _ => n - (intOf i).toNat)
  case atStart => exact ⟨0, by omega, rfl, by simpa using hl1, ⟨rfl, rfl, rfl, Nat.le_refl _, fun _ _ _ => rfl⟩⟩
  case round =>
    obtain ⟨k, hk, rfl, hown, hgr⟩ := hrel
    by_cases hlt : k < n
    · obtain ⟨g, cap', hv, -, hgw, -, -, hcell, hfz⟩ := owns_open hown (by omega)
      simp only [Value.slice.injEq, true_and] at hv
      obtain ⟨rfl, rfl⟩ := hv
      have hc := hcell k (by omega)
      have hf := hfz k
      have hlen : k < (List.replicate k (SV xl) ++ xs.drop k).length := by simp; omega
      rw [List.getElem?_eq_getElem hlen] at hc
      have HS := hide (hown.stored k (SV xl))
      have HG := hide hgr
      clear hcell hfz hgr
      go_wp2
      go_roundw
      case rel =>
        obtain ⟨h1, h2⟩ := unhide HS
        rw [rep_set _ _ _ (by omega)] at h1
        have hg := unhide HG
        exact ⟨k + 1, by omega, by go_num, h1, ⟨h2.os.trans hg.os, h2.tape.trans hg.tape, h2.output.trans hg.output, Nat.le_trans hg.size h2.size, fun j hj hne => (h2.block j (Nat.lt_of_lt_of_le hj hg.size) hne).trans (hg.block j hj hne)⟩⟩
      case measure => simp [intOf]; omega
    · have hkn : k = n := by omega
      subst hkn
      rw [List.drop_of_length_le (by omega), List.append_nil] at hown
      have hmr : Moved (bookF wb vT (.slice ao k cap)) w wr := hm1.grown hgr (fun g hg => .inl (.inr (.inr hg)))
      have hbr : wr.heap[wb]? = some (.cells #[v0, v1, vT, v3, v4] 70 (0, 0)) := by
        rw [hgr.block wb (by omega) (fun e => ?_)]; exact hb1'
        obtain ⟨_, cur, hc⟩ := ownsRow_type hl1 e.symm
        exact ne_of_type hc hb1' (by decide) rfl
      have hTr : wr.ownsRow 0 33 1 vT tv.length tv := ownsRow_same hT1 fun g hg => hgr.block g (ownsRow_type hT1 hg).1 (fun e => by
        obtain ⟨_, cur, hc⟩ := ownsRow_type hl1 e.symm
        obtain ⟨_, cur', hc'⟩ := ownsRow_type hT1 hg
        exact ne_of_type hc hc' (by decide) rfl)
      have hMid : Mid w wb k v0 v1 vT v3 v4 (.slice ao k cap) (SV xl) tv wr := ⟨hmr, hbr, hTr, hown⟩
      clear hgr hT1 hl1 hb1' hm1 hmr hbr hTr
      go_upto_region 6 with (at_builtin; refine wpList_append_keep _ rfl (.tmp 26) (.tmp 28) 33 rfl 9 i0 (.string ByteArray.empty) 1 16 Tryz.underlying33 hi0 hz0 hs0 hb0 rfl (by decide) _ _ _ rfl (hown.alloc _) ⟨wr.heap.size, 0, none⟩ 1 1 [SV xl] rfl rfl (cells_new wr _ _ _ rfl) (by intro u hu; simp at hu; subst hu; rfl) (by unfold maxLen; omega) (by omega) ?_; intro a1 u1 o1 g1 p1 k1 m1)
      have hMid1 := hMid.next g1 k1
      rw [rep_app1] at o1
      have q1 := mark_of_row o1 (by omega)
      have s1 : ∀ g, a1.ownBlock = some g → (Value.slice ao k cap).ownBlock = some g ∨ w.heap.size ≤ g := by
        intro g hg
        rcases p1 with e | e
        · exact .inl (e ▸ hg)
        · right; rw [hg] at e; simp at e; have := hMid.mv.size; omega
      have Q1 := hide q1
      have M1 := hide hMid1
      have S1 := hide s1
      have O1 := hide o1
      clear g1 p1 m1 q1 hMid1 s1 o1 hown
      go_upto_region 7 with (at_builtin; refine wpList_append_keep _ rfl (.tmp 30) (.tmp 33) 33 rfl 9 i0 (.string ByteArray.empty) 1 16 Tryz.underlying33 hi0 hz0 hs0 hb0 rfl (by decide) _ _ _ rfl (k1.alloc _) ⟨u1.heap.size, 0, none⟩ 2 2 [SV xl, SV xl] rfl rfl (cells_new u1 _ _ _ rfl) (by intro u hu; simp at hu; subst hu; rfl) (by unfold maxLen; omega) (by omega) ?_; intro a2 u2 o2 g2 p2 k2 m2)
      have hMid2 := (unhide M1).next g2 k2
      rw [rep_app2] at o2
      have q2 := mark_of_row o2 (by omega)
      have q12 := ((unhide Q1).alloc _).grown g2 (by intro y hy; simpa using hy) m2
      have s2 : ∀ g, a2.ownBlock = some g → (Value.slice ao k cap).ownBlock = some g ∨ w.heap.size ≤ g := by
        intro g hg
        rcases p2 with e | e
        · exact .inl (e ▸ hg)
        · right; rw [hg] at e; simp at e; have := (unhide M1).mv.size; omega
      have Q2 := hide q2
      have Q12 := hide q12
      have M2 := hide hMid2
      have S2 := hide s2
      have f2 := owns_form o2
      clear g2 p2 m2 q2 q12 hMid2 s2 o2 k1
      go_upto_region 8 with (at_builtin; refine wpList_append_keep _ rfl (.tmp 35) (.tmp 39) 33 rfl 9 i0 (.string ByteArray.empty) 1 16 Tryz.underlying33 hi0 hz0 hs0 hb0 rfl (by decide) _ _ _ rfl (k2.alloc _) ⟨u2.heap.size, 0, none⟩ 3 3 [SV xl, SV xl, SV xl] rfl rfl (cells_new u2 _ _ _ rfl) (by intro u hu; simp at hu; subst hu; rfl) (by unfold maxLen; omega) (by omega) ?_; intro a3 u3 o3 g3 p3 k3 m3)
      have hMid3 := (unhide M2).next g3 k3
      rw [rep_app3] at o3
      have q3 := mark_of_row o3 (by omega)
      have q13 := ((unhide Q12).alloc _).grown g3 (by intro y hy; simpa using hy) m3
      have q23 := ((unhide Q2).alloc _).grown g3 (by intro y hy; simpa using hy) m3
      have q03 := mark_of_row k3 (by omega)
      have s3 : ∀ g, a3.ownBlock = some g → (Value.slice ao k cap).ownBlock = some g ∨ w.heap.size ≤ g := by
        intro g hg
        rcases p3 with e | e
        · exact .inl (e ▸ hg)
        · right; rw [hg] at e; simp at e; have := (unhide M2).mv.size; omega
      obtain ⟨ao3, cap3, rfl, -, -, -, -, -, -⟩ := owns_form o3
      obtain ⟨ao2, cap2, rfl, -, -, -, -, -, -⟩ := f2
      obtain ⟨ao1, cap1, rfl, -, -, -, -, -, -⟩ := owns_form (unhide O1)
      obtain ⟨-, -, d2, -, -, fd⟩ := cell_of_block5 hMid3.blk
      rw [unhide HVT] at d2
      have rowT3 := hMid3.rowT
      rw [unhide HVT] at rowT3
      have M3 := hide hMid3
      have Q03 := hide q03
      have Q13 := hide q13
      have Q23 := hide q23
      have Q3 := hide q3
      have S3 := hide s3
      clear g3 p3 m3 q3 q13 q23 q03 hMid3 s3 o3 k2 k3 fd
      go_wp2_with (at_builtin; refine wpList_append_at _ rfl (.tmp 45) (.tmp 50) 64 rfl 0 33 i1 (.slice none 0 0) 1 24 Tryz.underlying64 hi1 hz1 hs1 hb1 rfl (by decide) _ _ _ rfl (rowT3.alloc _) (some ⟨u3.heap.size, 0, none⟩) 4 4 [.slice ao k cap, .slice ao1 (k + 1) cap1, .slice ao2 (k + 2) cap2, .slice ao3 (k + 3) cap3] rfl rfl (by intro e; cases e) (cells_new u3 _ _) (by intro u hu; simp at hu; rcases hu with rfl | rfl | rfl | rfl <;> rfl) (by unfold maxLen; omega) (by omega) (Nat.zero_le _) ?_; intro vT' u4 o4 g4 p4; obtain ⟨aT', capT', rfl, -, -, -, -, -, -⟩ := owns_form o4; rw [← unhide HVT] at g4 p4; obtain ⟨z1, z2, z3, z4, z5, z6⟩ := (unhide M3).last g4 o4 (unhide HTL) (unhide HWB); rw [unhide HVT] at z3; clear g4 o4)
      go_end0
      rw [unhide HXL]
      refine ⟨rfl, _, _, _, _, z1, z2, z6 _ (unhide Q03) (fun g hg => .inl hg), z6 _ (unhide Q13) (unhide S1), z6 _ (unhide Q23) (unhide S2), z6 _ (unhide Q3) (unhide S3), ?_, ?_, ?_, z5⟩
      · intro g hg
        rcases p4 with e | e
        · exact .inl (e ▸ hg)
        · right; rw [hg] at e; simp at e; have := (unhide M3).mv.size; omega
      · rintro v (rfl | rfl | rfl)
        · exact unhide S1
        · exact unhide S2
        · exact unhide S3
      · have key : ∀ v : Value, (∀ g, v.ownBlock = some g → g < u3.heap.size) → (∀ g, v.ownBlock = some g → (Value.slice ao k cap).ownBlock = some g ∨ w.heap.size ≤ g) → ∀ g, v.ownBlock = some g → (Value.slice aT' (tv.length + 4) capT').ownBlock ≠ some g := by
          intro v h1 h2 g hg hT
          rcases p4 with e | e
          · rw [e] at hT
            obtain ⟨l1, l2⟩ := unhide HTL g hT
            rcases h2 g hg with e2 | e2
            · exact l2 e2
            · omega
          · rw [hT] at e
            simp at e
            have := h1 g hg
            omega
        rintro v (rfl | rfl | rfl | rfl)
        · exact key _ (fun g hg => markLt (unhide Q03) hg) (fun g hg => .inl hg)
        · exact key _ (fun g hg => markLt (unhide Q13) hg) (unhide S1)
        · exact key _ (fun g hg => markLt (unhide Q23) hg) (unhide S2)
        · exact key _ (fun g hg => markLt (unhide Q3) hg) (unhide S3)

end Go.Proofs.YtbljamcdaoofbaaGreatDoor

/- Lists of rows or samples that their owner has written full: what an append leaves of them. -/
namespace Go.Proofs.YtbljamcdaoofbaaGreatDoor
open Go.RowKit

section
variable {P : Program} (w : World)

/-- an append: and what has become of the cells of the old row, place by place -/
theorem run_append_keepS (t ty e : TypeId) (i : TypeInfo) (z : Value) (size bytes : Nat) (ht : P.underlying t = some (.slice e)) (hi : P.info? e = some i) (hz : i.zero = some z)
    (hsize : i.size = size) (hby : i.bytes = bytes) (hzs : z.cells.size = size) (hsz : 0 < size)
    (v : Value) (n : Nat) (xs : List Value) (hown : w.ownsRow 0 e size v n xs)
    (a : Addr) (m c : Nat) (news : List Value) (hl : news.length = m * size) (hnews : ∀ j u, news[j]? = some u → w.cell? (a.add j) = some u) (h1 : ∀ u ∈ news, u.oneCell' = true)
    (h63 : n + m ≤ maxLen) (hbytes : (n + m) * bytes ≤ 140737488355328) :
    ∃ v' w', (Builtin.append_ #[t, t] ty #[v, .slice (some a) m c]).run P w = .ok v' w' ∧ w'.ownsRow 0 e size v' (n + m) (xs ++ news) ∧ w.grownBy w' v.ownBlock ∧
      (v'.ownBlock = v.ownBlock ∨ v'.ownBlock = some w.heap.size) ∧ w'.ownsRow 0 e size v n xs ∧ (∀ g, v.ownBlock = some g → ∀ j, w'.cell? ⟨g, j, none⟩ = w.cell? ⟨g, j, none⟩ ∨ ∃ k u, j = n * size + k ∧ news[k]? = some u ∧ w'.cell? ⟨g, j, none⟩ = some u) := by
  obtain ⟨v', w', hr, ho, hg, hwh⟩ := run_append_at (P := P) w 0 t ty e i z size bytes ht hi hz hsize hby hzs hsz v n xs hown (some a) m c news hl (fun h => by cases h) (by rintro _ ⟨⟩; exact hnews) h1 h63 hbytes (Nat.zero_le _)
  refine ⟨v', w', hr, ho, hg, hwh, ?_⟩
  subst hsize
  rcases hown.2 with ⟨rfl, rfl⟩ | ⟨g, cap, cur, rfl, hbg, hgg, hnc, hcm, hcs, htake⟩
  · exact ⟨⟨hown.1, .inl ⟨rfl, rfl⟩⟩, fun g hgo => by cases hgo⟩
  · by_cases hroom : n + m ≤ cap
    · have hfit : n * i.size + news.length ≤ cur.size := by rw [hl, hcs, ← Nat.add_mul]; exact Nat.mul_le_mul_right _ hroom
      have hr' := run_append_room (P := P) w t ty e i ht hi g n cap cur hgg a m c news hl hnews h1 hroom hfit
      rw [hr'] at hr
      simp only [Result.ok.injEq] at hr
      obtain ⟨rfl, rfl⟩ := hr
      have hh := setRow_heap w g cur (cur.toList.take (n * i.size) ++ news ++ cur.toList.drop (n * i.size + news.length)).toArray e (0, 0) hgg
      have hxl : xs.length = n * i.size := hown.1
      have hcl : cur.toList.length = cur.size := Array.length_toList
      refine ⟨⟨hown.1, .inr ⟨g, cap, _, rfl, hbg, hh, hnc, hcm, ?_, ?_⟩⟩, ?_⟩
      · simp only [List.size_toArray, List.length_append, List.length_take, List.length_drop]
        omega
      · rw [htake, List.append_assoc, ← hxl]
        exact List.take_left
      · rintro g' ⟨⟩ j
        rw [cell_of_row _ g j _ e (0, 0) hh, cell_of_row _ g j cur e (0, 0) hgg]
        have htl : (cur.toList.take (n * i.size)).length = n * i.size := by simp; omega
        rw [List.getElem?_toArray, List.append_assoc]
        by_cases hj1 : j < n * i.size
        · left
          rw [List.getElem?_append_left (by omega), List.getElem?_take, if_pos hj1]
          simp
        · rw [List.getElem?_append_right (by omega), htl]
          by_cases hj2 : j - n * i.size < news.length
          · right
            rw [List.getElem?_append_left hj2]
            exact ⟨j - n * i.size, news[j - n * i.size], by omega, List.getElem?_eq_getElem hj2, List.getElem?_eq_getElem hj2⟩
          · left
            rw [List.getElem?_append_right (by omega), List.getElem?_drop]
            have : n * i.size + news.length + (j - n * i.size - news.length) = j := by omega
            rw [this]
            simp
    · have hsame : w'.heap[g]? = w.heap[g]? := by
        have holds : ∀ j u, xs[j]? = some u → w.cell? ((⟨g, 0, none⟩ : Addr).add j) = some u := hown.cells (g := g) rfl
        subst hby
        have hr' := run_append_grow (P := P) w t ty e i z ht hi hz ⟨g, 0, none⟩ n cap xs hown.1 holds a m c news hl hnews (by omega) (by simp only [maxLen] at h63; omega) (growslice_fits (by omega) hbytes)
        rw [hr'] at hr
        simp only [Result.ok.injEq] at hr
        obtain ⟨-, rfl⟩ := hr
        exact Go.RowKit.Below.heap_alloc w.drew _ g (Array.getElem?_eq_some_iff.1 hgg).1
      refine ⟨ownsRow_same hown (by rintro _ ⟨⟩; exact hsame), ?_⟩
      rintro g' ⟨⟩ j
      exact .inl (World.cell?_of_block (a := ⟨g, j, none⟩) hsame)

theorem wpList_append_keepS {ops : Array Oper} {rest : List Oper} {o : Oper} {a : Act} {Q : Exit → Act → World → Prop} (hgd : o.guard = none) (s x : Operand) (t : TypeId)
    (ho : o.op = .call { callee := .builtin .append, args := #[s, x], argTypes := #[t, t] })
    (e : TypeId) (i : TypeInfo) (z : Value) (size bytes : Nat) (ht : P.underlying t = some (.slice e)) (hi : P.info? e = some i) (hz : i.zero = some z)
    (hsize : i.size = size) (hby : i.bytes = bytes) (hzs : z.cells.size = size) (hsz : 0 < size)
    (v : Value) (n : Nat) (xs : List Value) (hs : a.eval s = v) (hown : w.ownsRow 0 e size v n xs)
    (ad : Addr) (m c : Nat) (news : List Value) (hx : a.eval x = .slice (some ad) m c) (hl : news.length = m * size) (hnews : ∀ j u, news[j]? = some u → w.cell? (ad.add j) = some u) (h1 : ∀ u ∈ news, u.oneCell' = true)
    (h63 : n + m ≤ maxLen) (hbytes : (n + m) * bytes ≤ 140737488355328)
    (h : ∀ v' w', w'.ownsRow 0 e size v' (n + m) (xs ++ news) → w.grownBy w' v.ownBlock → (v'.ownBlock = v.ownBlock ∨ v'.ownBlock = some w.heap.size) → w'.ownsRow 0 e size v n xs →
      (∀ g, v.ownBlock = some g → ∀ j, w'.cell? ⟨g, j, none⟩ = w.cell? ⟨g, j, none⟩ ∨ ∃ k u, j = n * size + k ∧ news[k]? = some u ∧ w'.cell? ⟨g, j, none⟩ = some u) → wpList P ops Q rest (a.put o.dst v') w') : wpList P ops Q (o :: rest) a w := by
  obtain ⟨v', w', hr, h2, h3, h4, h5, h6⟩ := run_append_keepS (P := P) w t o.type e i z size bytes ht hi hz hsize hby hzs hsz v n xs hown ad m c news hl hnews h1 h63 hbytes
  refine wpList_plain hgd fun K hK => ?_
  unfold Oper.wp execOp
  simp only [ho, resolve, invoke, builtin, Sem.run_bind, Sem.run_pure, Result.andThen_ok, List.map_toArray, List.map_cons, List.map_nil, hs, hx, hr]
  exact hK _ _ (h v' w' h2 h3 h4 h5 h6)
end

/-- n times the cells cs -/
def repC (cs : List Value) (n : Nat) : List Value := (List.replicate n cs).flatten

theorem repC_len (cs : List Value) (n : Nat) : (repC cs n).length = n * cs.length := by simp [repC]
theorem repC_succ (cs : List Value) (n : Nat) : repC cs (n + 1) = repC cs n ++ cs := by
  unfold repC
  rw [List.replicate_succ', List.flatten_append]
  simp
theorem repC_zero (cs : List Value) : repC cs 0 = [] := rfl
theorem repC_one (cs : List Value) : repC cs 1 = cs := by simp [repC]
theorem repC_add (cs : List Value) (n : Nat) : ∀ m, repC cs n ++ repC cs m = repC cs (n + m)
  | 0 => by simp [repC_zero]
  | m + 1 => by rw [repC_succ, ← List.append_assoc, repC_add cs n m, ← Nat.add_assoc, repC_succ]

theorem repC_at (cs : List Value) : ∀ (n j off : Nat), j < n → off < cs.length → (repC cs n)[j * cs.length + off]? = cs[off]?
  | 0, j, off, hj, _ => by omega
  | n + 1, j, off, hj, ho => by
    rw [repC_succ]
    by_cases e : j < n
    · rw [List.getElem?_append_left]
      · exact repC_at cs n j off e ho
      · rw [repC_len]
        have : (j + 1) * cs.length ≤ n * cs.length := Nat.mul_le_mul_right _ e
        rw [Nat.add_mul, Nat.one_mul] at this
        omega
    · have hjn : j = n := by omega
      subst hjn
      rw [List.getElem?_append_right (by rw [repC_len]; omega), repC_len, Nat.add_sub_cancel_left]

theorem repC_mod (cs : List Value) (n k off : Nat) (hl : 0 < cs.length) (hk : k % cs.length = off) {u : Value} (h : (repC cs n)[k]? = some u) : cs[off]? = some u := by
  have hlt := (List.getElem?_eq_some_iff.1 h).1
  rw [repC_len] at hlt
  have hj : k / cs.length < n := Nat.div_lt_of_lt_mul (by rw [Nat.mul_comm]; exact hlt)
  have ho : off < cs.length := by rw [← hk]; exact Nat.mod_lt _ hl
  have := repC_at cs n (k / cs.length) off hj ho
  rw [← this, ← h]
  congr 1
  rw [← hk]
  exact (Nat.div_add_mod' k cs.length)

/-- a list that its owner has written full: each element's cell at a place holds X -/
def MarkS (sz off : Nat) (w : World) (v X : Value) : Prop :=
  ∃ ao n cap, v = .slice ao n cap ∧ n ≤ 60 ∧ (ao = none → n = 0) ∧ (∀ a, ao = some a → a.off = 0 ∧ a.spot = none ∧ a.block < w.heap.size ∧ ∀ j, j < n → w.cell? ⟨a.block, j * sz + off, none⟩ = some X)

theorem MarkS.lt {sz off : Nat} {w : World} {v X : Value} (h : MarkS sz off w v X) {g : Nat} (hg : v.ownBlock = some g) : g < w.heap.size := by
  obtain ⟨ao, n, cap, rfl, hn, hnil, hao⟩ := h
  cases ao with
  | none => cases hg
  | some a => cases hg; exact (hao a rfl).2.2.1

theorem markS_of_row {w : World} {v X : Value} {n off : Nat} {e : TypeId} {cs : List Value} (h : w.ownsRow 0 e cs.length v n (repC cs n)) (hn : n ≤ 60) (ho : cs[off]? = some X) : MarkS cs.length off w v X := by
  have hol : off < cs.length := (List.getElem?_eq_some_iff.1 ho).1
  obtain ⟨ao, cap, rfl, -, -, hnil, hao, hcell, -⟩ := owns_form h
  refine ⟨ao, n, cap, rfl, hn, fun e => (hnil e).1, fun a ha => ?_⟩
  obtain ⟨h1, h2, -, h4⟩ := hao a ha
  refine ⟨h1, h2, h4, fun j hj => ?_⟩
  rw [hcell a ha _ ?_, repC_at cs n j off hj hol, ho]
  have : (j + 1) * cs.length ≤ n * cs.length := Nat.mul_le_mul_right _ hj
  rw [Nat.add_mul, Nat.one_mul] at this
  omega

theorem MarkS.keep {sz off : Nat} {w w' : World} {v X : Value} (h : MarkS sz off w v X) (hs : w.heap.size ≤ w'.heap.size) (hk : ∀ g, v.ownBlock = some g → g < w.heap.size → ∀ j, w'.cell? ⟨g, j * sz + off, none⟩ = w.cell? ⟨g, j * sz + off, none⟩ ∨ w'.cell? ⟨g, j * sz + off, none⟩ = some X) : MarkS sz off w' v X := by
  obtain ⟨ao, n, cap, rfl, hn, hnil, hao⟩ := h
  refine ⟨ao, n, cap, rfl, hn, hnil, fun a ha => ?_⟩
  obtain ⟨h1, h2, h3, h4⟩ := hao a ha
  refine ⟨h1, h2, by omega, fun j hj => ?_⟩
  subst ha
  rcases hk a.block rfl h3 j with e | e
  · rw [e]; exact h4 j hj
  · exact e

theorem MarkS.same {sz off : Nat} {w w' : World} {v X : Value} (h : MarkS sz off w v X) (hs : w.heap.size ≤ w'.heap.size) (hk : ∀ g, v.ownBlock = some g → g < w.heap.size → w'.heap[g]? = w.heap[g]?) : MarkS sz off w' v X :=
  h.keep hs fun g hg hgl _ => .inl (World.cell?_of_block (hk g hg hgl))

theorem MarkS.alloc {sz off : Nat} {w : World} {v X : Value} (h : MarkS sz off w v X) (o : Obj) : MarkS sz off (w.alloc o) v X :=
  h.same (by simp) fun _ _ hgl => Go.RowKit.Below.heap_alloc _ _ _ hgl

theorem MarkS.grown {off n m : Nat} {w w' : World} {v u X : Value} {cs : List Value} (h : MarkS cs.length off w v X) (ho : cs[off]? = some X) (hg : w.grownBy w' u.ownBlock)
    (hc : ∀ g, u.ownBlock = some g → ∀ j, w'.cell? ⟨g, j, none⟩ = w.cell? ⟨g, j, none⟩ ∨ ∃ k y, j = n * cs.length + k ∧ (repC cs m)[k]? = some y ∧ w'.cell? ⟨g, j, none⟩ = some y) : MarkS cs.length off w' v X := by
  have hol : off < cs.length := (List.getElem?_eq_some_iff.1 ho).1
  refine h.keep hg.size fun g _ hgl j => ?_
  by_cases e : u.ownBlock = some g
  · rcases hc g e (j * cs.length + off) with e1 | ⟨k, y, hk, hy, e1⟩
    · exact .inl e1
    · right
      rw [e1]
      have hm : k % cs.length = off := by
        have h1 : (j * cs.length + off) % cs.length = off := by
          rw [Nat.add_comm, Nat.add_mul_mod_self_right, Nat.mod_eq_of_lt hol]
        rw [hk, Nat.add_comm, Nat.add_mul_mod_self_right] at h1
        exact h1
      rw [← repC_mod cs m k off (by omega) hm hy, ho]
  · exact .inl (World.cell?_of_block (a := ⟨g, j * cs.length + off, none⟩) (hg.block g hgl (fun e' => e e'.symm)))

end Go.Proofs.YtbljamcdaoofbaaGreatDoor
