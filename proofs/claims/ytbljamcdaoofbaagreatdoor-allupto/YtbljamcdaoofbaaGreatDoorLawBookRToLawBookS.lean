/- Texts LawBookR, LawBookS, joined. -/
import Derived.Test.YtbljamcdaoofbaaGreatDoorLawSmallToLawBook
/- The book of rows: one list more, walked. (made by wip/gen/book.py) -/
namespace Go.Proofs.YtbljamcdaoofbaaGreatDoor
open Go.RowKit

def markN (k : Nat) : Int := 5000000000 + k
theorem infoRe : (Tryz.prog.info? 38).map (fun i => (i.zero, i.size, i.bytes)) = some (some (.agg #[.string ByteArray.empty, .int .i64 0, .string ByteArray.empty]), 3, 40) := by kernel_rfl
theorem infoRb : (Tryz.prog.info? 28).map (fun i => (i.zero, i.size, i.bytes)) = some (some (.slice none 0 0), 1, 24) := by kernel_rfl

theorem block5_set3 {w : World} {p : Nat} {v0 v1 v2 vB v4 : Value} {t : TypeId} (h : w.heap[p]? = some (.cells #[v0, v1, v2, vB, v4] t (0, 0))) (vB' : Value) :
    (w.setCell ⟨p, 3, none⟩ vB').heap[p]? = some (.cells #[v0, v1, v2, vB', v4] t (0, 0)) := by
  simp [World.setCell, Array.getElem?_modify, h]

/-- the cells of the mark -/
def markR (t : Int) : List Value := [SV [], .int .i64 t, SV []]

theorem repR_set (t : Int) (xs : List Value) (k n : Nat) (hx : xs.length = n * 3) (h : k < n) : 
    (((repC (markR t) k ++ xs.drop (k * 3)).set (k * 3) (SV [])).set (k * 3 + 1) (.int .i64 t)).set (k * 3 + 2) (SV []) = repC (markR t) (k + 1) ++ xs.drop ((k + 1) * 3) := by
  have hl : (repC (markR t) k).length = k * 3 := by rw [repC_len]; rfl
  rw [repC_succ, Nat.add_mul, Nat.one_mul, List.append_assoc]
  have h0 : k * 3 < xs.length := by omega
  have h1 : k * 3 + 1 < xs.length := by omega
  have h2 : k * 3 + 2 < xs.length := by omega
  rw [List.drop_eq_getElem_cons h0, List.drop_eq_getElem_cons h1, List.drop_eq_getElem_cons h2]
  rw [List.set_append_right _ _ (by omega), hl, Nat.sub_self, List.set_cons_zero, List.set_append_right _ _ (by omega), hl, List.set_append_right _ _ (by omega), hl]
  rw [show k * 3 + 1 - k * 3 = 1 by omega, show k * 3 + 2 - k * 3 = 2 by omega]
  rfl

/-- the book and the list, in the midst of it; the mark lies in a box of its own -/
structure MidR (w0 : World) (wb n bx : Nat) (v0 v1 v2 vB v4 vl : Value) (t : Int) (tv : List Value) (w : World) : Prop where
  mv : Moved (bookF wb vB vl) w0 w
  blk : w.heap[wb]? = some (.cells #[v0, v1, v2, vB, v4] 70 (0, 0))
  rowT : w.ownsRow 0 28 1 vB tv.length tv
  rowL : w.ownsRow 0 38 3 vl n (repC (markR t) n)
  box : w.heap[bx]? = some (.cells (markR t).toArray 38 (0, 0))
  nbx : vl.ownBlock ≠ some bx

theorem MidR.next {w0 w u : World} {wb n bx : Nat} {v0 v1 v2 vB v4 vl : Value} {t : Int} {tv : List Value} {o : Obj} (h : MidR w0 wb n bx v0 v1 v2 vB v4 vl t tv w) (hg : (w.alloc o).grownBy u vl.ownBlock) (hl : u.ownsRow 0 38 3 vl n (repC (markR t) n)) : MidR w0 wb n bx v0 v1 v2 vB v4 vl t tv u := by
  have hwl := (Array.getElem?_eq_some_iff.1 h.blk).1
  have hbl := (Array.getElem?_eq_some_iff.1 h.box).1
  refine ⟨(h.mv.alloc o).grown hg (fun g hg => .inl (.inr (.inr hg))), ?_, ?_, hl, ?_, h.nbx⟩
  · rw [hg.block wb (by simp; omega) (fun e => ?_), Go.RowKit.Below.heap_alloc w o wb hwl]; exact h.blk
    obtain ⟨_, cur, hc⟩ := ownsRow_type h.rowL e.symm
    exact ne_of_type hc h.blk (by decide) rfl
  · refine ownsRow_same h.rowT fun g hgT => ?_
    obtain ⟨hgl, cur', hc'⟩ := ownsRow_type h.rowT hgT
    rw [hg.block g (by simp; omega) (fun e => ?_), Go.RowKit.Below.heap_alloc w o g hgl]
    obtain ⟨_, cur, hc⟩ := ownsRow_type h.rowL e.symm
    exact ne_of_type hc hc' (by decide) rfl
  · rw [hg.block bx (by simp; omega) (fun e => h.nbx e.symm), Go.RowKit.Below.heap_alloc w o bx hbl]; exact h.box

theorem MidR.last {w0 w u : World} {wb n bx : Nat} {v0 v1 v2 vB v4 vB' vl X : Value} {t : Int} {tv bs : List Value} {o : Obj} (h : MidR w0 wb n bx v0 v1 v2 vB v4 vl t tv w) (hg : (w.alloc o).grownBy u vB.ownBlock) (hr : u.ownsRow 0 28 1 vB' (tv.length + 4) bs)
    (hTl : ∀ g, vB.ownBlock = some g → g < w0.heap.size ∧ vl.ownBlock ≠ some g) (hwb : wb < w0.heap.size ∧ vl.ownBlock ≠ some wb) :
    (u.setCell ⟨wb, 3, none⟩ vB').heap[wb]? = some (.cells #[v0, v1, v2, vB', v4] 70 (0, 0)) ∧ (u.setCell ⟨wb, 3, none⟩ vB').ownsRow 0 28 1 vB' (tv.length + 4) bs ∧ u.cell? ⟨wb, 3, none⟩ = some vB ∧ u.frozen? ⟨wb, 3, none⟩ = false ∧ Moved (bookF wb vB vl) w0 (u.setCell ⟨wb, 3, none⟩ vB') ∧
      (∀ v, MarkS 3 1 w v X → (∀ g, v.ownBlock = some g → vl.ownBlock = some g ∨ w0.heap.size ≤ g) → MarkS 3 1 (u.setCell ⟨wb, 3, none⟩ vB') v X) := by
  have hwl := (Array.getElem?_eq_some_iff.1 h.blk).1
  have hbu : u.heap[wb]? = some (.cells #[v0, v1, v2, vB, v4] 70 (0, 0)) := by
    rw [hg.block wb (by simp; omega) (fun e => ?_), Go.RowKit.Below.heap_alloc w o wb hwl]; exact h.blk
    obtain ⟨_, cur, hc⟩ := ownsRow_type h.rowT e.symm
    exact ne_of_type hc h.blk (by decide) rfl
  obtain ⟨-, -, -, c2, -, fz⟩ := cell_of_block5 hbu
  refine ⟨block5_set3 hbu vB', ?_, c2, fz 3, ((h.mv.alloc o).grown hg (fun g hg => .inl (.inr (.inl hg)))).setCell (.inl (.inl rfl)) _, ?_⟩
  · refine ownsRow_same hr fun g hgo => Go.RowKit.Below.heap_setCell _ _ _ _ ?_
    obtain ⟨_, cur, hc⟩ := ownsRow_type hr hgo
    exact ne_of_type hc hbu (by decide)
  · intro v hv hty
    have hsz := hg.size
    refine hv.same (by simp at hsz ⊢; omega) fun g hgo hgl => ?_
    have hgw : g ≠ wb := by
      rintro rfl
      rcases hty g hgo with e | e
      · exact hwb.2 e
      · omega
    have h1 : u.heap[g]? = w.heap[g]? := by
      rw [hg.block g (by simp; omega) (fun e' => ?_), Go.RowKit.Below.heap_alloc w o g hgl]
      obtain ⟨l1, l2⟩ := hTl g e'.symm
      rcases hty g hgo with e | e
      · exact l2 e
      · omega
    have h2 : (u.setCell ⟨wb, 3, none⟩ vB').heap[g]? = u.heap[g]? := Go.RowKit.Below.heap_setCell _ _ _ _ hgw
    exact h2.trans h1

theorem markR_one (t : Int) (n : Nat) : ∀ u ∈ repC (markR t) n, u.oneCell' = true := by
  intro u hu
  unfold repC at hu
  obtain ⟨l, hl, hu⟩ := List.mem_flatten.1 hu
  rw [(List.mem_replicate.1 hl).2] at hu
  simp [markR] at hu
  rcases hu with rfl | rfl | rfl <;> rfl

set_option maxRecDepth 10000 in
set_option maxHeartbeats 4000000 in
theorem bookR_any {w : World} {wb n : Nat} {v0 v1 v2 vB v4 vl : Value} {tv xs : List Value} (hb : w.heap[wb]? = some (.cells #[v0, v1, v2, vB, v4] 70 (0, 0))) (hT : w.ownsRow 0 28 1 vB tv.length tv) (hl : w.ownsRow 0 38 3 vl n xs) (hn : n ≤ 50) (ht : tv.length ≤ 8388608) :
    Calls Tryz.prog 94 #[.pointer (some ⟨wb, 2, none⟩), vl] w fun e w' => e = .returned (.tuple #[]) ∧ ∃ vB' a1 a2 a3,
      w'.heap[wb]? = some (.cells #[v0, v1, v2, vB', v4] 70 (0, 0)) ∧ w'.ownsRow 0 28 1 vB' (tv.length + 4) (tv ++ [vl, a1, a2, a3]) ∧
      MarkS 3 1 w' vl (.int .i64 (markN (tv.length / 4))) ∧ MarkS 3 1 w' a1 (.int .i64 (markN (tv.length / 4))) ∧ MarkS 3 1 w' a2 (.int .i64 (markN (tv.length / 4))) ∧ MarkS 3 1 w' a3 (.int .i64 (markN (tv.length / 4))) ∧
      (∀ g, vB'.ownBlock = some g → vB.ownBlock = some g ∨ w.heap.size ≤ g) ∧ (∀ v, v = a1 ∨ v = a2 ∨ v = a3 → ∀ g, v.ownBlock = some g → vl.ownBlock = some g ∨ w.heap.size ≤ g) ∧ (∀ v, v = vl ∨ v = a1 ∨ v = a2 ∨ v = a3 → ∀ g, v.ownBlock = some g → vB'.ownBlock ≠ some g) ∧ Moved (bookF wb vB vl) w w' := by
  obtain ⟨i0, hi0, hz0, hs0, hb0⟩ := info_parts infoRe
  obtain ⟨i1, hi1, hz1, hs1, hb1⟩ := info_parts infoRb
  have hxl : xs.length = n * 3 := hl.1
  obtain ⟨-, -, -, c2, -, fz⟩ := cell_of_block5 hb
  obtain ⟨aT, capT, hvT, -, -, -, -, -, -⟩ := owns_form hT
  rw [hvT] at c2
  have hwl := (Array.getElem?_eq_some_iff.1 hb).1
  have HQ := hide (show 5000000000 + ((tv.length : Int)) / 4 = markN (tv.length / 4) by unfold markN; omega)
  have HVT := hide hvT
  clear hvT fz
  go_enter Tryz.func94, Tryz.ntmps94
  go_upto_region 1 with fail
  rw [unhide HQ]
  generalize hxw : markN (tv.length / 4) = t
  have HXL := hide hxw
  clear hxw HQ
  have hbox := heap_alloc_new w (.cells (markR t).toArray 38)
  have hbw : Below w.heap.size w (w.alloc (.cells (markR t).toArray 38)) := (Below.refl _ w).alloc (Nat.le_refl _) _
  have hm1 : Moved (bookF wb vB vl) w (w.alloc (.cells (markR t).toArray 38)) := Moved.of_below hbw
  have hb1' : (w.alloc (.cells (markR t).toArray 38)).heap[wb]? = some (.cells #[v0, v1, v2, vB, v4] 70 (0, 0)) := by rw [hbw.block wb hwl]; exact hb
  have hT1 : (w.alloc (.cells (markR t).toArray 38)).ownsRow 0 28 1 vB tv.length tv := hT.alloc _
  have hl1 : (w.alloc (.cells (markR t).toArray 38)).ownsRow 0 38 3 vl n xs := hl.alloc _
  have hsz1 := hbw.size
  have HTL := hide (show ∀ g, vB.ownBlock = some g → g < w.heap.size ∧ vl.ownBlock ≠ some g from fun g hg => by
    obtain ⟨h1, cur, hc⟩ := ownsRow_type hT hg
    refine ⟨h1, fun e => ?_⟩
    obtain ⟨_, cur', hc'⟩ := ownsRow_type hl e
    exact ne_of_type hc hc' (by decide) rfl)
  have HWB := hide (show wb < w.heap.size ∧ vl.ownBlock ≠ some wb from ⟨hwl, fun e => by
    obtain ⟨_, cur', hc'⟩ := ownsRow_type hl e
    exact ne_of_type hc' hb (by decide) rfl⟩)
  have HNB := hide (show vl.ownBlock ≠ some w.heap.size from fun e => by
    have := (ownsRow_type hl e).1
    omega)
  have hvs : ∃ ao cap, vl = .slice ao n cap ∧ n ≤ cap ∧ (ao = none → n = 0) := by
    obtain ⟨ao, cap, e, h1, -, h2, -, -, -⟩ := owns_form hl
    exact ⟨ao, cap, e, h1, fun e' => (h2 e').1⟩
  obtain ⟨ao, cap, hvl, hncap, hnil⟩ := hvs
  subst hvl
  have HN := hide hnil
  have hbwl : w.heap.size < (w.alloc (.cells (markR t).toArray 38)).heap.size := by simp
  obtain ⟨b0, b1, b2, -⟩ := cell_of_block3 (show (w.alloc (.cells (markR t).toArray 38)).heap[w.heap.size]? = some (.cells #[SV [], .int .i64 t, SV []] 38 (0, 0)) from hbox)
  clear hb hT hl hbw c2 hnil
  change Code.wp _ _ _ _ (w.alloc (.cells (markR t).toArray 38))
  generalize w.alloc (.cells (markR t).toArray 38) = w1 at *
  generalize hbn : w.heap.size = bx at *
  go_wp2_with fail
  go_loopw [5] (fun i wr => ∃ k : Nat, k ≤ n ∧ i = .int .i64 k ∧ wr.ownsRow 0 38 3 (.slice ao n cap) n (repC (markR t) k ++ xs.drop (k * 3)) ∧ Hid (w1.grownBy wr (Value.slice ao n cap).ownBlock)) (fun i _ => n - (intOf i).toNat)
  case atStart => exact ⟨0, by omega, rfl, by simpa [repC_zero] using hl1, hide ⟨rfl, rfl, rfl, Nat.le_refl _, fun _ _ _ => rfl⟩⟩
  case round =>
    obtain ⟨k, hk, rfl, hown, HGR⟩ := hrel
    have hboxr : wr.heap[bx]? = some (.cells (markR t).toArray 38 (0, 0)) := by
      rw [(unhide HGR).block bx hbwl (fun e => unhide HNB e.symm)]; exact hbox
    obtain ⟨x0, x1, x2, -⟩ := cell_of_block3 (show wr.heap[bx]? = some (.cells #[SV [], .int .i64 t, SV []] 38 (0, 0)) from hboxr)
    have HBR := hide hboxr
    clear hboxr
    by_cases hlt : k < n
    · obtain ⟨g, cap', hv, -, hgw, -, -, hcell, hfz⟩ := owns_open hown (by omega)
      simp only [Value.slice.injEq, true_and] at hv
      obtain ⟨rfl, rfl⟩ := hv
      have hln : (repC (markR t) k ++ xs.drop (k * 3)).length = n * 3 := hown.1
      have q0 := hcell (k * 3) (by omega)
      have q1 := hcell (k * 3 + 1) (by omega)
      have q2 := hcell (k * 3 + 2) (by omega)
      rw [List.getElem?_eq_getElem (by omega)] at q0 q1
      rw [List.getElem?_eq_getElem (by omega)] at q2
      have f0 := hfz (k * 3)
      have f1 := hfz (k * 3 + 1)
      have f2 := hfz (k * 3 + 2)
      have HS := hide (((hown.stored (k * 3) (SV [])).1.stored (k * 3 + 1) (.int .i64 t)).1.stored (k * 3 + 2) (SV []))
      have HS0 := hide (hown.stored (k * 3) (SV []))
      have HS1 := hide ((hown.stored (k * 3) (SV [])).1.stored (k * 3 + 1) (.int .i64 t))
      have hgb : bx ≠ g := fun e => unhide HNB (by rw [e]; rfl)
      clear hcell hfz
      go_wp2_with fail
      go_roundw
      case rel =>
        obtain ⟨h1, h2⟩ := unhide HS
        have h20 := (unhide HS0).2
        have h21 := (unhide HS1).2
        rw [repR_set t xs k n hxl (by omega)] at h1
        have hg := unhide HGR
        refine ⟨k + 1, by omega, by go_num, h1, hide ?_⟩
        have tr : ∀ {a b c : World} {r : Option Nat}, a.grownBy b r → b.grownBy c r → a.grownBy c r := fun x y => ⟨y.os.trans x.os, y.tape.trans x.tape, y.output.trans x.output, Nat.le_trans x.size y.size, fun j hj hne => (y.block j (Nat.lt_of_lt_of_le hj x.size) hne).trans (x.block j hj hne)⟩
        exact tr (tr (tr hg h20) h21) h2
      case measure => simp [intOf]; omega
    · have hkn : k = n := by omega
      subst hkn
      rw [List.drop_of_length_le (by omega), List.append_nil] at hown
      have hgr := unhide HGR
      have hmr : Moved (bookF wb vB (.slice ao k cap)) w wr := hm1.grown hgr (fun g hg => .inl (.inr (.inr hg)))
      have hbr : wr.heap[wb]? = some (.cells #[v0, v1, v2, vB, v4] 70 (0, 0)) := by
        rw [hgr.block wb (by omega) (fun e => ?_)]; exact hb1'
        obtain ⟨_, cur, hc⟩ := ownsRow_type hl1 e.symm
        exact ne_of_type hc hb1' (by decide) rfl
      have hTr : wr.ownsRow 0 28 1 vB tv.length tv := ownsRow_same hT1 fun g hg => hgr.block g (ownsRow_type hT1 hg).1 (fun e => by
        obtain ⟨_, cur, hc⟩ := ownsRow_type hl1 e.symm
        obtain ⟨_, cur', hc'⟩ := ownsRow_type hT1 hg
        exact ne_of_type hc hc' (by decide) rfl)
      have hMid : MidR w wb k bx v0 v1 v2 vB v4 (.slice ao k cap) t tv wr := ⟨hmr, hbr, hTr, hown, unhide HBR, unhide HNB⟩
      have hsm := hmr.size
      clear hgr hT1 hl1 hb1' hm1 hmr hbr hTr HBR HGR
      go_upto_region 6 with (at_builtin; refine wpList_append_keepS _ rfl _ _ 28 rfl 38 i0 _ 3 40 Tryz.underlying28 hi0 hz0 hs0 hb0 rfl (by decide) _ _ _ rfl (hown.alloc _) ⟨wr.heap.size, 0, none⟩ 1 1 (repC (markR t) 1) rfl rfl (cells_new wr (repC (markR t) 1) _ _ rfl) (markR_one t 1) (by unfold maxLen; omega) (by omega) ?_; intro a1 u1 o1 g1 p1 k1 m1)
      have hMid1 := hMid.next g1 k1
      rw [repC_add] at o1
      have q1 := markS_of_row (cs := markR t) o1 (by omega) (off := 1) rfl
      have s1 : ∀ g, a1.ownBlock = some g → (Value.slice ao k cap).ownBlock = some g ∨ w.heap.size ≤ g := by
        intro g hg
        rcases p1 with e | e
        · exact .inl (e ▸ hg)
        · right; rw [hg] at e; simp at e; omega
      obtain ⟨x0, x1, x2, -⟩ := cell_of_block3 (show u1.heap[bx]? = some (.cells #[SV [], .int .i64 t, SV []] 38 (0, 0)) from hMid1.box)
      have hu1 := hMid1.mv.size
      have Q1 := hide q1
      have M1 := hide hMid1
      have S1 := hide s1
      have O1 := hide o1
      clear g1 p1 m1 q1 hMid1 s1 o1 hown
      go_upto_region 7 with (at_builtin; refine wpList_append_keepS _ rfl _ _ 28 rfl 38 i0 _ 3 40 Tryz.underlying28 hi0 hz0 hs0 hb0 rfl (by decide) _ _ _ rfl (k1.alloc _) ⟨u1.heap.size, 0, none⟩ 2 2 (repC (markR t) 2) rfl rfl (cells_new u1 (repC (markR t) 2) _ _ rfl) (markR_one t 2) (by unfold maxLen; omega) (by omega) ?_; intro a2 u2 o2 g2 p2 k2 m2)
      have hMid2 := (unhide M1).next g2 k2
      rw [repC_add] at o2
      have q2 := markS_of_row (cs := markR t) o2 (by omega) (off := 1) rfl
      have q12 := ((unhide Q1).alloc _).grown (cs := markR t) rfl g2 m2
      have s2 : ∀ g, a2.ownBlock = some g → (Value.slice ao k cap).ownBlock = some g ∨ w.heap.size ≤ g := by
        intro g hg
        rcases p2 with e | e
        · exact .inl (e ▸ hg)
        · right; rw [hg] at e; simp at e; omega
      obtain ⟨x0, x1, x2, -⟩ := cell_of_block3 (show u2.heap[bx]? = some (.cells #[SV [], .int .i64 t, SV []] 38 (0, 0)) from hMid2.box)
      have hu2 := hMid2.mv.size
      have Q2 := hide q2
      have Q12 := hide q12
      have M2 := hide hMid2
      have S2 := hide s2
      have f2 := owns_form o2
      clear g2 p2 m2 q2 q12 hMid2 s2 o2 k1
      go_upto_region 8 with (at_builtin; refine wpList_append_keepS _ rfl _ _ 28 rfl 38 i0 _ 3 40 Tryz.underlying28 hi0 hz0 hs0 hb0 rfl (by decide) _ _ _ rfl (k2.alloc _) ⟨u2.heap.size, 0, none⟩ 3 3 (repC (markR t) 3) rfl rfl (cells_new u2 (repC (markR t) 3) _ _ rfl) (markR_one t 3) (by unfold maxLen; omega) (by omega) ?_; intro a3 u3 o3 g3 p3 k3 m3)
      have hMid3 := (unhide M2).next g3 k3
      rw [repC_add] at o3
      have q3 := markS_of_row (cs := markR t) o3 (by omega) (off := 1) rfl
      have q13 := ((unhide Q12).alloc _).grown (cs := markR t) rfl g3 m3
      have q23 := ((unhide Q2).alloc _).grown (cs := markR t) rfl g3 m3
      have q03 := markS_of_row (cs := markR t) k3 (by omega) (off := 1) rfl
      have s3 : ∀ g, a3.ownBlock = some g → (Value.slice ao k cap).ownBlock = some g ∨ w.heap.size ≤ g := by
        intro g hg
        rcases p3 with e | e
        · exact .inl (e ▸ hg)
        · right; rw [hg] at e; simp at e; omega
      obtain ⟨ao3, cap3, rfl, -, -, -, -, -, -⟩ := owns_form o3
      obtain ⟨ao2, cap2, rfl, -, -, -, -, -, -⟩ := f2
      obtain ⟨ao1, cap1, rfl, -, -, -, -, -, -⟩ := owns_form (unhide O1)
      obtain ⟨-, -, -, d2, -, fd⟩ := cell_of_block5 hMid3.blk
      rw [unhide HVT] at d2
      have rowT3 := hMid3.rowT
      rw [unhide HVT] at rowT3
      have hu3 := hMid3.mv.size
      have M3 := hide hMid3
      have Q03 := hide q03
      have Q13 := hide q13
      have Q23 := hide q23
      have Q3 := hide q3
      have S3 := hide s3
      clear g3 p3 m3 q3 q13 q23 q03 hMid3 s3 o3 k2 k3 fd
      go_wp2_with (at_builtin; refine wpList_append_at _ rfl _ _ 65 rfl 0 28 i1 (.slice none 0 0) 1 24 Tryz.underlying65 hi1 hz1 hs1 hb1 rfl (by decide) _ _ _ rfl (rowT3.alloc _) (some ⟨u3.heap.size, 0, none⟩) 4 4 [.slice ao k cap, .slice ao1 (k + 1) cap1, .slice ao2 (k + 2) cap2, .slice ao3 (k + 3) cap3] rfl rfl (by intro e; cases e) (cells_new u3 _ _) (by intro u hu; simp at hu; rcases hu with rfl | rfl | rfl | rfl <;> rfl) (by unfold maxLen; omega) (by omega) (Nat.zero_le _) ?_; intro vB' u4 o4 g4 p4; obtain ⟨aT', capT', rfl, -, -, -, -, -, -⟩ := owns_form o4; rw [← unhide HVT] at g4 p4; obtain ⟨z1, z2, z3, z4, z5, z6⟩ := (unhide M3).last (X := .int .i64 t) g4 o4 (by rw [hbn]; exact unhide HTL) (by rw [hbn]; exact unhide HWB); rw [unhide HVT] at z3; clear g4 o4)
      go_end0
      rw [unhide HXL]
      refine ⟨rfl, _, _, _, _, z1, z2, z6 _ (unhide Q03) (fun g hg => .inl hg), z6 _ (unhide Q13) (unhide S1), z6 _ (unhide Q23) (unhide S2), z6 _ (unhide Q3) (unhide S3), ?_, ?_, ?_, z5⟩
      · intro g hg
        rcases p4 with e | e
        · exact .inl (e ▸ hg)
        · right; rw [hg] at e; simp at e; omega
      · rintro v (rfl | rfl | rfl)
        · exact unhide S1
        · exact unhide S2
        · exact unhide S3
      · have key : ∀ v : Value, (∀ g, v.ownBlock = some g → g < u3.heap.size) → (∀ g, v.ownBlock = some g → (Value.slice ao k cap).ownBlock = some g ∨ w.heap.size ≤ g) → ∀ g, v.ownBlock = some g → (Value.slice aT' (tv.length + 4) capT').ownBlock ≠ some g := by
          intro v h1 h2 g hg hT
          rcases p4 with e | e
          · rw [e] at hT
            obtain ⟨l1, l2⟩ := unhide HTL g hT
            rcases h2 g hg with e2 | e2
            · exact l2 e2
            · omega
          · rw [hT] at e
            simp at e
            have := h1 g hg
            omega
        rintro v (rfl | rfl | rfl | rfl)
        · exact key _ (fun g hg => (unhide Q03).lt hg) (fun g hg => .inl hg)
        · exact key _ (fun g hg => (unhide Q13).lt hg) (unhide S1)
        · exact key _ (fun g hg => (unhide Q23).lt hg) (unhide S2)
        · exact key _ (fun g hg => (unhide Q3).lt hg) (unhide S3)

end Go.Proofs.YtbljamcdaoofbaaGreatDoor

/- The book of samples: one list more, walked. (made by wip/gen/book.py) -/
namespace Go.Proofs.YtbljamcdaoofbaaGreatDoor
open Go.RowKit

theorem infoSe : (Tryz.prog.info? 57).map (fun i => (i.zero, i.size, i.bytes)) = some (some (.agg #[.string ByteArray.empty, .int .i64 0]), 2, 24) := by kernel_rfl
theorem infoSb : (Tryz.prog.info? 52).map (fun i => (i.zero, i.size, i.bytes)) = some (some (.slice none 0 0), 1, 24) := by kernel_rfl

theorem block5_set4 {w : World} {p : Nat} {v0 v1 v2 v4 vB : Value} {t : TypeId} (h : w.heap[p]? = some (.cells #[v0, v1, v2, v4, vB] t (0, 0))) (vB' : Value) :
    (w.setCell ⟨p, 4, none⟩ vB').heap[p]? = some (.cells #[v0, v1, v2, v4, vB'] t (0, 0)) := by
  simp [World.setCell, Array.getElem?_modify, h]

/-- the cells of the mark -/
def markS (t : Int) : List Value := [SV [], .int .i64 t]

theorem repS_set (t : Int) (xs : List Value) (k n : Nat) (hx : xs.length = n * 2) (h : k < n) : 
    ((repC (markS t) k ++ xs.drop (k * 2)).set (k * 2) (SV [])).set (k * 2 + 1) (.int .i64 t) = repC (markS t) (k + 1) ++ xs.drop ((k + 1) * 2) := by
  have hl : (repC (markS t) k).length = k * 2 := by rw [repC_len]; rfl
  rw [repC_succ, Nat.add_mul, Nat.one_mul, List.append_assoc]
  have h0 : k * 2 < xs.length := by omega
  have h1 : k * 2 + 1 < xs.length := by omega
  rw [List.drop_eq_getElem_cons h0, List.drop_eq_getElem_cons h1]
  rw [List.set_append_right _ _ (by omega), hl, Nat.sub_self, List.set_cons_zero, List.set_append_right _ _ (by omega), hl]
  rw [show k * 2 + 1 - k * 2 = 1 by omega]
  rfl

/-- the book and the list, in the midst of it; the mark lies in a box of its own -/
structure MidS (w0 : World) (wb n bx : Nat) (v0 v1 v2 v4 vB vl : Value) (t : Int) (tv : List Value) (w : World) : Prop where
  mv : Moved (bookF wb vB vl) w0 w
  blk : w.heap[wb]? = some (.cells #[v0, v1, v2, v4, vB] 70 (0, 0))
  rowT : w.ownsRow 0 52 1 vB tv.length tv
  rowL : w.ownsRow 0 57 2 vl n (repC (markS t) n)
  box : w.heap[bx]? = some (.cells (markS t).toArray 57 (0, 0))
  nbx : vl.ownBlock ≠ some bx

theorem MidS.next {w0 w u : World} {wb n bx : Nat} {v0 v1 v2 v4 vB vl : Value} {t : Int} {tv : List Value} {o : Obj} (h : MidS w0 wb n bx v0 v1 v2 v4 vB vl t tv w) (hg : (w.alloc o).grownBy u vl.ownBlock) (hl : u.ownsRow 0 57 2 vl n (repC (markS t) n)) : MidS w0 wb n bx v0 v1 v2 v4 vB vl t tv u := by
  have hwl := (Array.getElem?_eq_some_iff.1 h.blk).1
  have hbl := (Array.getElem?_eq_some_iff.1 h.box).1
  refine ⟨(h.mv.alloc o).grown hg (fun g hg => .inl (.inr (.inr hg))), ?_, ?_, hl, ?_, h.nbx⟩
  · rw [hg.block wb (by simp; omega) (fun e => ?_), Go.RowKit.Below.heap_alloc w o wb hwl]; exact h.blk
    obtain ⟨_, cur, hc⟩ := ownsRow_type h.rowL e.symm
    exact ne_of_type hc h.blk (by decide) rfl
  · refine ownsRow_same h.rowT fun g hgT => ?_
    obtain ⟨hgl, cur', hc'⟩ := ownsRow_type h.rowT hgT
    rw [hg.block g (by simp; omega) (fun e => ?_), Go.RowKit.Below.heap_alloc w o g hgl]
    obtain ⟨_, cur, hc⟩ := ownsRow_type h.rowL e.symm
    exact ne_of_type hc hc' (by decide) rfl
  · rw [hg.block bx (by simp; omega) (fun e => h.nbx e.symm), Go.RowKit.Below.heap_alloc w o bx hbl]; exact h.box

theorem MidS.last {w0 w u : World} {wb n bx : Nat} {v0 v1 v2 v4 vB vB' vl X : Value} {t : Int} {tv bs : List Value} {o : Obj} (h : MidS w0 wb n bx v0 v1 v2 v4 vB vl t tv w) (hg : (w.alloc o).grownBy u vB.ownBlock) (hr : u.ownsRow 0 52 1 vB' (tv.length + 4) bs)
    (hTl : ∀ g, vB.ownBlock = some g → g < w0.heap.size ∧ vl.ownBlock ≠ some g) (hwb : wb < w0.heap.size ∧ vl.ownBlock ≠ some wb) :
    (u.setCell ⟨wb, 4, none⟩ vB').heap[wb]? = some (.cells #[v0, v1, v2, v4, vB'] 70 (0, 0)) ∧ (u.setCell ⟨wb, 4, none⟩ vB').ownsRow 0 52 1 vB' (tv.length + 4) bs ∧ u.cell? ⟨wb, 4, none⟩ = some vB ∧ u.frozen? ⟨wb, 4, none⟩ = false ∧ Moved (bookF wb vB vl) w0 (u.setCell ⟨wb, 4, none⟩ vB') ∧
      (∀ v, MarkS 2 1 w v X → (∀ g, v.ownBlock = some g → vl.ownBlock = some g ∨ w0.heap.size ≤ g) → MarkS 2 1 (u.setCell ⟨wb, 4, none⟩ vB') v X) := by
  have hwl := (Array.getElem?_eq_some_iff.1 h.blk).1
  have hbu : u.heap[wb]? = some (.cells #[v0, v1, v2, v4, vB] 70 (0, 0)) := by
    rw [hg.block wb (by simp; omega) (fun e => ?_), Go.RowKit.Below.heap_alloc w o wb hwl]; exact h.blk
    obtain ⟨_, cur, hc⟩ := ownsRow_type h.rowT e.symm
    exact ne_of_type hc h.blk (by decide) rfl
  obtain ⟨-, -, -, -, c2, fz⟩ := cell_of_block5 hbu
  refine ⟨block5_set4 hbu vB', ?_, c2, fz 4, ((h.mv.alloc o).grown hg (fun g hg => .inl (.inr (.inl hg)))).setCell (.inl (.inl rfl)) _, ?_⟩
  · refine ownsRow_same hr fun g hgo => Go.RowKit.Below.heap_setCell _ _ _ _ ?_
    obtain ⟨_, cur, hc⟩ := ownsRow_type hr hgo
    exact ne_of_type hc hbu (by decide)
  · intro v hv hty
    have hsz := hg.size
    refine hv.same (by simp at hsz ⊢; omega) fun g hgo hgl => ?_
    have hgw : g ≠ wb := by
      rintro rfl
      rcases hty g hgo with e | e
      · exact hwb.2 e
      · omega
    have h1 : u.heap[g]? = w.heap[g]? := by
      rw [hg.block g (by simp; omega) (fun e' => ?_), Go.RowKit.Below.heap_alloc w o g hgl]
      obtain ⟨l1, l2⟩ := hTl g e'.symm
      rcases hty g hgo with e | e
      · exact l2 e
      · omega
    have h2 : (u.setCell ⟨wb, 4, none⟩ vB').heap[g]? = u.heap[g]? := Go.RowKit.Below.heap_setCell _ _ _ _ hgw
    exact h2.trans h1

theorem markS_one (t : Int) (n : Nat) : ∀ u ∈ repC (markS t) n, u.oneCell' = true := by
  intro u hu
  unfold repC at hu
  obtain ⟨l, hl, hu⟩ := List.mem_flatten.1 hu
  rw [(List.mem_replicate.1 hl).2] at hu
  simp [markS] at hu
  rcases hu with rfl | rfl <;> rfl

set_option maxRecDepth 10000 in
set_option maxHeartbeats 4000000 in
theorem bookS_any {w : World} {wb n : Nat} {v0 v1 v2 v4 vB vl : Value} {tv xs : List Value} (hb : w.heap[wb]? = some (.cells #[v0, v1, v2, v4, vB] 70 (0, 0))) (hT : w.ownsRow 0 52 1 vB tv.length tv) (hl : w.ownsRow 0 57 2 vl n xs) (hn : n ≤ 50) (ht : tv.length ≤ 8388608) :
    Calls Tryz.prog 96 #[.pointer (some ⟨wb, 2, none⟩), vl] w fun e w' => e = .returned (.tuple #[]) ∧ ∃ vB' a1 a2 a3,
      w'.heap[wb]? = some (.cells #[v0, v1, v2, v4, vB'] 70 (0, 0)) ∧ w'.ownsRow 0 52 1 vB' (tv.length + 4) (tv ++ [vl, a1, a2, a3]) ∧
      MarkS 2 1 w' vl (.int .i64 (markN (tv.length / 4))) ∧ MarkS 2 1 w' a1 (.int .i64 (markN (tv.length / 4))) ∧ MarkS 2 1 w' a2 (.int .i64 (markN (tv.length / 4))) ∧ MarkS 2 1 w' a3 (.int .i64 (markN (tv.length / 4))) ∧
      (∀ g, vB'.ownBlock = some g → vB.ownBlock = some g ∨ w.heap.size ≤ g) ∧ (∀ v, v = a1 ∨ v = a2 ∨ v = a3 → ∀ g, v.ownBlock = some g → vl.ownBlock = some g ∨ w.heap.size ≤ g) ∧ (∀ v, v = vl ∨ v = a1 ∨ v = a2 ∨ v = a3 → ∀ g, v.ownBlock = some g → vB'.ownBlock ≠ some g) ∧ Moved (bookF wb vB vl) w w' := by
  obtain ⟨i0, hi0, hz0, hs0, hb0⟩ := info_parts infoSe
  obtain ⟨i1, hi1, hz1, hs1, hb1⟩ := info_parts infoSb
  have hxl : xs.length = n * 2 := hl.1
  obtain ⟨-, -, -, -, c2, fz⟩ := cell_of_block5 hb
  obtain ⟨aT, capT, hvT, -, -, -, -, -, -⟩ := owns_form hT
  rw [hvT] at c2
  have hwl := (Array.getElem?_eq_some_iff.1 hb).1
  have HQ := hide (show 5000000000 + ((tv.length : Int)) / 4 = markN (tv.length / 4) by unfold markN; omega)
  have HVT := hide hvT
  clear hvT fz
  go_enter Tryz.func96, Tryz.ntmps96
  go_upto_region 1 with fail
  rw [unhide HQ]
  generalize hxw : markN (tv.length / 4) = t
  have HXL := hide hxw
  clear hxw HQ
  have hbox := heap_alloc_new w (.cells (markS t).toArray 57)
  have hbw : Below w.heap.size w (w.alloc (.cells (markS t).toArray 57)) := (Below.refl _ w).alloc (Nat.le_refl _) _
  have hm1 : Moved (bookF wb vB vl) w (w.alloc (.cells (markS t).toArray 57)) := Moved.of_below hbw
  have hb1' : (w.alloc (.cells (markS t).toArray 57)).heap[wb]? = some (.cells #[v0, v1, v2, v4, vB] 70 (0, 0)) := by rw [hbw.block wb hwl]; exact hb
  have hT1 : (w.alloc (.cells (markS t).toArray 57)).ownsRow 0 52 1 vB tv.length tv := hT.alloc _
  have hl1 : (w.alloc (.cells (markS t).toArray 57)).ownsRow 0 57 2 vl n xs := hl.alloc _
  have hsz1 := hbw.size
  have HTL := hide (show ∀ g, vB.ownBlock = some g → g < w.heap.size ∧ vl.ownBlock ≠ some g from fun g hg => by
    obtain ⟨h1, cur, hc⟩ := ownsRow_type hT hg
    refine ⟨h1, fun e => ?_⟩
    obtain ⟨_, cur', hc'⟩ := ownsRow_type hl e
    exact ne_of_type hc hc' (by decide) rfl)
  have HWB := hide (show wb < w.heap.size ∧ vl.ownBlock ≠ some wb from ⟨hwl, fun e => by
    obtain ⟨_, cur', hc'⟩ := ownsRow_type hl e
    exact ne_of_type hc' hb (by decide) rfl⟩)
  have HNB := hide (show vl.ownBlock ≠ some w.heap.size from fun e => by
    have := (ownsRow_type hl e).1
    omega)
  have hvs : ∃ ao cap, vl = .slice ao n cap ∧ n ≤ cap ∧ (ao = none → n = 0) := by
    obtain ⟨ao, cap, e, h1, -, h2, -, -, -⟩ := owns_form hl
    exact ⟨ao, cap, e, h1, fun e' => (h2 e').1⟩
  obtain ⟨ao, cap, hvl, hncap, hnil⟩ := hvs
  subst hvl
  have HN := hide hnil
  have hbwl : w.heap.size < (w.alloc (.cells (markS t).toArray 57)).heap.size := by simp
  obtain ⟨b0, b1, -⟩ := cell_of_block2 (show (w.alloc (.cells (markS t).toArray 57)).heap[w.heap.size]? = some (.cells #[SV [], .int .i64 t] 57 (0, 0)) from hbox)
  clear hb hT hl hbw c2 hnil
  change Code.wp _ _ _ _ (w.alloc (.cells (markS t).toArray 57))
  generalize w.alloc (.cells (markS t).toArray 57) = w1 at *
  generalize hbn : w.heap.size = bx at *
  go_wp2_with fail
  go_loopw [5] (fun i wr => ∃ k : Nat, k ≤ n ∧ i = .int .i64 k ∧ wr.ownsRow 0 57 2 (.slice ao n cap) n (repC (markS t) k ++ xs.drop (k * 2)) ∧ Hid (w1.grownBy wr (Value.slice ao n cap).ownBlock)) (fun i _ => n - (intOf i).toNat)
  case atStart => exact ⟨0, by omega, rfl, by simpa [repC_zero] using hl1, hide ⟨rfl, rfl, rfl, Nat.le_refl _, fun _ _ _ => rfl⟩⟩
  case round =>
    obtain ⟨k, hk, rfl, hown, HGR⟩ := hrel
    have hboxr : wr.heap[bx]? = some (.cells (markS t).toArray 57 (0, 0)) := by
      rw [(unhide HGR).block bx hbwl (fun e => unhide HNB e.symm)]; exact hbox
    obtain ⟨x0, x1, -⟩ := cell_of_block2 (show wr.heap[bx]? = some (.cells #[SV [], .int .i64 t] 57 (0, 0)) from hboxr)
    have HBR := hide hboxr
    clear hboxr
    by_cases hlt : k < n
    · obtain ⟨g, cap', hv, -, hgw, -, -, hcell, hfz⟩ := owns_open hown (by omega)
      simp only [Value.slice.injEq, true_and] at hv
      obtain ⟨rfl, rfl⟩ := hv
      have hln : (repC (markS t) k ++ xs.drop (k * 2)).length = n * 2 := hown.1
      have q0 := hcell (k * 2) (by omega)
      have q1 := hcell (k * 2 + 1) (by omega)
      rw [List.getElem?_eq_getElem (by omega)] at q0 q1
      have f0 := hfz (k * 2)
      have f1 := hfz (k * 2 + 1)
      have HS := hide ((hown.stored (k * 2) (SV [])).1.stored (k * 2 + 1) (.int .i64 t))
      have HS0 := hide (hown.stored (k * 2) (SV []))
      have HS1 := hide ((hown.stored (k * 2) (SV [])).1.stored (k * 2 + 1) (.int .i64 t))
      have hgb : bx ≠ g := fun e => unhide HNB (by rw [e]; rfl)
      clear hcell hfz
      go_wp2_with fail
      go_roundw
      case rel =>
        obtain ⟨h1, h2⟩ := unhide HS
        have h20 := (unhide HS0).2
        have h21 := (unhide HS1).2
        rw [repS_set t xs k n hxl (by omega)] at h1
        have hg := unhide HGR
        refine ⟨k + 1, by omega, by go_num, h1, hide ?_⟩
        have tr : ∀ {a b c : World} {r : Option Nat}, a.grownBy b r → b.grownBy c r → a.grownBy c r := fun x y => ⟨y.os.trans x.os, y.tape.trans x.tape, y.output.trans x.output, Nat.le_trans x.size y.size, fun j hj hne => (y.block j (Nat.lt_of_lt_of_le hj x.size) hne).trans (x.block j hj hne)⟩
        exact tr (tr hg h20) h2
      case measure => simp [intOf]; omega
    · have hkn : k = n := by omega
      subst hkn
      rw [List.drop_of_length_le (by omega), List.append_nil] at hown
      have hgr := unhide HGR
      have hmr : Moved (bookF wb vB (.slice ao k cap)) w wr := hm1.grown hgr (fun g hg => .inl (.inr (.inr hg)))
      have hbr : wr.heap[wb]? = some (.cells #[v0, v1, v2, v4, vB] 70 (0, 0)) := by
        rw [hgr.block wb (by omega) (fun e => ?_)]; exact hb1'
        obtain ⟨_, cur, hc⟩ := ownsRow_type hl1 e.symm
        exact ne_of_type hc hb1' (by decide) rfl
      have hTr : wr.ownsRow 0 52 1 vB tv.length tv := ownsRow_same hT1 fun g hg => hgr.block g (ownsRow_type hT1 hg).1 (fun e => by
        obtain ⟨_, cur, hc⟩ := ownsRow_type hl1 e.symm
        obtain ⟨_, cur', hc'⟩ := ownsRow_type hT1 hg
        exact ne_of_type hc hc' (by decide) rfl)
      have hMid : MidS w wb k bx v0 v1 v2 v4 vB (.slice ao k cap) t tv wr := ⟨hmr, hbr, hTr, hown, unhide HBR, unhide HNB⟩
      have hsm := hmr.size
      clear hgr hT1 hl1 hb1' hm1 hmr hbr hTr HBR HGR
      go_upto_region 6 with (at_builtin; refine wpList_append_keepS _ rfl _ _ 52 rfl 57 i0 _ 2 24 Tryz.underlying52 hi0 hz0 hs0 hb0 rfl (by decide) _ _ _ rfl (hown.alloc _) ⟨wr.heap.size, 0, none⟩ 1 1 (repC (markS t) 1) rfl rfl (cells_new wr (repC (markS t) 1) _ _ rfl) (markS_one t 1) (by unfold maxLen; omega) (by omega) ?_; intro a1 u1 o1 g1 p1 k1 m1)
      have hMid1 := hMid.next g1 k1
      rw [repC_add] at o1
      have q1 := markS_of_row (cs := markS t) o1 (by omega) (off := 1) rfl
      have s1 : ∀ g, a1.ownBlock = some g → (Value.slice ao k cap).ownBlock = some g ∨ w.heap.size ≤ g := by
        intro g hg
        rcases p1 with e | e
        · exact .inl (e ▸ hg)
        · right; rw [hg] at e; simp at e; omega
      obtain ⟨x0, x1, -⟩ := cell_of_block2 (show u1.heap[bx]? = some (.cells #[SV [], .int .i64 t] 57 (0, 0)) from hMid1.box)
      have hu1 := hMid1.mv.size
      have Q1 := hide q1
      have M1 := hide hMid1
      have S1 := hide s1
      have O1 := hide o1
      clear g1 p1 m1 q1 hMid1 s1 o1 hown
      go_upto_region 7 with (at_builtin; refine wpList_append_keepS _ rfl _ _ 52 rfl 57 i0 _ 2 24 Tryz.underlying52 hi0 hz0 hs0 hb0 rfl (by decide) _ _ _ rfl (k1.alloc _) ⟨u1.heap.size, 0, none⟩ 2 2 (repC (markS t) 2) rfl rfl (cells_new u1 (repC (markS t) 2) _ _ rfl) (markS_one t 2) (by unfold maxLen; omega) (by omega) ?_; intro a2 u2 o2 g2 p2 k2 m2)
      have hMid2 := (unhide M1).next g2 k2
      rw [repC_add] at o2
      have q2 := markS_of_row (cs := markS t) o2 (by omega) (off := 1) rfl
      have q12 := ((unhide Q1).alloc _).grown (cs := markS t) rfl g2 m2
      have s2 : ∀ g, a2.ownBlock = some g → (Value.slice ao k cap).ownBlock = some g ∨ w.heap.size ≤ g := by
        intro g hg
        rcases p2 with e | e
        · exact .inl (e ▸ hg)
        · right; rw [hg] at e; simp at e; omega
      obtain ⟨x0, x1, -⟩ := cell_of_block2 (show u2.heap[bx]? = some (.cells #[SV [], .int .i64 t] 57 (0, 0)) from hMid2.box)
      have hu2 := hMid2.mv.size
      have Q2 := hide q2
      have Q12 := hide q12
      have M2 := hide hMid2
      have S2 := hide s2
      have f2 := owns_form o2
      clear g2 p2 m2 q2 q12 hMid2 s2 o2 k1
      go_upto_region 8 with (at_builtin; refine wpList_append_keepS _ rfl _ _ 52 rfl 57 i0 _ 2 24 Tryz.underlying52 hi0 hz0 hs0 hb0 rfl (by decide) _ _ _ rfl (k2.alloc _) ⟨u2.heap.size, 0, none⟩ 3 3 (repC (markS t) 3) rfl rfl (cells_new u2 (repC (markS t) 3) _ _ rfl) (markS_one t 3) (by unfold maxLen; omega) (by omega) ?_; intro a3 u3 o3 g3 p3 k3 m3)
      have hMid3 := (unhide M2).next g3 k3
      rw [repC_add] at o3
      have q3 := markS_of_row (cs := markS t) o3 (by omega) (off := 1) rfl
      have q13 := ((unhide Q12).alloc _).grown (cs := markS t) rfl g3 m3
      have q23 := ((unhide Q2).alloc _).grown (cs := markS t) rfl g3 m3
      have q03 := markS_of_row (cs := markS t) k3 (by omega) (off := 1) rfl
      have s3 : ∀ g, a3.ownBlock = some g → (Value.slice ao k cap).ownBlock = some g ∨ w.heap.size ≤ g := by
        intro g hg
        rcases p3 with e | e
        · exact .inl (e ▸ hg)
        · right; rw [hg] at e; simp at e; omega
      obtain ⟨ao3, cap3, rfl, -, -, -, -, -, -⟩ := owns_form o3
      obtain ⟨ao2, cap2, rfl, -, -, -, -, -, -⟩ := f2
      obtain ⟨ao1, cap1, rfl, -, -, -, -, -, -⟩ := owns_form (unhide O1)
      obtain ⟨-, -, -, -, d2, fd⟩ := cell_of_block5 hMid3.blk
      rw [unhide HVT] at d2
      have rowT3 := hMid3.rowT
      rw [unhide HVT] at rowT3
      have hu3 := hMid3.mv.size
      have M3 := hide hMid3
      have Q03 := hide q03
      have Q13 := hide q13
      have Q23 := hide q23
      have Q3 := hide q3
      have S3 := hide s3
      clear g3 p3 m3 q3 q13 q23 q03 hMid3 s3 o3 k2 k3 fd
      go_wp2_with (at_builtin; refine wpList_append_at _ rfl _ _ 66 rfl 0 52 i1 (.slice none 0 0) 1 24 Tryz.underlying66 hi1 hz1 hs1 hb1 rfl (by decide) _ _ _ rfl (rowT3.alloc _) (some ⟨u3.heap.size, 0, none⟩) 4 4 [.slice ao k cap, .slice ao1 (k + 1) cap1, .slice ao2 (k + 2) cap2, .slice ao3 (k + 3) cap3] rfl rfl (by intro e; cases e) (cells_new u3 _ _) (by intro u hu; simp at hu; rcases hu with rfl | rfl | rfl | rfl <;> rfl) (by unfold maxLen; omega) (by omega) (Nat.zero_le _) ?_; intro vB' u4 o4 g4 p4; obtain ⟨aT', capT', rfl, -, -, -, -, -, -⟩ := owns_form o4; rw [← unhide HVT] at g4 p4; obtain ⟨z1, z2, z3, z4, z5, z6⟩ := (unhide M3).last (X := .int .i64 t) g4 o4 (by rw [hbn]; exact unhide HTL) (by rw [hbn]; exact unhide HWB); rw [unhide HVT] at z3; clear g4 o4)
      go_end0
      rw [unhide HXL]
      refine ⟨rfl, _, _, _, _, z1, z2, z6 _ (unhide Q03) (fun g hg => .inl hg), z6 _ (unhide Q13) (unhide S1), z6 _ (unhide Q23) (unhide S2), z6 _ (unhide Q3) (unhide S3), ?_, ?_, ?_, z5⟩
      · intro g hg
        rcases p4 with e | e
        · exact .inl (e ▸ hg)
        · right; rw [hg] at e; simp at e; omega
      · rintro v (rfl | rfl | rfl)
        · exact unhide S1
        · exact unhide S2
        · exact unhide S3
      · have key : ∀ v : Value, (∀ g, v.ownBlock = some g → g < u3.heap.size) → (∀ g, v.ownBlock = some g → (Value.slice ao k cap).ownBlock = some g ∨ w.heap.size ≤ g) → ∀ g, v.ownBlock = some g → (Value.slice aT' (tv.length + 4) capT').ownBlock ≠ some g := by
          intro v h1 h2 g hg hT
          rcases p4 with e | e
          · rw [e] at hT
            obtain ⟨l1, l2⟩ := unhide HTL g hT
            rcases h2 g hg with e2 | e2
            · exact l2 e2
            · omega
          · rw [hT] at e
            simp at e
            have := h1 g hg
            omega
        rintro v (rfl | rfl | rfl | rfl)
        · exact key _ (fun g hg => (unhide Q03).lt hg) (fun g hg => .inl hg)
        · exact key _ (fun g hg => (unhide Q13).lt hg) (unhide S1)
        · exact key _ (fun g hg => (unhide Q23).lt hg) (unhide S2)
        · exact key _ (fun g hg => (unhide Q3).lt hg) (unhide S3)

end Go.Proofs.YtbljamcdaoofbaaGreatDoor
