/- All stores, the document's beside the program's, and the book, in memory. -/
import Derived.Test.YtbljamcdaoofbaaGreatDoorLawStill
namespace Go.Proofs.YtbljamcdaoofbaaGreatDoor
open Go.RowKit

structure Pair where
  pp : Nat
  ns : List Node
  va : Value
  pr : Nat
  S : List Strm
  L : List Rw
  vS : Value
  vL : Value

/-- whose a block is: those that are new are c's -/
def ownAt (own : Nat → Nat) (w : World) (c : Nat) : Nat → Nat := fun b => if b < w.heap.size then own b else c

theorem ownAt_old {own : Nat → Nat} {w : World} {c b : Nat} (h : b < w.heap.size) : ownAt own w c b = own b := if_pos h
theorem ownAt_new {own : Nat → Nat} {w : World} {c b : Nat} (h : w.heap.size ≤ b) : ownAt own w c b = c := if_neg (by omega)

structure Inv (w : World) (wb : Nat) (own : Nat → Nat) (qs : List Pair) (tv : List Value) (vps vrs vT : Value) : Prop where
  blk : w.heap[wb]? = some (.cells #[vps, vrs, vT, .slice none 0 0, .slice none 0 0] 70 (0, 0))
  oblk : own wb = 0
  rowP : w.ownsRow 0 27 1 vps qs.length (qs.map (fun q => .pointer (some ⟨q.pp, 0, none⟩)))
  oP : ∀ g, vps.ownBlock = some g → own g = 0
  rowR : w.ownsRow 0 111 1 vrs qs.length (qs.map (fun q => .pointer (some ⟨q.pr, 0, none⟩)))
  oR : ∀ g, vrs.ownBlock = some g → own g = 0
  rowT : w.ownsRow 0 33 1 vT tv.length tv
  oT : ∀ g, vT.ownBlock = some g → own g = 0
  st : ∀ i (h : i < qs.length), StoreAt w (fun b => own b = 2 * i + 2) qs[i].pp qs[i].ns qs[i].va
  rf : ∀ i (h : i < qs.length), RefAt w (fun b => own b = 2 * i + 3) qs[i].pr qs[i].S qs[i].L qs[i].vS qs[i].vL
  marks : ∀ j (h : j < tv.length), MarkAt w tv[j] (SV (wordL (j / 4)))
  omarks : ∀ j (h : j < tv.length), ∀ g, tv[j].ownBlock = some g → own g = 1

theorem StoreAt.refoot {w : World} {F G : Nat → Prop} {p : Nat} {ns : List Node} {va : Value} (h : StoreAt w F p ns va) (hFG : ∀ b, b < w.heap.size → F b → G b) : StoreAt w G p ns va :=
  ⟨h.block, h.row, h.nodes, h.apart, hFG _ h.lt h.inF, fun g hg => hFG _ (ownsRow_type h.row hg).1 (h.inA g hg), fun n hn => ⟨hFG _ (h.nodes n hn).lt (h.inN n hn).1, fun g hg => hFG _ (ownsRow_type (h.nodes n hn).row hg).1 ((h.inN n hn).2 g hg)⟩⟩

theorem RefAt.refoot {w : World} {F G : Nat → Prop} {p : Nat} {S : List Strm} {L : List Rw} {vS vL : Value} (h : RefAt w F p S L vS vL) (hFG : ∀ b, b < w.heap.size → F b → G b) : RefAt w G p S L vS vL :=
  ⟨h.block, h.rowS, h.rowL, hFG _ (Array.getElem?_eq_some_iff.1 h.block).1 h.inF, fun g hg => hFG _ (ownsRow_type h.rowS hg).1 (h.inS g hg), fun g hg => hFG _ (ownsRow_type h.rowL hg).1 (h.inL g hg)⟩

theorem MarkAt.lt {w : World} {v X : Value} (h : MarkAt w v X) {g : Nat} (hg : v.ownBlock = some g) : g < w.heap.size := by
  obtain ⟨ao, n, cap, rfl, hn, hnil, hao⟩ := h
  cases ao with
  | none => cases hg
  | some a => cases hg; exact (hao a rfl).2.2.1

/-- what belongs to others than c stays, where c's blocks alone are touched -/
theorem Inv.frame {w w' : World} {wb c d : Nat} {own : Nat → Nat} {qs : List Pair} {tv : List Value} {vps vrs vT : Value} (h : Inv w wb own qs tv vps vrs vT) (hm : Moved (fun b => own b = c) w w') :
    (c ≠ 0 → w'.heap[wb]? = w.heap[wb]? ∧ w'.ownsRow 0 27 1 vps qs.length (qs.map (fun q => .pointer (some ⟨q.pp, 0, none⟩))) ∧ w'.ownsRow 0 111 1 vrs qs.length (qs.map (fun q => .pointer (some ⟨q.pr, 0, none⟩))) ∧ w'.ownsRow 0 33 1 vT tv.length tv) ∧
    (∀ i (hi : i < qs.length), c ≠ 2 * i + 2 → StoreAt w' (fun b => ownAt own w d b = 2 * i + 2) qs[i].pp qs[i].ns qs[i].va) ∧
    (∀ i (hi : i < qs.length), c ≠ 2 * i + 3 → RefAt w' (fun b => ownAt own w d b = 2 * i + 3) qs[i].pr qs[i].S qs[i].L qs[i].vS qs[i].vL) ∧
    (c ≠ 1 → ∀ j (hj : j < tv.length), MarkAt w' tv[j] (SV (wordL (j / 4)))) := by
  have hkeep : ∀ b, b < w.heap.size → own b ≠ c → w'.heap[b]? = w.heap[b]? := fun b hb hne => hm.block b hb hne
  refine ⟨fun hc => ⟨?_, ?_, ?_, ?_⟩, fun i hi hc => ?_, fun i hi hc => ?_, fun hc j hj => ?_⟩
  · exact hkeep wb (Array.getElem?_eq_some_iff.1 h.blk).1 (by rw [h.oblk]; exact fun e => hc e.symm)
  · exact ownsRow_same h.rowP fun g hg => hkeep g (ownsRow_type h.rowP hg).1 (by rw [h.oP g hg]; exact fun e => hc e.symm)
  · exact ownsRow_same h.rowR fun g hg => hkeep g (ownsRow_type h.rowR hg).1 (by rw [h.oR g hg]; exact fun e => hc e.symm)
  · exact ownsRow_same h.rowT fun g hg => hkeep g (ownsRow_type h.rowT hg).1 (by rw [h.oT g hg]; exact fun e => hc e.symm)
  · have h1 := (h.st i hi).refoot (G := fun b => own b = 2 * i + 2 ∧ b < w.heap.size) (fun b hb hf => ⟨hf, hb⟩)
    have h2 := h1.keep (w' := w') (fun b hb hf => hkeep b hb (by rw [hf.1]; exact fun e => hc e.symm))
    exact h2.weaken (fun b hf => by show ownAt own w d b = _; rw [ownAt_old hf.2]; exact hf.1)
  · have h1 := (h.rf i hi).refoot (G := fun b => own b = 2 * i + 3 ∧ b < w.heap.size) (fun b hb hf => ⟨hf, hb⟩)
    have h2 := h1.keep (w' := w') (fun b hb hf => hkeep b hb (by rw [hf.1]; exact fun e => hc e.symm))
    exact h2.weaken (fun b hf => by show ownAt own w d b = _; rw [ownAt_old hf.2]; exact hf.1)
  · refine (h.marks j hj).keep hm.size fun g hg hgl k => .inl ?_
    exact World.cell?_of_block (a := ⟨g, k, none⟩) (hkeep g hgl (by rw [h.omarks j hj g hg]; exact fun e => hc e.symm))

theorem Inv.owns {w : World} {wb d : Nat} {own : Nat → Nat} {qs : List Pair} {tv : List Value} {vps vrs vT : Value} (h : Inv w wb own qs tv vps vrs vT) :
    ownAt own w d wb = 0 ∧ (∀ g, vps.ownBlock = some g → ownAt own w d g = 0) ∧ (∀ g, vrs.ownBlock = some g → ownAt own w d g = 0) ∧ (∀ g, vT.ownBlock = some g → ownAt own w d g = 0) ∧ (∀ j (h : j < tv.length), ∀ g, tv[j].ownBlock = some g → ownAt own w d g = 1) := by
  refine ⟨?_, fun g hg => ?_, fun g hg => ?_, fun g hg => ?_, fun j hj g hg => ?_⟩
  · rw [ownAt_old (Array.getElem?_eq_some_iff.1 h.blk).1]; exact h.oblk
  · rw [ownAt_old (ownsRow_type h.rowP hg).1]; exact h.oP g hg
  · rw [ownAt_old (ownsRow_type h.rowR hg).1]; exact h.oR g hg
  · rw [ownAt_old (ownsRow_type h.rowT hg).1]; exact h.oT g hg
  · rw [ownAt_old ((h.marks j hj).lt hg)]; exact h.omarks j hj g hg

theorem Inv.updP {w w' : World} {wb i : Nat} {own : Nat → Nat} {qs : List Pair} {tv : List Value} {vps vrs vT va' : Value} {ns' : List Node} (h : Inv w wb own qs tv vps vrs vT) (hi : i < qs.length)
    (hs : StoreAt w' (Plus (fun b => own b = 2 * i + 2) w) qs[i].pp ns' va') (hm : Moved (fun b => own b = 2 * i + 2) w w') :
    Inv w' wb (ownAt own w (2 * i + 2)) (qs.set i { qs[i] with ns := ns', va := va' }) tv vps vrs vT := by
  obtain ⟨f1, f2, f3, f4⟩ := h.frame (d := 2 * i + 2) hm
  obtain ⟨g1, g2, g3, g4⟩ := f1 (by omega)
  obtain ⟨o1, o2, o3, o4, o5⟩ := h.owns (d := 2 * i + 2)
  have hmp : (qs.set i { qs[i] with ns := ns', va := va' }).map (fun q => Value.pointer (some ⟨q.pp, 0, none⟩)) = qs.map (fun q => .pointer (some ⟨q.pp, 0, none⟩)) := by
    rw [List.map_set]
    have : Value.pointer (some ⟨qs[i].pp, 0, none⟩) = (qs.map (fun q => Value.pointer (some ⟨q.pp, 0, none⟩)))[i]'(by simpa using hi) := by simp
    show (qs.map (fun q => Value.pointer (some ⟨q.pp, 0, none⟩))).set i (Value.pointer (some ⟨qs[i].pp, 0, none⟩)) = _
    rw [this, List.set_getElem_self]
  have hmr : (qs.set i { qs[i] with ns := ns', va := va' }).map (fun q => Value.pointer (some ⟨q.pr, 0, none⟩)) = qs.map (fun q => .pointer (some ⟨q.pr, 0, none⟩)) := by
    rw [List.map_set]
    have : Value.pointer (some ⟨qs[i].pr, 0, none⟩) = (qs.map (fun q => Value.pointer (some ⟨q.pr, 0, none⟩)))[i]'(by simpa using hi) := by simp
    show (qs.map (fun q => Value.pointer (some ⟨q.pr, 0, none⟩))).set i (Value.pointer (some ⟨qs[i].pr, 0, none⟩)) = _
    rw [this, List.set_getElem_self]
  refine ⟨g1.trans h.blk, o1, by rw [hmp, List.length_set]; exact g2, o2, by rw [hmr, List.length_set]; exact g3, o3, g4, o4, ?_, ?_, f4 (by omega), o5⟩
  · intro j hj
    rw [List.length_set] at hj
    rw [List.getElem_set]
    by_cases e : i = j
    · subst e
      rw [if_pos rfl]
      refine hs.weaken fun b hb => ?_
      rcases hb with hb | hb
      · by_cases hl : b < w.heap.size
        · show ownAt own w _ b = _; rw [ownAt_old hl]; exact hb
        · exact ownAt_new (by omega)
      · exact ownAt_new hb
    · rw [if_neg e]
      exact f2 j hj (by omega)
  · intro j hj
    rw [List.length_set] at hj
    rw [List.getElem_set]
    by_cases e : i = j
    · subst e
      rw [if_pos rfl]
      exact f3 i hi (by omega)
    · rw [if_neg e]
      exact f3 j hj (by omega)

theorem Inv.updR {w w' : World} {wb i : Nat} {own : Nat → Nat} {qs : List Pair} {tv : List Value} {vps vrs vT vS' vL' : Value} {S' : List Strm} {L' : List Rw} (h : Inv w wb own qs tv vps vrs vT) (hi : i < qs.length)
    (hs : RefAt w' (Plus (fun b => own b = 2 * i + 3) w) qs[i].pr S' L' vS' vL') (hm : Moved (fun b => own b = 2 * i + 3) w w') :
    Inv w' wb (ownAt own w (2 * i + 3)) (qs.set i { qs[i] with S := S', L := L', vS := vS', vL := vL' }) tv vps vrs vT := by
  obtain ⟨f1, f2, f3, f4⟩ := h.frame (d := 2 * i + 3) hm
  obtain ⟨g1, g2, g3, g4⟩ := f1 (by omega)
  obtain ⟨o1, o2, o3, o4, o5⟩ := h.owns (d := 2 * i + 3)
  have hmp : (qs.set i { qs[i] with S := S', L := L', vS := vS', vL := vL' }).map (fun q => Value.pointer (some ⟨q.pp, 0, none⟩)) = qs.map (fun q => .pointer (some ⟨q.pp, 0, none⟩)) := by
    rw [List.map_set]
    have : Value.pointer (some ⟨qs[i].pp, 0, none⟩) = (qs.map (fun q => Value.pointer (some ⟨q.pp, 0, none⟩)))[i]'(by simpa using hi) := by simp
    show (qs.map (fun q => Value.pointer (some ⟨q.pp, 0, none⟩))).set i (Value.pointer (some ⟨qs[i].pp, 0, none⟩)) = _
    rw [this, List.set_getElem_self]
  have hmr : (qs.set i { qs[i] with S := S', L := L', vS := vS', vL := vL' }).map (fun q => Value.pointer (some ⟨q.pr, 0, none⟩)) = qs.map (fun q => .pointer (some ⟨q.pr, 0, none⟩)) := by
    rw [List.map_set]
    have : Value.pointer (some ⟨qs[i].pr, 0, none⟩) = (qs.map (fun q => Value.pointer (some ⟨q.pr, 0, none⟩)))[i]'(by simpa using hi) := by simp
    show (qs.map (fun q => Value.pointer (some ⟨q.pr, 0, none⟩))).set i (Value.pointer (some ⟨qs[i].pr, 0, none⟩)) = _
    rw [this, List.set_getElem_self]
  refine ⟨g1.trans h.blk, o1, by rw [hmp, List.length_set]; exact g2, o2, by rw [hmr, List.length_set]; exact g3, o3, g4, o4, ?_, ?_, f4 (by omega), o5⟩
  · intro j hj
    rw [List.length_set] at hj
    rw [List.getElem_set]
    by_cases e : i = j
    · subst e
      rw [if_pos rfl]
      exact f2 i hi (by omega)
    · rw [if_neg e]
      exact f2 j hj (by omega)
  · intro j hj
    rw [List.length_set] at hj
    rw [List.getElem_set]
    by_cases e : i = j
    · subst e
      rw [if_pos rfl]
      refine hs.weaken fun b hb => ?_
      rcases hb with hb | hb
      · by_cases hl : b < w.heap.size
        · show ownAt own w _ b = _; rw [ownAt_old hl]; exact hb
        · exact ownAt_new (by omega)
      · exact ownAt_new hb
    · rw [if_neg e]
      exact f3 j hj (by omega)

/-- where nothing old is touched -/
theorem Inv.fresh {w w' : World} {wb c : Nat} {own : Nat → Nat} {qs : List Pair} {tv : List Value} {vps vrs vT : Value} (h : Inv w wb own qs tv vps vrs vT) (hb : Below w.heap.size w w') : Inv w' wb (ownAt own w c) qs tv vps vrs vT := by
  obtain ⟨f1, f2, f3, f4⟩ := h.frame (c := 2 * qs.length + 4) (d := c) (Moved.of_below hb)
  obtain ⟨g1, g2, g3, g4⟩ := f1 (by omega)
  obtain ⟨o1, o2, o3, o4, o5⟩ := h.owns (d := c)
  exact ⟨g1.trans h.blk, o1, g2, o2, g3, o3, g4, o4, fun i hi => f2 i hi (by omega), fun i hi => f3 i hi (by omega), f4 (by omega), o5⟩


def ownNew (own : Nat → Nat) (w : World) (n pp pr : Nat) : Nat → Nat := fun b => if b < w.heap.size then own b else if b = pp then 2 * n + 2 else if b = pr then 2 * n + 3 else 0

theorem Inv.new {w w' : World} {wb pp pr : Nat} {own : Nat → Nat} {qs : List Pair} {tv : List Value} {vps vrs vT vps' vrs' : Value} (h : Inv w wb own qs tv vps vrs vT) (hm : Moved (fun b => own b = 0) w w')
    (hblk : w'.heap[wb]? = some (.cells #[vps', vrs', vT, .slice none 0 0, .slice none 0 0] 70 (0, 0)))
    (hP : w'.ownsRow 0 27 1 vps' (qs.length + 1) (qs.map (fun q => .pointer (some ⟨q.pp, 0, none⟩)) ++ [.pointer (some ⟨pp, 0, none⟩)])) (oP : ∀ g, vps'.ownBlock = some g → vps.ownBlock = some g ∨ (w.heap.size ≤ g ∧ g ≠ pp ∧ g ≠ pr))
    (hR : w'.ownsRow 0 111 1 vrs' (qs.length + 1) (qs.map (fun q => .pointer (some ⟨q.pr, 0, none⟩)) ++ [.pointer (some ⟨pr, 0, none⟩)])) (oR : ∀ g, vrs'.ownBlock = some g → vrs.ownBlock = some g ∨ (w.heap.size ≤ g ∧ g ≠ pp ∧ g ≠ pr))
    (hT : w'.ownsRow 0 33 1 vT tv.length tv) (hpp : w'.heap[pp]? = some (.cells #[.slice none 0 0] 78 (0, 0))) (lpp : w.heap.size ≤ pp) (hpr : w'.heap[pr]? = some (.cells #[.slice none 0 0, .slice none 0 0] 114 (0, 0))) (lpr : w.heap.size ≤ pr) :
    Inv w' wb (ownNew own w qs.length pp pr) (qs ++ [(⟨pp, [], .slice none 0 0, pr, [], [], .slice none 0 0, .slice none 0 0⟩ : Pair)]) tv vps' vrs' vT := by
  have hne : pp ≠ pr := ne_of_type hpp hpr (by decide)
  obtain ⟨f1, f2, f3, f4⟩ := h.frame (d := 0) hm
  have old : ∀ {b}, b < w.heap.size → ownNew own w qs.length pp pr b = own b := fun hb => if_pos hb
  have new0 : ∀ {b}, w.heap.size ≤ b → b ≠ pp → b ≠ pr → ownNew own w qs.length pp pr b = 0 := fun h1 h2 h3 => by
    unfold ownNew; rw [if_neg (by omega), if_neg h2, if_neg h3]
  have newP : ownNew own w qs.length pp pr pp = 2 * qs.length + 2 := by unfold ownNew; rw [if_neg (by omega), if_pos rfl]
  have newR : ownNew own w qs.length pp pr pr = 2 * qs.length + 3 := by unfold ownNew; rw [if_neg (by omega), if_neg (fun e => hne e.symm), if_pos rfl]
  refine ⟨hblk, ?_, ?_, ?_, ?_, ?_, hT, ?_, ?_, ?_, f4 (by omega), ?_⟩
  · rw [old (Array.getElem?_eq_some_iff.1 h.blk).1]; exact h.oblk
  · simpa using hP
  · intro g hg
    rcases oP g hg with e | ⟨e1, e2, e3⟩
    · rw [old (ownsRow_type h.rowP e).1]; exact h.oP g e
    · exact new0 e1 e2 e3
  · simpa using hR
  · intro g hg
    rcases oR g hg with e | ⟨e1, e2, e3⟩
    · rw [old (ownsRow_type h.rowR e).1]; exact h.oR g e
    · exact new0 e1 e2 e3
  · intro g hg
    rw [old (ownsRow_type h.rowT hg).1]; exact h.oT g hg
  · intro i hi
    simp only [List.length_append, List.length_singleton] at hi
    by_cases e : i < qs.length
    · rw [List.getElem_append_left e]
      have hS := h.st i e
      have h1 := hS.refoot (G := fun b => own b = 2 * i + 2 ∧ b < w.heap.size) (fun b hb hf => ⟨hf, hb⟩)
      have h2 := h1.keep (w' := w') (fun b hb hf => hm.block b hb (by rw [hf.1]; omega))
      exact h2.weaken (fun b hf => by show ownNew own w _ pp pr b = _; rw [old hf.2]; exact hf.1)
    · have e2 : i = qs.length := by omega
      subst e2
      rw [List.getElem_append_right (by omega)]
      simp only [Nat.sub_self, List.getElem_cons_zero]
      exact ⟨hpp, World.ownsRow_nil _ _ _ _, fun n hn => (by simp at hn), List.Pairwise.nil, newP, fun g hg => (by cases hg), fun n hn => (by simp at hn)⟩
  · intro i hi
    simp only [List.length_append, List.length_singleton] at hi
    by_cases e : i < qs.length
    · rw [List.getElem_append_left e]
      have h1 := (h.rf i e).refoot (G := fun b => own b = 2 * i + 3 ∧ b < w.heap.size) (fun b hb hf => ⟨hf, hb⟩)
      have h2 := h1.keep (w' := w') (fun b hb hf => hm.block b hb (by rw [hf.1]; omega))
      exact h2.weaken (fun b hf => by show ownNew own w _ pp pr b = _; rw [old hf.2]; exact hf.1)
    · have e2 : i = qs.length := by omega
      subst e2
      rw [List.getElem_append_right (by omega)]
      simp only [Nat.sub_self, List.getElem_cons_zero]
      exact ⟨hpr, World.ownsRow_nil _ _ _ _, World.ownsRow_nil _ _ _ _, newR, fun g hg => (by cases hg), fun g hg => (by cases hg)⟩
  · intro j hj g hg
    rw [old ((h.marks j hj).lt hg)]; exact h.omarks j hj g hg

theorem block5_set0 {w : World} {p : Nat} {v0 v1 v2 v3 v4 : Value} {t : TypeId} (h : w.heap[p]? = some (.cells #[v0, v1, v2, v3, v4] t (0, 0))) (u : Value) :
    (w.setCell ⟨p, 0, none⟩ u).heap[p]? = some (.cells #[u, v1, v2, v3, v4] t (0, 0)) := by
  simp [World.setCell, Array.getElem?_modify, h]
theorem block5_set1 {w : World} {p : Nat} {v0 v1 v2 v3 v4 : Value} {t : TypeId} (h : w.heap[p]? = some (.cells #[v0, v1, v2, v3, v4] t (0, 0))) (u : Value) :
    (w.setCell ⟨p, 1, none⟩ u).heap[p]? = some (.cells #[v0, u, v2, v3, v4] t (0, 0)) := by
  simp [World.setCell, Array.getElem?_modify, h]

end Go.Proofs.YtbljamcdaoofbaaGreatDoor
