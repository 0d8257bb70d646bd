/- Texts LawInv, LawBegins, LawStreams, joined. -/
import Derived.Test.YtbljamcdaoofbaaGreatDoorLawBookRToLawBookS
/- All stores, the document's beside the program's, and the book, in memory. -/
namespace Go.Proofs.YtbljamcdaoofbaaGreatDoor
open Go.RowKit

structure Pair where
  pp : Nat
  ns : List Node
  va : Value
  pr : Nat
  S : List Strm
  L : List Rw
  vS : Value
  vL : Value

/-- whose a block is: those that are new are c's -/
def ownAt (own : Nat → Nat) (w : World) (c : Nat) : Nat → Nat := fun b => if b < w.heap.size then own b else c

theorem ownAt_old {own : Nat → Nat} {w : World} {c b : Nat} (h : b < w.heap.size) : ownAt own w c b = own b := if_pos h
theorem ownAt_new {own : Nat → Nat} {w : World} {c b : Nat} (h : w.heap.size ≤ b) : ownAt own w c b = c := if_neg (by omega)

/-- the books of rows and of samples -/
structure Bk where
  tr : List Value
  vR : Value
  tm : List Value
  vM : Value

structure BkAt (w : World) (own : Nat → Nat) (bk : Bk) : Prop where
  rowB : w.ownsRow 0 28 1 bk.vR bk.tr.length bk.tr
  oB : ∀ g, bk.vR.ownBlock = some g → own g = 0
  marksB : ∀ j (h : j < bk.tr.length), MarkS 3 1 w bk.tr[j] (.int .i64 (markN (j / 4)))
  omarksB : ∀ j (h : j < bk.tr.length), ∀ g, bk.tr[j].ownBlock = some g → own g = 1
  rowC : w.ownsRow 0 52 1 bk.vM bk.tm.length bk.tm
  oC : ∀ g, bk.vM.ownBlock = some g → own g = 0
  marksC : ∀ j (h : j < bk.tm.length), MarkS 2 1 w bk.tm[j] (.int .i64 (markN (j / 4)))
  omarksC : ∀ j (h : j < bk.tm.length), ∀ g, bk.tm[j].ownBlock = some g → own g = 1

/-- the books' blocks -/
def bkB (bk : Bk) (b : Nat) : Prop := bk.vR.ownBlock = some b ∨ bk.vM.ownBlock = some b ∨ (∃ j, ∃ (h : j < bk.tr.length), bk.tr[j].ownBlock = some b) ∨ (∃ j, ∃ (h : j < bk.tm.length), bk.tm[j].ownBlock = some b)

theorem BkAt.lt {w : World} {own : Nat → Nat} {bk : Bk} (h : BkAt w own bk) {b : Nat} (hb : bkB bk b) : b < w.heap.size := by
  rcases hb with e | e | ⟨j, hj, e⟩ | ⟨j, hj, e⟩
  · exact (ownsRow_type h.rowB e).1
  · exact (ownsRow_type h.rowC e).1
  · exact (h.marksB j hj).lt e
  · exact (h.marksC j hj).lt e

theorem BkAt.kinds {w : World} {own : Nat → Nat} {bk : Bk} (h : BkAt w own bk) {b : Nat} (hb : bkB bk b) : own b = 1 ∨ (own b = 0 ∧ ∃ cur, w.heap[b]? = some (.cells cur 28 (0, 0)) ∨ w.heap[b]? = some (.cells cur 52 (0, 0))) := by
  rcases hb with e | e | ⟨j, hj, e⟩ | ⟨j, hj, e⟩
  · obtain ⟨_, cur, hc⟩ := ownsRow_type h.rowB e
    exact .inr ⟨h.oB b e, cur, .inl hc⟩
  · obtain ⟨_, cur, hc⟩ := ownsRow_type h.rowC e
    exact .inr ⟨h.oC b e, cur, .inr hc⟩
  · exact .inl (h.omarksB j hj b e)
  · exact .inl (h.omarksC j hj b e)

theorem BkAt.keep {w w' : World} {own own' : Nat → Nat} {bk : Bk} (h : BkAt w own bk) (hs : w.heap.size ≤ w'.heap.size) (hk : ∀ b, bkB bk b → w'.heap[b]? = w.heap[b]?) (ho : ∀ b, bkB bk b → own' b = own b) : BkAt w' own' bk := by
  refine ⟨?_, ?_, ?_, ?_, ?_, ?_, ?_, ?_⟩
  · exact ownsRow_same h.rowB fun g hg => hk g (.inl hg)
  · intro g hg; rw [ho g (.inl hg)]; exact h.oB g hg
  · intro j hj; exact (h.marksB j hj).same hs fun g hg _ => hk g (.inr (.inr (.inl ⟨j, hj, hg⟩)))
  · intro j hj g hg; rw [ho g (.inr (.inr (.inl ⟨j, hj, hg⟩)))]; exact h.omarksB j hj g hg
  · exact ownsRow_same h.rowC fun g hg => hk g (.inr (.inl hg))
  · intro g hg; rw [ho g (.inr (.inl hg))]; exact h.oC g hg
  · intro j hj; exact (h.marksC j hj).same hs fun g hg _ => hk g (.inr (.inr (.inr ⟨j, hj, hg⟩)))
  · intro j hj g hg; rw [ho g (.inr (.inr (.inr ⟨j, hj, hg⟩)))]; exact h.omarksC j hj g hg

structure Inv (w : World) (wb : Nat) (own : Nat → Nat) (qs : List Pair) (tv : List Value) (vps vrs vT : Value) (bk : Bk) : Prop where
  blk : w.heap[wb]? = some (.cells #[vps, vrs, vT, bk.vR, bk.vM] 70 (0, 0))
  oblk : own wb = 0
  rowP : w.ownsRow 0 27 1 vps qs.length (qs.map (fun q => .pointer (some ⟨q.pp, 0, none⟩)))
  oP : ∀ g, vps.ownBlock = some g → own g = 0
  rowR : w.ownsRow 0 111 1 vrs qs.length (qs.map (fun q => .pointer (some ⟨q.pr, 0, none⟩)))
  oR : ∀ g, vrs.ownBlock = some g → own g = 0
  rowT : w.ownsRow 0 33 1 vT tv.length tv
  oT : ∀ g, vT.ownBlock = some g → own g = 0
  st : ∀ i (h : i < qs.length), StoreAt w (fun b => own b = 2 * i + 2) qs[i].pp qs[i].ns qs[i].va
  rf : ∀ i (h : i < qs.length), RefAt w (fun b => own b = 2 * i + 3) qs[i].pr qs[i].S qs[i].L qs[i].vS qs[i].vL
  marks : ∀ j (h : j < tv.length), MarkAt w tv[j] (SV (wordL (j / 4)))
  omarks : ∀ j (h : j < tv.length), ∀ g, tv[j].ownBlock = some g → own g = 1
  bk : BkAt w own bk

theorem StoreAt.refoot {w : World} {F G : Nat → Prop} {p : Nat} {ns : List Node} {va : Value} (h : StoreAt w F p ns va) (hFG : ∀ b, b < w.heap.size → F b → G b) : StoreAt w G p ns va :=
  ⟨h.block, h.row, h.nodes, h.apart, hFG _ h.lt h.inF, fun g hg => hFG _ (ownsRow_type h.row hg).1 (h.inA g hg), fun n hn => ⟨hFG _ (h.nodes n hn).lt (h.inN n hn).1, fun g hg => hFG _ (ownsRow_type (h.nodes n hn).row hg).1 ((h.inN n hn).2 g hg)⟩⟩

theorem RefAt.refoot {w : World} {F G : Nat → Prop} {p : Nat} {S : List Strm} {L : List Rw} {vS vL : Value} (h : RefAt w F p S L vS vL) (hFG : ∀ b, b < w.heap.size → F b → G b) : RefAt w G p S L vS vL :=
  ⟨h.block, h.rowS, h.rowL, hFG _ (Array.getElem?_eq_some_iff.1 h.block).1 h.inF, fun g hg => hFG _ (ownsRow_type h.rowS hg).1 (h.inS g hg), fun g hg => hFG _ (ownsRow_type h.rowL hg).1 (h.inL g hg)⟩

theorem MarkAt.lt {w : World} {v X : Value} (h : MarkAt w v X) {g : Nat} (hg : v.ownBlock = some g) : g < w.heap.size := by
  obtain ⟨ao, n, cap, rfl, hn, hnil, hao⟩ := h
  cases ao with
  | none => cases hg
  | some a => cases hg; exact (hao a rfl).2.2.1

/-- what belongs to others than c stays, where c's blocks alone are touched -/
theorem Inv.frame {w w' : World} {wb c d : Nat} {own : Nat → Nat} {qs : List Pair} {tv : List Value} {vps vrs vT : Value} {bk : Bk} (h : Inv w wb own qs tv vps vrs vT bk) (hm : Moved (fun b => own b = c) w w') :
    (c ≠ 0 → w'.heap[wb]? = w.heap[wb]? ∧ w'.ownsRow 0 27 1 vps qs.length (qs.map (fun q => .pointer (some ⟨q.pp, 0, none⟩))) ∧ w'.ownsRow 0 111 1 vrs qs.length (qs.map (fun q => .pointer (some ⟨q.pr, 0, none⟩))) ∧ w'.ownsRow 0 33 1 vT tv.length tv) ∧
    (∀ i (hi : i < qs.length), c ≠ 2 * i + 2 → StoreAt w' (fun b => ownAt own w d b = 2 * i + 2) qs[i].pp qs[i].ns qs[i].va) ∧
    (∀ i (hi : i < qs.length), c ≠ 2 * i + 3 → RefAt w' (fun b => ownAt own w d b = 2 * i + 3) qs[i].pr qs[i].S qs[i].L qs[i].vS qs[i].vL) ∧
    (c ≠ 1 → ∀ j (hj : j < tv.length), MarkAt w' tv[j] (SV (wordL (j / 4)))) ∧ (c ≠ 0 → c ≠ 1 → BkAt w' (ownAt own w d) bk) := by
  have hkeep : ∀ b, b < w.heap.size → own b ≠ c → w'.heap[b]? = w.heap[b]? := fun b hb hne => hm.block b hb hne
  refine ⟨fun hc => ⟨?_, ?_, ?_, ?_⟩, fun i hi hc => ?_, fun i hi hc => ?_, fun hc j hj => ?_, fun hc0 hc1 => h.bk.keep hm.size (fun b hb => hkeep b (h.bk.lt hb) (by rcases h.bk.kinds hb with e | ⟨e, -⟩ <;> rw [e] <;> omega)) (fun b hb => ownAt_old (h.bk.lt hb))⟩
  · exact hkeep wb (Array.getElem?_eq_some_iff.1 h.blk).1 (by rw [h.oblk]; exact fun e => hc e.symm)
  · exact ownsRow_same h.rowP fun g hg => hkeep g (ownsRow_type h.rowP hg).1 (by rw [h.oP g hg]; exact fun e => hc e.symm)
  · exact ownsRow_same h.rowR fun g hg => hkeep g (ownsRow_type h.rowR hg).1 (by rw [h.oR g hg]; exact fun e => hc e.symm)
  · exact ownsRow_same h.rowT fun g hg => hkeep g (ownsRow_type h.rowT hg).1 (by rw [h.oT g hg]; exact fun e => hc e.symm)
  · have h1 := (h.st i hi).refoot (G := fun b => own b = 2 * i + 2 ∧ b < w.heap.size) (fun b hb hf => ⟨hf, hb⟩)
    have h2 := h1.keep (w' := w') (fun b hb hf => hkeep b hb (by rw [hf.1]; exact fun e => hc e.symm))
    exact h2.weaken (fun b hf => by show ownAt own w d b = _; rw [ownAt_old hf.2]; exact hf.1)
  · have h1 := (h.rf i hi).refoot (G := fun b => own b = 2 * i + 3 ∧ b < w.heap.size) (fun b hb hf => ⟨hf, hb⟩)
    have h2 := h1.keep (w' := w') (fun b hb hf => hkeep b hb (by rw [hf.1]; exact fun e => hc e.symm))
    exact h2.weaken (fun b hf => by show ownAt own w d b = _; rw [ownAt_old hf.2]; exact hf.1)
  · refine (h.marks j hj).keep hm.size fun g hg hgl k => .inl ?_
    exact World.cell?_of_block (a := ⟨g, k, none⟩) (hkeep g hgl (by rw [h.omarks j hj g hg]; exact fun e => hc e.symm))

theorem Inv.owns {w : World} {wb d : Nat} {own : Nat → Nat} {qs : List Pair} {tv : List Value} {vps vrs vT : Value} {bk : Bk} (h : Inv w wb own qs tv vps vrs vT bk) :
    ownAt own w d wb = 0 ∧ (∀ g, vps.ownBlock = some g → ownAt own w d g = 0) ∧ (∀ g, vrs.ownBlock = some g → ownAt own w d g = 0) ∧ (∀ g, vT.ownBlock = some g → ownAt own w d g = 0) ∧ (∀ j (h : j < tv.length), ∀ g, tv[j].ownBlock = some g → ownAt own w d g = 1) := by
  refine ⟨?_, fun g hg => ?_, fun g hg => ?_, fun g hg => ?_, fun j hj g hg => ?_⟩
  · rw [ownAt_old (Array.getElem?_eq_some_iff.1 h.blk).1]; exact h.oblk
  · rw [ownAt_old (ownsRow_type h.rowP hg).1]; exact h.oP g hg
  · rw [ownAt_old (ownsRow_type h.rowR hg).1]; exact h.oR g hg
  · rw [ownAt_old (ownsRow_type h.rowT hg).1]; exact h.oT g hg
  · rw [ownAt_old ((h.marks j hj).lt hg)]; exact h.omarks j hj g hg

theorem Inv.updP {w w' : World} {wb i : Nat} {own : Nat → Nat} {qs : List Pair} {tv : List Value} {vps vrs vT va' : Value} {bk : Bk} {ns' : List Node} (h : Inv w wb own qs tv vps vrs vT bk) (hi : i < qs.length)
    (hs : StoreAt w' (Plus (fun b => own b = 2 * i + 2) w) qs[i].pp ns' va') (hm : Moved (fun b => own b = 2 * i + 2) w w') :
    Inv w' wb (ownAt own w (2 * i + 2)) (qs.set i { qs[i] with ns := ns', va := va' }) tv vps vrs vT bk := by
  obtain ⟨f1, f2, f3, f4, f5⟩ := h.frame (d := 2 * i + 2) hm
  obtain ⟨g1, g2, g3, g4⟩ := f1 (by omega)
  obtain ⟨o1, o2, o3, o4, o5⟩ := h.owns (d := 2 * i + 2)
  have hmp : (qs.set i { qs[i] with ns := ns', va := va' }).map (fun q => Value.pointer (some ⟨q.pp, 0, none⟩)) = qs.map (fun q => .pointer (some ⟨q.pp, 0, none⟩)) := by
    rw [List.map_set]
    have : Value.pointer (some ⟨qs[i].pp, 0, none⟩) = (qs.map (fun q => Value.pointer (some ⟨q.pp, 0, none⟩)))[i]'(by simpa using hi) := by simp
    show (qs.map (fun q => Value.pointer (some ⟨q.pp, 0, none⟩))).set i (Value.pointer (some ⟨qs[i].pp, 0, none⟩)) = _
    rw [this, List.set_getElem_self]
  have hmr : (qs.set i { qs[i] with ns := ns', va := va' }).map (fun q => Value.pointer (some ⟨q.pr, 0, none⟩)) = qs.map (fun q => .pointer (some ⟨q.pr, 0, none⟩)) := by
    rw [List.map_set]
    have : Value.pointer (some ⟨qs[i].pr, 0, none⟩) = (qs.map (fun q => Value.pointer (some ⟨q.pr, 0, none⟩)))[i]'(by simpa using hi) := by simp
    show (qs.map (fun q => Value.pointer (some ⟨q.pr, 0, none⟩))).set i (Value.pointer (some ⟨qs[i].pr, 0, none⟩)) = _
    rw [this, List.set_getElem_self]
  refine ⟨g1.trans h.blk, o1, by rw [hmp, List.length_set]; exact g2, o2, by rw [hmr, List.length_set]; exact g3, o3, g4, o4, ?_, ?_, f4 (by omega), o5, f5 (by omega) (by omega)⟩
  · intro j hj
    rw [List.length_set] at hj
    rw [List.getElem_set]
    by_cases e : i = j
    · subst e
      rw [if_pos rfl]
      refine hs.weaken fun b hb => ?_
      rcases hb with hb | hb
      · by_cases hl : b < w.heap.size
        · show ownAt own w _ b = _; rw [ownAt_old hl]; exact hb
        · exact ownAt_new (by omega)
      · exact ownAt_new hb
    · rw [if_neg e]
      exact f2 j hj (by omega)
  · intro j hj
    rw [List.length_set] at hj
    rw [List.getElem_set]
    by_cases e : i = j
    · subst e
      rw [if_pos rfl]
      exact f3 i hi (by omega)
    · rw [if_neg e]
      exact f3 j hj (by omega)

theorem Inv.updR {w w' : World} {wb i : Nat} {own : Nat → Nat} {qs : List Pair} {tv : List Value} {vps vrs vT vS' vL' : Value} {bk : Bk} {S' : List Strm} {L' : List Rw} (h : Inv w wb own qs tv vps vrs vT bk) (hi : i < qs.length)
    (hs : RefAt w' (Plus (fun b => own b = 2 * i + 3) w) qs[i].pr S' L' vS' vL') (hm : Moved (fun b => own b = 2 * i + 3) w w') :
    Inv w' wb (ownAt own w (2 * i + 3)) (qs.set i { qs[i] with S := S', L := L', vS := vS', vL := vL' }) tv vps vrs vT bk := by
  obtain ⟨f1, f2, f3, f4, f5⟩ := h.frame (d := 2 * i + 3) hm
  obtain ⟨g1, g2, g3, g4⟩ := f1 (by omega)
  obtain ⟨o1, o2, o3, o4, o5⟩ := h.owns (d := 2 * i + 3)
  have hmp : (qs.set i { qs[i] with S := S', L := L', vS := vS', vL := vL' }).map (fun q => Value.pointer (some ⟨q.pp, 0, none⟩)) = qs.map (fun q => .pointer (some ⟨q.pp, 0, none⟩)) := by
    rw [List.map_set]
    have : Value.pointer (some ⟨qs[i].pp, 0, none⟩) = (qs.map (fun q => Value.pointer (some ⟨q.pp, 0, none⟩)))[i]'(by simpa using hi) := by simp
    show (qs.map (fun q => Value.pointer (some ⟨q.pp, 0, none⟩))).set i (Value.pointer (some ⟨qs[i].pp, 0, none⟩)) = _
    rw [this, List.set_getElem_self]
  have hmr : (qs.set i { qs[i] with S := S', L := L', vS := vS', vL := vL' }).map (fun q => Value.pointer (some ⟨q.pr, 0, none⟩)) = qs.map (fun q => .pointer (some ⟨q.pr, 0, none⟩)) := by
    rw [List.map_set]
    have : Value.pointer (some ⟨qs[i].pr, 0, none⟩) = (qs.map (fun q => Value.pointer (some ⟨q.pr, 0, none⟩)))[i]'(by simpa using hi) := by simp
    show (qs.map (fun q => Value.pointer (some ⟨q.pr, 0, none⟩))).set i (Value.pointer (some ⟨qs[i].pr, 0, none⟩)) = _
    rw [this, List.set_getElem_self]
  refine ⟨g1.trans h.blk, o1, by rw [hmp, List.length_set]; exact g2, o2, by rw [hmr, List.length_set]; exact g3, o3, g4, o4, ?_, ?_, f4 (by omega), o5, f5 (by omega) (by omega)⟩
  · intro j hj
    rw [List.length_set] at hj
    rw [List.getElem_set]
    by_cases e : i = j
    · subst e
      rw [if_pos rfl]
      exact f2 i hi (by omega)
    · rw [if_neg e]
      exact f2 j hj (by omega)
  · intro j hj
    rw [List.length_set] at hj
    rw [List.getElem_set]
    by_cases e : i = j
    · subst e
      rw [if_pos rfl]
      refine hs.weaken fun b hb => ?_
      rcases hb with hb | hb
      · by_cases hl : b < w.heap.size
        · show ownAt own w _ b = _; rw [ownAt_old hl]; exact hb
        · exact ownAt_new (by omega)
      · exact ownAt_new hb
    · rw [if_neg e]
      exact f3 j hj (by omega)

/-- where nothing old is touched -/
theorem Inv.fresh {w w' : World} {wb c : Nat} {own : Nat → Nat} {qs : List Pair} {tv : List Value} {vps vrs vT : Value} {bk : Bk} (h : Inv w wb own qs tv vps vrs vT bk) (hb : Below w.heap.size w w') : Inv w' wb (ownAt own w c) qs tv vps vrs vT bk := by
  obtain ⟨f1, f2, f3, f4, f5⟩ := h.frame (c := 2 * qs.length + 4) (d := c) (Moved.of_below hb)
  obtain ⟨g1, g2, g3, g4⟩ := f1 (by omega)
  obtain ⟨o1, o2, o3, o4, o5⟩ := h.owns (d := c)
  exact ⟨g1.trans h.blk, o1, g2, o2, g3, o3, g4, o4, fun i hi => f2 i hi (by omega), fun i hi => f3 i hi (by omega), f4 (by omega), o5, f5 (by omega) (by omega)⟩


def ownNew (own : Nat → Nat) (w : World) (n pp pr : Nat) : Nat → Nat := fun b => if b < w.heap.size then own b else if b = pp then 2 * n + 2 else if b = pr then 2 * n + 3 else 0

theorem Inv.new {w w' : World} {wb pp pr : Nat} {own : Nat → Nat} {qs : List Pair} {tv : List Value} {vps vrs vT vps' vrs' : Value} {bk : Bk} (h : Inv w wb own qs tv vps vrs vT bk) (hm : Moved (fun b => own b = 0) w w')
    (hblk : w'.heap[wb]? = some (.cells #[vps', vrs', vT, bk.vR, bk.vM] 70 (0, 0)))
    (hP : w'.ownsRow 0 27 1 vps' (qs.length + 1) (qs.map (fun q => .pointer (some ⟨q.pp, 0, none⟩)) ++ [.pointer (some ⟨pp, 0, none⟩)])) (oP : ∀ g, vps'.ownBlock = some g → vps.ownBlock = some g ∨ (w.heap.size ≤ g ∧ g ≠ pp ∧ g ≠ pr))
    (hR : w'.ownsRow 0 111 1 vrs' (qs.length + 1) (qs.map (fun q => .pointer (some ⟨q.pr, 0, none⟩)) ++ [.pointer (some ⟨pr, 0, none⟩)])) (oR : ∀ g, vrs'.ownBlock = some g → vrs.ownBlock = some g ∨ (w.heap.size ≤ g ∧ g ≠ pp ∧ g ≠ pr))
    (hT : w'.ownsRow 0 33 1 vT tv.length tv) (hpp : w'.heap[pp]? = some (.cells #[.slice none 0 0] 78 (0, 0))) (lpp : w.heap.size ≤ pp) (hpr : w'.heap[pr]? = some (.cells #[.slice none 0 0, .slice none 0 0] 114 (0, 0))) (lpr : w.heap.size ≤ pr) (hbk : BkAt w' (ownNew own w qs.length pp pr) bk) :
    Inv w' wb (ownNew own w qs.length pp pr) (qs ++ [(⟨pp, [], .slice none 0 0, pr, [], [], .slice none 0 0, .slice none 0 0⟩ : Pair)]) tv vps' vrs' vT bk := by
  have hne : pp ≠ pr := ne_of_type hpp hpr (by decide)
  obtain ⟨f1, f2, f3, f4, f5⟩ := h.frame (d := 0) hm
  have old : ∀ {b}, b < w.heap.size → ownNew own w qs.length pp pr b = own b := fun hb => if_pos hb
  have new0 : ∀ {b}, w.heap.size ≤ b → b ≠ pp → b ≠ pr → ownNew own w qs.length pp pr b = 0 := fun h1 h2 h3 => by
    unfold ownNew; rw [if_neg (by omega), if_neg h2, if_neg h3]
  have newP : ownNew own w qs.length pp pr pp = 2 * qs.length + 2 := by unfold ownNew; rw [if_neg (by omega), if_pos rfl]
  have newR : ownNew own w qs.length pp pr pr = 2 * qs.length + 3 := by unfold ownNew; rw [if_neg (by omega), if_neg (fun e => hne e.symm), if_pos rfl]
  refine ⟨hblk, ?_, ?_, ?_, ?_, ?_, hT, ?_, ?_, ?_, f4 (by omega), ?_, hbk⟩
  · rw [old (Array.getElem?_eq_some_iff.1 h.blk).1]; exact h.oblk
  · simpa using hP
  · intro g hg
    rcases oP g hg with e | ⟨e1, e2, e3⟩
    · rw [old (ownsRow_type h.rowP e).1]; exact h.oP g e
    · exact new0 e1 e2 e3
  · simpa using hR
  · intro g hg
    rcases oR g hg with e | ⟨e1, e2, e3⟩
    · rw [old (ownsRow_type h.rowR e).1]; exact h.oR g e
    · exact new0 e1 e2 e3
  · intro g hg
    rw [old (ownsRow_type h.rowT hg).1]; exact h.oT g hg
  · intro i hi
    simp only [List.length_append, List.length_singleton] at hi
    by_cases e : i < qs.length
    · rw [List.getElem_append_left e]
      have hS := h.st i e
      have h1 := hS.refoot (G := fun b => own b = 2 * i + 2 ∧ b < w.heap.size) (fun b hb hf => ⟨hf, hb⟩)
      have h2 := h1.keep (w' := w') (fun b hb hf => hm.block b hb (by rw [hf.1]; omega))
      exact h2.weaken (fun b hf => by show ownNew own w _ pp pr b = _; rw [old hf.2]; exact hf.1)
    · have e2 : i = qs.length := by omega
      subst e2
      rw [List.getElem_append_right (by omega)]
      simp only [Nat.sub_self, List.getElem_cons_zero]
      exact ⟨hpp, World.ownsRow_nil _ _ _ _, fun n hn => (by simp at hn), List.Pairwise.nil, newP, fun g hg => (by cases hg), fun n hn => (by simp at hn)⟩
  · intro i hi
    simp only [List.length_append, List.length_singleton] at hi
    by_cases e : i < qs.length
    · rw [List.getElem_append_left e]
      have h1 := (h.rf i e).refoot (G := fun b => own b = 2 * i + 3 ∧ b < w.heap.size) (fun b hb hf => ⟨hf, hb⟩)
      have h2 := h1.keep (w' := w') (fun b hb hf => hm.block b hb (by rw [hf.1]; omega))
      exact h2.weaken (fun b hf => by show ownNew own w _ pp pr b = _; rw [old hf.2]; exact hf.1)
    · have e2 : i = qs.length := by omega
      subst e2
      rw [List.getElem_append_right (by omega)]
      simp only [Nat.sub_self, List.getElem_cons_zero]
      exact ⟨hpr, World.ownsRow_nil _ _ _ _, World.ownsRow_nil _ _ _ _, newR, fun g hg => (by cases hg), fun g hg => (by cases hg)⟩
  · intro j hj g hg
    rw [old ((h.marks j hj).lt hg)]; exact h.omarks j hj g hg

theorem block5_set0 {w : World} {p : Nat} {v0 v1 v2 v3 v4 : Value} {t : TypeId} (h : w.heap[p]? = some (.cells #[v0, v1, v2, v3, v4] t (0, 0))) (u : Value) :
    (w.setCell ⟨p, 0, none⟩ u).heap[p]? = some (.cells #[u, v1, v2, v3, v4] t (0, 0)) := by
  simp [World.setCell, Array.getElem?_modify, h]
theorem block5_set1 {w : World} {p : Nat} {v0 v1 v2 v3 v4 : Value} {t : TypeId} (h : w.heap[p]? = some (.cells #[v0, v1, v2, v3, v4] t (0, 0))) (u : Value) :
    (w.setCell ⟨p, 1, none⟩ u).heap[p]? = some (.cells #[v0, u, v2, v3, v4] t (0, 0)) := by
  simp [World.setCell, Array.getElem?_modify, h]

end Go.Proofs.YtbljamcdaoofbaaGreatDoor

/- One store more, the document's beside it. -/
namespace Go.Proofs.YtbljamcdaoofbaaGreatDoor
open Go.RowKit

theorem Tryz.info27 : (Tryz.prog.info? 27).map (fun i => (i.zero, i.size, i.bytes)) = some (some (.pointer none), 1, 8) := by kernel_rfl
theorem Tryz.info111 : (Tryz.prog.info? 111).map (fun i => (i.zero, i.size, i.bytes)) = some (some (.pointer none), 1, 8) := by kernel_rfl

/-- a block that is of neither of the two kinds that are touched stays -/
theorem kept_of {w u : World} {row : Option Nat} {b : Nat} {o : Obj} (hg : (w.alloc o).grownBy u row) (hb : b < w.heap.size) (hne : row ≠ some b) : u.heap[b]? = w.heap[b]? := by
  rw [hg.block b (by simp; omega) (fun e => hne e.symm), Go.RowKit.Below.heap_alloc w o b hb]

theorem row_ne {w : World} {e : TypeId} {v : Value} {n b : Nat} {xs : List Value} {c : Array Value} {t : TypeId} {f : Nat × Nat} (h : w.ownsRow 0 e 1 v n xs) (hb : w.heap[b]? = some (.cells c t f)) (ht : e ≠ t) : v.ownBlock ≠ some b := by
  intro hv
  obtain ⟨_, cur, hc⟩ := ownsRow_type h hv
  exact ne_of_type hc hb ht rfl

theorem row_kept {w u : World} {e : TypeId} {v : Value} {n : Nat} {xs : List Value} {row : Option Nat} {o : Obj} (h : w.ownsRow 0 e 1 v n xs) (hg : (w.alloc o).grownBy u row) (hr : ∀ g, v.ownBlock = some g → row ≠ some g) : u.ownsRow 0 e 1 v n xs :=
  ownsRow_same h fun g hgo => kept_of hg (ownsRow_type h hgo).1 (hr g hgo)
theorem row_set {u : World} {e : TypeId} {v x : Value} {n wb j : Nat} {xs : List Value} {c : Array Value} {t : TypeId} {f : Nat × Nat} (h : u.ownsRow 0 e 1 v n xs) (hb : u.heap[wb]? = some (.cells c t f)) (ht : e ≠ t) : (u.setCell ⟨wb, j, none⟩ x).ownsRow 0 e 1 v n xs :=
  ownsRow_same h fun g hgo => Go.RowKit.Below.heap_setCell _ _ _ _ (fun e' => by
    have := row_ne h hb ht
    exact this (by rw [hgo]; exact congrArg some e'))
theorem rows_apart {w : World} {e e' : TypeId} {v v' : Value} {n n' : Nat} {xs xs' : List Value} (h : w.ownsRow 0 e 1 v n xs) (h' : w.ownsRow 0 e' 1 v' n' xs') (ht : e ≠ e') : ∀ g, v.ownBlock = some g → v'.ownBlock ≠ some g := by
  intro g hg hg'
  obtain ⟨_, cur, hc⟩ := ownsRow_type h hg
  obtain ⟨_, cur', hc'⟩ := ownsRow_type h' hg'
  exact ne_of_type hc hc' ht rfl

/-- what begins touches -/
def begF (wb : Nat) (vps vrs : Value) : Nat → Prop := fun b => b = wb ∨ vps.ownBlock = some b ∨ vrs.ownBlock = some b

/-- what the two stores of begins come to -/
theorem begins_half {w W w2 : World} {wb : Nat} {own : Nat → Nat} {qs : List Pair} {tv : List Value} {vps vrs vT v2 : Value} {bk : Bk} {o : Obj} {xs : List Value} (_ : Inv w wb own qs tv vps vrs vT bk) (hm1 : Moved (begF wb vps vrs) w W) (hsz : W.heap.size = w.heap.size + 1)
    (hblk1 : W.heap[wb]? = some (.cells #[vps, vrs, vT, bk.vR, bk.vM] 70 (0, 0))) (hP1 : W.ownsRow 0 27 1 vps qs.length (qs.map (fun q => .pointer (some ⟨q.pp, 0, none⟩)))) (hR1 : W.ownsRow 0 111 1 vrs qs.length (qs.map (fun q => .pointer (some ⟨q.pr, 0, none⟩)))) (hT1 : W.ownsRow 0 33 1 vT tv.length tv)
    (hpp1 : W.heap[w.heap.size]? = some (.cells #[.slice none 0 0] 78 (0, 0))) (g2 : (W.alloc o).grownBy w2 vps.ownBlock) (o2 : w2.ownsRow 0 27 1 v2 (qs.length + 1) xs) (p2 : v2.ownBlock = vps.ownBlock ∨ v2.ownBlock = some (W.alloc o).heap.size) :
    (w2.setCell ⟨wb, 0, none⟩ v2).heap[wb]? = some (.cells #[v2, vrs, vT, bk.vR, bk.vM] 70 (0, 0)) ∧ (w2.setCell ⟨wb, 0, none⟩ v2).ownsRow 0 27 1 v2 (qs.length + 1) xs ∧ (w2.setCell ⟨wb, 0, none⟩ v2).ownsRow 0 111 1 vrs qs.length (qs.map (fun q => .pointer (some ⟨q.pr, 0, none⟩))) ∧ (w2.setCell ⟨wb, 0, none⟩ v2).ownsRow 0 33 1 vT tv.length tv ∧
      (w2.setCell ⟨wb, 0, none⟩ v2).heap[w.heap.size]? = some (.cells #[.slice none 0 0] 78 (0, 0)) ∧ Moved (begF wb vps vrs) w (w2.setCell ⟨wb, 0, none⟩ v2) ∧ (∀ g, v2.ownBlock = some g → vps.ownBlock = some g ∨ w.heap.size + 1 ≤ g) := by
  have hb2 := (kept_of g2 (Array.getElem?_eq_some_iff.1 hblk1).1 (row_ne hP1 hblk1 (by decide))).trans hblk1
  have hpp2 := (kept_of g2 (Array.getElem?_eq_some_iff.1 hpp1).1 (row_ne hP1 hpp1 (by decide))).trans hpp1
  refine ⟨block5_set0 hb2 v2, row_set o2 hb2 (by decide), row_set (row_kept hR1 g2 (fun g hg => rows_apart hR1 hP1 (by decide) g hg)) hb2 (by decide), row_set (row_kept hT1 g2 (fun g hg => rows_apart hT1 hP1 (by decide) g hg)) hb2 (by decide), ?_, ?_, ?_⟩
  · rw [Go.RowKit.Below.heap_setCell _ _ _ _ (ne_of_type hpp2 hb2 (by decide))]; exact hpp2
  · exact (((hm1.alloc o).grown g2 (fun g hg => .inl (.inr (.inl hg)))).setCell (.inl (.inl rfl)) _)
  · intro g hg
    rcases p2 with e | e
    · exact .inl (e ▸ hg)
    · right; rw [hg] at e; simp at e; omega

theorem begins_end {w U w4 : World} {wb : Nat} {own : Nat → Nat} {qs : List Pair} {tv : List Value} {vps vrs vT v2 v4 : Value} {bk : Bk} {o : Obj} (h : Inv w wb own qs tv vps vrs vT bk) (hsz : w.heap.size + 1 ≤ U.heap.size)
    (z1 : U.heap[wb]? = some (.cells #[v2, vrs, vT, bk.vR, bk.vM] 70 (0, 0))) (z2 : U.ownsRow 0 27 1 v2 (qs.length + 1) (qs.map (fun q => .pointer (some ⟨q.pp, 0, none⟩)) ++ [.pointer (some ⟨w.heap.size, 0, none⟩)])) (z3 : U.ownsRow 0 111 1 vrs qs.length (qs.map (fun q => .pointer (some ⟨q.pr, 0, none⟩)))) (z4 : U.ownsRow 0 33 1 vT tv.length tv)
    (z5 : U.heap[w.heap.size]? = some (.cells #[.slice none 0 0] 78 (0, 0))) (z6 : Moved (begF wb vps vrs) w U) (z7 : ∀ g, v2.ownBlock = some g → vps.ownBlock = some g ∨ w.heap.size + 1 ≤ g)
    (g4 : ((U.alloc (.cells #[.slice none 0 0, .slice none 0 0] 114)).alloc o).grownBy w4 vrs.ownBlock) (o4 : w4.ownsRow 0 111 1 v4 (qs.length + 1) (qs.map (fun q => .pointer (some ⟨q.pr, 0, none⟩)) ++ [.pointer (some ⟨U.heap.size, 0, none⟩)])) (p4 : v4.ownBlock = vrs.ownBlock ∨ v4.ownBlock = some ((U.alloc (.cells #[.slice none 0 0, .slice none 0 0] 114)).alloc o).heap.size) :
    w4.cell? ⟨wb, 1, none⟩ = some vrs ∧ w4.frozen? ⟨wb, 1, none⟩ = false ∧ Inv (w4.setCell ⟨wb, 1, none⟩ v4) wb (ownNew own w qs.length w.heap.size U.heap.size) (qs ++ [(⟨w.heap.size, [], .slice none 0 0, U.heap.size, [], [], .slice none 0 0, .slice none 0 0⟩ : Pair)]) tv v2 v4 vT bk ∧ Moved (begF wb vps vrs) w (w4.setCell ⟨wb, 1, none⟩ v4) := by
  have kp : ∀ {b : Nat} {c : Array Value} {t : TypeId} {f : Nat × Nat}, U.heap[b]? = some (.cells c t f) → 111 ≠ t → w4.heap[b]? = U.heap[b]? := by
    intro b c t f hb ht
    have hl := (Array.getElem?_eq_some_iff.1 hb).1
    rw [kept_of g4 (by simp; omega) (row_ne z3 hb ht), Go.RowKit.Below.heap_alloc _ _ _ hl]
  have kr : ∀ {e : TypeId} {v : Value} {n : Nat} {xs : List Value}, U.ownsRow 0 e 1 v n xs → e ≠ 111 → w4.ownsRow 0 e 1 v n xs := by
    intro e v n xs hr he
    exact ownsRow_same hr fun g hg => by
      obtain ⟨_, cur, hc⟩ := ownsRow_type hr hg
      exact kp hc (fun e' => he e'.symm)
  have hb4 := (kp z1 (by decide)).trans z1
  have hpr4 : w4.heap[U.heap.size]? = some (.cells #[.slice none 0 0, .slice none 0 0] 114 (0, 0)) := by
    rw [kept_of g4 (by simp) (fun e => ?_)]
    · exact heap_alloc_new U _
    · have := (ownsRow_type z3 e).1
      omega
  obtain ⟨-, c1, -, -, -, fz⟩ := cell_of_block5 hb4
  have hset : ∀ {b : Nat} {c : Array Value} {t : TypeId} {f : Nat × Nat}, w4.heap[b]? = some (.cells c t f) → t ≠ 70 → (w4.setCell ⟨wb, 1, none⟩ v4).heap[b]? = w4.heap[b]? := fun hb ht => Go.RowKit.Below.heap_setCell _ _ _ _ (ne_of_type hb hb4 ht)
  have hmv : Moved (begF wb vps vrs) w (w4.setCell ⟨wb, 1, none⟩ v4) := (((z6.alloc _).alloc o).grown g4 (fun g hg => .inl (.inr (.inr hg)))).setCell (.inl (.inl rfl)) _
  have hmv0 : Moved (fun b => own b = 0) w (w4.setCell ⟨wb, 1, none⟩ v4) := hmv.mono (fun b _ hb => by
    rcases hb with e | e | e
    · rw [e]; exact h.oblk
    · exact h.oP b e
    · exact h.oR b e)
  have hbk : BkAt (w4.setCell ⟨wb, 1, none⟩ v4) (ownNew own w qs.length w.heap.size U.heap.size) bk := h.bk.keep hmv.size (fun b hb => hmv.block b (h.bk.lt hb) (by
    rcases h.bk.kinds hb with e1 | ⟨-, cur, e1⟩
    · rintro (e | e | e)
      · rw [e, h.oblk] at e1; cases e1
      · rw [h.oP b e] at e1; cases e1
      · rw [h.oR b e] at e1; cases e1
    · rintro (e | e | e)
      · subst e; rcases e1 with e1 | e1 <;> exact ne_of_type e1 h.blk (by decide) rfl
      · obtain ⟨_, c', hc'⟩ := ownsRow_type h.rowP e
        rcases e1 with e1 | e1 <;> exact ne_of_type e1 hc' (by decide) rfl
      · obtain ⟨_, c', hc'⟩ := ownsRow_type h.rowR e
        rcases e1 with e1 | e1 <;> exact ne_of_type e1 hc' (by decide) rfl)) (fun b hb => if_pos (h.bk.lt hb))
  refine ⟨c1, fz 1, ?_, hmv⟩
  have hpp4 := (kp z5 (by decide)).trans z5
  refine h.new hmv0 (block5_set1 hb4 v4) (row_set (kr z2 (by decide)) hb4 (by decide)) ?_ (row_set o4 hb4 (by decide)) ?_ (row_set (kr z4 (by decide)) hb4 (by decide)) ((hset hpp4 (by decide)).trans hpp4) (Nat.le_refl _) ((hset hpr4 (by decide)).trans hpr4) (by omega) hbk
  · intro g hg
    rcases z7 g hg with e | e
    · exact .inl e
    · right
      have := (ownsRow_type z2 hg).1
      omega
  · intro g hg
    rcases p4 with e | e
    · exact .inl (e ▸ hg)
    · right; rw [hg] at e; simp at e; omega

set_option maxRecDepth 10000 in
set_option maxHeartbeats 4000000 in
theorem begins_any {w : World} {wb : Nat} {own : Nat → Nat} {qs : List Pair} {tv : List Value} {vps vrs vT : Value} {bk : Bk} (h : Inv w wb own qs tv vps vrs vT bk) (hq : qs.length ≤ 4194304) :
    Calls Tryz.prog 31 #[.pointer (some ⟨wb, 0, none⟩)] w fun e w' => e = .returned (.bool true) ∧
      ∃ own' vps' vrs' pp pr, Inv w' wb own' (qs ++ [(⟨pp, [], .slice none 0 0, pr, [], [], .slice none 0 0, .slice none 0 0⟩ : Pair)]) tv vps' vrs' vT bk ∧ Moved (fun b => own b = 0) w w' ∧ (∀ b, b < w.heap.size → own' b = own b) := by
  obtain ⟨i0, hi0, hz0, hs0, hb0⟩ := info_parts Tryz.info27
  obtain ⟨i1, hi1, hz1, hs1, hb1⟩ := info_parts Tryz.info111
  obtain ⟨aP, capP, hvP, -, -, -, -, -, -⟩ := owns_form h.rowP
  obtain ⟨aR, capR, hvR, -, -, -, -, -, -⟩ := owns_form h.rowR
  have hwl := (Array.getElem?_eq_some_iff.1 h.blk).1
  have HH := hide h
  -- behind New
  have hblk1 : (w.alloc (.cells #[.slice none 0 0] 78)).heap[wb]? = some (.cells #[vps, vrs, vT, bk.vR, bk.vM] 70 (0, 0)) := by rw [Go.RowKit.Below.heap_alloc _ _ _ hwl]; exact h.blk
  have hP1 : (w.alloc (.cells #[.slice none 0 0] 78)).ownsRow 0 27 1 vps qs.length (qs.map (fun q => .pointer (some ⟨q.pp, 0, none⟩))) := h.rowP.alloc _
  have hR1 : (w.alloc (.cells #[.slice none 0 0] 78)).ownsRow 0 111 1 vrs qs.length (qs.map (fun q => .pointer (some ⟨q.pr, 0, none⟩))) := h.rowR.alloc _
  have hT1 : (w.alloc (.cells #[.slice none 0 0] 78)).ownsRow 0 33 1 vT tv.length tv := h.rowT.alloc _
  have hm1 : Moved (begF wb vps vrs) w (w.alloc (.cells #[.slice none 0 0] 78)) := (Moved.refl _ w).alloc _
  have hpp1 : (w.alloc (.cells #[.slice none 0 0] 78)).heap[w.heap.size]? = some (.cells #[.slice none 0 0] 78 (0, 0)) := heap_alloc_new w _
  have hs1' : (w.alloc (.cells #[.slice none 0 0] 78)).heap.size = w.heap.size + 1 := by simp
  clear h
  go_enter Tryz.func31, Tryz.ntmps31
  go_wp2_with fail
  refine (new_any _).mono ?_
  rintro e w1 ⟨rfl, rfl⟩
  generalize w.alloc (.cells #[.slice none 0 0] 78) = W at *
  obtain ⟨c0, c1, c2, -, -, fz⟩ := cell_of_block5 hblk1
  rw [hvP] at c0
  rw [hvR] at c1
  have HVP := hide hvP
  have HVR := hide hvR
  have rowP' := hP1
  rw [hvP] at rowP'
  have HSZ := hide hs1'
  clear hvP hvR fz hs1'
  go_upto_region 5 with (at_builtin; refine wpList_append_at _ rfl (.tmp 11) (.tmp 13) 62 rfl 0 27 i0 (.pointer none) 1 8 Tryz.underlying62 hi0 hz0 hs0 hb0 rfl (by decide) _ _ _ rfl (rowP'.alloc _) (some ⟨W.heap.size, 0, none⟩) 1 1 [.pointer (some ⟨w.heap.size, 0, none⟩)] rfl rfl (by intro e; cases e) (cells_new W _ _) (by intro u hu; simp at hu; subst hu; rfl) (by unfold maxLen; omega) (by omega) (Nat.zero_le _) ?_; intro v2 w2 o2 g2 p2; obtain ⟨a2, cap2, rfl, -, -, -, -, -, -⟩ := owns_form o2; rw [← unhide HVP] at g2 p2; have hb2 := (kept_of g2 (Array.getElem?_eq_some_iff.1 hblk1).1 (row_ne hP1 hblk1 (by decide))).trans hblk1; obtain ⟨e0, e1, -, -, -, ef⟩ := cell_of_block5 hb2; rw [unhide HVP] at e0; have ef0 := ef 0; clear ef)
  obtain ⟨z1, z2, z3, z4, z5, z6, z7⟩ := begins_half (unhide HH) hm1 (unhide HSZ) hblk1 hP1 hR1 hT1 hpp1 g2 o2 p2
  clear g2 o2 p2 hb2 e0 e1 ef0 hblk1 hP1 hR1 hT1 hpp1 hm1 rowP' c0 c1 c2
  generalize w2.setCell ⟨wb, 0, none⟩ (.slice a2 (qs.length + 1) cap2) = U at *
  obtain ⟨-, c1, c2, -, -, -⟩ := cell_of_block5 z1
  rw [unhide HVR] at c1
  have rowR' := z3
  rw [unhide HVR] at rowR'
  have hzw := (Array.getElem?_eq_some_iff.1 z1).1
  have k1 : ∀ o, (U.alloc o).cell? ⟨wb, 1, none⟩ = some (.slice aR qs.length capR) := fun o => (cell_alloc (a := ⟨wb, 1, none⟩) hzw).trans c1
  go_wp2_with (at_builtin; refine wpList_append_at _ rfl (.tmp 21) (.tmp 24) 63 rfl 0 111 i1 (.pointer none) 1 8 Tryz.underlying63 hi1 hz1 hs1 hb1 rfl (by decide) (.slice aR qs.length capR) _ _ rfl ((rowR'.alloc _).alloc _) (some ⟨U.heap.size + 1, 0, none⟩) 1 1 [.pointer (some ⟨U.heap.size, 0, none⟩)] rfl rfl (by intro e; cases e) (by have := cells_new (U.alloc (.cells #[.slice none 0 0, .slice none 0 0] 114)) [.pointer (some ⟨U.heap.size, 0, none⟩)] 111; simpa using this) (by intro u hu; simp at hu; subst hu; rfl) (by unfold maxLen; omega) (by omega) (Nat.zero_le _) ?_; intro v4 w4 o4 g4 p4; obtain ⟨a4, cap4, rfl, -, -, -, -, -, -⟩ := owns_form o4; rw [← unhide HVR] at g4 p4; obtain ⟨y1, y2, y3, y4⟩ := begins_end (unhide HH) (by have := z6.size; have := (Array.getElem?_eq_some_iff.1 z5).1; omega) z1 z2 z3 z4 z5 z6 z7 g4 o4 p4; rw [unhide HVR] at y1; clear g4 o4 p4)
  go_ret
  exact ⟨rfl, _, _, _, _, _, y3, y4.mono (fun b _ hb => by
    rcases hb with e | e | e
    · rw [e]; exact (unhide HH).oblk
    · exact (unhide HH).oP b e
    · exact (unhide HH).oR b e), fun b hb => if_pos hb⟩

end Go.Proofs.YtbljamcdaoofbaaGreatDoor

/- Streams of a store and of the document's: alike; the list goes into the book. -/
namespace Go.Proofs.YtbljamcdaoofbaaGreatDoor
open Go.RowKit

def ownT (own : Nat → Nat) (w : World) (vT' : Value) : Nat → Nat := fun b => if b < w.heap.size then own b else if vT'.ownBlock = some b then 0 else 1

theorem Inv.updT {w w' : World} {wb : Nat} {own : Nat → Nat} {qs : List Pair} {tv : List Value} {vps vrs vT vT' vl a1 a2 a3 : Value} {bk : Bk} (h : Inv w wb own qs tv vps vrs vT bk) (h4 : tv.length % 4 = 0) (hvl : ∀ g, vl.ownBlock = some g → own g = 1 ∧ g < w.heap.size) (hfr : ∀ j (hj : j < tv.length), ∀ g, tv[j].ownBlock = some g → vl.ownBlock ≠ some g) (hfb : ∀ b, bkB bk b → vl.ownBlock ≠ some b)
    (z1 : w'.heap[wb]? = some (.cells #[vps, vrs, vT', bk.vR, bk.vM] 70 (0, 0))) (z2 : w'.ownsRow 0 33 1 vT' (tv.length + 4) (tv ++ [vl, a1, a2, a3]))
    (m0 : MarkAt w' vl (SV (wordL (tv.length / 4)))) (m1 : MarkAt w' a1 (SV (wordL (tv.length / 4)))) (m2 : MarkAt w' a2 (SV (wordL (tv.length / 4)))) (m3 : MarkAt w' a3 (SV (wordL (tv.length / 4))))
    (z3 : ∀ g, vT'.ownBlock = some g → vT.ownBlock = some g ∨ w.heap.size ≤ g) (z4 : ∀ v, v = a1 ∨ v = a2 ∨ v = a3 → ∀ g, v.ownBlock = some g → vl.ownBlock = some g ∨ w.heap.size ≤ g) (z5 : ∀ v, v = vl ∨ v = a1 ∨ v = a2 ∨ v = a3 → ∀ g, v.ownBlock = some g → vT'.ownBlock ≠ some g) (hm : Moved (bookF wb vT vl) w w') :
    Inv w' wb (ownT own w vT') qs (tv ++ [vl, a1, a2, a3]) vps vrs vT' bk := by
  have old : ∀ {b}, b < w.heap.size → ownT own w vT' b = own b := fun hb => if_pos hb
  have keep : ∀ b, b < w.heap.size → own b ≠ 0 → own b ≠ 1 → w'.heap[b]? = w.heap[b]? := fun b hb h0 h1 => hm.block b hb (by
    rintro (e | e | e)
    · rw [e] at h0; exact h0 h.oblk
    · exact h0 (h.oT b e)
    · exact h1 (hvl b e).1)
  have hwl := (Array.getElem?_eq_some_iff.1 h.blk).1
  have keep0 : ∀ {b : Nat} {c : Array Value} {t : TypeId} {f : Nat × Nat}, w.heap[b]? = some (.cells c t f) → own b = 0 → t ≠ 70 → t ≠ 33 → w'.heap[b]? = w.heap[b]? := by
    intro b c t f hb ho h1 h2
    refine hm.block b (Array.getElem?_eq_some_iff.1 hb).1 ?_
    rintro (e | e | e)
    · subst e; exact ne_of_type hb h.blk h1 rfl
    · exact row_ne h.rowT hb (fun e' => h2 e'.symm) e
    · rw [(hvl b e).1] at ho; cases ho
  have own1 : ∀ v, v = vl ∨ v = a1 ∨ v = a2 ∨ v = a3 → ∀ g, v.ownBlock = some g → ownT own w vT' g = 1 := by
    intro v hv g hg
    have hne := z5 v hv g hg
    have hcase : vl.ownBlock = some g ∨ w.heap.size ≤ g := by
      rcases hv with rfl | hv
      · exact .inl hg
      · exact z4 v hv g hg
    rcases hcase with e | e
    · rw [old (hvl g e).2]; exact (hvl g e).1
    · unfold ownT; rw [if_neg (by omega), if_neg hne]
  have hbk : BkAt w' (ownT own w vT') bk := h.bk.keep hm.size (fun b hb => hm.block b (h.bk.lt hb) (by
    rcases h.bk.kinds hb with e1 | ⟨-, cur, e1⟩
    · rintro (e | e | e)
      · rw [e, h.oblk] at e1; cases e1
      · rw [h.oT b e] at e1; cases e1
      · exact hfb b hb e
    · rintro (e | e | e)
      · subst e; rcases e1 with e1 | e1 <;> exact ne_of_type e1 h.blk (by decide) rfl
      · obtain ⟨_, c', hc'⟩ := ownsRow_type h.rowT e
        rcases e1 with e1 | e1 <;> exact ne_of_type e1 hc' (by decide) rfl
      · exact hfb b hb e)) (fun b hb => old (h.bk.lt hb))
  refine ⟨z1, ?_, ?_, ?_, ?_, ?_, by simpa using z2, ?_, ?_, ?_, ?_, ?_, hbk⟩
  · rw [old hwl]; exact h.oblk
  · exact ownsRow_same h.rowP fun g hg => by
      obtain ⟨_, cur, hc⟩ := ownsRow_type h.rowP hg
      exact keep0 hc (h.oP g hg) (by decide) (by decide)
  · intro g hg; rw [old (ownsRow_type h.rowP hg).1]; exact h.oP g hg
  · exact ownsRow_same h.rowR fun g hg => by
      obtain ⟨_, cur, hc⟩ := ownsRow_type h.rowR hg
      exact keep0 hc (h.oR g hg) (by decide) (by decide)
  · intro g hg; rw [old (ownsRow_type h.rowR hg).1]; exact h.oR g hg
  · intro g hg
    rcases z3 g hg with e | e
    · rw [old (ownsRow_type h.rowT e).1]; exact h.oT g e
    · unfold ownT; rw [if_neg (by omega), if_pos hg]
  · intro i hi
    have h1 := (h.st i hi).refoot (G := fun b => own b = 2 * i + 2 ∧ b < w.heap.size) (fun b hb hf => ⟨hf, hb⟩)
    have h2 := h1.keep (w' := w') (fun b hb hf => keep b hb (by rw [hf.1]; omega) (by rw [hf.1]; omega))
    exact h2.weaken (fun b hf => by show ownT own w vT' b = _; rw [old hf.2]; exact hf.1)
  · intro i hi
    have h1 := (h.rf i hi).refoot (G := fun b => own b = 2 * i + 3 ∧ b < w.heap.size) (fun b hb hf => ⟨hf, hb⟩)
    have h2 := h1.keep (w' := w') (fun b hb hf => keep b hb (by rw [hf.1]; omega) (by rw [hf.1]; omega))
    exact h2.weaken (fun b hf => by show ownT own w vT' b = _; rw [old hf.2]; exact hf.1)
  · intro j hj
    simp only [List.length_append, List.length_cons, List.length_nil] at hj
    by_cases e : j < tv.length
    · rw [List.getElem_append_left e]
      refine (h.marks j e).keep hm.size fun g hg hgl k => .inl ?_
      refine World.cell?_of_block (a := ⟨g, k, none⟩) (hm.block g hgl ?_)
      have ho := h.omarks j e g hg
      rintro (e1 | e1 | e1)
      · rw [e1, h.oblk] at ho; cases ho
      · rw [h.oT g e1] at ho; cases ho
      · exact hfr j e g hg e1
    · rw [List.getElem_append_right (by omega)]
      have hd : j / 4 = tv.length / 4 := by omega
      rw [hd]
      have : j - tv.length = 0 ∨ j - tv.length = 1 ∨ j - tv.length = 2 ∨ j - tv.length = 3 := by omega
      rcases this with e1 | e1 | e1 | e1 <;> simp only [e1, List.getElem_cons_zero, List.getElem_cons_succ]
      · exact m0
      · exact m1
      · exact m2
      · exact m3
  · intro j hj
    simp only [List.length_append, List.length_cons, List.length_nil] at hj
    by_cases e : j < tv.length
    · rw [List.getElem_append_left e]
      intro g hg
      rw [old ((h.marks j e).lt hg)]; exact h.omarks j e g hg
    · rw [List.getElem_append_right (by omega)]
      have : j - tv.length = 0 ∨ j - tv.length = 1 ∨ j - tv.length = 2 ∨ j - tv.length = 3 := by omega
      rcases this with e1 | e1 | e1 | e1 <;> simp only [e1, List.getElem_cons_zero, List.getElem_cons_succ]
      · exact own1 vl (.inl rfl)
      · exact own1 a1 (.inr (.inl rfl))
      · exact own1 a2 (.inr (.inr (.inl rfl)))
      · exact own1 a3 (.inr (.inr (.inr rfl)))

end Go.Proofs.YtbljamcdaoofbaaGreatDoor
