/- Streams of a store and of the document's: alike; the list goes into the book. -/
import Derived.Test.YtbljamcdaoofbaaGreatDoorLawBegins
namespace Go.Proofs.YtbljamcdaoofbaaGreatDoor
open Go.RowKit

def ownT (own : Nat → Nat) (w : World) (vT' : Value) : Nat → Nat := fun b => if b < w.heap.size then own b else if vT'.ownBlock = some b then 0 else 1

theorem Inv.updT {w w' : World} {wb : Nat} {own : Nat → Nat} {qs : List Pair} {tv : List Value} {vps vrs vT vT' vl a1 a2 a3 : Value} (h : Inv w wb own qs tv vps vrs vT) (h4 : tv.length % 4 = 0) (hvl : ∀ g, vl.ownBlock = some g → own g = 1 ∧ g < w.heap.size) (hfr : ∀ j (hj : j < tv.length), ∀ g, tv[j].ownBlock = some g → vl.ownBlock ≠ some g)
    (z1 : w'.heap[wb]? = some (.cells #[vps, vrs, vT', .slice none 0 0, .slice none 0 0] 70 (0, 0))) (z2 : w'.ownsRow 0 33 1 vT' (tv.length + 4) (tv ++ [vl, a1, a2, a3]))
    (m0 : MarkAt w' vl (SV (wordL (tv.length / 4)))) (m1 : MarkAt w' a1 (SV (wordL (tv.length / 4)))) (m2 : MarkAt w' a2 (SV (wordL (tv.length / 4)))) (m3 : MarkAt w' a3 (SV (wordL (tv.length / 4))))
    (z3 : ∀ g, vT'.ownBlock = some g → vT.ownBlock = some g ∨ w.heap.size ≤ g) (z4 : ∀ v, v = a1 ∨ v = a2 ∨ v = a3 → ∀ g, v.ownBlock = some g → vl.ownBlock = some g ∨ w.heap.size ≤ g) (z5 : ∀ v, v = vl ∨ v = a1 ∨ v = a2 ∨ v = a3 → ∀ g, v.ownBlock = some g → vT'.ownBlock ≠ some g) (hm : Moved (bookF wb vT vl) w w') :
    Inv w' wb (ownT own w vT') qs (tv ++ [vl, a1, a2, a3]) vps vrs vT' := by
  have old : ∀ {b}, b < w.heap.size → ownT own w vT' b = own b := fun hb => if_pos hb
  have keep : ∀ b, b < w.heap.size → own b ≠ 0 → own b ≠ 1 → w'.heap[b]? = w.heap[b]? := fun b hb h0 h1 => hm.block b hb (by
    rintro (e | e | e)
    · rw [e] at h0; exact h0 h.oblk
    · exact h0 (h.oT b e)
    · exact h1 (hvl b e).1)
  have hwl := (Array.getElem?_eq_some_iff.1 h.blk).1
  have keep0 : ∀ {b : Nat} {c : Array Value} {t : TypeId} {f : Nat × Nat}, w.heap[b]? = some (.cells c t f) → own b = 0 → t ≠ 70 → t ≠ 33 → w'.heap[b]? = w.heap[b]? := by
    intro b c t f hb ho h1 h2
    refine hm.block b (Array.getElem?_eq_some_iff.1 hb).1 ?_
    rintro (e | e | e)
    · subst e; exact ne_of_type hb h.blk h1 rfl
    · exact row_ne h.rowT hb (fun e' => h2 e'.symm) e
    · rw [(hvl b e).1] at ho; cases ho
  have own1 : ∀ v, v = vl ∨ v = a1 ∨ v = a2 ∨ v = a3 → ∀ g, v.ownBlock = some g → ownT own w vT' g = 1 := by
    intro v hv g hg
    have hne := z5 v hv g hg
    have hcase : vl.ownBlock = some g ∨ w.heap.size ≤ g := by
      rcases hv with rfl | hv
      · exact .inl hg
      · exact z4 v hv g hg
    rcases hcase with e | e
    · rw [old (hvl g e).2]; exact (hvl g e).1
    · unfold ownT; rw [if_neg (by omega), if_neg hne]
  refine ⟨z1, ?_, ?_, ?_, ?_, ?_, by simpa using z2, ?_, ?_, ?_, ?_, ?_⟩
  · rw [old hwl]; exact h.oblk
  · exact ownsRow_same h.rowP fun g hg => by
      obtain ⟨_, cur, hc⟩ := ownsRow_type h.rowP hg
      exact keep0 hc (h.oP g hg) (by decide) (by decide)
  · intro g hg; rw [old (ownsRow_type h.rowP hg).1]; exact h.oP g hg
  · exact ownsRow_same h.rowR fun g hg => by
      obtain ⟨_, cur, hc⟩ := ownsRow_type h.rowR hg
      exact keep0 hc (h.oR g hg) (by decide) (by decide)
  · intro g hg; rw [old (ownsRow_type h.rowR hg).1]; exact h.oR g hg
  · intro g hg
    rcases z3 g hg with e | e
    · rw [old (ownsRow_type h.rowT e).1]; exact h.oT g e
    · unfold ownT; rw [if_neg (by omega), if_pos hg]
  · intro i hi
    have h1 := (h.st i hi).refoot (G := fun b => own b = 2 * i + 2 ∧ b < w.heap.size) (fun b hb hf => ⟨hf, hb⟩)
    have h2 := h1.keep (w' := w') (fun b hb hf => keep b hb (by rw [hf.1]; omega) (by rw [hf.1]; omega))
    exact h2.weaken (fun b hf => by show ownT own w vT' b = _; rw [old hf.2]; exact hf.1)
  · intro i hi
    have h1 := (h.rf i hi).refoot (G := fun b => own b = 2 * i + 3 ∧ b < w.heap.size) (fun b hb hf => ⟨hf, hb⟩)
    have h2 := h1.keep (w' := w') (fun b hb hf => keep b hb (by rw [hf.1]; omega) (by rw [hf.1]; omega))
    exact h2.weaken (fun b hf => by show ownT own w vT' b = _; rw [old hf.2]; exact hf.1)
  · intro j hj
    simp only [List.length_append, List.length_cons, List.length_nil] at hj
    by_cases e : j < tv.length
    · rw [List.getElem_append_left e]
      refine (h.marks j e).keep hm.size fun g hg hgl k => .inl ?_
      refine World.cell?_of_block (a := ⟨g, k, none⟩) (hm.block g hgl ?_)
      have ho := h.omarks j e g hg
      rintro (e1 | e1 | e1)
      · rw [e1, h.oblk] at ho; cases ho
      · rw [h.oT g e1] at ho; cases ho
      · exact hfr j e g hg e1
    · rw [List.getElem_append_right (by omega)]
      have hd : j / 4 = tv.length / 4 := by omega
      rw [hd]
      have : j - tv.length = 0 ∨ j - tv.length = 1 ∨ j - tv.length = 2 ∨ j - tv.length = 3 := by omega
      rcases this with e1 | e1 | e1 | e1 <;> simp only [e1, List.getElem_cons_zero, List.getElem_cons_succ]
      · exact m0
      · exact m1
      · exact m2
      · exact m3
  · intro j hj
    simp only [List.length_append, List.length_cons, List.length_nil] at hj
    by_cases e : j < tv.length
    · rw [List.getElem_append_left e]
      intro g hg
      rw [old ((h.marks j e).lt hg)]; exact h.omarks j e g hg
    · rw [List.getElem_append_right (by omega)]
      have : j - tv.length = 0 ∨ j - tv.length = 1 ∨ j - tv.length = 2 ∨ j - tv.length = 3 := by omega
      rcases this with e1 | e1 | e1 | e1 <;> simp only [e1, List.getElem_cons_zero, List.getElem_cons_succ]
      · exact own1 vl (.inl rfl)
      · exact own1 a1 (.inr (.inl rfl))
      · exact own1 a2 (.inr (.inr (.inl rfl)))
      · exact own1 a3 (.inr (.inr (.inr rfl)))

end Go.Proofs.YtbljamcdaoofbaaGreatDoor
