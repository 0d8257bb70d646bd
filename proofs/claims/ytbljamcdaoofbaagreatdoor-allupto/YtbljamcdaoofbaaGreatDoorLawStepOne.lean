/- One step of a script: the answer is the document's, and all is kept. -/
import Derived.Test.YtbljamcdaoofbaaGreatDoorLawRowsOne
import Derived.Deep.RegionHeld
namespace Go.Proofs.YtbljamcdaoofbaaGreatDoor
open Go.RowKit

/-- All is well: so many stores, at most so many lists in the book. -/
structure Good (w0 : World) (T : Nat) (w : World) (wb N M : Nat) (own : Nat → Nat) (qs : List Pair) (tv : List Value) (vps vrs vT : Value) (bk : Bk) : Prop where
  inv : Inv w wb own qs tv vps vrs vT bk
  rel : ∀ i (h : i < qs.length), RelA (qs[i].ns.map absN) qs[i].S qs[i].L
  four : tv.length % 4 = 0
  num : qs.length = N
  most : tv.length ≤ M
  fine : ∀ i (h : i < qs.length), Fine qs[i].S qs[i].L
  fourB : bk.tr.length % 4 = 0
  fourC : bk.tm.length % 4 = 0
  mostB : bk.tr.length ≤ M
  mostC : bk.tm.length ≤ M
  bel : Below w0.heap.size w0 w
  low : ∀ b, b < w0.heap.size → own b = T
  big : 8388708 < T

def opCells (kind on : Int) (text line : List UInt8) (A B C : Int) (back : Bool) : Array Value :=
  #[.int .i64 kind, .int .i64 on, .string ⟨text.toArray⟩, .string ⟨line.toArray⟩, .int .i64 A, .int .i64 B, .int .i64 C, .bool back]

theorem opCells_at {w : World} {b : Nat} {kind on : Int} {text line : List UInt8} {A B C : Int} {back : Bool} (h : w.heap[b]? = some (.cells (opCells kind on text line A B C back) 73 (0, 0))) :
    w.cell? ⟨b, 0, none⟩ = some (.int .i64 kind) ∧ w.cell? ⟨b, 1, none⟩ = some (.int .i64 on) ∧ w.cell? ⟨b, 2, none⟩ = some (.string ⟨text.toArray⟩) ∧ w.cell? ⟨b, 3, none⟩ = some (.string ⟨line.toArray⟩) ∧ w.cell? ⟨b, 4, none⟩ = some (.int .i64 A) ∧ w.cell? ⟨b, 5, none⟩ = some (.int .i64 B) ∧ w.cell? ⟨b, 6, none⟩ = some (.int .i64 C) ∧ w.cell? ⟨b, 7, none⟩ = some (.bool back) := by
  simp [World.cell?, h, opCells]

/-- the pushes of both, put together -/
theorem Good.pushed {w0 w w1 w2 : World} {T wb N M k : Nat} {own : Nat → Nat} {qs : List Pair} {tv : List Value} {vps vrs vT va' vS' vL' : Value} {bk : Bk} {ns' : List Node} {l x : List UInt8} {t : Int} (h : Good w0 T w wb N M own qs tv vps vrs vT bk) (hk : k < qs.length) (hN : N ≤ 4194304) (hll : l.length ≤ 1048576)
    (hs : StoreAt w1 (Plus (fun b => own b = 2 * k + 2) w) qs[k].pp ns' va') (hab : ns'.map absN = pushedA qs[k].ns l t x) (hm : Moved (fun b => own b = 2 * k + 2) w w1)
    (hr : RefAt w2 (Plus (fun b => ownAt own w (2 * k + 2) b = 2 * k + 3) w1) qs[k].pr (pushR qs[k].S qs[k].L l t x).2.1 (pushR qs[k].S qs[k].L l t x).2.2 vS' vL') (hm2 : Moved (fun b => ownAt own w (2 * k + 2) b = 2 * k + 3) w1 w2) :
    ∃ own' qs', Good w0 T w2 wb N M own' qs' tv vps vrs vT bk := by
  have h1 := h.inv.updP hk hs hm
  have hk1 : k < (qs.set k { qs[k] with ns := ns', va := va' }).length := by simpa using hk
  have he : (qs.set k { qs[k] with ns := ns', va := va' })[k] = { qs[k] with ns := ns', va := va' } := by rw [List.getElem_set_self]
  have h2 := h1.updR (S' := (pushR qs[k].S qs[k].L l t x).2.1) (L' := (pushR qs[k].S qs[k].L l t x).2.2) (vS' := vS') (vL' := vL') hk1 (by rw [he]; exact hr) hm2
  have hs0 := h.bel.size
  have hkN : k < N := by rw [← h.num]; exact hk
  have hbig := h.big
  have b1 : Below w0.heap.size w w1 := ⟨hm.os, hm.tape, hm.output, hm.size, fun b hb => hm.block b (by omega) (by rw [h.low b hb]; omega)⟩
  have b2 : Below w0.heap.size w1 w2 := ⟨hm2.os, hm2.tape, hm2.output, hm2.size, fun b hb => hm2.block b (by have := hm.size; omega) (by rw [ownAt_old (by omega), h.low b hb]; omega)⟩
  refine ⟨_, _, h2, ?_, h.four, by simpa using h.num, h.most, ?_, h.fourB, h.fourC, h.mostB, h.mostC, (h.bel.trans b1).trans b2, fun b hb => by rw [ownAt_old (by have := hm.size; omega), ownAt_old (by omega)]; exact h.low b hb, hbig⟩
  rotate_left
  · intro i hi
    simp only [List.length_set] at hi
    rw [List.getElem_set]
    by_cases e : k = i
    · subst e
      rw [if_pos rfl]
      exact (h.fine k hk).push l t x hll
    · rw [if_neg e, List.getElem_set, if_neg e]
      exact h.fine i hi
  intro i hi
  simp only [List.length_set] at hi
  rw [List.getElem_set]
  by_cases e : k = i
  · subst e
    rw [if_pos rfl, he]
    show RelA (ns'.map absN) _ _
    rw [hab]
    exact (h.rel k hk).push l t x
  · rw [if_neg e, List.getElem_set, if_neg e]
    exact h.rel i hi

theorem Good.dropped {w0 w w1 w2 : World} {T wb N M k : Nat} {own : Nat → Nat} {qs : List Pair} {tv : List Value} {vps vrs vT va' vS' vL' : Value} {bk : Bk} {ns' : List Node} {b : Int} (h : Good w0 T w wb N M own qs tv vps vrs vT bk) (hk : k < qs.length) (hN : N ≤ 4194304)
    (hs : StoreAt w1 (Plus (fun b => own b = 2 * k + 2) w) qs[k].pp ns' va') (hab : ns'.map absN = dropA qs[k].ns b) (hm : Moved (fun b => own b = 2 * k + 2) w w1)
    (hr : RefAt w2 (Plus (fun b => ownAt own w (2 * k + 2) b = 2 * k + 3) w1) qs[k].pr qs[k].S (dropR qs[k].L b).2.2 vS' vL') (hm2 : Moved (fun b => ownAt own w (2 * k + 2) b = 2 * k + 3) w1 w2) :
    ∃ own' qs', Good w0 T w2 wb N M own' qs' tv vps vrs vT bk := by
  have h1 := h.inv.updP hk hs hm
  have hk1 : k < (qs.set k { qs[k] with ns := ns', va := va' }).length := by simpa using hk
  have he : (qs.set k { qs[k] with ns := ns', va := va' })[k] = { qs[k] with ns := ns', va := va' } := by rw [List.getElem_set_self]
  have h2 := h1.updR (S' := qs[k].S) (L' := (dropR qs[k].L b).2.2) (vS' := vS') (vL' := vL') hk1 (by rw [he]; exact hr) hm2
  have hs0 := h.bel.size
  have hkN : k < N := by rw [← h.num]; exact hk
  have hbig := h.big
  have b1 : Below w0.heap.size w w1 := ⟨hm.os, hm.tape, hm.output, hm.size, fun b hb => hm.block b (by omega) (by rw [h.low b hb]; omega)⟩
  have b2 : Below w0.heap.size w1 w2 := ⟨hm2.os, hm2.tape, hm2.output, hm2.size, fun b hb => hm2.block b (by have := hm.size; omega) (by rw [ownAt_old (by omega), h.low b hb]; omega)⟩
  refine ⟨_, _, h2, ?_, h.four, by simpa using h.num, h.most, ?_, h.fourB, h.fourC, h.mostB, h.mostC, (h.bel.trans b1).trans b2, fun b hb => by rw [ownAt_old (by have := hm.size; omega), ownAt_old (by omega)]; exact h.low b hb, hbig⟩
  rotate_left
  · intro i hi
    simp only [List.length_set] at hi
    rw [List.getElem_set]
    by_cases e : k = i
    · subst e
      rw [if_pos rfl]
      exact (h.fine k hk).drop b
    · rw [if_neg e, List.getElem_set, if_neg e]
      exact h.fine i hi
  intro i hi
  simp only [List.length_set] at hi
  rw [List.getElem_set]
  by_cases e : k = i
  · subst e
    rw [if_pos rfl, he]
    show RelA (ns'.map absN) _ _
    rw [hab]
    exact ((h.rel k hk).drop b).2.2
  · rw [if_neg e, List.getElem_set, if_neg e]
    exact h.rel i hi

/-- what the law reads, behind the program's call -/
theorem Inv.afterP {w w1 : World} {wb k b : Nat} {own : Nat → Nat} {qs : List Pair} {tv : List Value} {vps vrs vT va' : Value} {bk : Bk} {ns' : List Node} {c : Array Value} (h : Inv w wb own qs tv vps vrs vT bk) (hk : k < qs.length) (hs : StoreAt w1 (Plus (fun b => own b = 2 * k + 2) w) qs[k].pp ns' va') (hm : Moved (fun b => own b = 2 * k + 2) w w1)
    (hb : w.heap[b]? = some (.cells c 73 (0, 0))) (ho : own b = 1) :
    w1.heap[b]? = some (.cells c 73 (0, 0)) ∧ RefAt w1 (fun b => ownAt own w (2 * k + 2) b = 2 * k + 3) qs[k].pr qs[k].S qs[k].L qs[k].vS qs[k].vL ∧ ownAt own w (2 * k + 2) b = 1 ∧
      (∃ g cap, w1.cell? ⟨wb, 1, none⟩ = some (.slice (some ⟨g, 0, none⟩) qs.length cap) ∧ w1.cell? ⟨g, k, none⟩ = some (.pointer (some ⟨qs[k].pr, 0, none⟩))) ∧ (∀ b, ownAt own w (2 * k + 2) b = 0 → b < w.heap.size → w1.heap[b]? = w.heap[b]?) := by
  have hbl := (Array.getElem?_eq_some_iff.1 hb).1
  have h1 := h.updP hk hs hm
  have hk1 : k < (qs.set k { qs[k] with ns := ns', va := va' }).length := by simpa using hk
  have he : (qs.set k { qs[k] with ns := ns', va := va' })[k] = { qs[k] with ns := ns', va := va' } := by rw [List.getElem_set_self]
  have hrf := h1.rf k hk1
  rw [he] at hrf
  obtain ⟨g, cap, -, c1, cR⟩ := h1.cellR hk1
  rw [he] at cR
  rw [List.length_set] at c1
  refine ⟨?_, hrf, ?_, ⟨g, cap, c1, cR⟩, ?_⟩
  · rw [hm.block b hbl (by rw [ho]; omega)]; exact hb
  · rw [ownAt_old hbl]; exact ho
  · intro b' h0 hl
    rw [ownAt_old hl] at h0
    exact hm.block b' hl (by rw [h0]; omega)

end Go.Proofs.YtbljamcdaoofbaaGreatDoor
