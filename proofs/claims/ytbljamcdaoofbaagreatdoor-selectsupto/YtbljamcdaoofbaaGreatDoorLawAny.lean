/- The law's world at the start; a step of any kind; the book looked at. -/
import Derived.Test.YtbljamcdaoofbaaGreatDoorLawStep2
import Derived.Test.YtbljamcdaoofbaaGreatDoorLawStreams2ToTok
namespace Go.Proofs.YtbljamcdaoofbaaGreatDoor
open Go.RowKit

theorem Good.start (w0 : World) :
    Good w0 8388709 (w0.alloc (.cells #[.slice none 0 0, .slice none 0 0, .slice none 0 0, .slice none 0 0, .slice none 0 0] 70)) w0.heap.size 0 0 (fun b => if b < w0.heap.size then 8388709 else 0) [] [] (.slice none 0 0) (.slice none 0 0) (.slice none 0 0) ⟨[], .slice none 0 0, [], .slice none 0 0⟩ := by
  refine ⟨⟨heap_alloc_new w0 _, by simp, World.ownsRow_nil _ _ _ _, fun g hg => (by cases hg), World.ownsRow_nil _ _ _ _, fun g hg => (by cases hg), World.ownsRow_nil _ _ _ _, fun g hg => (by cases hg), fun i h => (by cases h), fun i h => (by cases h), fun i h => (by cases h), fun i h => (by cases h), ⟨World.ownsRow_nil _ _ _ _, fun g hg => (by cases hg), fun i h => (by cases h), fun i h => (by cases h), World.ownsRow_nil _ _ _ _, fun g hg => (by cases hg), fun i h => (by cases h), fun i h => (by cases h)⟩⟩, fun i h => (by cases h), rfl, rfl, Nat.le_refl _, fun i h => (by cases h), rfl, rfl, Nat.le_refl _, Nat.le_refl _, (Below.refl _ _).alloc (Nat.le_refl _) _, fun b hb => (by simp [hb]), by omega⟩

/-- All is well, at most so many stores and lists. -/
def Well (w0 : World) (wb k : Nat) (w : World) : Prop :=
  ∃ N M own qs tv vps vrs vT bk, Good w0 8388709 w wb N M own qs tv vps vrs vT bk ∧ 1 ≤ N ∧ N ≤ k + 1 ∧ M ≤ 4 * k + 4

theorem Good.fresh {w0 w w' : World} {T wb N M : Nat} {own : Nat → Nat} {qs : List Pair} {tv : List Value} {vps vrs vT : Value} {bk : Bk} (h : Good w0 T w wb N M own qs tv vps vrs vT bk) (hb : Below w.heap.size w w') : Good w0 T w' wb N M (ownAt own w 1) qs tv vps vrs vT bk :=
  ⟨h.inv.fresh hb, h.rel, h.four, h.num, h.most, h.fine, h.fourB, h.fourC, h.mostB, h.mostC, h.bel.trans (hb.mono h.bel.size), fun b hb => (by rw [ownAt_old (Nat.lt_of_lt_of_le hb h.bel.size)]; exact h.low b hb), h.big⟩

theorem Well.fresh {w0 w w' : World} {wb k : Nat} (h : Well w0 wb k w) (hb : Below w.heap.size w w') : Well w0 wb k w' := by
  obtain ⟨N, M, own, qs, tv, vps, vrs, vT, bk, hG, h1, h2, h3⟩ := h
  exact ⟨N, M, _, qs, tv, vps, vrs, vT, bk, hG.fresh hb, h1, h2, h3⟩

theorem Well.bel {w0 w : World} {wb k : Nat} (h : Well w0 wb k w) : Below w0.heap.size w0 w := by
  obtain ⟨N, M, own, qs, tv, vps, vrs, vT, bk, hG, h1, h2, h3⟩ := h
  exact hG.bel

theorem Well.more {w0 w : World} {wb k k' : Nat} (h : Well w0 wb k w) (hk : k ≤ k') : Well w0 wb k' w := by
  obtain ⟨N, M, own, qs, tv, vps, vrs, vT, bk, hG, h1, h2, h3⟩ := h
  exact ⟨N, M, _, qs, tv, vps, vrs, vT, bk, hG, h1, by omega, by omega⟩

/-- so many stores there are -/
theorem Well.stores {w0 w : World} {wb k : Nat} (h : Well w0 wb k w) (hgl : Glob w0) : ∃ (N cap : Nat) (a : Option Addr), 1 ≤ N ∧ N ≤ k + 1 ∧ w.cell? ⟨wb, 0, none⟩ = some (.slice a N cap) ∧ wb < w.heap.size ∧
    (∀ (d : Nat) w1, Below w.heap.size w w1 → k + 1 ≤ 1048578 → d < N → ∀ (kind on : Int) (text line : List UInt8) (A B C : Int) (back : Bool), 1 ≤ kind → kind ≤ 5 → text.length ≤ 1048576 → line.length ≤ 1048576 →
      Calls Tryz.prog 32 #[.pointer (some ⟨wb, 0, none⟩), .int .i64 d, .agg #[.int .i64 kind, .int .i64 on, .string ⟨text.toArray⟩, .string ⟨line.toArray⟩, .int .i64 A, .int .i64 B, .int .i64 C, .bool back]] w1 fun e w' => e = .returned (.bool true) ∧ Well w0 wb (k + 1) w') := by
  obtain ⟨N, M, own, qs, tv, vps, vrs, vT, bk, hG, h1, h2, h3⟩ := h
  obtain ⟨aP, capP, hvP, -, -, -, -, -, -⟩ := owns_form hG.inv.rowP
  have hc : w.cell? ⟨wb, 0, none⟩ = some vps := by simp [World.cell?, hG.inv.blk]
  refine ⟨N, capP, aP, h1, h2, by rw [hc, hvP, hG.num], (Array.getElem?_eq_some_iff.1 hG.inv.blk).1, ?_⟩
  intro d w1 hb hk hd kind on text line A B C back k1 k4 ht hl
  have hG1 := hG.fresh hb
  have hkk : kind = 1 ∨ kind = 2 ∨ kind = 3 ∨ kind = 4 ∨ kind = 5 := by omega
  rcases hkk with rfl | rfl | rfl | rfl | rfl
  · refine (stepNew_any hG1 (by omega)).mono ?_
    rintro e w' ⟨rfl, own', qs', vps', vrs', h'⟩
    exact ⟨rfl, N + 1, M, own', qs', tv, vps', vrs', vT, bk, h', by omega, by omega, by omega⟩
  · refine (stepPush_any hG1 (by omega) hd ht hl).mono ?_
    rintro e w' ⟨rfl, own', qs', h'⟩
    exact ⟨rfl, N, M, own', qs', tv, vps, vrs, vT, bk, h', by omega, by omega, by omega⟩
  · refine (stepStreams_any hG1 (by omega) (by omega) hd).mono ?_
    rintro e w' ⟨rfl, own', tv', vT', h'⟩
    exact ⟨rfl, N, M + 4, own', qs, tv', vps, vrs, vT', bk, h', by omega, by omega, by omega⟩
  · refine (stepDrop_any hG1 (by omega) hd).mono ?_
    rintro e w' ⟨rfl, own', qs', h'⟩
    exact ⟨rfl, N, M, own', qs', tv, vps, vrs, vT, bk, h', by omega, by omega, by omega⟩
  · refine (stepRows_any hG1 hgl (by omega) hd ht).mono ?_
    rintro e w' ⟨rfl, own', bk', h'⟩
    exact ⟨rfl, N, M + 4, own', qs, tv, vps, vrs, vT, bk', h', by omega, by omega, by omega⟩

theorem Well.still {w0 w : World} {wb k : Nat} (h : Well w0 wb k w) (hk : k ≤ 1048580) :
    Calls Tryz.prog 34 #[.pointer (some ⟨wb, 2, none⟩)] w fun e w' => e = .returned (.bool true) ∧ Well w0 wb k w' := by
  have h' := h
  obtain ⟨N, M, own, qs, tv, vps, vrs, vT, bk, hG, h1, h2, h3⟩ := h
  refine (still_any hG.inv.blk hG.inv.rowT hG.inv.marks (by have := hG.most; omega) hG.inv.bk (by have := hG.mostB; omega) (by have := hG.mostC; omega)).mono ?_
  rintro e w' ⟨rfl, hb⟩
  exact ⟨rfl, h'.fresh hb⟩

theorem begins_first (w0 : World) :
    Calls Tryz.prog 31 #[.pointer (some ⟨w0.heap.size, 0, none⟩)] (w0.alloc (.cells #[.slice none 0 0, .slice none 0 0, .slice none 0 0, .slice none 0 0, .slice none 0 0] 70)) fun e w' => e = .returned (.bool true) ∧ Well w0 w0.heap.size 0 w' := by
  have hG := Good.start w0
  refine (begins_any hG.inv (by simp)).mono ?_
  rintro e w1 ⟨rfl, own', vps', vrs', pp, pr, hI, hm, how⟩
  refine ⟨rfl, 1, 0, own', _, [], vps', vrs', _, _, ⟨hI, ?_, rfl, by simp, by simp, ?_, rfl, rfl, by simp, by simp, ?_, ?_, by omega⟩, by omega, by omega, by omega⟩
  · intro i hi
    have : i = 0 := by simpa using hi
    subst this
    exact RelA.empty
  · intro i hi
    have : i = 0 := by simpa using hi
    subst this
    exact Fine.empty
  · have hs0 := hG.bel.size
    exact hG.bel.trans ⟨hm.os, hm.tape, hm.output, hm.size, fun b hb => hm.block b (by omega) (by rw [hG.low b hb]; omega)⟩
  · intro b hb
    have hs0 := hG.bel.size
    rw [how b (by omega)]; exact hG.low b hb

end Go.Proofs.YtbljamcdaoofbaaGreatDoor
