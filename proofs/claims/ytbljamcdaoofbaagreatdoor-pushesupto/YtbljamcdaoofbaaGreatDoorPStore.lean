/- The program's store in memory; its small calls. -/
import Derived.Test.YtbljamcdaoofbaaGreatDoorLabelEq
import Derived.Test.YtbljamcdaoofbaaGreatDoorRefDrop
namespace Go.Proofs.YtbljamcdaoofbaaGreatDoor
open Go.RowKit

abbrev Ln := Int × List UInt8
def cellsN (x : Ln) : List Value := [.int .i64 x.1, SV x.2]

/-- a stream of the program: its block, its labels, the greatest time, its lines, the slice that holds them -/
structure Node where
  blk : Nat
  lab : List UInt8
  latest : Int
  lines : List Ln
  vl : Value

structure NodeAt (w : World) (n : Node) : Prop where
  block : w.heap[n.blk]? = some (.cells #[SV n.lab, .int .i64 n.latest, n.vl] 118 (0, 0))
  row : w.ownsRow 0 108 2 n.vl n.lines.length (n.lines.flatMap cellsN)

def ptr (n : Node) : Value := .pointer (some ⟨n.blk, 0, none⟩)

def apart (a b : Node) : Prop := a.blk ≠ b.blk ∧ ∀ g, a.vl.ownBlock = some g → b.vl.ownBlock ≠ some g

/-- The program's store lies at block p, with its streams ns; all its blocks are among F. -/
structure StoreAt (w : World) (F : Nat → Prop) (p : Nat) (ns : List Node) (va : Value) : Prop where
  block : w.heap[p]? = some (.cells #[va] 78 (0, 0))
  row : w.ownsRow 0 79 1 va ns.length (ns.map ptr)
  nodes : ∀ n ∈ ns, NodeAt w n
  apart : ns.Pairwise apart
  inF : F p
  inA : ∀ g, va.ownBlock = some g → F g
  inN : ∀ n ∈ ns, F n.blk ∧ ∀ g, n.vl.ownBlock = some g → F g

theorem NodeAt.lt {w : World} {n : Node} (h : NodeAt w n) : n.blk < w.heap.size := (Array.getElem?_eq_some_iff.1 h.block).1

theorem NodeAt.keep {w w' : World} {n : Node} (h : NodeAt w n) (hb : w'.heap[n.blk]? = w.heap[n.blk]?) (hr : ∀ g, n.vl.ownBlock = some g → w'.heap[g]? = w.heap[g]?) : NodeAt w' n :=
  ⟨by rw [hb]; exact h.block, ownsRow_same h.row hr⟩

theorem StoreAt.lt {w : World} {F : Nat → Prop} {p : Nat} {ns : List Node} {va : Value} (h : StoreAt w F p ns va) : p < w.heap.size := (Array.getElem?_eq_some_iff.1 h.block).1

theorem StoreAt.keep {w w' : World} {F : Nat → Prop} {p : Nat} {ns : List Node} {va : Value} (h : StoreAt w F p ns va)
    (hk : ∀ b, b < w.heap.size → F b → w'.heap[b]? = w.heap[b]?) : StoreAt w' F p ns va := by
  refine ⟨?_, ?_, ?_, h.apart, h.inF, h.inA, h.inN⟩
  · rw [hk p h.lt h.inF]; exact h.block
  · exact ownsRow_same h.row fun g hg => hk g (ownsRow_type h.row hg).1 (h.inA g hg)
  · intro n hn
    exact (h.nodes n hn).keep (hk _ (h.nodes n hn).lt (h.inN n hn).1) fun g hg => hk g (ownsRow_type (h.nodes n hn).row hg).1 ((h.inN n hn).2 g hg)

theorem StoreAt.weaken {w : World} {F G : Nat → Prop} {p : Nat} {ns : List Node} {va : Value} (h : StoreAt w F p ns va) (hFG : ∀ b, F b → G b) : StoreAt w G p ns va :=
  ⟨h.block, h.row, h.nodes, h.apart, hFG _ h.inF, fun g hg => hFG _ (h.inA g hg), fun n hn => ⟨hFG _ (h.inN n hn).1, fun g hg => hFG _ ((h.inN n hn).2 g hg)⟩⟩

theorem cell_of_block1 {w : World} {p : Nat} {v0 : Value} {t : TypeId} (h : w.heap[p]? = some (.cells #[v0] t (0, 0))) :
    w.cell? ⟨p, 0, none⟩ = some v0 ∧ (∀ j, w.frozen? ⟨p, j, none⟩ = false) :=
  ⟨by simp [World.cell?, h], fun j => by simp [World.frozen?, h]⟩
theorem cell_of_block3 {w : World} {p : Nat} {v0 v1 v2 : Value} {t : TypeId} (h : w.heap[p]? = some (.cells #[v0, v1, v2] t (0, 0))) :
    w.cell? ⟨p, 0, none⟩ = some v0 ∧ w.cell? ⟨p, 1, none⟩ = some v1 ∧ w.cell? ⟨p, 2, none⟩ = some v2 ∧ (∀ j, w.frozen? ⟨p, j, none⟩ = false) :=
  ⟨by simp [World.cell?, h], by simp [World.cell?, h], by simp [World.cell?, h], fun j => by simp [World.frozen?, h]⟩

theorem ptr_at {ns : List Node} {k : Nat} (h : k < ns.length) : (ns.map ptr)[k]? = some (.pointer (some ⟨ns[k].blk, 0, none⟩)) := by simp [h, ptr]

set_option maxHeartbeats 400000 in
theorem sLabels_any {w : World} {n : Node} (h : NodeAt w n) :
    Calls Tryz.prog 38 #[.pointer (some ⟨n.blk, 0, none⟩)] w fun e w' => e = .returned (.string ⟨n.lab.toArray⟩) ∧ w' = w := by
  obtain ⟨c0, c1, c2, fz⟩ := cell_of_block3 h.block
  go_enter Tryz.func38, Tryz.ntmps38
  go_wp2
  go_ret
  exact ⟨rfl, rfl⟩

set_option maxHeartbeats 400000 in
theorem sLen_any {w : World} {n : Node} (h : NodeAt w n) :
    Calls Tryz.prog 107 #[.pointer (some ⟨n.blk, 0, none⟩)] w fun e w' => e = .returned (.int .i64 n.lines.length) ∧ w' = w := by
  obtain ⟨c0, c1, c2, fz⟩ := cell_of_block3 h.block
  obtain ⟨ao, cap, hv, -, -, -, -, -, -⟩ := owns_form h.row
  rw [hv] at c2
  clear hv
  go_enter Tryz.func107, Tryz.ntmps107
  go_wp2
  go_ret
  exact ⟨rfl, rfl⟩

set_option maxHeartbeats 400000 in
theorem sTakes_any {w : World} {n : Node} (t : Int) (h : NodeAt w n) :
    Calls Tryz.prog 77 #[.pointer (some ⟨n.blk, 0, none⟩), .int .i64 t] w fun e w' => e = .returned (.bool (decide (n.latest ≤ t))) ∧ w' = w := by
  obtain ⟨c0, c1, c2, fz⟩ := cell_of_block3 h.block
  go_enter Tryz.func77, Tryz.ntmps77
  go_wp2
  go_ret
  exact ⟨rfl, rfl⟩

set_option maxHeartbeats 400000 in
theorem find1_any {w : World} {n : Node} (l : List UInt8) (h : NodeAt w n) :
    Calls Tryz.prog 75 #[.pointer (some ⟨n.blk, 0, none⟩), .string ⟨l.toArray⟩] w fun e w' => e = .returned (.int .i64 (Lib.compareBytes n.lab l)) ∧ w' = w := by
  go_enter Tryz.func75, Tryz.ntmps75
  go_wp2_with fail
  refine (sLabels_any h).mono ?_
  rintro e w1 ⟨rfl, rfl⟩
  go_wp2_with fail
  refine (compare_any n.lab l _).mono ?_
  rintro e w2 ⟨rfl, rfl⟩
  go_wp2
  go_ret
  exact ⟨rfl, rfl⟩

set_option maxRecDepth 10000 in
set_option maxHeartbeats 400000 in
theorem isTime_any (t : Int) (w : World) :
    Calls Tryz.prog 43 #[.int .i64 t] w fun e w' => e = .returned (.bool (timeB t)) ∧ w' = w := by
  by_cases h : 0 ≤ t
  all_goals
    go_enter Tryz.func43, Tryz.ntmps43
    go_wp2
    go_ret
    exact ⟨by simp [timeB, h]; try omega, rfl⟩

def checkL (l : List UInt8) (t : Int) (x : List UInt8) : Int :=
  if labelsB l = false then 1 else if timeB t = false then 2 else if 40 < x.length then 3 else 0

set_option maxRecDepth 10000 in
set_option maxHeartbeats 400000 in
theorem checkLine_any (l x : List UInt8) (t : Int) (w : World) (hl : l.length ≤ 1048576) (hx : x.length ≤ 1048576) :
    Calls Tryz.prog 45 #[.string ⟨l.toArray⟩, .int .i64 t, .string ⟨x.toArray⟩] w fun e w' => e = .returned (.int .i64 (checkL l t x)) ∧ ∃ n, w' = w.drewN n := by
  go_enter Tryz.func45, Tryz.ntmps45
  go_wp2_with fail
  refine (pValid_any l _ hl).mono ?_
  rintro e w1 ⟨rfl, n, rfl⟩
  rw [valid_labels]
  cases h1 : labelsB l with
  | false =>
    go_wp2
    go_ret
    exact ⟨ret_int (by rw [checkL, if_pos h1]), n, rfl⟩
  | true =>
    go_wp2_with fail
    refine (isTime_any t _).mono ?_
    rintro e w2 ⟨rfl, rfl⟩
    cases h2 : timeB t with
    | false =>
      go_wp2
      go_ret
      exact ⟨ret_int (by rw [checkL, if_neg (by simp [h1]), if_pos h2]), n, rfl⟩
    | true =>
      by_cases h3 : (40 : Int) < x.length
      · go_wp2
        go_ret
        exact ⟨ret_int (by rw [checkL, if_neg (by simp [h1]), if_neg (by simp [h2]), if_pos (by omega)]), n, rfl⟩
      · go_wp2
        go_ret
        exact ⟨ret_int (by rw [checkL, if_neg (by simp [h1]), if_neg (by simp [h2]), if_neg (by omega)]), n, rfl⟩

end Go.Proofs.YtbljamcdaoofbaaGreatDoor
