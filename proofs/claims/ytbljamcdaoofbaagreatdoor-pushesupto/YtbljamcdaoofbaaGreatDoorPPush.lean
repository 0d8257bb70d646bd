/- The program's Push: what it answers, and what it leaves in memory. -/
import Derived.Test.YtbljamcdaoofbaaGreatDoorPInsert
namespace Go.Proofs.YtbljamcdaoofbaaGreatDoor
open Go.RowKit

theorem insert_any {w : World} {va y : Value} {n k gv : Nat} {xs : List Value} (h : w.ownsRow 0 79 1 va n xs) (hgv : w.heap[gv]? = some (.cells #[y] 79 (0, 0))) (hne : ∀ g, va.ownBlock = some g → gv ≠ g) (hy : y.oneCell' = true) (hxs : ∀ u ∈ xs, u.oneCell' = true) (hn : n ≤ 6) (hk : k ≤ n) :
    Calls Tryz.prog 48 #[va, .int .i64 k, .slice (some ⟨gv, 0, none⟩) 1 1] w fun e w' =>
      ∃ v', e = .returned v' ∧ w'.ownsRow 0 79 1 v' (n + 1) (xs.take k ++ [y] ++ xs.drop k) ∧ w.grownBy w' va.ownBlock ∧ (∀ g, v'.ownBlock = some g → va.ownBlock = some g ∨ w.heap.size ≤ g) := by
  have hxl : xs.length = n := by simpa using h.1
  by_cases he : k = n
  · subst he
    refine (insert_end h hgv hy hn).mono ?_
    rintro e w' ⟨v', rfl, h1, h2, h3⟩
    refine ⟨v', rfl, ?_, h2, h3⟩
    rw [List.take_of_length_le (by omega), List.drop_of_length_le (by omega), List.append_nil]
    exact h1
  · obtain ⟨g, cap, rfl, -, -, -, -, -, -⟩ := owns_open h (by omega)
    by_cases hr : n + 1 ≤ cap
    · refine (insert_shift h hgv (hne g rfl) hy hxs hn (by omega) hr).mono ?_
      rintro e w' ⟨v', rfl, h1, h2, h3⟩
      exact ⟨v', rfl, h1, h2, fun g' hg' => by rcases h3 g' hg' with rfl | h; exact .inl rfl; exact .inr h⟩
    · refine (insert_grow h hgv hy hxs hn (by omega) hr).mono ?_
      rintro e w' ⟨v', rfl, h1, h2, h3⟩
      exact ⟨v', rfl, h1, h2, fun g' hg' => by rcases h3 g' hg' with rfl | h; exact .inl rfl; exact .inr h⟩

theorem apart.symm {a b : Node} (h : apart a b) : apart b a := ⟨fun e => h.1 e.symm, fun g hb ha => h.2 g ha hb⟩

theorem StoreAt.apartAt {w : World} {F : Nat → Prop} {p : Nat} {ns : List Node} {va : Value} (h : StoreAt w F p ns va) {i j : Nat} (hi : i < ns.length) (hj : j < ns.length) (hij : i ≠ j) : Go.Proofs.YtbljamcdaoofbaaGreatDoor.apart ns[i] ns[j] := by
  rcases Nat.lt_or_gt_of_ne hij with g | g
  · exact List.pairwise_iff_getElem.1 h.apart i j hi hj g
  · exact (List.pairwise_iff_getElem.1 h.apart j i hj hi g).symm

theorem StoreAt.set {w w' : World} {F : Nat → Prop} {p k : Nat} {ns : List Node} {va : Value} (h : StoreAt w F p ns va) (hk : k < ns.length) {n' : Node} (hn' : NodeAt w' n') (hb : n'.blk = ns[k].blk)
    (hv : ∀ g, n'.vl.ownBlock = some g → ns[k].vl.ownBlock = some g ∨ w.heap.size ≤ g) (hm : Moved (nodeF ns[k]) w w') : StoreAt w' (Plus F w) p (ns.set k n') va := by
  have hK := h.nodes _ (List.getElem_mem hk)
  have hnot : ∀ {b : Nat} {c : Array Value} {e : TypeId} {f : Nat × Nat}, w.heap[b]? = some (.cells c e f) → e ≠ 118 → e ≠ 108 → w'.heap[b]? = w.heap[b]? := by
    intro b c e f hbl h1 h2
    refine hm.block b (Array.getElem?_eq_some_iff.1 hbl).1 ?_
    rintro (rfl | hg)
    · exact ne_of_type hbl hK.block h1 rfl
    · obtain ⟨_, cur, hc⟩ := ownsRow_type hK.row hg
      exact ne_of_type hbl hc h2 rfl
  have hother : ∀ j (hj : j < ns.length), j ≠ k → NodeAt w' ns[j] := by
    intro j hj hjk
    have hJ := h.nodes _ (List.getElem_mem hj)
    have ha := h.apartAt hj hk hjk
    refine hJ.keep (hm.block _ hJ.lt ?_) (fun g hg => hm.block g (ownsRow_type hJ.row hg).1 ?_)
    · rintro (e | hg)
      · exact ha.1 e
      · obtain ⟨_, cur, hc⟩ := ownsRow_type hK.row hg
        exact ne_of_type hJ.block hc (by decide) rfl
    · rintro (e | hg')
      · obtain ⟨_, cur, hc⟩ := ownsRow_type hJ.row hg
        exact ne_of_type hc hK.block (by decide) e
      · exact ha.2 g hg hg'
  have hmap : (ns.set k n').map ptr = ns.map ptr := by
    rw [List.map_set]
    have : ptr n' = (ns.map ptr)[k]'(by simpa using hk) := by simp [ptr, hb]
    rw [this, List.set_getElem_self]
  refine ⟨?_, ?_, ?_, ?_, .inl h.inF, fun g hg => .inl (h.inA g hg), ?_⟩
  · rw [hnot h.block (by decide) (by decide)]; exact h.block
  · rw [hmap, List.length_set]
    refine ownsRow_same h.row fun g hg => ?_
    obtain ⟨_, cur, hc⟩ := ownsRow_type h.row hg
    exact hnot hc (by decide) (by decide)
  · intro n hn
    obtain ⟨j, hj, rfl⟩ := List.getElem_of_mem hn
    rw [List.length_set] at hj
    rw [List.getElem_set]
    split
    · exact hn'
    · exact hother j hj (by omega)
  · rw [List.pairwise_iff_getElem]
    intro i j hi hj hij
    rw [List.length_set] at hi hj
    rw [List.getElem_set, List.getElem_set]
    have key : ∀ j (hj : j < ns.length), j ≠ k → Go.Proofs.YtbljamcdaoofbaaGreatDoor.apart n' ns[j] := by
      intro j hj hjk
      have ha := h.apartAt hk hj (fun e => hjk e.symm)
      refine ⟨by rw [hb]; exact ha.1, fun g hg hgj => ?_⟩
      rcases hv g hg with h1 | h1
      · exact ha.2 g h1 hgj
      · have := (ownsRow_type (h.nodes _ (List.getElem_mem hj)).row hgj).1
        omega
    split
    · split
      · omega
      · exact key j hj (by omega)
    · split
      · exact (key i hi (by omega)).symm
      · exact h.apartAt hi hj (by omega)
  · intro n hn
    obtain ⟨j, hj, rfl⟩ := List.getElem_of_mem hn
    rw [List.length_set] at hj
    rw [List.getElem_set]
    split
    · have := h.inN _ (List.getElem_mem hk)
      refine ⟨.inl (hb ▸ this.1), fun g hg => ?_⟩
      rcases hv g hg with h1 | h1
      · exact .inl (this.2 g h1)
      · exact .inr h1
    · have := h.inN _ (List.getElem_mem hj)
      exact ⟨.inl this.1, fun g hg => .inl (this.2 g hg)⟩

theorem block1_set0 {w : World} {p : Nat} {v0 : Value} {t : TypeId} (h : w.heap[p]? = some (.cells #[v0] t (0, 0))) (u : Value) :
    (w.setCell ⟨p, 0, none⟩ u).heap[p]? = some (.cells #[u] t (0, 0)) := by
  simp [World.setCell, Array.getElem?_modify, h]

theorem StoreAt.ins {w w' : World} {F : Nat → Prop} {p k : Nat} {ns : List Node} {va va' : Value} {m : Node} (h : StoreAt w F p ns va) (hm : NodeAt w' m) (hmb : w.heap.size ≤ m.blk) (hmv : m.vl.ownBlock = none)
    (hrow : w'.ownsRow 0 79 1 va' (ns.length + 1) ((ns.map ptr).take k ++ [ptr m] ++ (ns.map ptr).drop k)) (hva : ∀ g, va'.ownBlock = some g → va.ownBlock = some g ∨ w.heap.size ≤ g)
    (hmo : Moved (fun b => va.ownBlock = some b) w w') :
    StoreAt (w'.setCell ⟨p, 0, none⟩ va') (Plus F w) p (ns.take k ++ [m] ++ ns.drop k) va' ∧ w'.cell? ⟨p, 0, none⟩ = some va ∧ w'.frozen? ⟨p, 0, none⟩ = false ∧ Moved F w (w'.setCell ⟨p, 0, none⟩ va') := by
  have hnot : ∀ {b : Nat} {c : Array Value} {e : TypeId} {f : Nat × Nat}, w.heap[b]? = some (.cells c e f) → e ≠ 79 → w'.heap[b]? = w.heap[b]? := by
    intro b c e f hbl h1
    refine hmo.block b (Array.getElem?_eq_some_iff.1 hbl).1 ?_
    intro hg
    obtain ⟨_, cur, hc⟩ := ownsRow_type h.row hg
    exact ne_of_type hbl hc h1 rfl
  have hp2 : w'.heap[p]? = some (.cells #[va] 78 (0, 0)) := by rw [hnot h.block (by decide)]; exact h.block
  obtain ⟨c0, hf⟩ := cell_of_block1 hp2
  have hset : ∀ {b : Nat} {c : Array Value} {e : TypeId} {f : Nat × Nat}, w'.heap[b]? = some (.cells c e f) → e ≠ 78 → (w'.setCell ⟨p, 0, none⟩ va').heap[b]? = w'.heap[b]? := by
    intro b c e f hbl h1
    exact Go.RowKit.Below.heap_setCell _ _ _ _ (ne_of_type hbl hp2 h1)
  have hold : ∀ n ∈ ns, NodeAt (w'.setCell ⟨p, 0, none⟩ va') n := by
    intro n hn
    have hN := h.nodes n hn
    have h1 : NodeAt w' n := hN.keep (hnot hN.block (by decide)) (fun g hg => by
      obtain ⟨_, cur, hc⟩ := ownsRow_type hN.row hg
      exact hnot hc (by decide))
    exact h1.keep (hset h1.block (by decide)) (fun g hg => by
      obtain ⟨_, cur, hc⟩ := ownsRow_type h1.row hg
      exact hset hc (by decide))
  have hnew : NodeAt (w'.setCell ⟨p, 0, none⟩ va') m := hm.keep (hset hm.block (by decide)) (fun g hg => by rw [hmv] at hg; cases hg)
  have hmem : ∀ n, n ∈ ns.take k ++ [m] ++ ns.drop k → n ∈ ns ∨ n = m := by
    intro n hn
    simp only [List.mem_append, List.mem_singleton] at hn
    rcases hn with (hn | hn) | hn
    · exact .inl (List.mem_of_mem_take hn)
    · exact .inr hn
    · exact .inl (List.mem_of_mem_drop hn)
  have hap : ∀ n ∈ ns, Go.Proofs.YtbljamcdaoofbaaGreatDoor.apart n m := by
    intro n hn
    refine ⟨fun e => ?_, fun g _ hg => by rw [hmv] at hg; cases hg⟩
    have := (h.nodes n hn).lt
    omega
  refine ⟨⟨block1_set0 hp2 va', ?_, ?_, ?_, .inl h.inF, ?_, ?_⟩, c0, hf 0, ?_⟩
  · have hl : (ns.take k ++ [m] ++ ns.drop k).length = ns.length + 1 := by simp; omega
    rw [hl, List.map_append, List.map_append, List.map_take, List.map_drop]
    refine ownsRow_same hrow fun g hg => ?_
    obtain ⟨_, cur, hc⟩ := ownsRow_type hrow hg
    exact hset hc (by decide)
  · intro n hn
    rcases hmem n hn with hn | rfl
    · exact hold n hn
    · exact hnew
  · have hpw := h.apart
    rw [← List.take_append_drop k ns, List.pairwise_append] at hpw
    rw [List.append_assoc, List.pairwise_append]
    refine ⟨hpw.1, ?_, ?_⟩
    · rw [List.singleton_append, List.pairwise_cons]
      exact ⟨fun n hn => (hap n (List.mem_of_mem_drop hn)).symm, hpw.2.1⟩
    · intro a ha b hb
      rw [List.singleton_append, List.mem_cons] at hb
      rcases hb with rfl | hb
      · exact hap a (List.mem_of_mem_take ha)
      · exact hpw.2.2 a ha b hb
  · intro g hg
    rcases hva g hg with h1 | h1
    · exact .inl (h.inA g h1)
    · exact .inr h1
  · intro n hn
    rcases hmem n hn with hn | rfl
    · have := h.inN n hn
      exact ⟨.inl this.1, fun g hg => .inl (this.2 g hg)⟩
    · exact ⟨.inr hmb, fun g hg => by rw [hmv] at hg; cases hg⟩
  · exact (hmo.mono (fun i _ hi => h.inA i hi)).setCell (.inl h.inF) _

end Go.Proofs.YtbljamcdaoofbaaGreatDoor
