/- The book of the lists that came out: one list more. -/
import Derived.Test.YtbljamcdaoofbaaGreatDoorLawSmall
namespace Go.Proofs.YtbljamcdaoofbaaGreatDoor
open Go.RowKit

theorem Tryz.info33 : (Tryz.prog.info? 33).map (fun i => (i.zero, i.size, i.bytes)) = some (some (.slice none 0 0), 1, 24) := by kernel_rfl

section
variable {P : Program} (w : World)

/-- an append: and what has become of the cells of the old row -/
theorem run_append_keep (t ty e : TypeId) (i : TypeInfo) (z : Value) (size bytes : Nat) (ht : P.underlying t = some (.slice e)) (hi : P.info? e = some i) (hz : i.zero = some z)
    (hsize : i.size = size) (hby : i.bytes = bytes) (hzs : z.cells.size = size) (hsz : 0 < size)
    (v : Value) (n : Nat) (xs : List Value) (hown : w.ownsRow 0 e size v n xs)
    (a : Addr) (m c : Nat) (news : List Value) (hl : news.length = m * size) (hnews : ∀ j u, news[j]? = some u → w.cell? (a.add j) = some u) (h1 : ∀ u ∈ news, u.oneCell' = true)
    (h63 : n + m ≤ maxLen) (hbytes : (n + m) * bytes ≤ 140737488355328) :
    ∃ v' w', (Builtin.append_ #[t, t] ty #[v, .slice (some a) m c]).run P w = .ok v' w' ∧ w'.ownsRow 0 e size v' (n + m) (xs ++ news) ∧ w.grownBy w' v.ownBlock ∧
      (v'.ownBlock = v.ownBlock ∨ v'.ownBlock = some w.heap.size) ∧ w'.ownsRow 0 e size v n xs ∧ (∀ g, v.ownBlock = some g → ∀ j, w'.cell? ⟨g, j, none⟩ = w.cell? ⟨g, j, none⟩ ∨ ∃ u ∈ news, w'.cell? ⟨g, j, none⟩ = some u) := by
  obtain ⟨v', w', hr, ho, hg, hwh⟩ := run_append_at (P := P) w 0 t ty e i z size bytes ht hi hz hsize hby hzs hsz v n xs hown (some a) m c news hl (fun h => by cases h) (by rintro _ ⟨⟩; exact hnews) h1 h63 hbytes (Nat.zero_le _)
  refine ⟨v', w', hr, ho, hg, hwh, ?_⟩
  subst hsize
  rcases hown.2 with ⟨rfl, rfl⟩ | ⟨g, cap, cur, rfl, hbg, hgg, hnc, hcm, hcs, htake⟩
  · exact ⟨⟨hown.1, .inl ⟨rfl, rfl⟩⟩, fun g hgo => by cases hgo⟩
  · by_cases hroom : n + m ≤ cap
    · have hfit : n * i.size + news.length ≤ cur.size := by rw [hl, hcs, ← Nat.add_mul]; exact Nat.mul_le_mul_right _ hroom
      have hr' := run_append_room (P := P) w t ty e i ht hi g n cap cur hgg a m c news hl hnews h1 hroom hfit
      rw [hr'] at hr
      simp only [Result.ok.injEq] at hr
      obtain ⟨rfl, rfl⟩ := hr
      have hh := setRow_heap w g cur (cur.toList.take (n * i.size) ++ news ++ cur.toList.drop (n * i.size + news.length)).toArray e (0, 0) hgg
      have hxl : xs.length = n * i.size := hown.1
      have hcl : cur.toList.length = cur.size := Array.length_toList
      refine ⟨⟨hown.1, .inr ⟨g, cap, _, rfl, hbg, hh, hnc, hcm, ?_, ?_⟩⟩, ?_⟩
      · simp only [List.size_toArray, List.length_append, List.length_take, List.length_drop]
        omega
      · rw [htake, List.append_assoc, ← hxl]
        exact List.take_left
      · rintro g' ⟨⟩ j
        rw [cell_of_row _ g j _ e (0, 0) hh, cell_of_row _ g j cur e (0, 0) hgg]
        have htl : (cur.toList.take (n * i.size)).length = n * i.size := by simp; omega
        rw [List.getElem?_toArray, List.append_assoc]
        by_cases hj1 : j < n * i.size
        · left
          rw [List.getElem?_append_left (by omega), List.getElem?_take, if_pos hj1]
          simp
        · rw [List.getElem?_append_right (by omega), htl]
          by_cases hj2 : j - n * i.size < news.length
          · right
            rw [List.getElem?_append_left hj2]
            exact ⟨news[j - n * i.size], List.getElem_mem hj2, List.getElem?_eq_getElem hj2⟩
          · left
            rw [List.getElem?_append_right (by omega), List.getElem?_drop]
            have : n * i.size + news.length + (j - n * i.size - news.length) = j := by omega
            rw [this]
            simp
    · have hsame : w'.heap[g]? = w.heap[g]? := by
        have holds : ∀ j u, xs[j]? = some u → w.cell? ((⟨g, 0, none⟩ : Addr).add j) = some u := hown.cells (g := g) rfl
        subst hby
        have hr' := run_append_grow (P := P) w t ty e i z ht hi hz ⟨g, 0, none⟩ n cap xs hown.1 holds a m c news hl hnews (by omega) (by simp only [maxLen] at h63; omega) (growslice_fits (by omega) hbytes)
        rw [hr'] at hr
        simp only [Result.ok.injEq] at hr
        obtain ⟨-, rfl⟩ := hr
        exact Go.RowKit.Below.heap_alloc w.drew _ g (Array.getElem?_eq_some_iff.1 hgg).1
      refine ⟨ownsRow_same hown (by rintro _ ⟨⟩; exact hsame), ?_⟩
      rintro g' ⟨⟩ j
      exact .inl (World.cell?_of_block (a := ⟨g, j, none⟩) hsame)

theorem wpList_append_keep {ops : Array Oper} {rest : List Oper} {o : Oper} {a : Act} {Q : Exit → Act → World → Prop} (hgd : o.guard = none) (s x : Operand) (t : TypeId)
    (ho : o.op = .call { callee := .builtin .append, args := #[s, x], argTypes := #[t, t] })
    (e : TypeId) (i : TypeInfo) (z : Value) (size bytes : Nat) (ht : P.underlying t = some (.slice e)) (hi : P.info? e = some i) (hz : i.zero = some z)
    (hsize : i.size = size) (hby : i.bytes = bytes) (hzs : z.cells.size = size) (hsz : 0 < size)
    (v : Value) (n : Nat) (xs : List Value) (hs : a.eval s = v) (hown : w.ownsRow 0 e size v n xs)
    (ad : Addr) (m c : Nat) (news : List Value) (hx : a.eval x = .slice (some ad) m c) (hl : news.length = m * size) (hnews : ∀ j u, news[j]? = some u → w.cell? (ad.add j) = some u) (h1 : ∀ u ∈ news, u.oneCell' = true)
    (h63 : n + m ≤ maxLen) (hbytes : (n + m) * bytes ≤ 140737488355328)
    (h : ∀ v' w', w'.ownsRow 0 e size v' (n + m) (xs ++ news) → w.grownBy w' v.ownBlock → (v'.ownBlock = v.ownBlock ∨ v'.ownBlock = some w.heap.size) → w'.ownsRow 0 e size v n xs →
      (∀ g, v.ownBlock = some g → ∀ j, w'.cell? ⟨g, j, none⟩ = w.cell? ⟨g, j, none⟩ ∨ ∃ u ∈ news, w'.cell? ⟨g, j, none⟩ = some u) → wpList P ops Q rest (a.put o.dst v') w') : wpList P ops Q (o :: rest) a w := by
  obtain ⟨v', w', hr, h2, h3, h4, h5, h6⟩ := run_append_keep (P := P) w t o.type e i z size bytes ht hi hz hsize hby hzs hsz v n xs hown ad m c news hl hnews h1 h63 hbytes
  refine wpList_plain hgd fun K hK => ?_
  unfold Oper.wp execOp
  simp only [ho, resolve, invoke, builtin, Sem.run_bind, Sem.run_pure, Result.andThen_ok, List.map_toArray, List.map_cons, List.map_nil, hs, hx, hr]
  exact hK _ _ (h v' w' h2 h3 h4 h5 h6)
end

/-- a list that its owner has written full -/
def MarkAt (w : World) (v X : Value) : Prop :=
  ∃ ao n cap, v = .slice ao n cap ∧ n ≤ 9 ∧ (ao = none → n = 0) ∧ (∀ a, ao = some a → a.off = 0 ∧ a.spot = none ∧ a.block < w.heap.size ∧ ∀ j, j < n → w.cell? ⟨a.block, j, none⟩ = some X)

theorem mark_of_row {w : World} {v X : Value} {n : Nat} (h : w.ownsRow 0 9 1 v n (List.replicate n X)) (hn : n ≤ 9) : MarkAt w v X := by
  obtain ⟨ao, cap, rfl, -, -, hnil, hao, hcell, -⟩ := owns_form h
  refine ⟨ao, n, cap, rfl, hn, fun e => (hnil e).1, fun a ha => ?_⟩
  obtain ⟨h1, h2, -, h4⟩ := hao a ha
  refine ⟨h1, h2, h4, fun j hj => ?_⟩
  rw [hcell a ha j (by omega)]
  simp [hj]

/-- a list that is written full stays so, where its cells stay or get the mark once more -/
theorem MarkAt.keep {w w' : World} {v X : Value} (h : MarkAt w v X) (hs : w.heap.size ≤ w'.heap.size) (hk : ∀ g, v.ownBlock = some g → g < w.heap.size → ∀ j, w'.cell? ⟨g, j, none⟩ = w.cell? ⟨g, j, none⟩ ∨ w'.cell? ⟨g, j, none⟩ = some X) : MarkAt w' v X := by
  obtain ⟨ao, n, cap, rfl, hn, hnil, hao⟩ := h
  refine ⟨ao, n, cap, rfl, hn, hnil, fun a ha => ?_⟩
  obtain ⟨h1, h2, h3, h4⟩ := hao a ha
  refine ⟨h1, h2, by omega, fun j hj => ?_⟩
  subst ha
  rcases hk a.block rfl h3 j with e | e
  · rw [e]; exact h4 j hj
  · exact e

theorem MarkAt.grown {w w' : World} {v u X : Value} {news : List Value} (h : MarkAt w v X) (hg : w.grownBy w' u.ownBlock) (hnews : ∀ y ∈ news, y = X)
    (hc : ∀ g, u.ownBlock = some g → ∀ j, w'.cell? ⟨g, j, none⟩ = w.cell? ⟨g, j, none⟩ ∨ ∃ y ∈ news, w'.cell? ⟨g, j, none⟩ = some y) : MarkAt w' v X := by
  refine h.keep hg.size fun g _ hgl j => ?_
  by_cases e : u.ownBlock = some g
  · rcases hc g e j with e1 | ⟨y, hy, e1⟩
    · exact .inl e1
    · right; rw [e1, hnews y hy]
  · exact .inl (World.cell?_of_block (a := ⟨g, j, none⟩) (hg.block g hgl (fun e' => e e'.symm)))

end Go.Proofs.YtbljamcdaoofbaaGreatDoor
