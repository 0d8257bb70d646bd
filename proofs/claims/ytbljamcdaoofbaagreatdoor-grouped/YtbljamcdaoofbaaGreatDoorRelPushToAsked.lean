/- Texts RelPush, Keys, Asked, joined. -/
import Derived.Test.YtbljamcdaoofbaaGreatDoorPDropAllToHeap
import Derived.Test.YtbljamcdaoofbaaGreatDoorPStreamsToPDrop
import Derived.Test.YtbljamcdaoofbaaGreatDoorLabelEqToRAsks
/- Push and Drop keep what ties the program's state to the reference's, and answer alike. -/
namespace Go.Proofs.YtbljamcdaoofbaaGreatDoor

theorem ris_nodup {l : List (List UInt8)} (h : Ris l) : l.Nodup := h.imp (fun h => less_ne h)

theorem set_eq_map {α : Type} (X : List α) (key : α → List UInt8) (hnd : (X.map key).Nodup) (k : Nat) (hk : k < X.length) (v : α) :
    X.set k v = X.map (fun a => if key a = key X[k] then v else a) := by
  apply List.ext_getElem?
  intro j
  rw [List.getElem?_set, List.getElem?_map]
  by_cases e : k = j
  · subst e
    simp [hk]
  · rw [if_neg e]
    cases hj : X[j]? with
    | none => rfl
    | some a =>
      simp only [Option.map_some]
      rw [if_neg]
      obtain ⟨hjl, rfl⟩ := List.getElem?_eq_some_iff.1 hj
      intro hkey
      have := (List.nodup_iff_pairwise_ne.1 hnd)
      rw [List.pairwise_iff_getElem] at this
      rcases Nat.lt_or_gt_of_ne e with g | g
      · exact this k j (by simpa using hk) (by simpa using hjl) g (by simpa using hkey.symm)
      · exact this j k (by simpa using hjl) (by simpa using hk) g (by simpa using hkey)

theorem RelA.rising {ns : List Node} {S : List Strm} {L : List Rw} (h : RelA (ns.map absN) S L) : Rising ns := by
  have := h.ris
  unfold Ris at this
  rw [List.map_map, List.pairwise_map] at this
  exact this

theorem RelA.len' {ns : List Node} {S : List Strm} {L : List Rw} (h : RelA (ns.map absN) S L) : ns.length = S.length := by rw [h.len]; simp

theorem RelA.node {ns : List Node} {S : List Strm} {L : List Rw} (h : RelA (ns.map absN) S L) {y : Strm} : y ∈ S ↔ ∃ n ∈ ns, (n.lab, n.latest) = y := by
  rw [h.mem]
  constructor
  · rintro ⟨a, ha, e⟩
    obtain ⟨n, hn, rfl⟩ := List.mem_map.1 ha
    exact ⟨n, hn, e⟩
  · rintro ⟨n, hn, e⟩
    exact ⟨absN n, List.mem_map_of_mem hn, e⟩

theorem RelA.lines' {ns : List Node} {S : List Strm} {L : List Rw} (h : RelA (ns.map absN) S L) {n : Node} (hn : n ∈ ns) : n.lines = (L.filter (fun r => r.1 == n.lab)).map (fun r => (r.2.1, r.2.2)) := h.lines _ (List.mem_map_of_mem hn)

theorem RelA.there {ns : List Node} {S : List Strm} {L : List Rw} (h : RelA (ns.map absN) S L) (l : List UInt8) : (∃ n ∈ ns, n.lab = l) ↔ at_ S l < S.length := by
  unfold at_
  rw [List.findIdx_lt_length]
  constructor
  · rintro ⟨n, hn, rfl⟩
    exact ⟨_, h.node.2 ⟨n, hn, rfl⟩, by simp⟩
  · rintro ⟨y, hy, e⟩
    obtain ⟨n, hn, rfl⟩ := h.node.1 hy
    exact ⟨n, hn, by simpa using e⟩

theorem RelA.at_node {ns : List Node} {S : List Strm} {L : List Rw} (h : RelA (ns.map absN) S L) {l : List UInt8} (hk : at_ S l < S.length) : S[at_ S l].1 = l ∧ ∃ n ∈ ns, n.lab = l ∧ n.latest = S[at_ S l].2 := by
  have e : S[at_ S l].1 = l := by
    have := List.findIdx_getElem (w := hk)
    change S[List.findIdx (fun y : Strm => y.1 == l) S].1 = l
    simpa using this
  obtain ⟨n, hn, e2⟩ := h.node.1 (List.getElem_mem hk)
  refine ⟨e, n, hn, ?_, ?_⟩
  · rw [← e, ← e2]
  · rw [← e2]

/-- lines by their streams: as many as all -/
theorem sum_filter (ks : List (List UInt8)) (hk : ks.Nodup) (L : List Rw) (hall : ∀ r ∈ L, r.1 ∈ ks) : (ks.map (fun k => (L.filter (fun r => r.1 == k)).length)).sum = L.length := by
  induction L with
  | nil =>
    clear hk hall
    induction ks with
    | nil => rfl
    | cons k ks ih => simpa using ih
  | cons r L ih =>
    have ih' := ih (fun x hx => hall x (List.mem_cons_of_mem _ hx))
    have hr := hall r (by simp)
    have key : ∀ ks : List (List UInt8), ks.Nodup → (ks.map (fun k => ((r :: L).filter (fun r => r.1 == k)).length)).sum = (ks.map (fun k => (L.filter (fun r => r.1 == k)).length)).sum + if r.1 ∈ ks then 1 else 0 := by
      intro ks hnd
      induction ks with
      | nil => simp
      | cons k ks ihk =>
        have hnd' := List.nodup_cons.1 hnd
        rw [List.map_cons, List.sum_cons, List.map_cons, List.sum_cons, ihk hnd'.2]
        by_cases e : r.1 = k
        · have h2 : r.1 ∉ ks := by rw [e]; exact hnd'.1
          have e1 : (r.1 == k) = true := by simpa using e
          rw [List.filter_cons, if_pos e1, if_neg h2, if_pos (by rw [e]; simp), List.length_cons]
          omega
        · have e1 : ¬ (r.1 == k) = true := by simpa using e
          rw [List.filter_cons, if_neg e1]
          by_cases h2 : r.1 ∈ ks
          · rw [if_pos h2, if_pos (List.mem_cons_of_mem _ h2)]; omega
          · rw [if_neg h2, if_neg (by rw [List.mem_cons]; rintro (g | g); exact e g; exact h2 g)]; omega
    rw [key ks hk, ih', if_pos hr]
    rfl

theorem RelA.total {ns : List Node} {S : List Strm} {L : List Rw} (h : RelA (ns.map absN) S L) : Go.Proofs.YtbljamcdaoofbaaGreatDoor.total ns = L.length := by
  have h1 := sum_filter ((ns.map absN).map (·.1)) (ris_nodup h.ris) L (fun r hr => by
    obtain ⟨a, ha, e⟩ := h.all r hr
    exact List.mem_map.2 ⟨a, ha, e⟩)
  rw [← h1, List.map_map, List.map_map]
  unfold Go.Proofs.YtbljamcdaoofbaaGreatDoor.total
  congr 1
  apply List.map_congr_left
  intro n hn
  have := congrArg List.length (h.lines' hn)
  simpa [absN] using this

/-- the place among rising labels: what is ahead is less, what is behind is not -/
theorem place_spec {ns : List Node} (h : Rising ns) (l : List UInt8) : (∀ j (hj : j < ns.length), j < place ns l → Op.bytesLess ns[j].lab l = true) ∧ (∀ j (hj : j < ns.length), place ns l ≤ j → Op.bytesLess ns[j].lab l = false) := by
  suffices ∃ r, r ≤ ns.length ∧ (∀ j (hj : j < ns.length), j < r → Op.bytesLess ns[j].lab l = true) ∧ (∀ j (hj : j < ns.length), r ≤ j → Op.bytesLess ns[j].lab l = false) by
    obtain ⟨r, hr, h1, h2⟩ := this
    rw [place_split l r hr h1 h2]
    exact ⟨h1, h2⟩
  induction ns with
  | nil => exact ⟨0, by simp, fun j hj => by simp at hj, fun j hj => by simp at hj⟩
  | cons n ns ih =>
    have h' := List.pairwise_cons.1 h
    cases hn : Op.bytesLess n.lab l
    · refine ⟨0, by simp, fun j _ hj => by omega, fun j hj _ => ?_⟩
      cases j with
      | zero => exact hn
      | succ j =>
        rw [Bool.eq_false_iff]
        intro hl
        have := less_trans (h'.1 _ (List.getElem_mem (by simpa using hj))) hl
        rw [hn] at this
        cases this
    · obtain ⟨r, hr, h1, h2⟩ := ih h'.2
      refine ⟨r + 1, by simpa using hr, fun j hj hjr => ?_, fun j hj hrj => ?_⟩
      · cases j with
        | zero => exact hn
        | succ j => exact h1 j (by simpa using hj) (by omega)
      · cases j with
        | zero => omega
        | succ j => exact h2 j (by simpa using hj) (by omega)

theorem RelA.code {ns : List Node} {S : List Strm} {L : List Rw} (h : RelA (ns.map absN) S L) (l : List UInt8) (t : Int) (x : List UInt8) : codeP ns l t x = (pushR S L l t x).1 := by
  by_cases h1 : labelsB l = false
  · rw [codeP, checkL, pushR, if_pos h1, if_pos h1, if_neg (by decide)]
  · by_cases h2 : timeB t = false
    · rw [codeP, checkL, pushR, if_neg h1, if_neg h1, if_pos h2, if_pos h2, if_neg (by decide)]
    · by_cases h3 : 40 < x.length
      · rw [codeP, checkL, pushR, if_neg h1, if_neg h1, if_neg h2, if_neg h2, if_pos h3, if_pos h3, if_neg (by decide)]
      · have hcl : checkL l t x = 0 := by rw [checkL, if_neg h1, if_neg h2, if_neg h3]
        rw [codeP, hcl, if_pos rfl, pushR, if_neg h1, if_neg h2, if_neg h3]
        unfold roomC
        rw [h.total, h.len']
        by_cases hk : at_ S l < S.length
        · obtain ⟨e1, n, hn, e2, e3⟩ := h.at_node hk
          have hex : ∃ n ∈ ns, n.lab = l := ⟨n, hn, e2⟩
          rw [dif_pos hk]
          by_cases h4 : t < S[at_ S l].2
          · rw [if_pos h4, if_pos ⟨n, hn, e2, by rw [e3]; exact h4⟩]
          · rw [if_neg h4, if_neg, if_neg (fun hh => hh.1 hex)]
            · split <;> rfl
            · rintro ⟨m, hm, e4, e5⟩
              have := only_one h.rising hm hn (e4.trans e2.symm)
              subst this
              rw [e3] at e5
              exact h4 e5
        · have hex : ¬ ∃ n ∈ ns, n.lab = l := fun hh => hk ((h.there l).1 hh)
          rw [dif_neg hk, if_neg (fun ⟨n, hn, e, _⟩ => hex ⟨n, hn, e⟩)]
          by_cases h5 : 6 ≤ S.length
          · rw [if_pos ⟨hex, h5⟩, if_pos h5]
          · rw [if_neg (fun hh => h5 hh.2), if_neg h5]
            split <;> rfl

theorem RelA.push {ns : List Node} {S : List Strm} {L : List Rw} (h : RelA (ns.map absN) S L) (l : List UInt8) (t : Int) (x : List UInt8) : RelA (pushedA ns l t x) (pushR S L l t x).2.1 (pushR S L l t x).2.2 := by
  by_cases hc : codeP ns l t x = 0
  · have hc' := hc
    rw [h.code] at hc'
    unfold pushR at hc' ⊢
    by_cases h1 : labelsB l = false
    · rw [if_pos h1] at hc'; exact absurd (show (1 : Int) = 0 from hc') (by decide)
    rw [if_neg h1] at hc' ⊢
    by_cases h2 : timeB t = false
    · rw [if_pos h2] at hc'; exact absurd (show (2 : Int) = 0 from hc') (by decide)
    rw [if_neg h2] at hc' ⊢
    by_cases h3 : 40 < x.length
    · rw [if_pos h3] at hc'; exact absurd (show (3 : Int) = 0 from hc') (by decide)
    rw [if_neg h3] at hc' ⊢
    unfold pushedA
    rw [if_pos hc]
    by_cases hk : at_ S l < S.length
    · rw [dif_pos hk] at hc' ⊢
      by_cases h4 : t < S[at_ S l].2
      · rw [if_pos h4] at hc'; simp at hc'
      rw [if_neg h4] at hc' ⊢
      by_cases h6 : 300 ≤ L.length
      · rw [if_pos h6] at hc'; simp at hc'
      rw [if_neg h6]
      obtain ⟨e1, n, hn, e2, e3⟩ := h.at_node hk
      have hex : ∃ n ∈ ns, n.lab = l := ⟨n, hn, e2⟩
      rw [if_pos hex]
      obtain ⟨hp, hpl⟩ := at_place h.rising hex
      have hnk : ns[place ns l] = n := only_one h.rising (List.getElem_mem hp) hn (hpl.trans e2.symm)
      have hX : place ns l < (ns.map absN).length := by simpa using hp
      have hXk : (ns.map absN)[place ns l] = absN n := by simp [hnk]
      have hXd : (ns.map absN).getD (place ns l) ([], 0, []) = absN n := by
        rw [List.getD_eq_getElem?_getD, List.getElem?_eq_getElem hX, hXk]
        rfl
      rw [hXd, set_eq_map (ns.map absN) (·.1) (ris_nodup h.ris) _ hX, hXk, e1, set_eq_map S (·.1) h.uniq _ hk, e1]
      have hnl : (absN n).1 = l := e2
      rw [hnl]
      have hlab : ∀ a : PA, (if a.1 = l then (l, t, (absN n).2.2 ++ [(t, x)]) else a).1 = a.1 := by
        intro a
        by_cases e : a.1 = l
        · rw [if_pos e]; exact e.symm
        · rw [if_neg e]
      have hlabS : ∀ y : Strm, (if y.1 = l then (l, t) else y).1 = y.1 := by
        intro a
        by_cases e : a.1 = l
        · rw [if_pos e]; exact e.symm
        · rw [if_neg e]
      have hfl : (L ++ [(l, t, x)]).filter (fun r => r.1 == l) = L.filter (fun r => r.1 == l) ++ [(l, t, x)] := by simp [List.filter_append]
      have hfo : ∀ k, k ≠ l → (L ++ [(l, t, x)]).filter (fun r => r.1 == k) = L.filter (fun r => r.1 == k) := by
        intro k hkl
        rw [List.filter_append]
        have : (l == k) = false := by simpa using fun e => hkl (Eq.symm e)
        simp [this]
      have hnlin := h.lines' hn
      have ha : ∀ a ∈ ns.map absN, a.1 = l → a = absN n := by
        intro a ham e
        obtain ⟨m, hm, rfl⟩ := List.mem_map.1 ham
        rw [only_one h.rising hm hn (show m.lab = n.lab from (show m.lab = l from e).trans e2.symm)]
      refine ⟨?_, ?_, by simpa using h.len, ?_, ?_, ?_, ?_, ?_, by simpa using h.six, by simp; omega⟩
      · rw [List.map_map]
        have : ((fun a : PA => a.1) ∘ fun a : PA => if a.1 = l then (l, t, (absN n).2.2 ++ [(t, x)]) else a) = fun a => a.1 := funext hlab
        rw [this]
        exact h.ris
      · rw [List.map_map]
        have : ((fun a : Strm => a.1) ∘ fun a : Strm => if a.1 = l then (l, t) else a) = fun a => a.1 := funext hlabS
        rw [this]
        exact h.uniq
      · intro y
        simp only [List.mem_map]
        constructor
        · rintro ⟨y0, hy0, rfl⟩
          obtain ⟨a, ham, rfl⟩ := (h.mem y0).1 hy0
          refine ⟨_, ⟨a, List.mem_map.1 ham, rfl⟩, ?_⟩
          by_cases e : a.1 = l
          · rw [if_pos e, if_pos e]
          · rw [if_neg e, if_neg e]
        · rintro ⟨_, ⟨a, ham, rfl⟩, rfl⟩
          refine ⟨(a.1, a.2.1), (h.mem _).2 ⟨a, List.mem_map.2 ham, rfl⟩, ?_⟩
          by_cases e : a.1 = l
          · rw [if_pos e, if_pos e]
          · rw [if_neg e, if_neg e]
      · intro a' ha'
        obtain ⟨a, ham, rfl⟩ := List.mem_map.1 ha'
        by_cases e : a.1 = l
        · rw [if_pos e]
          show (absN n).2.2 ++ [(t, x)] = _
          rw [hfl, List.map_append]
          show n.lines ++ [(t, x)] = _
          rw [hnlin, e2]
          rfl
        · rw [if_neg e, hfo _ e]
          exact h.lines a ham
      · intro r hr
        simp only [List.mem_append, List.mem_singleton] at hr
        rcases hr with hr | rfl
        · obtain ⟨a, ham, e⟩ := h.all r hr
          exact ⟨_, List.mem_map.2 ⟨a, ham, rfl⟩, (hlab a).trans e⟩
        · exact ⟨_, List.mem_map.2 ⟨absN n, List.mem_map_of_mem hn, rfl⟩, (hlab _).trans e2⟩
      · intro a' ha' y hy
        obtain ⟨a, ham, rfl⟩ := List.mem_map.1 ha'
        by_cases e : a.1 = l
        · rw [if_pos e] at hy ⊢
          simp only [List.mem_append, List.mem_singleton] at hy
          rcases hy with hy | rfl
          · have := h.late (absN n) (List.mem_map_of_mem hn) y hy
            have hl : (absN n).2.1 = S[at_ S l].2 := e3
            show y.1 ≤ t
            omega
          · exact Int.le_refl _
        · rw [if_neg e] at hy ⊢
          exact h.late a ham y hy
      · intro a' ha'
        obtain ⟨a, ham, rfl⟩ := List.mem_map.1 ha'
        by_cases e : a.1 = l
        · rw [if_pos e]
          show InOrder ((absN n).2.2 ++ [(t, x)])
          unfold InOrder
          rw [List.pairwise_append]
          refine ⟨h.order _ (List.mem_map_of_mem hn), by simp, ?_⟩
          intro y hy z hz
          simp only [List.mem_singleton] at hz
          subst hz
          have := h.late (absN n) (List.mem_map_of_mem hn) y hy
          have hl : (absN n).2.1 = S[at_ S l].2 := e3
          show y.1 ≤ t
          omega
        · rw [if_neg e]
          exact h.order a ham
    · rw [dif_neg hk] at hc' ⊢
      by_cases h5 : 6 ≤ S.length
      · rw [if_pos h5] at hc'; simp at hc'
      rw [if_neg h5] at hc' ⊢
      by_cases h6 : 300 ≤ L.length
      · rw [if_pos h6] at hc'; simp at hc'
      rw [if_neg h6]
      have hex : ¬ ∃ n ∈ ns, n.lab = l := fun hh => hk ((h.there l).1 hh)
      rw [if_neg hex]
      have hnl : ∀ a ∈ ns.map absN, a.1 ≠ l := by
        intro a ham e
        obtain ⟨n, hn, rfl⟩ := List.mem_map.1 ham
        exact hex ⟨n, hn, e⟩
      have hLl : ∀ r ∈ L, r.1 ≠ l := by
        intro r hr e
        obtain ⟨a, ham, e2⟩ := h.all r hr
        exact hnl a ham (e2.trans e)
      have hfl : (L ++ [(l, t, x)]).filter (fun r => r.1 == l) = [(l, t, x)] := by
        rw [List.filter_append]
        have : L.filter (fun r => r.1 == l) = [] := by
          rw [List.filter_eq_nil_iff]
          intro r hr
          simpa using hLl r hr
        simp [this]
      have hfo : ∀ k, k ≠ l → (L ++ [(l, t, x)]).filter (fun r => r.1 == k) = L.filter (fun r => r.1 == k) := by
        intro k hkl
        rw [List.filter_append]
        have : (l == k) = false := by simpa using fun e => hkl (Eq.symm e)
        simp [this]
      have hsp := place_spec h.rising l
      refine ⟨?_, ?_, ?_, ?_, ?_, ?_, ?_, ?_, by simp; omega, by simp; omega⟩
      · rw [List.map_append, List.map_append, List.map_take, List.map_drop]
        refine ris_ins h.ris ?_ ?_
        · intro y hy
          rw [← List.map_take, ← List.map_take, List.map_map] at hy
          obtain ⟨n, hn, rfl⟩ := List.mem_map.1 hy
          obtain ⟨j, hj, rfl⟩ := List.getElem_of_mem hn
          simp only [List.length_take] at hj
          rw [List.getElem_take]
          exact hsp.1 j (by omega) (by omega)
        · intro y hy
          rw [← List.map_drop, ← List.map_drop, List.map_map] at hy
          obtain ⟨n, hn, rfl⟩ := List.mem_map.1 hy
          have hmem := List.mem_of_mem_drop hn
          obtain ⟨j, hj, rfl⟩ := List.getElem_of_mem hn
          simp only [List.length_drop] at hj
          rw [List.getElem_drop] at hmem ⊢
          have hf := hsp.2 (place ns l + j) (by omega) (by omega)
          rcases less_total _ _ hf with e | e
          · exact absurd ⟨_, hmem, e⟩ hex
          · exact e
      · rw [List.map_append]
        show (S.map (·.1) ++ [l]).Nodup
        rw [List.nodup_append]
        refine ⟨h.uniq, by simp, ?_⟩
        intro a ha b hb
        simp only [List.mem_singleton] at hb
        subst hb
        obtain ⟨y, hy, rfl⟩ := List.mem_map.1 ha
        obtain ⟨c, hc1, rfl⟩ := (h.mem y).1 hy
        exact hnl c hc1
      · have := h.len
        have hpl := place_le ns l
        simp only [List.length_append, List.length_take, List.length_drop, List.length_singleton, List.length_map] at this ⊢
        omega
      · intro y
        constructor
        · intro hy
          rcases List.mem_append.1 hy with hy | hy
          · obtain ⟨a, ham, e⟩ := (h.mem y).1 hy
            exact ⟨a, (mem_ins (ns.map absN) (l, t, [(t, x)]) a (place ns l)).2 (.inr ham), e⟩
          · simp only [List.mem_singleton] at hy
            subst hy
            exact ⟨(l, t, [(t, x)]), (mem_ins (ns.map absN) (l, t, [(t, x)]) (l, t, [(t, x)]) (place ns l)).2 (.inl rfl), rfl⟩
        · rintro ⟨a, ha, rfl⟩
          rcases (mem_ins (ns.map absN) (l, t, [(t, x)]) a (place ns l)).1 ha with rfl | ha
          · exact List.mem_append.2 (.inr (by simp))
          · exact List.mem_append.2 (.inl ((h.mem _).2 ⟨a, ha, rfl⟩))
      · intro a ha
        rcases (mem_ins (ns.map absN) (l, t, [(t, x)]) a (place ns l)).1 ha with rfl | ha
        · rw [hfl]; rfl
        · rw [hfo _ (hnl a ha)]; exact h.lines a ha
      · intro r hr
        simp only [List.mem_append, List.mem_singleton] at hr
        rcases hr with hr | rfl
        · obtain ⟨a, ham, e⟩ := h.all r hr
          exact ⟨a, (mem_ins _ _ _ _).2 (.inr ham), e⟩
        · exact ⟨(l, t, [(t, x)]), (mem_ins _ _ _ _).2 (.inl rfl), rfl⟩
      · intro a ha y hy
        rcases (mem_ins (ns.map absN) (l, t, [(t, x)]) a (place ns l)).1 ha with rfl | ha
        · simp only [List.mem_singleton] at hy
          subst hy
          exact Int.le_refl _
        · exact h.late a ha y hy
      · intro a ha
        rcases (mem_ins (ns.map absN) (l, t, [(t, x)]) a (place ns l)).1 ha with rfl | ha
        · exact List.pairwise_singleton _ _
        · exact h.order a ha
  · have hc' := hc
    rw [h.code] at hc'
    unfold pushedA
    rw [if_neg hc]
    unfold pushR at hc' ⊢
    split at hc' <;> rename_i h1
    · rw [if_pos h1]; exact h
    rw [if_neg h1]
    split at hc' <;> rename_i h2
    · rw [if_pos h2]; exact h
    rw [if_neg h2]
    split at hc' <;> rename_i h3
    · rw [if_pos h3]; exact h
    rw [if_neg h3]
    split at hc' <;> rename_i hk
    · rw [dif_pos hk]
      split at hc' <;> rename_i h4
      · rw [if_pos h4]; exact h
      rw [if_neg h4]
      split at hc' <;> rename_i h6
      · rw [if_pos h6]; exact h
      · exact absurd rfl hc'
    · rw [dif_neg hk]
      split at hc' <;> rename_i h5
      · rw [if_pos h5]; exact h
      rw [if_neg h5]
      split at hc' <;> rename_i h6
      · rw [if_pos h6]; exact h
      · exact absurd rfl hc'


theorem filter_comm (L : List Rw) (k : List UInt8) (b : Int) : ((L.filter (fun x => decide (b ≤ x.2.1))).filter (fun r => r.1 == k)).map (fun r => (r.2.1, r.2.2)) = ((L.filter (fun r => r.1 == k)).map (fun r => (r.2.1, r.2.2))).filter (fun x => decide (b ≤ x.1)) := by
  rw [List.filter_map, List.filter_filter, List.filter_filter]
  congr 2
  funext r
  simp [Bool.and_comm]

theorem gone_kept (ls : List Ln) (b : Int) : goneN ls b + (ls.filter (fun x => decide (b ≤ x.1))).length = ls.length := by
  unfold goneN
  induction ls with
  | nil => rfl
  | cons x ls ih =>
    by_cases e : x.1 < b
    · have e2 : ¬ b ≤ x.1 := by omega
      simp [e, e2]; omega
    · have e2 : b ≤ x.1 := by omega
      simp [e, e2]; omega

theorem RelA.drop {ns : List Node} {S : List Strm} {L : List Rw} (h : RelA (ns.map absN) S L) (b : Int) : dropI ns b = (dropR L b).1 ∧ dropE b = (dropR L b).2.1 ∧ RelA (dropA ns b) S (dropR L b).2.2 := by
  unfold dropI dropE dropA dropR
  by_cases hb : timeB b = true
  · have hb' : ¬ timeB b = false := by simp [hb]
    rw [if_pos hb, if_pos hb, if_pos hb, if_neg hb']
    have hR : RelA ((ns.map absN).map (cutN b)) S (L.filter (fun x => decide (b ≤ x.2.1))) := by
      refine ⟨?_, h.uniq, by simpa using h.len, ?_, ?_, ?_, ?_, ?_, h.six, Nat.le_trans (List.length_filter_le _ _) h.many⟩
      · rw [List.map_map]
        exact h.ris
      · intro y
        rw [h.mem]
        constructor
        · rintro ⟨a, ha, e⟩; exact ⟨_, List.mem_map_of_mem ha, e⟩
        · rintro ⟨a', ha', e⟩
          obtain ⟨a, ha, rfl⟩ := List.mem_map.1 ha'
          exact ⟨a, ha, e⟩
      · intro a' ha'
        obtain ⟨a, ha, rfl⟩ := List.mem_map.1 ha'
        show a.2.2.filter (fun x => decide (b ≤ x.1)) = _
        show _ = ((L.filter (fun x => decide (b ≤ x.2.1))).filter (fun r => r.1 == a.1)).map (fun r => (r.2.1, r.2.2))
        rw [filter_comm, ← h.lines a ha]
      · intro r hr
        obtain ⟨a, ha, e⟩ := h.all r (List.mem_filter.1 hr).1
        exact ⟨_, List.mem_map_of_mem ha, e⟩
      · intro a' ha' x hx
        obtain ⟨a, ha, rfl⟩ := List.mem_map.1 ha'
        exact h.late a ha x (List.mem_filter.1 hx).1
      · intro a' ha'
        obtain ⟨a, ha, rfl⟩ := List.mem_map.1 ha'
        exact (h.order a ha).filter _
    refine ⟨?_, rfl, hR⟩
    have h1 := h.total
    have h2 := sum_filter (((ns.map absN).map (cutN b)).map (·.1)) (ris_nodup hR.ris) (L.filter (fun x => decide (b ≤ x.2.1))) (fun r hr => by
      obtain ⟨a, ha, e⟩ := hR.all r hr
      exact List.mem_map.2 ⟨a, ha, e⟩)
    have h3 : ∀ ms : List Node, goneAll ms b + (ms.map (fun n => (n.lines.filter (fun x => decide (b ≤ x.1))).length)).sum = Go.Proofs.YtbljamcdaoofbaaGreatDoor.total ms := by
      intro ms
      induction ms with
      | nil => rfl
      | cons m ms ih =>
        have := gone_kept m.lines b
        simp only [goneAll, Go.Proofs.YtbljamcdaoofbaaGreatDoor.total, List.map_cons, List.sum_cons] at ih ⊢
        omega
    have h4 : (ns.map (fun n => (n.lines.filter (fun x => decide (b ≤ x.1))).length)).sum = (L.filter (fun x => decide (b ≤ x.2.1))).length := by
      rw [← h2, List.map_map, List.map_map, List.map_map]
      congr 1
      apply List.map_congr_left
      intro n hn
      have := congrArg List.length (hR.lines _ (List.mem_map_of_mem (List.mem_map_of_mem hn)))
      simpa [absN, cutN] using this
    have h5 := h3 ns
    show (goneAll ns b : Int) = (L.length : Int) - _
    omega
  · have hb' : timeB b = false := by simpa using hb
    rw [if_neg hb, if_neg hb, if_neg hb, if_pos hb']
    exact ⟨rfl, rfl, h⟩

theorem RelA.empty : RelA [] [] [] :=
  ⟨List.Pairwise.nil, by simp, rfl, fun y => by simp, fun a ha => by simp at ha, fun r hr => by simp at hr, fun a ha => by simp at ha, fun a ha => by simp at ha, by simp, by simp⟩

end Go.Proofs.YtbljamcdaoofbaaGreatDoor

/- The order of rows; merging by it. -/
namespace Go.Proofs.YtbljamcdaoofbaaGreatDoor

/-- the order of rows -/
def keyLess (a b : Int × List UInt8) : Bool := if a.1 = b.1 then Op.bytesLess a.2 b.2 else decide (a.1 < b.1)
def keyOf (bw : Bool) (s : Src) : Int × List UInt8 := ((nextLn bw s.lines).1, s.lab)
def kl (bw : Bool) (a b : Int × List UInt8) : Bool := if bw = true then keyLess b a else keyLess a b
def lessS (bw : Bool) (a b : Src) : Bool := kl bw (keyOf bw a) (keyOf bw b)

theorem keyLess_irrefl (a : Int × List UInt8) : keyLess a a = false := by simp [keyLess, less_irrefl]
theorem keyLess_asymm {a b : Int × List UInt8} (h : keyLess a b = true) : keyLess b a = false := by
  unfold keyLess at h ⊢
  by_cases e : a.1 = b.1
  · rw [if_pos e] at h
    rw [if_pos e.symm]
    exact less_asymm h
  · rw [if_neg e] at h
    rw [if_neg (fun h => e h.symm)]
    simp at h ⊢
    omega
theorem keyLess_total {a b : Int × List UInt8} (h : keyLess a b = false) : a = b ∨ keyLess b a = true := by
  unfold keyLess at h ⊢
  obtain ⟨a1, a2⟩ := a
  obtain ⟨b1, b2⟩ := b
  simp only at h ⊢
  by_cases e : a1 = b1
  · subst e
    rw [if_pos rfl] at h ⊢
    rcases less_total _ _ h with h | h
    · left; rw [h]
    · right; exact h
  · rw [if_neg e] at h
    rw [if_neg (fun h => e h.symm)]
    right
    simp at h ⊢
    omega
theorem keyLess_trans {a b c : Int × List UInt8} (h1 : keyLess a b = true) (h2 : keyLess b c = true) : keyLess a c = true := by
  unfold keyLess at *
  obtain ⟨a1, a2⟩ := a
  obtain ⟨b1, b2⟩ := b
  obtain ⟨c1, c2⟩ := c
  simp only at *
  by_cases e : a1 = b1
  · subst e
    rw [if_pos rfl] at h1
    by_cases e2 : a1 = c1
    · subst e2
      rw [if_pos rfl] at h2 ⊢
      exact less_trans h1 h2
    · rw [if_neg e2] at h2 ⊢
      exact h2
  · rw [if_neg e] at h1
    by_cases e2 : b1 = c1
    · subst e2
      rw [if_neg e]
      exact h1
    · rw [if_neg e2] at h2
      simp at h1 h2
      rw [if_neg (by omega)]
      simp
      omega
theorem keyLess_ge {a b c : Int × List UInt8} (h1 : keyLess a b = false) (h2 : keyLess b c = false) : keyLess a c = false := by
  rcases keyLess_total h1 with rfl | g1
  · exact h2
  · rcases keyLess_total h2 with rfl | g2
    · exact h1
    · exact keyLess_asymm (keyLess_trans g2 g1)

theorem kl_irrefl (bw : Bool) (a : Int × List UInt8) : kl bw a a = false := by cases bw <;> simp [kl, keyLess_irrefl]
theorem kl_asymm {bw : Bool} {a b : Int × List UInt8} (h : kl bw a b = true) : kl bw b a = false := by
  cases bw
  · exact keyLess_asymm (a := a) (b := b) h
  · exact keyLess_asymm (a := b) (b := a) h
theorem kl_ge {bw : Bool} {a b c : Int × List UInt8} (h1 : kl bw a b = false) (h2 : kl bw b c = false) : kl bw a c = false := by
  cases bw
  · exact keyLess_ge (a := a) (b := b) (c := c) h1 h2
  · exact keyLess_ge (a := c) (b := b) (c := a) h2 h1
theorem kl_eq {bw : Bool} {a b : Int × List UInt8} (h1 : kl bw a b = false) (h2 : kl bw b a = false) : a = b := by
  cases bw
  · rcases keyLess_total (a := a) (b := b) h1 with h | h
    · exact h
    · have h2 : keyLess b a = false := h2
      rw [h2] at h; cases h
  · rcases keyLess_total (a := a) (b := b) h2 with h | h
    · exact h
    · have h1 : keyLess b a = false := h1
      rw [h1] at h; cases h

theorem lessS_ord (bw : Bool) : Ord (lessS bw) :=
  ⟨fun _ => kl_irrefl _ _, fun _ _ h => kl_asymm h, fun _ _ _ h1 h2 => kl_ge h1 h2⟩

/-- the lines of a source, in the order in which they are told -/
def ordL (bw : Bool) (L : List Ln) : List Ln := if bw = true then L.reverse else L
theorem ordL_cons {bw : Bool} {L : List Ln} (h : L ≠ []) : ordL bw L = nextLn bw L :: ordL bw (restLn bw L) := by
  cases bw
  · cases L with
    | nil => exact absurd rfl h
    | cons x L => rfl
  · show L.reverse = L.getLastD (0, []) :: L.dropLast.reverse
    conv => lhs; rw [← List.dropLast_concat_getLast h]
    rw [List.reverse_append]
    cases L with
    | nil => exact absurd rfl h
    | cons x L => rfl
def rowR (lab : List UInt8) (x : Ln) : Rw := (lab, x.1, x.2)
def rowsO (bw : Bool) (s : Src) : List Rw := (ordL bw s.lines).map (rowR s.lab)
def kR (r : Rw) : Int × List UInt8 := (r.2.1, r.1)

/-- T is what is still to be told of the sources ss. -/
structure MInv (bw : Bool) (T : List Rw) (ss : List Src) : Prop where
  sorted : T.Pairwise (fun x y => kl bw (kR y) (kR x) = false)
  part : ∀ s ∈ ss, T.filter (fun r => r.1 == s.lab) = rowsO bw s
  all : ∀ r ∈ T, ∃ s ∈ ss, s.lab = r.1
  nodup : (ss.map (·.lab)).Nodup

theorem MInv.perm {bw : Bool} {T : List Rw} {ss ss' : List Src} (h : MInv bw T ss) (hp : ss'.Perm ss) : MInv bw T ss' :=
  ⟨h.sorted, fun s hs => h.part s (hp.mem_iff.1 hs), fun r hr => by obtain ⟨s, hs, e⟩ := h.all r hr; exact ⟨s, hp.mem_iff.2 hs, e⟩, (hp.map _).nodup_iff.2 h.nodup⟩

theorem MInv.empty {bw : Bool} {T : List Rw} (h : MInv bw T []) : T = [] := by
  cases T with
  | nil => rfl
  | cons r T => obtain ⟨s, hs, -⟩ := h.all r (by simp); cases hs

/-- The least source's next row is the first of all. -/
theorem MInv.step {bw : Bool} {T : List Rw} {s : Src} {os : List Src} (h : MInv bw T (s :: os)) (hf : ∀ x ∈ s :: os, x.lines ≠ []) (hmin : ∀ x ∈ s :: os, lessS bw x s = false) (v : Value) :
    ∃ T', T = rowR s.lab (nextLn bw s.lines) :: T' ∧ MInv bw T' (⟨s.lab, restLn bw s.lines, v⟩ :: os) ∧ (restLn bw s.lines = [] → MInv bw T' os) := by
  have hp := h.part s (by simp)
  have hro : rowsO bw s = rowR s.lab (nextLn bw s.lines) :: (ordL bw (restLn bw s.lines)).map (rowR s.lab) := by
    rw [rowsO, ordL_cons (hf s (by simp))]
    rfl
  rw [hro] at hp
  have hmem : rowR s.lab (nextLn bw s.lines) ∈ T := by
    have : rowR s.lab (nextLn bw s.lines) ∈ T.filter (fun r => r.1 == s.lab) := by rw [hp]; simp
    exact (List.mem_filter.1 this).1
  cases T with
  | nil => cases hmem
  | cons r T =>
    obtain ⟨s0, hs0, e0⟩ := h.all r (by simp)
    have hp0 := h.part s0 hs0
    rw [rowsO, ordL_cons (hf s0 hs0), List.filter_cons, if_pos (by simp [e0])] at hp0
    simp only [List.map_cons, List.cons.injEq] at hp0
    have hr : r = rowR s0.lab (nextLn bw s0.lines) := hp0.1
    have hk0 : kR r = keyOf bw s0 := by rw [hr]; rfl
    have h1 : kl bw (keyOf bw s0) (keyOf bw s) = false := hmin s0 hs0
    have h2 : kl bw (keyOf bw s) (keyOf bw s0) = false := by
      rw [← hk0]
      rcases List.mem_cons.1 hmem with e | e
      · have : keyOf bw s = kR r := by rw [← e]; rfl
        rw [this]; exact kl_irrefl _ _
      · have := (List.pairwise_cons.1 h.sorted).1 _ e
        exact this
    have hkey := kl_eq h1 h2
    have hlab : s0.lab = s.lab := congrArg Prod.snd hkey
    have hrl : r.1 = s.lab := by rw [← e0, hlab]
    rw [List.filter_cons, if_pos (by simp [hrl])] at hp
    simp only [List.cons.injEq] at hp
    refine ⟨T, by rw [hp.1], ?_, ?_⟩
    · refine ⟨(List.pairwise_cons.1 h.sorted).2, ?_, ?_, h.nodup⟩
      · intro x hx
        rcases List.mem_cons.1 hx with rfl | hx
        · exact hp.2
        · have hx0 := h.part x (by simp [hx])
          rw [List.filter_cons, if_neg] at hx0
          · exact hx0
          · rw [hrl]
            have hnd := h.nodup
            simp only [List.map_cons, List.nodup_cons] at hnd
            intro hh
            exact hnd.1 (by rw [beq_iff_eq.1 hh]; exact List.mem_map_of_mem hx)
      · intro y hy
        obtain ⟨z, hz, e⟩ := h.all y (by simp [hy])
        rcases List.mem_cons.1 hz with rfl | hz
        · exact ⟨_, List.mem_cons_self, e⟩
        · exact ⟨z, by simp [hz], e⟩
    · intro hnil
      have hnd := h.nodup
      simp only [List.map_cons, List.nodup_cons] at hnd
      refine ⟨(List.pairwise_cons.1 h.sorted).2, ?_, ?_, hnd.2⟩
      · intro x hx
        have hx0 := h.part x (by simp [hx])
        rw [List.filter_cons, if_neg] at hx0
        · exact hx0
        · rw [hrl]
          intro hh
          exact hnd.1 (by rw [beq_iff_eq.1 hh]; exact List.mem_map_of_mem hx)
      · intro y hy
        obtain ⟨z, hz, e⟩ := h.all y (by simp [hy])
        rcases List.mem_cons.1 hz with rfl | hz
        · have : y ∈ T.filter (fun r => r.1 == z.lab) := List.mem_filter.2 ⟨hy, by simp [e]⟩
          rw [hp.2, hnil] at this
          cases bw <;> simp [ordL] at this
        · exact ⟨z, hz, e⟩

end Go.Proofs.YtbljamcdaoofbaaGreatDoor

/- The rows that are asked for, as a list: sorted, and by streams as they were pushed. -/
namespace Go.Proofs.YtbljamcdaoofbaaGreatDoor
open Go.RowKit

/-- does a row stand behind another one? -/
def gtR (x r : Rw) : Bool := keyLess (kR r) (kR x)
def insPos (out : List Rw) (r : Rw) : Nat → Nat
  | 0 => 0
  | k + 1 => if gtR (out.getD k ([], 0, [])) r = true then insPos out r k else k + 1
def insR (out : List Rw) (r : Rw) : List Rw := out.take (insPos out r out.length) ++ [r] ++ out.drop (insPos out r out.length)
def wantB (M : List Mch) (Fs : List Flt) (fr tt : Int) (r : Rw) : Bool := asksB M Fs r.1 r.2.2 && !decide (r.2.1 < fr) && !decide (tt ≤ r.2.1)
def askedL (M : List Mch) (Fs : List Flt) (fr tt : Int) (L : List Rw) : List Rw := L.foldl (fun out r => if wantB M Fs fr tt r = true then insR out r else out) []

/-- is a line asked for? -/
def lineB (q : Qry) (fr tt : Int) (x : Ln) : Bool := decide (fr ≤ x.1) && decide (x.1 < tt) && q.fs.all (okF x.2)

theorem insPos_le (out : List Rw) (r : Rw) (k : Nat) : insPos out r k ≤ k := by
  induction k with
  | zero => exact Nat.le_refl _
  | succ k ih => unfold insPos; split <;> omega
theorem insR_len (out : List Rw) (r : Rw) : (insR out r).length = out.length + 1 := by
  have := insPos_le out r out.length
  simp [insR]
  omega
theorem askedL_snoc (M : List Mch) (Fs : List Flt) (fr tt : Int) (L : List Rw) (k : Nat) (h : k < L.length) : askedL M Fs fr tt (L.take (k + 1)) = if wantB M Fs fr tt L[k] = true then insR (askedL M Fs fr tt (L.take k)) L[k] else askedL M Fs fr tt (L.take k) := by
  rw [List.take_succ_eq_append_getElem h, askedL, List.foldl_append]
  rfl
theorem askedL_len (M : List Mch) (Fs : List Flt) (fr tt : Int) (L : List Rw) : (askedL M Fs fr tt L).length ≤ L.length := by
  have h : ∀ (L : List Rw) (o : List Rw), (L.foldl (fun out r => if wantB M Fs fr tt r = true then insR out r else out) o).length ≤ o.length + L.length := by
    intro L
    induction L with
    | nil => intro o; simp
    | cons x L ih =>
      intro o
      rw [List.foldl_cons]
      refine Nat.le_trans (ih _) ?_
      split
      · rw [insR_len]; simp; omega
      · simp
  have := h L []
  simpa [askedL] using this

theorem flat3_len (L : List Rw) : (L.flatMap cellsR).length = L.length * 3 := by
  induction L with
  | nil => rfl
  | cons x L ih => simp [cellsR, ih]; omega
theorem flat3_take (L : List Rw) (a : Nat) : (L.take a).flatMap cellsR = (L.flatMap cellsR).take (a * 3) := by
  induction L generalizing a with
  | nil => simp
  | cons x L ih =>
    cases a with
    | zero => simp
    | succ a =>
      rw [List.take_succ_cons, List.flatMap_cons, List.flatMap_cons, ih, Nat.add_mul, Nat.one_mul]
      simp [cellsR, List.take_succ_cons]
theorem flat3_drop (L : List Rw) (a : Nat) : (L.drop a).flatMap cellsR = (L.flatMap cellsR).drop (a * 3) := by
  induction L generalizing a with
  | nil => simp
  | cons x L ih =>
    cases a with
    | zero => simp
    | succ a =>
      rw [List.drop_succ_cons, List.flatMap_cons, ih, Nat.add_mul, Nat.one_mul]
      simp [cellsR, List.drop_succ_cons]
theorem flat3_one (L : List Rw) : ∀ u ∈ L.flatMap cellsR, u.oneCell' = true := by
  intro u hu
  obtain ⟨x, -, h⟩ := List.mem_flatMap.1 hu
  simp [cellsR] at h
  rcases h with rfl | rfl | rfl <;> rfl

theorem row_take {w : World} {g : Nat} {L : List Rw} (h : ∀ j, j < L.length * 3 → w.cell? ⟨g, j, none⟩ = (L.flatMap cellsR)[j]?) (a : Nat) :
    ∀ ad, some (⟨g, 0, none⟩ : Addr) = some ad → ∀ j u, ((L.take a).flatMap cellsR)[j]? = some u → w.cell? (ad.add j) = some u := by
  rintro ad ⟨⟩ j u hj
  rw [addr_add, Nat.zero_add]
  rw [flat3_take, List.getElem?_take] at hj
  split at hj
  · have hl := (List.getElem?_eq_some_iff.1 hj).1
    rw [flat3_len] at hl
    rw [h j hl]; exact hj
  · cases hj
theorem row_drop {w : World} {g : Nat} {L : List Rw} (h : ∀ j, j < L.length * 3 → w.cell? ⟨g, j, none⟩ = (L.flatMap cellsR)[j]?) (a : Nat) :
    ∀ ad, some (⟨g, a * 3, none⟩ : Addr) = some ad → ∀ j u, ((L.drop a).flatMap cellsR)[j]? = some u → w.cell? (ad.add j) = some u := by
  rintro ad ⟨⟩ j u hj
  rw [addr_add]
  rw [flat3_drop, List.getElem?_drop] at hj
  have hl := (List.getElem?_eq_some_iff.1 hj).1
  rw [flat3_len] at hl
  rw [h _ hl]; exact hj


def SortR (T : List Rw) : Prop := T.Pairwise (fun x y => keyLess (kR y) (kR x) = false)

theorem insPos_spec (out : List Rw) (r : Rw) : ∀ k, (∀ j, insPos out r k ≤ j → j < k → gtR (out.getD j ([], 0, [])) r = true) ∧ (insPos out r k = 0 ∨ gtR (out.getD (insPos out r k - 1) ([], 0, [])) r = false)
  | 0 => ⟨fun j _ h => by omega, .inl rfl⟩
  | k + 1 => by
    have ih := insPos_spec out r k
    unfold insPos
    by_cases h : gtR (out.getD k ([], 0, [])) r = true
    · rw [if_pos h]
      refine ⟨fun j h1 h2 => ?_, ih.2⟩
      by_cases e : j = k
      · subst e; exact h
      · exact ih.1 j h1 (by omega)
    · rw [if_neg h]
      refine ⟨fun j h1 h2 => by omega, .inr ?_⟩
      simpa using h

theorem mem_take_get {out : List Rw} {x : Rw} {p : Nat} (h : x ∈ out.take p) : ∃ j, j < p ∧ j < out.length ∧ x = out.getD j ([], 0, []) := by
  obtain ⟨j, hj, rfl⟩ := List.getElem_of_mem h
  simp only [List.length_take] at hj
  have hj2 : j < out.length := by omega
  refine ⟨j, by omega, hj2, ?_⟩
  rw [List.getElem_take]
  simp [List.getD_eq_getElem?_getD, hj2]
theorem mem_drop_get {out : List Rw} {x : Rw} {p : Nat} (h : x ∈ out.drop p) : ∃ j, p ≤ j ∧ j < out.length ∧ x = out.getD j ([], 0, []) := by
  obtain ⟨j, hj, rfl⟩ := List.getElem_of_mem h
  simp only [List.length_drop] at hj
  have hj2 : p + j < out.length := by omega
  refine ⟨p + j, by omega, hj2, ?_⟩
  rw [List.getElem_drop]
  simp [List.getD_eq_getElem?_getD, hj2]

theorem insR_behind (out : List Rw) (r : Rw) : ∀ x ∈ out.drop (insPos out r out.length), gtR x r = true := by
  intro x hx
  obtain ⟨j, h1, h2, rfl⟩ := mem_drop_get hx
  exact (insPos_spec out r out.length).1 j h1 h2
theorem insR_ahead {out : List Rw} (hs : SortR out) (r : Rw) : ∀ x ∈ out.take (insPos out r out.length), gtR x r = false := by
  intro x hx
  obtain ⟨j, h1, h2, rfl⟩ := mem_take_get hx
  rcases (insPos_spec out r out.length).2 with h | h
  · omega
  · have hle := insPos_le out r out.length
    generalize insPos out r out.length = p at *
    by_cases e : j = p - 1
    · subst e; exact h
    · have hp : p - 1 < out.length := by omega
      have := List.pairwise_iff_getElem.1 hs j (p - 1) h2 hp (by omega)
      have e1 : out.getD j ([], 0, []) = out[j] := by simp [List.getD_eq_getElem?_getD, h2]
      have e2 : out.getD (p - 1) ([], 0, []) = out[p - 1] := by simp [List.getD_eq_getElem?_getD, hp]
      rw [e1]
      rw [e2] at h
      exact keyLess_ge h this

theorem insR_sorted {out : List Rw} (hs : SortR out) (r : Rw) : SortR (insR out r) := by
  unfold SortR insR
  have h1 := insR_ahead hs r
  have h2 := insR_behind out r
  have hs' := hs
  unfold SortR at hs'
  rw [← List.take_append_drop (insPos out r out.length) out, List.pairwise_append] at hs'
  rw [List.append_assoc, List.pairwise_append]
  refine ⟨hs'.1, ?_, ?_⟩
  · rw [List.singleton_append, List.pairwise_cons]
    exact ⟨fun y hy => keyLess_asymm (h2 y hy), hs'.2.1⟩
  · intro x hx y hy
    rw [List.singleton_append, List.mem_cons] at hy
    rcases hy with rfl | hy
    · exact h1 x hx
    · exact hs'.2.2 x hx y hy

theorem insR_mem (out : List Rw) (r x : Rw) : x ∈ insR out r ↔ x = r ∨ x ∈ out := mem_ins out r x _

theorem insR_filter {out : List Rw} (r : Rw) (ho : ∀ x ∈ out, x.1 = r.1 → x.2.1 ≤ r.2.1) (lab : List UInt8) : (insR out r).filter (fun x => x.1 == lab) = out.filter (fun x => x.1 == lab) ++ [r].filter (fun x => x.1 == lab) := by
  unfold insR
  have h2 := insR_behind out r
  conv => rhs; rw [← List.take_append_drop (insPos out r out.length) out]
  rw [List.filter_append, List.filter_append, List.filter_append]
  by_cases e : r.1 = lab
  · have hd : (out.drop (insPos out r out.length)).filter (fun x => x.1 == lab) = [] := by
      rw [List.filter_eq_nil_iff]
      intro x hx hl
      have hxl : x.1 = r.1 := by rw [e]; exact beq_iff_eq.1 hl
      have h3 := h2 x hx
      have h4 := ho x (List.mem_of_mem_drop hx) hxl
      have h3 : keyLess (r.2.1, r.1) (x.2.1, x.1) = true := h3
      unfold keyLess at h3
      simp only at h3
      by_cases e2 : r.2.1 = x.2.1
      · rw [if_pos e2, hxl, less_irrefl] at h3; cases h3
      · rw [if_neg e2] at h3
        simp at h3
        omega
    rw [hd]
    simp
  · have : [r].filter (fun x => x.1 == lab) = [] := by
      rw [List.filter_eq_nil_iff]
      intro x hx
      rw [List.mem_singleton.1 hx]
      simpa using e
    rw [this]
    simp

/-- the lines of each stream rise by their times -/
def RiseL (L : List Rw) : Prop := L.Pairwise (fun x y => x.1 = y.1 → x.2.1 ≤ y.2.1)

theorem askedL_all (M : List Mch) (Fs : List Flt) (fr tt : Int) (L : List Rw) : ∀ (pre o : List Rw), SortR o → (∀ x, x ∈ o → x ∈ pre) → RiseL (pre ++ L) →
    SortR (L.foldl (fun out r => if wantB M Fs fr tt r = true then insR out r else out) o) ∧
    (∀ lab, (L.foldl (fun out r => if wantB M Fs fr tt r = true then insR out r else out) o).filter (fun x => x.1 == lab) = o.filter (fun x => x.1 == lab) ++ (L.filter (fun r => wantB M Fs fr tt r)).filter (fun x => x.1 == lab)) ∧
    (∀ x, x ∈ L.foldl (fun out r => if wantB M Fs fr tt r = true then insR out r else out) o ↔ x ∈ o ∨ (x ∈ L ∧ wantB M Fs fr tt x = true)) := by
  induction L with
  | nil => intro pre o h1 h2 h3; exact ⟨h1, fun lab => by simp, fun x => by simp⟩
  | cons r L ih =>
    intro pre o h1 h2 h3
    rw [List.foldl_cons]
    have h3' : RiseL ((pre ++ [r]) ++ L) := by simpa using h3
    have hor : ∀ x ∈ o, x.1 = r.1 → x.2.1 ≤ r.2.1 := by
      intro x hx e
      exact (List.pairwise_append.1 h3).2.2 x (h2 x hx) r (by simp) e
    by_cases hw : wantB M Fs fr tt r = true
    · rw [if_pos hw]
      obtain ⟨i1, i2, i3⟩ := ih (pre ++ [r]) (insR o r) (insR_sorted h1 r) (fun x hx => by rcases (insR_mem o r x).1 hx with rfl | hx; simp; simp [h2 x hx]) h3'
      refine ⟨i1, fun lab => ?_, fun x => ?_⟩
      · rw [i2, insR_filter r hor, List.append_assoc]
        congr 1
        have e : (r :: L).filter (fun r => wantB M Fs fr tt r) = r :: L.filter (fun r => wantB M Fs fr tt r) := List.filter_cons_of_pos hw
        rw [e, ← List.singleton_append (l := L.filter _), List.filter_append]
      · rw [i3, insR_mem]
        constructor
        · rintro ((rfl | h) | ⟨h, h'⟩)
          · exact .inr ⟨by simp, hw⟩
          · exact .inl h
          · exact .inr ⟨by simp [h], h'⟩
        · rintro (h | ⟨h, h'⟩)
          · exact .inl (.inr h)
          · rcases List.mem_cons.1 h with rfl | h
            · exact .inl (.inl rfl)
            · exact .inr ⟨h, h'⟩
    · rw [if_neg hw]
      obtain ⟨i1, i2, i3⟩ := ih (pre ++ [r]) o h1 (fun x hx => by simp [h2 x hx]) h3'
      refine ⟨i1, fun lab => ?_, fun x => ?_⟩
      · rw [i2, List.filter_cons_of_neg hw]
      · rw [i3]
        constructor
        · rintro (h | ⟨h, h'⟩)
          · exact .inl h
          · exact .inr ⟨by simp [h], h'⟩
        · rintro (h | ⟨h, h'⟩)
          · exact .inl h
          · rcases List.mem_cons.1 h with rfl | h
            · exact absurd h' hw
            · exact .inr ⟨h, h'⟩

theorem askedL_spec (M : List Mch) (Fs : List Flt) (fr tt : Int) {L : List Rw} (h : RiseL L) :
    SortR (askedL M Fs fr tt L) ∧ (∀ lab, (askedL M Fs fr tt L).filter (fun x => x.1 == lab) = (L.filter (fun r => wantB M Fs fr tt r)).filter (fun x => x.1 == lab)) ∧ (∀ x, x ∈ askedL M Fs fr tt L ↔ x ∈ L ∧ wantB M Fs fr tt x = true) := by
  obtain ⟨h1, h2, h3⟩ := askedL_all M Fs fr tt L [] [] List.Pairwise.nil (fun x hx => by simp at hx) (by simpa using h)
  refine ⟨h1, fun lab => ?_, fun x => ?_⟩
  · have := h2 lab
    rw [List.filter_nil, List.nil_append] at this
    exact this
  · have := h3 x
    rw [show (x ∈ ([] : List Rw)) = False by simp] at this
    rw [false_or] at this
    exact this

end Go.Proofs.YtbljamcdaoofbaaGreatDoor
