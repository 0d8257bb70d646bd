/- Push and Drop keep what ties the program's state to the reference's, and answer alike. -/
import Derived.Test.YtbljamcdaoofbaaGreatDoorRel
namespace Go.Proofs.YtbljamcdaoofbaaGreatDoor

theorem ris_nodup {l : List (List UInt8)} (h : Ris l) : l.Nodup := h.imp (fun h => less_ne h)

theorem set_eq_map {α : Type} (X : List α) (key : α → List UInt8) (hnd : (X.map key).Nodup) (k : Nat) (hk : k < X.length) (v : α) :
    X.set k v = X.map (fun a => if key a = key X[k] then v else a) := by
  apply List.ext_getElem?
  intro j
  rw [List.getElem?_set, List.getElem?_map]
  by_cases e : k = j
  · subst e
    simp [hk]
  · rw [if_neg e]
    cases hj : X[j]? with
    | none => rfl
    | some a =>
      simp only [Option.map_some]
      rw [if_neg]
      obtain ⟨hjl, rfl⟩ := List.getElem?_eq_some_iff.1 hj
      intro hkey
      have := (List.nodup_iff_pairwise_ne.1 hnd)
      rw [List.pairwise_iff_getElem] at this
      rcases Nat.lt_or_gt_of_ne e with g | g
      · exact this k j (by simpa using hk) (by simpa using hjl) g (by simpa using hkey.symm)
      · exact this j k (by simpa using hjl) (by simpa using hk) g (by simpa using hkey)

theorem RelA.rising {ns : List Node} {S : List Strm} {L : List Rw} (h : RelA (ns.map absN) S L) : Rising ns := by
  have := h.ris
  unfold Ris at this
  rw [List.map_map, List.pairwise_map] at this
  exact this

theorem RelA.len' {ns : List Node} {S : List Strm} {L : List Rw} (h : RelA (ns.map absN) S L) : ns.length = S.length := by rw [h.len]; simp

theorem RelA.node {ns : List Node} {S : List Strm} {L : List Rw} (h : RelA (ns.map absN) S L) {y : Strm} : y ∈ S ↔ ∃ n ∈ ns, (n.lab, n.latest) = y := by
  rw [h.mem]
  constructor
  · rintro ⟨a, ha, e⟩
    obtain ⟨n, hn, rfl⟩ := List.mem_map.1 ha
    exact ⟨n, hn, e⟩
  · rintro ⟨n, hn, e⟩
    exact ⟨absN n, List.mem_map_of_mem hn, e⟩

theorem RelA.lines' {ns : List Node} {S : List Strm} {L : List Rw} (h : RelA (ns.map absN) S L) {n : Node} (hn : n ∈ ns) : n.lines = (L.filter (fun r => r.1 == n.lab)).map (fun r => (r.2.1, r.2.2)) := h.lines _ (List.mem_map_of_mem hn)

theorem RelA.there {ns : List Node} {S : List Strm} {L : List Rw} (h : RelA (ns.map absN) S L) (l : List UInt8) : (∃ n ∈ ns, n.lab = l) ↔ at_ S l < S.length := by
  unfold at_
  rw [List.findIdx_lt_length]
  constructor
  · rintro ⟨n, hn, rfl⟩
    exact ⟨_, h.node.2 ⟨n, hn, rfl⟩, by simp⟩
  · rintro ⟨y, hy, e⟩
    obtain ⟨n, hn, rfl⟩ := h.node.1 hy
    exact ⟨n, hn, by simpa using e⟩

theorem RelA.at_node {ns : List Node} {S : List Strm} {L : List Rw} (h : RelA (ns.map absN) S L) {l : List UInt8} (hk : at_ S l < S.length) : S[at_ S l].1 = l ∧ ∃ n ∈ ns, n.lab = l ∧ n.latest = S[at_ S l].2 := by
  have e : S[at_ S l].1 = l := by
    have := List.findIdx_getElem (w := hk)
    change S[List.findIdx (fun y : Strm => y.1 == l) S].1 = l
    simpa using this
  obtain ⟨n, hn, e2⟩ := h.node.1 (List.getElem_mem hk)
  refine ⟨e, n, hn, ?_, ?_⟩
  · rw [← e, ← e2]
  · rw [← e2]

/-- lines by their streams: as many as all -/
theorem sum_filter (ks : List (List UInt8)) (hk : ks.Nodup) (L : List Rw) (hall : ∀ r ∈ L, r.1 ∈ ks) : (ks.map (fun k => (L.filter (fun r => r.1 == k)).length)).sum = L.length := by
  induction L with
  | nil =>
    clear hk hall
    induction ks with
    | nil => rfl
    | cons k ks ih => simpa using ih
  | cons r L ih =>
    have ih' := ih (fun x hx => hall x (List.mem_cons_of_mem _ hx))
    have hr := hall r (by simp)
    have key : ∀ ks : List (List UInt8), ks.Nodup → (ks.map (fun k => ((r :: L).filter (fun r => r.1 == k)).length)).sum = (ks.map (fun k => (L.filter (fun r => r.1 == k)).length)).sum + if r.1 ∈ ks then 1 else 0 := by
      intro ks hnd
      induction ks with
      | nil => simp
      | cons k ks ihk =>
        have hnd' := List.nodup_cons.1 hnd
        rw [List.map_cons, List.sum_cons, List.map_cons, List.sum_cons, ihk hnd'.2]
        by_cases e : r.1 = k
        · have h2 : r.1 ∉ ks := by rw [e]; exact hnd'.1
          have e1 : (r.1 == k) = true := by simpa using e
          rw [List.filter_cons, if_pos e1, if_neg h2, if_pos (by rw [e]; simp), List.length_cons]
          omega
        · have e1 : ¬ (r.1 == k) = true := by simpa using e
          rw [List.filter_cons, if_neg e1]
          by_cases h2 : r.1 ∈ ks
          · rw [if_pos h2, if_pos (List.mem_cons_of_mem _ h2)]; omega
          · rw [if_neg h2, if_neg (by rw [List.mem_cons]; rintro (g | g); exact e g; exact h2 g)]; omega
    rw [key ks hk, ih', if_pos hr]
    rfl

theorem RelA.total {ns : List Node} {S : List Strm} {L : List Rw} (h : RelA (ns.map absN) S L) : Go.Proofs.YtbljamcdaoofbaaGreatDoor.total ns = L.length := by
  have h1 := sum_filter ((ns.map absN).map (·.1)) (ris_nodup h.ris) L (fun r hr => by
    obtain ⟨a, ha, e⟩ := h.all r hr
    exact List.mem_map.2 ⟨a, ha, e⟩)
  rw [← h1, List.map_map, List.map_map]
  unfold Go.Proofs.YtbljamcdaoofbaaGreatDoor.total
  congr 1
  apply List.map_congr_left
  intro n hn
  have := congrArg List.length (h.lines' hn)
  simpa [absN] using this

/-- the place among rising labels: what is ahead is less, what is behind is not -/
theorem place_spec {ns : List Node} (h : Rising ns) (l : List UInt8) : (∀ j (hj : j < ns.length), j < place ns l → Op.bytesLess ns[j].lab l = true) ∧ (∀ j (hj : j < ns.length), place ns l ≤ j → Op.bytesLess ns[j].lab l = false) := by
  suffices ∃ r, r ≤ ns.length ∧ (∀ j (hj : j < ns.length), j < r → Op.bytesLess ns[j].lab l = true) ∧ (∀ j (hj : j < ns.length), r ≤ j → Op.bytesLess ns[j].lab l = false) by
    obtain ⟨r, hr, h1, h2⟩ := this
    rw [place_split l r hr h1 h2]
    exact ⟨h1, h2⟩
  induction ns with
  | nil => exact ⟨0, by simp, fun j hj => by simp at hj, fun j hj => by simp at hj⟩
  | cons n ns ih =>
    have h' := List.pairwise_cons.1 h
    cases hn : Op.bytesLess n.lab l
    · refine ⟨0, by simp, fun j _ hj => by omega, fun j hj _ => ?_⟩
      cases j with
      | zero => exact hn
      | succ j =>
        rw [Bool.eq_false_iff]
        intro hl
        have := less_trans (h'.1 _ (List.getElem_mem (by simpa using hj))) hl
        rw [hn] at this
        cases this
    · obtain ⟨r, hr, h1, h2⟩ := ih h'.2
      refine ⟨r + 1, by simpa using hr, fun j hj hjr => ?_, fun j hj hrj => ?_⟩
      · cases j with
        | zero => exact hn
        | succ j => exact h1 j (by simpa using hj) (by omega)
      · cases j with
        | zero => omega
        | succ j => exact h2 j (by simpa using hj) (by omega)

theorem RelA.code {ns : List Node} {S : List Strm} {L : List Rw} (h : RelA (ns.map absN) S L) (l : List UInt8) (t : Int) (x : List UInt8) : codeP ns l t x = (pushR S L l t x).1 := by
  by_cases h1 : labelsB l = false
  · rw [codeP, checkL, pushR, if_pos h1, if_pos h1, if_neg (by decide)]
  · by_cases h2 : timeB t = false
    · rw [codeP, checkL, pushR, if_neg h1, if_neg h1, if_pos h2, if_pos h2, if_neg (by decide)]
    · by_cases h3 : 40 < x.length
      · rw [codeP, checkL, pushR, if_neg h1, if_neg h1, if_neg h2, if_neg h2, if_pos h3, if_pos h3, if_neg (by decide)]
      · have hcl : checkL l t x = 0 := by rw [checkL, if_neg h1, if_neg h2, if_neg h3]
        rw [codeP, hcl, if_pos rfl, pushR, if_neg h1, if_neg h2, if_neg h3]
        unfold roomC
        rw [h.total, h.len']
        by_cases hk : at_ S l < S.length
        · obtain ⟨e1, n, hn, e2, e3⟩ := h.at_node hk
          have hex : ∃ n ∈ ns, n.lab = l := ⟨n, hn, e2⟩
          rw [dif_pos hk]
          by_cases h4 : t < S[at_ S l].2
          · rw [if_pos h4, if_pos ⟨n, hn, e2, by rw [e3]; exact h4⟩]
          · rw [if_neg h4, if_neg, if_neg (fun hh => hh.1 hex)]
            · split <;> rfl
            · rintro ⟨m, hm, e4, e5⟩
              have := only_one h.rising hm hn (e4.trans e2.symm)
              subst this
              rw [e3] at e5
              exact h4 e5
        · have hex : ¬ ∃ n ∈ ns, n.lab = l := fun hh => hk ((h.there l).1 hh)
          rw [dif_neg hk, if_neg (fun ⟨n, hn, e, _⟩ => hex ⟨n, hn, e⟩)]
          by_cases h5 : 6 ≤ S.length
          · rw [if_pos ⟨hex, h5⟩, if_pos h5]
          · rw [if_neg (fun hh => h5 hh.2), if_neg h5]
            split <;> rfl

theorem RelA.push {ns : List Node} {S : List Strm} {L : List Rw} (h : RelA (ns.map absN) S L) (l : List UInt8) (t : Int) (x : List UInt8) : RelA (pushedA ns l t x) (pushR S L l t x).2.1 (pushR S L l t x).2.2 := by
  by_cases hc : codeP ns l t x = 0
  · have hc' := hc
    rw [h.code] at hc'
    unfold pushR at hc' ⊢
    by_cases h1 : labelsB l = false
    · rw [if_pos h1] at hc'; exact absurd (show (1 : Int) = 0 from hc') (by decide)
    rw [if_neg h1] at hc' ⊢
    by_cases h2 : timeB t = false
    · rw [if_pos h2] at hc'; exact absurd (show (2 : Int) = 0 from hc') (by decide)
    rw [if_neg h2] at hc' ⊢
    by_cases h3 : 40 < x.length
    · rw [if_pos h3] at hc'; exact absurd (show (3 : Int) = 0 from hc') (by decide)
    rw [if_neg h3] at hc' ⊢
    unfold pushedA
    rw [if_pos hc]
    by_cases hk : at_ S l < S.length
    · rw [dif_pos hk] at hc' ⊢
      by_cases h4 : t < S[at_ S l].2
      · rw [if_pos h4] at hc'; simp at hc'
      rw [if_neg h4] at hc' ⊢
      by_cases h6 : 300 ≤ L.length
      · rw [if_pos h6] at hc'; simp at hc'
      rw [if_neg h6]
      obtain ⟨e1, n, hn, e2, e3⟩ := h.at_node hk
      have hex : ∃ n ∈ ns, n.lab = l := ⟨n, hn, e2⟩
      rw [if_pos hex]
      obtain ⟨hp, hpl⟩ := at_place h.rising hex
      have hnk : ns[place ns l] = n := only_one h.rising (List.getElem_mem hp) hn (hpl.trans e2.symm)
      have hX : place ns l < (ns.map absN).length := by simpa using hp
      have hXk : (ns.map absN)[place ns l] = absN n := by simp [hnk]
      have hXd : (ns.map absN).getD (place ns l) ([], 0, []) = absN n := by
        rw [List.getD_eq_getElem?_getD, List.getElem?_eq_getElem hX, hXk]
        rfl
      rw [hXd, set_eq_map (ns.map absN) (·.1) (ris_nodup h.ris) _ hX, hXk, e1, set_eq_map S (·.1) h.uniq _ hk, e1]
      have hnl : (absN n).1 = l := e2
      rw [hnl]
      have hlab : ∀ a : PA, (if a.1 = l then (l, t, (absN n).2.2 ++ [(t, x)]) else a).1 = a.1 := by
        intro a
        by_cases e : a.1 = l
        · rw [if_pos e]; exact e.symm
        · rw [if_neg e]
      have hlabS : ∀ y : Strm, (if y.1 = l then (l, t) else y).1 = y.1 := by
        intro a
        by_cases e : a.1 = l
        · rw [if_pos e]; exact e.symm
        · rw [if_neg e]
      have hfl : (L ++ [(l, t, x)]).filter (fun r => r.1 == l) = L.filter (fun r => r.1 == l) ++ [(l, t, x)] := by simp [List.filter_append]
      have hfo : ∀ k, k ≠ l → (L ++ [(l, t, x)]).filter (fun r => r.1 == k) = L.filter (fun r => r.1 == k) := by
        intro k hkl
        rw [List.filter_append]
        have : (l == k) = false := by simpa using fun e => hkl (Eq.symm e)
        simp [this]
      have hnlin := h.lines' hn
      have ha : ∀ a ∈ ns.map absN, a.1 = l → a = absN n := by
        intro a ham e
        obtain ⟨m, hm, rfl⟩ := List.mem_map.1 ham
        rw [only_one h.rising hm hn (show m.lab = n.lab from (show m.lab = l from e).trans e2.symm)]
      refine ⟨?_, ?_, by simpa using h.len, ?_, ?_, ?_, ?_, ?_, by simpa using h.six, by simp; omega⟩
      · rw [List.map_map]
        have : ((fun a : PA => a.1) ∘ fun a : PA => if a.1 = l then (l, t, (absN n).2.2 ++ [(t, x)]) else a) = fun a => a.1 := funext hlab
        rw [this]
        exact h.ris
      · rw [List.map_map]
        have : ((fun a : Strm => a.1) ∘ fun a : Strm => if a.1 = l then (l, t) else a) = fun a => a.1 := funext hlabS
        rw [this]
        exact h.uniq
      · intro y
        simp only [List.mem_map]
        constructor
        · rintro ⟨y0, hy0, rfl⟩
          obtain ⟨a, ham, rfl⟩ := (h.mem y0).1 hy0
          refine ⟨_, ⟨a, List.mem_map.1 ham, rfl⟩, ?_⟩
          by_cases e : a.1 = l
          · rw [if_pos e, if_pos e]
          · rw [if_neg e, if_neg e]
        · rintro ⟨_, ⟨a, ham, rfl⟩, rfl⟩
          refine ⟨(a.1, a.2.1), (h.mem _).2 ⟨a, List.mem_map.2 ham, rfl⟩, ?_⟩
          by_cases e : a.1 = l
          · rw [if_pos e, if_pos e]
          · rw [if_neg e, if_neg e]
      · intro a' ha'
        obtain ⟨a, ham, rfl⟩ := List.mem_map.1 ha'
        by_cases e : a.1 = l
        · rw [if_pos e]
          show (absN n).2.2 ++ [(t, x)] = _
          rw [hfl, List.map_append]
          show n.lines ++ [(t, x)] = _
          rw [hnlin, e2]
          rfl
        · rw [if_neg e, hfo _ e]
          exact h.lines a ham
      · intro r hr
        simp only [List.mem_append, List.mem_singleton] at hr
        rcases hr with hr | rfl
        · obtain ⟨a, ham, e⟩ := h.all r hr
          exact ⟨_, List.mem_map.2 ⟨a, ham, rfl⟩, (hlab a).trans e⟩
        · exact ⟨_, List.mem_map.2 ⟨absN n, List.mem_map_of_mem hn, rfl⟩, (hlab _).trans e2⟩
      · intro a' ha' y hy
        obtain ⟨a, ham, rfl⟩ := List.mem_map.1 ha'
        by_cases e : a.1 = l
        · rw [if_pos e] at hy ⊢
          simp only [List.mem_append, List.mem_singleton] at hy
          rcases hy with hy | rfl
          · have := h.late (absN n) (List.mem_map_of_mem hn) y hy
            have hl : (absN n).2.1 = S[at_ S l].2 := e3
            show y.1 ≤ t
            omega
          · exact Int.le_refl _
        · rw [if_neg e] at hy ⊢
          exact h.late a ham y hy
      · intro a' ha'
        obtain ⟨a, ham, rfl⟩ := List.mem_map.1 ha'
        by_cases e : a.1 = l
        · rw [if_pos e]
          show InOrder ((absN n).2.2 ++ [(t, x)])
          unfold InOrder
          rw [List.pairwise_append]
          refine ⟨h.order _ (List.mem_map_of_mem hn), by simp, ?_⟩
          intro y hy z hz
          simp only [List.mem_singleton] at hz
          subst hz
          have := h.late (absN n) (List.mem_map_of_mem hn) y hy
          have hl : (absN n).2.1 = S[at_ S l].2 := e3
          show y.1 ≤ t
          omega
        · rw [if_neg e]
          exact h.order a ham
    · rw [dif_neg hk] at hc' ⊢
      by_cases h5 : 6 ≤ S.length
      · rw [if_pos h5] at hc'; simp at hc'
      rw [if_neg h5] at hc' ⊢
      by_cases h6 : 300 ≤ L.length
      · rw [if_pos h6] at hc'; simp at hc'
      rw [if_neg h6]
      have hex : ¬ ∃ n ∈ ns, n.lab = l := fun hh => hk ((h.there l).1 hh)
      rw [if_neg hex]
      have hnl : ∀ a ∈ ns.map absN, a.1 ≠ l := by
        intro a ham e
        obtain ⟨n, hn, rfl⟩ := List.mem_map.1 ham
        exact hex ⟨n, hn, e⟩
      have hLl : ∀ r ∈ L, r.1 ≠ l := by
        intro r hr e
        obtain ⟨a, ham, e2⟩ := h.all r hr
        exact hnl a ham (e2.trans e)
      have hfl : (L ++ [(l, t, x)]).filter (fun r => r.1 == l) = [(l, t, x)] := by
        rw [List.filter_append]
        have : L.filter (fun r => r.1 == l) = [] := by
          rw [List.filter_eq_nil_iff]
          intro r hr
          simpa using hLl r hr
        simp [this]
      have hfo : ∀ k, k ≠ l → (L ++ [(l, t, x)]).filter (fun r => r.1 == k) = L.filter (fun r => r.1 == k) := by
        intro k hkl
        rw [List.filter_append]
        have : (l == k) = false := by simpa using fun e => hkl (Eq.symm e)
        simp [this]
      have hsp := place_spec h.rising l
      refine ⟨?_, ?_, ?_, ?_, ?_, ?_, ?_, ?_, by simp; omega, by simp; omega⟩
      · rw [List.map_append, List.map_append, List.map_take, List.map_drop]
        refine ris_ins h.ris ?_ ?_
        · intro y hy
          rw [← List.map_take, ← List.map_take, List.map_map] at hy
          obtain ⟨n, hn, rfl⟩ := List.mem_map.1 hy
          obtain ⟨j, hj, rfl⟩ := List.getElem_of_mem hn
          simp only [List.length_take] at hj
          rw [List.getElem_take]
          exact hsp.1 j (by omega) (by omega)
        · intro y hy
          rw [← List.map_drop, ← List.map_drop, List.map_map] at hy
          obtain ⟨n, hn, rfl⟩ := List.mem_map.1 hy
          have hmem := List.mem_of_mem_drop hn
          obtain ⟨j, hj, rfl⟩ := List.getElem_of_mem hn
          simp only [List.length_drop] at hj
          rw [List.getElem_drop] at hmem ⊢
          have hf := hsp.2 (place ns l + j) (by omega) (by omega)
          rcases less_total _ _ hf with e | e
          · exact absurd ⟨_, hmem, e⟩ hex
          · exact e
      · rw [List.map_append]
        show (S.map (·.1) ++ [l]).Nodup
        rw [List.nodup_append]
        refine ⟨h.uniq, by simp, ?_⟩
        intro a ha b hb
        simp only [List.mem_singleton] at hb
        subst hb
        obtain ⟨y, hy, rfl⟩ := List.mem_map.1 ha
        obtain ⟨c, hc1, rfl⟩ := (h.mem y).1 hy
        exact hnl c hc1
      · have := h.len
        have hpl := place_le ns l
        simp only [List.length_append, List.length_take, List.length_drop, List.length_singleton, List.length_map] at this ⊢
        omega
      · intro y
        constructor
        · intro hy
          rcases List.mem_append.1 hy with hy | hy
          · obtain ⟨a, ham, e⟩ := (h.mem y).1 hy
            exact ⟨a, (mem_ins (ns.map absN) (l, t, [(t, x)]) a (place ns l)).2 (.inr ham), e⟩
          · simp only [List.mem_singleton] at hy
            subst hy
            exact ⟨(l, t, [(t, x)]), (mem_ins (ns.map absN) (l, t, [(t, x)]) (l, t, [(t, x)]) (place ns l)).2 (.inl rfl), rfl⟩
        · rintro ⟨a, ha, rfl⟩
          rcases (mem_ins (ns.map absN) (l, t, [(t, x)]) a (place ns l)).1 ha with rfl | ha
          · exact List.mem_append.2 (.inr (by simp))
          · exact List.mem_append.2 (.inl ((h.mem _).2 ⟨a, ha, rfl⟩))
      · intro a ha
        rcases (mem_ins (ns.map absN) (l, t, [(t, x)]) a (place ns l)).1 ha with rfl | ha
        · rw [hfl]; rfl
        · rw [hfo _ (hnl a ha)]; exact h.lines a ha
      · intro r hr
        simp only [List.mem_append, List.mem_singleton] at hr
        rcases hr with hr | rfl
        · obtain ⟨a, ham, e⟩ := h.all r hr
          exact ⟨a, (mem_ins _ _ _ _).2 (.inr ham), e⟩
        · exact ⟨(l, t, [(t, x)]), (mem_ins _ _ _ _).2 (.inl rfl), rfl⟩
      · intro a ha y hy
        rcases (mem_ins (ns.map absN) (l, t, [(t, x)]) a (place ns l)).1 ha with rfl | ha
        · simp only [List.mem_singleton] at hy
          subst hy
          exact Int.le_refl _
        · exact h.late a ha y hy
      · intro a ha
        rcases (mem_ins (ns.map absN) (l, t, [(t, x)]) a (place ns l)).1 ha with rfl | ha
        · exact List.pairwise_singleton _ _
        · exact h.order a ha
  · have hc' := hc
    rw [h.code] at hc'
    unfold pushedA
    rw [if_neg hc]
    unfold pushR at hc' ⊢
    split at hc' <;> rename_i h1
    · rw [if_pos h1]; exact h
    rw [if_neg h1]
    split at hc' <;> rename_i h2
    · rw [if_pos h2]; exact h
    rw [if_neg h2]
    split at hc' <;> rename_i h3
    · rw [if_pos h3]; exact h
    rw [if_neg h3]
    split at hc' <;> rename_i hk
    · rw [dif_pos hk]
      split at hc' <;> rename_i h4
      · rw [if_pos h4]; exact h
      rw [if_neg h4]
      split at hc' <;> rename_i h6
      · rw [if_pos h6]; exact h
      · exact absurd rfl hc'
    · rw [dif_neg hk]
      split at hc' <;> rename_i h5
      · rw [if_pos h5]; exact h
      rw [if_neg h5]
      split at hc' <;> rename_i h6
      · rw [if_pos h6]; exact h
      · exact absurd rfl hc'


theorem filter_comm (L : List Rw) (k : List UInt8) (b : Int) : ((L.filter (fun x => decide (b ≤ x.2.1))).filter (fun r => r.1 == k)).map (fun r => (r.2.1, r.2.2)) = ((L.filter (fun r => r.1 == k)).map (fun r => (r.2.1, r.2.2))).filter (fun x => decide (b ≤ x.1)) := by
  rw [List.filter_map, List.filter_filter, List.filter_filter]
  congr 2
  funext r
  simp [Bool.and_comm]

theorem gone_kept (ls : List Ln) (b : Int) : goneN ls b + (ls.filter (fun x => decide (b ≤ x.1))).length = ls.length := by
  unfold goneN
  induction ls with
  | nil => rfl
  | cons x ls ih =>
    by_cases e : x.1 < b
    · have e2 : ¬ b ≤ x.1 := by omega
      simp [e, e2]; omega
    · have e2 : b ≤ x.1 := by omega
      simp [e, e2]; omega

theorem RelA.drop {ns : List Node} {S : List Strm} {L : List Rw} (h : RelA (ns.map absN) S L) (b : Int) : dropI ns b = (dropR L b).1 ∧ dropE b = (dropR L b).2.1 ∧ RelA (dropA ns b) S (dropR L b).2.2 := by
  unfold dropI dropE dropA dropR
  by_cases hb : timeB b = true
  · have hb' : ¬ timeB b = false := by simp [hb]
    rw [if_pos hb, if_pos hb, if_pos hb, if_neg hb']
    have hR : RelA ((ns.map absN).map (cutN b)) S (L.filter (fun x => decide (b ≤ x.2.1))) := by
      refine ⟨?_, h.uniq, by simpa using h.len, ?_, ?_, ?_, ?_, ?_, h.six, Nat.le_trans (List.length_filter_le _ _) h.many⟩
      · rw [List.map_map]
        exact h.ris
      · intro y
        rw [h.mem]
        constructor
        · rintro ⟨a, ha, e⟩; exact ⟨_, List.mem_map_of_mem ha, e⟩
        · rintro ⟨a', ha', e⟩
          obtain ⟨a, ha, rfl⟩ := List.mem_map.1 ha'
          exact ⟨a, ha, e⟩
      · intro a' ha'
        obtain ⟨a, ha, rfl⟩ := List.mem_map.1 ha'
        show a.2.2.filter (fun x => decide (b ≤ x.1)) = _
        show _ = ((L.filter (fun x => decide (b ≤ x.2.1))).filter (fun r => r.1 == a.1)).map (fun r => (r.2.1, r.2.2))
        rw [filter_comm, ← h.lines a ha]
      · intro r hr
        obtain ⟨a, ha, e⟩ := h.all r (List.mem_filter.1 hr).1
        exact ⟨_, List.mem_map_of_mem ha, e⟩
      · intro a' ha' x hx
        obtain ⟨a, ha, rfl⟩ := List.mem_map.1 ha'
        exact h.late a ha x (List.mem_filter.1 hx).1
      · intro a' ha'
        obtain ⟨a, ha, rfl⟩ := List.mem_map.1 ha'
        exact (h.order a ha).filter _
    refine ⟨?_, rfl, hR⟩
    have h1 := h.total
    have h2 := sum_filter (((ns.map absN).map (cutN b)).map (·.1)) (ris_nodup hR.ris) (L.filter (fun x => decide (b ≤ x.2.1))) (fun r hr => by
      obtain ⟨a, ha, e⟩ := hR.all r hr
      exact List.mem_map.2 ⟨a, ha, e⟩)
    have h3 : ∀ ms : List Node, goneAll ms b + (ms.map (fun n => (n.lines.filter (fun x => decide (b ≤ x.1))).length)).sum = Go.Proofs.YtbljamcdaoofbaaGreatDoor.total ms := by
      intro ms
      induction ms with
      | nil => rfl
      | cons m ms ih =>
        have := gone_kept m.lines b
        simp only [goneAll, Go.Proofs.YtbljamcdaoofbaaGreatDoor.total, List.map_cons, List.sum_cons] at ih ⊢
        omega
    have h4 : (ns.map (fun n => (n.lines.filter (fun x => decide (b ≤ x.1))).length)).sum = (L.filter (fun x => decide (b ≤ x.2.1))).length := by
      rw [← h2, List.map_map, List.map_map, List.map_map]
      congr 1
      apply List.map_congr_left
      intro n hn
      have := congrArg List.length (hR.lines _ (List.mem_map_of_mem (List.mem_map_of_mem hn)))
      simpa [absN, cutN] using this
    have h5 := h3 ns
    show (goneAll ns b : Int) = (L.length : Int) - _
    omega
  · have hb' : timeB b = false := by simpa using hb
    rw [if_neg hb, if_neg hb, if_neg hb, if_pos hb']
    exact ⟨rfl, rfl, h⟩

theorem RelA.empty : RelA [] [] [] :=
  ⟨List.Pairwise.nil, by simp, rfl, fun y => by simp, fun a ha => by simp at ha, fun r hr => by simp at hr, fun a ha => by simp at ha, fun a ha => by simp at ha, by simp, by simp⟩

end Go.Proofs.YtbljamcdaoofbaaGreatDoor
