/- Texts RelPush, LawSmall, LawTexts, joined. -/
import Derived.Test.YtbljamcdaoofbaaGreatDoorPStreamsToRel
/- Push and Drop keep what ties the program's state to the reference's, and answer alike. -/
namespace Go.Proofs.YtbljamcdaoofbaaGreatDoor

theorem ris_nodup {l : List (List UInt8)} (h : Ris l) : l.Nodup := h.imp (fun h => less_ne h)

theorem set_eq_map {α : Type} (X : List α) (key : α → List UInt8) (hnd : (X.map key).Nodup) (k : Nat) (hk : k < X.length) (v : α) :
    X.set k v = X.map (fun a => if key a = key X[k] then v else a) := by
  apply List.ext_getElem?
  intro j
  rw [List.getElem?_set, List.getElem?_map]
  by_cases e : k = j
  · subst e
    simp [hk]
  · rw [if_neg e]
    cases hj : X[j]? with
    | none => rfl
    | some a =>
      simp only [Option.map_some]
      rw [if_neg]
      obtain ⟨hjl, rfl⟩ := List.getElem?_eq_some_iff.1 hj
      intro hkey
      have := (List.nodup_iff_pairwise_ne.1 hnd)
      rw [List.pairwise_iff_getElem] at this
      rcases Nat.lt_or_gt_of_ne e with g | g
      · exact this k j (by simpa using hk) (by simpa using hjl) g (by simpa using hkey.symm)
      · exact this j k (by simpa using hjl) (by simpa using hk) g (by simpa using hkey)

theorem RelA.rising {ns : List Node} {S : List Strm} {L : List Rw} (h : RelA (ns.map absN) S L) : Rising ns := by
  have := h.ris
  unfold Ris at this
  rw [List.map_map, List.pairwise_map] at this
  exact this

theorem RelA.len' {ns : List Node} {S : List Strm} {L : List Rw} (h : RelA (ns.map absN) S L) : ns.length = S.length := by rw [h.len]; simp

theorem RelA.node {ns : List Node} {S : List Strm} {L : List Rw} (h : RelA (ns.map absN) S L) {y : Strm} : y ∈ S ↔ ∃ n ∈ ns, (n.lab, n.latest) = y := by
  rw [h.mem]
  constructor
  · rintro ⟨a, ha, e⟩
    obtain ⟨n, hn, rfl⟩ := List.mem_map.1 ha
    exact ⟨n, hn, e⟩
  · rintro ⟨n, hn, e⟩
    exact ⟨absN n, List.mem_map_of_mem hn, e⟩

theorem RelA.lines' {ns : List Node} {S : List Strm} {L : List Rw} (h : RelA (ns.map absN) S L) {n : Node} (hn : n ∈ ns) : n.lines = (L.filter (fun r => r.1 == n.lab)).map (fun r => (r.2.1, r.2.2)) := h.lines _ (List.mem_map_of_mem hn)

theorem RelA.there {ns : List Node} {S : List Strm} {L : List Rw} (h : RelA (ns.map absN) S L) (l : List UInt8) : (∃ n ∈ ns, n.lab = l) ↔ at_ S l < S.length := by
  unfold at_
  rw [List.findIdx_lt_length]
  constructor
  · rintro ⟨n, hn, rfl⟩
    exact ⟨_, h.node.2 ⟨n, hn, rfl⟩, by simp⟩
  · rintro ⟨y, hy, e⟩
    obtain ⟨n, hn, rfl⟩ := h.node.1 hy
    exact ⟨n, hn, by simpa using e⟩

theorem RelA.at_node {ns : List Node} {S : List Strm} {L : List Rw} (h : RelA (ns.map absN) S L) {l : List UInt8} (hk : at_ S l < S.length) : S[at_ S l].1 = l ∧ ∃ n ∈ ns, n.lab = l ∧ n.latest = S[at_ S l].2 := by
  have e : S[at_ S l].1 = l := by
    have := List.findIdx_getElem (w := hk)
    change S[List.findIdx (fun y : Strm => y.1 == l) S].1 = l
    simpa using this
  obtain ⟨n, hn, e2⟩ := h.node.1 (List.getElem_mem hk)
  refine ⟨e, n, hn, ?_, ?_⟩
  · rw [← e, ← e2]
  · rw [← e2]

/-- lines by their streams: as many as all -/
theorem sum_filter (ks : List (List UInt8)) (hk : ks.Nodup) (L : List Rw) (hall : ∀ r ∈ L, r.1 ∈ ks) : (ks.map (fun k => (L.filter (fun r => r.1 == k)).length)).sum = L.length := by
  induction L with
  | nil =>
    clear hk hall
    induction ks with
    | nil => rfl
    | cons k ks ih => simpa using ih
  | cons r L ih =>
    have ih' := ih (fun x hx => hall x (List.mem_cons_of_mem _ hx))
    have hr := hall r (by simp)
    have key : ∀ ks : List (List UInt8), ks.Nodup → (ks.map (fun k => ((r :: L).filter (fun r => r.1 == k)).length)).sum = (ks.map (fun k => (L.filter (fun r => r.1 == k)).length)).sum + if r.1 ∈ ks then 1 else 0 := by
      intro ks hnd
      induction ks with
      | nil => simp
      | cons k ks ihk =>
        have hnd' := List.nodup_cons.1 hnd
        rw [List.map_cons, List.sum_cons, List.map_cons, List.sum_cons, ihk hnd'.2]
        by_cases e : r.1 = k
        · have h2 : r.1 ∉ ks := by rw [e]; exact hnd'.1
          have e1 : (r.1 == k) = true := by simpa using e
          rw [List.filter_cons, if_pos e1, if_neg h2, if_pos (by rw [e]; simp), List.length_cons]
          omega
        · have e1 : ¬ (r.1 == k) = true := by simpa using e
          rw [List.filter_cons, if_neg e1]
          by_cases h2 : r.1 ∈ ks
          · rw [if_pos h2, if_pos (List.mem_cons_of_mem _ h2)]; omega
          · rw [if_neg h2, if_neg (by rw [List.mem_cons]; rintro (g | g); exact e g; exact h2 g)]; omega
    rw [key ks hk, ih', if_pos hr]
    rfl

theorem RelA.total {ns : List Node} {S : List Strm} {L : List Rw} (h : RelA (ns.map absN) S L) : Go.Proofs.YtbljamcdaoofbaaGreatDoor.total ns = L.length := by
  have h1 := sum_filter ((ns.map absN).map (·.1)) (ris_nodup h.ris) L (fun r hr => by
    obtain ⟨a, ha, e⟩ := h.all r hr
    exact List.mem_map.2 ⟨a, ha, e⟩)
  rw [← h1, List.map_map, List.map_map]
  unfold Go.Proofs.YtbljamcdaoofbaaGreatDoor.total
  congr 1
  apply List.map_congr_left
  intro n hn
  have := congrArg List.length (h.lines' hn)
  simpa [absN] using this

/-- the place among rising labels: what is ahead is less, what is behind is not -/
theorem place_spec {ns : List Node} (h : Rising ns) (l : List UInt8) : (∀ j (hj : j < ns.length), j < place ns l → Op.bytesLess ns[j].lab l = true) ∧ (∀ j (hj : j < ns.length), place ns l ≤ j → Op.bytesLess ns[j].lab l = false) := by
  suffices ∃ r, r ≤ ns.length ∧ (∀ j (hj : j < ns.length), j < r → Op.bytesLess ns[j].lab l = true) ∧ (∀ j (hj : j < ns.length), r ≤ j → Op.bytesLess ns[j].lab l = false) by
    obtain ⟨r, hr, h1, h2⟩ := this
    rw [place_split l r hr h1 h2]
    exact ⟨h1, h2⟩
  induction ns with
  | nil => exact ⟨0, by simp, fun j hj => by simp at hj, fun j hj => by simp at hj⟩
  | cons n ns ih =>
    have h' := List.pairwise_cons.1 h
    cases hn : Op.bytesLess n.lab l
    · refine ⟨0, by simp, fun j _ hj => by omega, fun j hj _ => ?_⟩
      cases j with
      | zero => exact hn
      | succ j =>
        rw [Bool.eq_false_iff]
        intro hl
        have := less_trans (h'.1 _ (List.getElem_mem (by simpa using hj))) hl
        rw [hn] at this
        cases this
    · obtain ⟨r, hr, h1, h2⟩ := ih h'.2
      refine ⟨r + 1, by simpa using hr, fun j hj hjr => ?_, fun j hj hrj => ?_⟩
      · cases j with
        | zero => exact hn
        | succ j => exact h1 j (by simpa using hj) (by omega)
      · cases j with
        | zero => omega
        | succ j => exact h2 j (by simpa using hj) (by omega)

theorem RelA.code {ns : List Node} {S : List Strm} {L : List Rw} (h : RelA (ns.map absN) S L) (l : List UInt8) (t : Int) (x : List UInt8) : codeP ns l t x = (pushR S L l t x).1 := by
  by_cases h1 : labelsB l = false
  · rw [codeP, checkL, pushR, if_pos h1, if_pos h1, if_neg (by decide)]
  · by_cases h2 : timeB t = false
    · rw [codeP, checkL, pushR, if_neg h1, if_neg h1, if_pos h2, if_pos h2, if_neg (by decide)]
    · by_cases h3 : 40 < x.length
      · rw [codeP, checkL, pushR, if_neg h1, if_neg h1, if_neg h2, if_neg h2, if_pos h3, if_pos h3, if_neg (by decide)]
      · have hcl : checkL l t x = 0 := by rw [checkL, if_neg h1, if_neg h2, if_neg h3]
        rw [codeP, hcl, if_pos rfl, pushR, if_neg h1, if_neg h2, if_neg h3]
        unfold roomC
        rw [h.total, h.len']
        by_cases hk : at_ S l < S.length
        · obtain ⟨e1, n, hn, e2, e3⟩ := h.at_node hk
          have hex : ∃ n ∈ ns, n.lab = l := ⟨n, hn, e2⟩
          rw [dif_pos hk]
          by_cases h4 : t < S[at_ S l].2
          · rw [if_pos h4, if_pos ⟨n, hn, e2, by rw [e3]; exact h4⟩]
          · rw [if_neg h4, if_neg, if_neg (fun hh => hh.1 hex)]
            · split <;> rfl
            · rintro ⟨m, hm, e4, e5⟩
              have := only_one h.rising hm hn (e4.trans e2.symm)
              subst this
              rw [e3] at e5
              exact h4 e5
        · have hex : ¬ ∃ n ∈ ns, n.lab = l := fun hh => hk ((h.there l).1 hh)
          rw [dif_neg hk, if_neg (fun ⟨n, hn, e, _⟩ => hex ⟨n, hn, e⟩)]
          by_cases h5 : 6 ≤ S.length
          · rw [if_pos ⟨hex, h5⟩, if_pos h5]
          · rw [if_neg (fun hh => h5 hh.2), if_neg h5]
            split <;> rfl

theorem RelA.push {ns : List Node} {S : List Strm} {L : List Rw} (h : RelA (ns.map absN) S L) (l : List UInt8) (t : Int) (x : List UInt8) : RelA (pushedA ns l t x) (pushR S L l t x).2.1 (pushR S L l t x).2.2 := by
  by_cases hc : codeP ns l t x = 0
  · have hc' := hc
    rw [h.code] at hc'
    unfold pushR at hc' ⊢
    by_cases h1 : labelsB l = false
    · rw [if_pos h1] at hc'; exact absurd (show (1 : Int) = 0 from hc') (by decide)
    rw [if_neg h1] at hc' ⊢
    by_cases h2 : timeB t = false
    · rw [if_pos h2] at hc'; exact absurd (show (2 : Int) = 0 from hc') (by decide)
    rw [if_neg h2] at hc' ⊢
    by_cases h3 : 40 < x.length
    · rw [if_pos h3] at hc'; exact absurd (show (3 : Int) = 0 from hc') (by decide)
    rw [if_neg h3] at hc' ⊢
    unfold pushedA
    rw [if_pos hc]
    by_cases hk : at_ S l < S.length
    · rw [dif_pos hk] at hc' ⊢
      by_cases h4 : t < S[at_ S l].2
      · rw [if_pos h4] at hc'; simp at hc'
      rw [if_neg h4] at hc' ⊢
      by_cases h6 : 300 ≤ L.length
      · rw [if_pos h6] at hc'; simp at hc'
      rw [if_neg h6]
      obtain ⟨e1, n, hn, e2, e3⟩ := h.at_node hk
      have hex : ∃ n ∈ ns, n.lab = l := ⟨n, hn, e2⟩
      rw [if_pos hex]
      obtain ⟨hp, hpl⟩ := at_place h.rising hex
      have hnk : ns[place ns l] = n := only_one h.rising (List.getElem_mem hp) hn (hpl.trans e2.symm)
      have hX : place ns l < (ns.map absN).length := by simpa using hp
      have hXk : (ns.map absN)[place ns l] = absN n := by simp [hnk]
      have hXd : (ns.map absN).getD (place ns l) ([], 0, []) = absN n := by
        rw [List.getD_eq_getElem?_getD, List.getElem?_eq_getElem hX, hXk]
        rfl
      rw [hXd, set_eq_map (ns.map absN) (·.1) (ris_nodup h.ris) _ hX, hXk, e1, set_eq_map S (·.1) h.uniq _ hk, e1]
      have hnl : (absN n).1 = l := e2
      rw [hnl]
      have hlab : ∀ a : PA, (if a.1 = l then (l, t, (absN n).2.2 ++ [(t, x)]) else a).1 = a.1 := by
        intro a
        by_cases e : a.1 = l
        · rw [if_pos e]; exact e.symm
        · rw [if_neg e]
      have hlabS : ∀ y : Strm, (if y.1 = l then (l, t) else y).1 = y.1 := by
        intro a
        by_cases e : a.1 = l
        · rw [if_pos e]; exact e.symm
        · rw [if_neg e]
      have hfl : (L ++ [(l, t, x)]).filter (fun r => r.1 == l) = L.filter (fun r => r.1 == l) ++ [(l, t, x)] := by simp [List.filter_append]
      have hfo : ∀ k, k ≠ l → (L ++ [(l, t, x)]).filter (fun r => r.1 == k) = L.filter (fun r => r.1 == k) := by
        intro k hkl
        rw [List.filter_append]
        have : (l == k) = false := by simpa using fun e => hkl (Eq.symm e)
        simp [this]
      have hnlin := h.lines' hn
      have ha : ∀ a ∈ ns.map absN, a.1 = l → a = absN n := by
        intro a ham e
        obtain ⟨m, hm, rfl⟩ := List.mem_map.1 ham
        rw [only_one h.rising hm hn (show m.lab = n.lab from (show m.lab = l from e).trans e2.symm)]
      refine ⟨?_, ?_, by simpa using h.len, ?_, ?_, ?_, ?_, ?_, by simpa using h.six, by simp; omega⟩
      · rw [List.map_map]
        have : ((fun a : PA => a.1) ∘ fun a : PA => if a.1 = l then (l, t, (absN n).2.2 ++ [(t, x)]) else a) = fun a => a.1 := funext hlab
        rw [this]
        exact h.ris
      · rw [List.map_map]
        have : ((fun a : Strm => a.1) ∘ fun a : Strm => if a.1 = l then (l, t) else a) = fun a => a.1 := funext hlabS
        rw [this]
        exact h.uniq
      · intro y
        simp only [List.mem_map]
        constructor
        · rintro ⟨y0, hy0, rfl⟩
          obtain ⟨a, ham, rfl⟩ := (h.mem y0).1 hy0
          refine ⟨_, ⟨a, List.mem_map.1 ham, rfl⟩, ?_⟩
          by_cases e : a.1 = l
          · rw [if_pos e, if_pos e]
          · rw [if_neg e, if_neg e]
        · rintro ⟨_, ⟨a, ham, rfl⟩, rfl⟩
          refine ⟨(a.1, a.2.1), (h.mem _).2 ⟨a, List.mem_map.2 ham, rfl⟩, ?_⟩
          by_cases e : a.1 = l
          · rw [if_pos e, if_pos e]
          · rw [if_neg e, if_neg e]
      · intro a' ha'
        obtain ⟨a, ham, rfl⟩ := List.mem_map.1 ha'
        by_cases e : a.1 = l
        · rw [if_pos e]
          show (absN n).2.2 ++ [(t, x)] = _
          rw [hfl, List.map_append]
          show n.lines ++ [(t, x)] = _
          rw [hnlin, e2]
          rfl
        · rw [if_neg e, hfo _ e]
          exact h.lines a ham
      · intro r hr
        simp only [List.mem_append, List.mem_singleton] at hr
        rcases hr with hr | rfl
        · obtain ⟨a, ham, e⟩ := h.all r hr
          exact ⟨_, List.mem_map.2 ⟨a, ham, rfl⟩, (hlab a).trans e⟩
        · exact ⟨_, List.mem_map.2 ⟨absN n, List.mem_map_of_mem hn, rfl⟩, (hlab _).trans e2⟩
      · intro a' ha' y hy
        obtain ⟨a, ham, rfl⟩ := List.mem_map.1 ha'
        by_cases e : a.1 = l
        · rw [if_pos e] at hy ⊢
          simp only [List.mem_append, List.mem_singleton] at hy
          rcases hy with hy | rfl
          · have := h.late (absN n) (List.mem_map_of_mem hn) y hy
            have hl : (absN n).2.1 = S[at_ S l].2 := e3
            show y.1 ≤ t
            omega
          · exact Int.le_refl _
        · rw [if_neg e] at hy ⊢
          exact h.late a ham y hy
      · intro a' ha'
        obtain ⟨a, ham, rfl⟩ := List.mem_map.1 ha'
        by_cases e : a.1 = l
        · rw [if_pos e]
          show InOrder ((absN n).2.2 ++ [(t, x)])
          unfold InOrder
          rw [List.pairwise_append]
          refine ⟨h.order _ (List.mem_map_of_mem hn), by simp, ?_⟩
          intro y hy z hz
          simp only [List.mem_singleton] at hz
          subst hz
          have := h.late (absN n) (List.mem_map_of_mem hn) y hy
          have hl : (absN n).2.1 = S[at_ S l].2 := e3
          show y.1 ≤ t
          omega
        · rw [if_neg e]
          exact h.order a ham
    · rw [dif_neg hk] at hc' ⊢
      by_cases h5 : 6 ≤ S.length
      · rw [if_pos h5] at hc'; simp at hc'
      rw [if_neg h5] at hc' ⊢
      by_cases h6 : 300 ≤ L.length
      · rw [if_pos h6] at hc'; simp at hc'
      rw [if_neg h6]
      have hex : ¬ ∃ n ∈ ns, n.lab = l := fun hh => hk ((h.there l).1 hh)
      rw [if_neg hex]
      have hnl : ∀ a ∈ ns.map absN, a.1 ≠ l := by
        intro a ham e
        obtain ⟨n, hn, rfl⟩ := List.mem_map.1 ham
        exact hex ⟨n, hn, e⟩
      have hLl : ∀ r ∈ L, r.1 ≠ l := by
        intro r hr e
        obtain ⟨a, ham, e2⟩ := h.all r hr
        exact hnl a ham (e2.trans e)
      have hfl : (L ++ [(l, t, x)]).filter (fun r => r.1 == l) = [(l, t, x)] := by
        rw [List.filter_append]
        have : L.filter (fun r => r.1 == l) = [] := by
          rw [List.filter_eq_nil_iff]
          intro r hr
          simpa using hLl r hr
        simp [this]
      have hfo : ∀ k, k ≠ l → (L ++ [(l, t, x)]).filter (fun r => r.1 == k) = L.filter (fun r => r.1 == k) := by
        intro k hkl
        rw [List.filter_append]
        have : (l == k) = false := by simpa using fun e => hkl (Eq.symm e)
        simp [this]
      have hsp := place_spec h.rising l
      refine ⟨?_, ?_, ?_, ?_, ?_, ?_, ?_, ?_, by simp; omega, by simp; omega⟩
      · rw [List.map_append, List.map_append, List.map_take, List.map_drop]
        refine ris_ins h.ris ?_ ?_
        · intro y hy
          rw [← List.map_take, ← List.map_take, List.map_map] at hy
          obtain ⟨n, hn, rfl⟩ := List.mem_map.1 hy
          obtain ⟨j, hj, rfl⟩ := List.getElem_of_mem hn
          simp only [List.length_take] at hj
          rw [List.getElem_take]
          exact hsp.1 j (by omega) (by omega)
        · intro y hy
          rw [← List.map_drop, ← List.map_drop, List.map_map] at hy
          obtain ⟨n, hn, rfl⟩ := List.mem_map.1 hy
          have hmem := List.mem_of_mem_drop hn
          obtain ⟨j, hj, rfl⟩ := List.getElem_of_mem hn
          simp only [List.length_drop] at hj
          rw [List.getElem_drop] at hmem ⊢
          have hf := hsp.2 (place ns l + j) (by omega) (by omega)
          rcases less_total _ _ hf with e | e
          · exact absurd ⟨_, hmem, e⟩ hex
          · exact e
      · rw [List.map_append]
        show (S.map (·.1) ++ [l]).Nodup
        rw [List.nodup_append]
        refine ⟨h.uniq, by simp, ?_⟩
        intro a ha b hb
        simp only [List.mem_singleton] at hb
        subst hb
        obtain ⟨y, hy, rfl⟩ := List.mem_map.1 ha
        obtain ⟨c, hc1, rfl⟩ := (h.mem y).1 hy
        exact hnl c hc1
      · have := h.len
        have hpl := place_le ns l
        simp only [List.length_append, List.length_take, List.length_drop, List.length_singleton, List.length_map] at this ⊢
        omega
      · intro y
        constructor
        · intro hy
          rcases List.mem_append.1 hy with hy | hy
          · obtain ⟨a, ham, e⟩ := (h.mem y).1 hy
            exact ⟨a, (mem_ins (ns.map absN) (l, t, [(t, x)]) a (place ns l)).2 (.inr ham), e⟩
          · simp only [List.mem_singleton] at hy
            subst hy
            exact ⟨(l, t, [(t, x)]), (mem_ins (ns.map absN) (l, t, [(t, x)]) (l, t, [(t, x)]) (place ns l)).2 (.inl rfl), rfl⟩
        · rintro ⟨a, ha, rfl⟩
          rcases (mem_ins (ns.map absN) (l, t, [(t, x)]) a (place ns l)).1 ha with rfl | ha
          · exact List.mem_append.2 (.inr (by simp))
          · exact List.mem_append.2 (.inl ((h.mem _).2 ⟨a, ha, rfl⟩))
      · intro a ha
        rcases (mem_ins (ns.map absN) (l, t, [(t, x)]) a (place ns l)).1 ha with rfl | ha
        · rw [hfl]; rfl
        · rw [hfo _ (hnl a ha)]; exact h.lines a ha
      · intro r hr
        simp only [List.mem_append, List.mem_singleton] at hr
        rcases hr with hr | rfl
        · obtain ⟨a, ham, e⟩ := h.all r hr
          exact ⟨a, (mem_ins _ _ _ _).2 (.inr ham), e⟩
        · exact ⟨(l, t, [(t, x)]), (mem_ins _ _ _ _).2 (.inl rfl), rfl⟩
      · intro a ha y hy
        rcases (mem_ins (ns.map absN) (l, t, [(t, x)]) a (place ns l)).1 ha with rfl | ha
        · simp only [List.mem_singleton] at hy
          subst hy
          exact Int.le_refl _
        · exact h.late a ha y hy
      · intro a ha
        rcases (mem_ins (ns.map absN) (l, t, [(t, x)]) a (place ns l)).1 ha with rfl | ha
        · exact List.pairwise_singleton _ _
        · exact h.order a ha
  · have hc' := hc
    rw [h.code] at hc'
    unfold pushedA
    rw [if_neg hc]
    unfold pushR at hc' ⊢
    split at hc' <;> rename_i h1
    · rw [if_pos h1]; exact h
    rw [if_neg h1]
    split at hc' <;> rename_i h2
    · rw [if_pos h2]; exact h
    rw [if_neg h2]
    split at hc' <;> rename_i h3
    · rw [if_pos h3]; exact h
    rw [if_neg h3]
    split at hc' <;> rename_i hk
    · rw [dif_pos hk]
      split at hc' <;> rename_i h4
      · rw [if_pos h4]; exact h
      rw [if_neg h4]
      split at hc' <;> rename_i h6
      · rw [if_pos h6]; exact h
      · exact absurd rfl hc'
    · rw [dif_neg hk]
      split at hc' <;> rename_i h5
      · rw [if_pos h5]; exact h
      rw [if_neg h5]
      split at hc' <;> rename_i h6
      · rw [if_pos h6]; exact h
      · exact absurd rfl hc'


theorem filter_comm (L : List Rw) (k : List UInt8) (b : Int) : ((L.filter (fun x => decide (b ≤ x.2.1))).filter (fun r => r.1 == k)).map (fun r => (r.2.1, r.2.2)) = ((L.filter (fun r => r.1 == k)).map (fun r => (r.2.1, r.2.2))).filter (fun x => decide (b ≤ x.1)) := by
  rw [List.filter_map, List.filter_filter, List.filter_filter]
  congr 2
  funext r
  simp [Bool.and_comm]

theorem gone_kept (ls : List Ln) (b : Int) : goneN ls b + (ls.filter (fun x => decide (b ≤ x.1))).length = ls.length := by
  unfold goneN
  induction ls with
  | nil => rfl
  | cons x ls ih =>
    by_cases e : x.1 < b
    · have e2 : ¬ b ≤ x.1 := by omega
      simp [e, e2]; omega
    · have e2 : b ≤ x.1 := by omega
      simp [e, e2]; omega

theorem RelA.drop {ns : List Node} {S : List Strm} {L : List Rw} (h : RelA (ns.map absN) S L) (b : Int) : dropI ns b = (dropR L b).1 ∧ dropE b = (dropR L b).2.1 ∧ RelA (dropA ns b) S (dropR L b).2.2 := by
  unfold dropI dropE dropA dropR
  by_cases hb : timeB b = true
  · have hb' : ¬ timeB b = false := by simp [hb]
    rw [if_pos hb, if_pos hb, if_pos hb, if_neg hb']
    have hR : RelA ((ns.map absN).map (cutN b)) S (L.filter (fun x => decide (b ≤ x.2.1))) := by
      refine ⟨?_, h.uniq, by simpa using h.len, ?_, ?_, ?_, ?_, ?_, h.six, Nat.le_trans (List.length_filter_le _ _) h.many⟩
      · rw [List.map_map]
        exact h.ris
      · intro y
        rw [h.mem]
        constructor
        · rintro ⟨a, ha, e⟩; exact ⟨_, List.mem_map_of_mem ha, e⟩
        · rintro ⟨a', ha', e⟩
          obtain ⟨a, ha, rfl⟩ := List.mem_map.1 ha'
          exact ⟨a, ha, e⟩
      · intro a' ha'
        obtain ⟨a, ha, rfl⟩ := List.mem_map.1 ha'
        show a.2.2.filter (fun x => decide (b ≤ x.1)) = _
        show _ = ((L.filter (fun x => decide (b ≤ x.2.1))).filter (fun r => r.1 == a.1)).map (fun r => (r.2.1, r.2.2))
        rw [filter_comm, ← h.lines a ha]
      · intro r hr
        obtain ⟨a, ha, e⟩ := h.all r (List.mem_filter.1 hr).1
        exact ⟨_, List.mem_map_of_mem ha, e⟩
      · intro a' ha' x hx
        obtain ⟨a, ha, rfl⟩ := List.mem_map.1 ha'
        exact h.late a ha x (List.mem_filter.1 hx).1
      · intro a' ha'
        obtain ⟨a, ha, rfl⟩ := List.mem_map.1 ha'
        exact (h.order a ha).filter _
    refine ⟨?_, rfl, hR⟩
    have h1 := h.total
    have h2 := sum_filter (((ns.map absN).map (cutN b)).map (·.1)) (ris_nodup hR.ris) (L.filter (fun x => decide (b ≤ x.2.1))) (fun r hr => by
      obtain ⟨a, ha, e⟩ := hR.all r hr
      exact List.mem_map.2 ⟨a, ha, e⟩)
    have h3 : ∀ ms : List Node, goneAll ms b + (ms.map (fun n => (n.lines.filter (fun x => decide (b ≤ x.1))).length)).sum = Go.Proofs.YtbljamcdaoofbaaGreatDoor.total ms := by
      intro ms
      induction ms with
      | nil => rfl
      | cons m ms ih =>
        have := gone_kept m.lines b
        simp only [goneAll, Go.Proofs.YtbljamcdaoofbaaGreatDoor.total, List.map_cons, List.sum_cons] at ih ⊢
        omega
    have h4 : (ns.map (fun n => (n.lines.filter (fun x => decide (b ≤ x.1))).length)).sum = (L.filter (fun x => decide (b ≤ x.2.1))).length := by
      rw [← h2, List.map_map, List.map_map, List.map_map]
      congr 1
      apply List.map_congr_left
      intro n hn
      have := congrArg List.length (hR.lines _ (List.mem_map_of_mem (List.mem_map_of_mem hn)))
      simpa [absN, cutN] using this
    have h5 := h3 ns
    show (goneAll ns b : Int) = (L.length : Int) - _
    omega
  · have hb' : timeB b = false := by simpa using hb
    rw [if_neg hb, if_neg hb, if_neg hb, if_pos hb']
    exact ⟨rfl, rfl, h⟩

theorem RelA.empty : RelA [] [] [] :=
  ⟨List.Pairwise.nil, by simp, rfl, fun y => by simp, fun a ha => by simp at ha, fun r hr => by simp at hr, fun a ha => by simp at ha, fun a ha => by simp at ha, by simp, by simp⟩

end Go.Proofs.YtbljamcdaoofbaaGreatDoor

/- The law's small helpers. -/
namespace Go.Proofs.YtbljamcdaoofbaaGreatDoor
open Go.RowKit

set_option maxHeartbeats 400000 in
theorem num_any (n : Int) (w : World) : Calls Tryz.prog 57 #[.int .i64 n] w fun e w' => e = .returned (.int .i64 n) ∧ w' = w := by
  go_enter Tryz.func57, Tryz.ntmps57
  go_wp2
  go_ret
  exact ⟨rfl, rfl⟩

theorem tmod_nat {c n : Int} (h0 : 0 ≤ c) (hn : 0 < n) : ∃ k : Nat, c.tmod n = k ∧ (k : Int) < n := by
  refine ⟨(c % n).toNat, ?_, ?_⟩
  · rw [Int.tmod_eq_emod_of_nonneg h0]
    have := Int.emod_nonneg c (show n ≠ 0 by omega)
    omega
  · have h1 := Int.emod_nonneg c (show n ≠ 0 by omega)
    have h2 := Int.emod_lt_of_pos c hn
    omega

set_option maxRecDepth 10000 in
set_option maxHeartbeats 400000 in
theorem pick_any (c : Int) (n : Nat) (w : World) (h1 : -9223372036854775808 ≤ c) (h2 : c ≤ 9223372036854775807) (hn : 0 < n) (hn2 : n ≤ 4194304) :
    Calls Tryz.prog 33 #[.int .i64 c, .int .i64 n] w fun e w' => (∃ k : Nat, k < n ∧ e = .returned (.int .i64 k)) ∧ w' = w := by
  have hnz : ((n : Int) == 0) = false := by simp; omega
  by_cases hc : c < 0
  · go_enter Tryz.func33, Tryz.ntmps33
    go_wp2
    go_ret
    obtain ⟨k, h3, h4⟩ := tmod_nat (c := -(c + 1)) (n := n) (by omega) (by omega)
    refine ⟨⟨k, by omega, ret_int ?_⟩, rfl⟩
    rw [← h3, Int.neg_tmod]
  · go_enter Tryz.func33, Tryz.ntmps33
    go_wp2
    go_ret
    have h3 := Int.emod_nonneg c (show (n : Int) ≠ 0 by omega)
    have h4 := Int.emod_lt_of_pos c (show (0 : Int) < n by omega)
    exact ⟨⟨(c % n).toNat, by omega, ret_int (by omega)⟩, rfl⟩

theorem convert_one (w : World) (c : Int) : (convert 95 9 (.slice (some ⟨w.heap.size, 0, none⟩) 1 1)).run Tryz.prog (w.alloc (.cells #[.int .u8 c] 5)) = .ok (.string ⟨#[UInt8.ofNat c.toNat]⟩) (w.alloc (.cells #[.int .u8 c] 5)) := by
  have hl : (loadCells ⟨w.heap.size, 0, none⟩ 1).run Tryz.prog (w.alloc (.cells #[.int .u8 c] 5)) = .ok (([c] : List Int).map (Value.int .u8)).toArray (w.alloc (.cells #[.int .u8 c] 5)) := by
    have := run_loadCells_list (P := Tryz.prog) (w.alloc (.cells #[.int .u8 c] 5)) ⟨w.heap.size, 0, none⟩ [.int .u8 c] (fun j v hj => cells_new w [.int .u8 c] 5 _ rfl j v hj)
    simpa using this
  rw [run_convert_bytes_string _ 95 9 5 _ 1 1 Tryz.underlying95 Tryz.underlying5 Tryz.underlying9, run_bytesToString _ _ 1 1 [c] hl]
  rfl

theorem digit_byte (k : Nat) : UInt8.ofNat ((48 + (k : Int) % 10)).toNat = 48 + UInt8.ofNat (k % 10) := by
  have h : (48 + (k : Int) % 10).toNat = 48 + k % 10 := by omega
  rw [h, UInt8.ofNat_add]
  rfl

theorem bytes_append (a l : List UInt8) : (⟨a.toArray⟩ : ByteArray) ++ (⟨l.toArray⟩ : ByteArray) = ⟨(a ++ l).toArray⟩ := by
  apply ByteArray.ext
  simp [ByteArray.data_append]

def emptyOf : Value → Nat
  | .string b => if b.size = 0 then 1 else 0
  | _ => 0

/-- the digits of a number ahead of some bytes -/
def wordGo : Nat → Nat → List UInt8 → List UInt8
  | 0, _, s => s
  | f + 1, n, s => if 0 < n ∨ s = [] then wordGo f (n / 10) ((48 + UInt8.ofNat (n % 10)) :: s) else s
def wordL (n : Nat) : List UInt8 := [109, 97, 114, 107, 32] ++ wordGo (n + 2) n []

set_option maxRecDepth 10000 in
set_option maxHeartbeats 1000000 in
theorem word_any (n : Nat) (w : World) (hn : n ≤ 4194304) :
    Calls Tryz.prog 62 #[.int .i64 n] w fun e w' => e = .returned (SV (wordL n)) ∧ Below w.heap.size w w' := by
  go_enter Tryz.func62, Tryz.ntmps62
  go_wp2
  go_loopw [0, 3] (fun m s wr => ∃ (k f : Nat) (l : List UInt8), k ≤ n ∧ k < f ∧ m = .int .i64 k ∧ s = .string ⟨l.toArray⟩ ∧ l.length + f ≤ n + 2 ∧ wordGo (n + 2) n [] = wordGo f k l ∧ (l = [] → 1 < f) ∧ Below w.heap.size w wr) (fun m s _ => 2 * (intOf m).toNat + emptyOf s)
  case atStart => exact ⟨n, n + 2, [], by omega, by omega, rfl, rfl, by simp, rfl, fun _ => by omega, Below.refl _ _⟩
  case round =>
    obtain ⟨k, f, l, hk, hkf, rfl, rfl, hlf, hgo, hl1, hbel⟩ := hrel
    have HG := hide hgo
    have HL := hide hl1
    clear hgo hl1
    by_cases hp : 0 < k
    · have hcv := convert_one wr (48 + (k : Int) % 10)
      rw [digit_byte] at hcv
      obtain ⟨f', rfl⟩ : ∃ f', f = f' + 1 := ⟨f - 1, by omega⟩
      go_wp2
      go_roundw
      case rel =>
        refine ⟨k / 10, f', (48 + UInt8.ofNat (k % 10)) :: l, by omega, by omega, by go_num, ?_, by simp; omega, ?_, fun e => by simp at e, hbel.alloc hbel.size _⟩
        · rw [show (⟨#[48 + UInt8.ofNat (k % 10)]⟩ : ByteArray) = ⟨[48 + UInt8.ofNat (k % 10)].toArray⟩ from rfl, bytes_append]
          rfl
        · rw [unhide HG, wordGo, if_pos (.inl hp)]
      case measure =>
        have e0 : emptyOf (.string (⟨#[48 + UInt8.ofNat (k % 10)]⟩ ++ ⟨l.toArray⟩)) = 0 := by
          rw [show (⟨#[48 + UInt8.ofNat (k % 10)]⟩ : ByteArray) = ⟨[48 + UInt8.ofNat (k % 10)].toArray⟩ from rfl, bytes_append]
          simp [emptyOf, ByteArray.size]
        rw [e0]
        simp [intOf]
        omega
    · have hk0 : k = 0 := by omega
      subst hk0
      by_cases hl0 : l = []
      · subst hl0
        have hf := unhide HL rfl
        obtain ⟨f', rfl⟩ : ∃ f', f = f' + 1 := ⟨f - 1, by omega⟩
        have hcv := convert_one wr 48
        rw [show UInt8.ofNat (48 : Int).toNat = 48 from rfl] at hcv
        go_wp2
        go_roundw
        case rel =>
          refine ⟨0, f', [48], by omega, by omega, rfl, ?_, by simp at hlf ⊢; omega, ?_, fun e => by simp at e, hbel.alloc hbel.size _⟩
          · first | rfl | (rw [show (⟨#[48]⟩ : ByteArray) = ⟨[48].toArray⟩ from rfl, show (⟨#[]⟩ : ByteArray) = ⟨([] : List UInt8).toArray⟩ from rfl, bytes_append]; rfl)
          · rw [unhide HG, wordGo, if_pos (.inr rfl)]; rfl
        case measure => simp [intOf, emptyOf, ByteArray.size]
      · have hle : (l == ([] : List UInt8)) = false := by simpa using hl0
        obtain ⟨f', rfl⟩ : ∃ f', f = f' + 1 := ⟨f - 1, by omega⟩
        have HW := hide (show wordL n = [109, 97, 114, 107, 32] ++ l by rw [wordL, unhide HG, wordGo, if_neg (by simp [hl0])])
        clear hl0
        go_wp2
        go_ret
        refine ⟨?_, hbel⟩
        rw [unhide HW]
        show Ending.returned (.string (⟨[109, 97, 114, 107, 32].toArray⟩ ++ ⟨l.toArray⟩)) = _
        rw [bytes_append]

end Go.Proofs.YtbljamcdaoofbaaGreatDoor

/- The book of the lists that came out: one list more. -/
namespace Go.Proofs.YtbljamcdaoofbaaGreatDoor
open Go.RowKit

theorem Tryz.info33 : (Tryz.prog.info? 33).map (fun i => (i.zero, i.size, i.bytes)) = some (some (.slice none 0 0), 1, 24) := by kernel_rfl

section
variable {P : Program} (w : World)

/-- an append: and what has become of the cells of the old row -/
theorem run_append_keep (t ty e : TypeId) (i : TypeInfo) (z : Value) (size bytes : Nat) (ht : P.underlying t = some (.slice e)) (hi : P.info? e = some i) (hz : i.zero = some z)
    (hsize : i.size = size) (hby : i.bytes = bytes) (hzs : z.cells.size = size) (hsz : 0 < size)
    (v : Value) (n : Nat) (xs : List Value) (hown : w.ownsRow 0 e size v n xs)
    (a : Addr) (m c : Nat) (news : List Value) (hl : news.length = m * size) (hnews : ∀ j u, news[j]? = some u → w.cell? (a.add j) = some u) (h1 : ∀ u ∈ news, u.oneCell' = true)
    (h63 : n + m ≤ maxLen) (hbytes : (n + m) * bytes ≤ 140737488355328) :
    ∃ v' w', (Builtin.append_ #[t, t] ty #[v, .slice (some a) m c]).run P w = .ok v' w' ∧ w'.ownsRow 0 e size v' (n + m) (xs ++ news) ∧ w.grownBy w' v.ownBlock ∧
      (v'.ownBlock = v.ownBlock ∨ v'.ownBlock = some w.heap.size) ∧ w'.ownsRow 0 e size v n xs ∧ (∀ g, v.ownBlock = some g → ∀ j, w'.cell? ⟨g, j, none⟩ = w.cell? ⟨g, j, none⟩ ∨ ∃ u ∈ news, w'.cell? ⟨g, j, none⟩ = some u) := by
  obtain ⟨v', w', hr, ho, hg, hwh⟩ := run_append_at (P := P) w 0 t ty e i z size bytes ht hi hz hsize hby hzs hsz v n xs hown (some a) m c news hl (fun h => by cases h) (by rintro _ ⟨⟩; exact hnews) h1 h63 hbytes (Nat.zero_le _)
  refine ⟨v', w', hr, ho, hg, hwh, ?_⟩
  subst hsize
  rcases hown.2 with ⟨rfl, rfl⟩ | ⟨g, cap, cur, rfl, hbg, hgg, hnc, hcm, hcs, htake⟩
  · exact ⟨⟨hown.1, .inl ⟨rfl, rfl⟩⟩, fun g hgo => by cases hgo⟩
  · by_cases hroom : n + m ≤ cap
    · have hfit : n * i.size + news.length ≤ cur.size := by rw [hl, hcs, ← Nat.add_mul]; exact Nat.mul_le_mul_right _ hroom
      have hr' := run_append_room (P := P) w t ty e i ht hi g n cap cur hgg a m c news hl hnews h1 hroom hfit
      rw [hr'] at hr
      simp only [Result.ok.injEq] at hr
      obtain ⟨rfl, rfl⟩ := hr
      have hh := setRow_heap w g cur (cur.toList.take (n * i.size) ++ news ++ cur.toList.drop (n * i.size + news.length)).toArray e (0, 0) hgg
      have hxl : xs.length = n * i.size := hown.1
      have hcl : cur.toList.length = cur.size := Array.length_toList
      refine ⟨⟨hown.1, .inr ⟨g, cap, _, rfl, hbg, hh, hnc, hcm, ?_, ?_⟩⟩, ?_⟩
      · simp only [List.size_toArray, List.length_append, List.length_take, List.length_drop]
        omega
      · rw [htake, List.append_assoc, ← hxl]
        exact List.take_left
      · rintro g' ⟨⟩ j
        rw [cell_of_row _ g j _ e (0, 0) hh, cell_of_row _ g j cur e (0, 0) hgg]
        have htl : (cur.toList.take (n * i.size)).length = n * i.size := by simp; omega
        rw [List.getElem?_toArray, List.append_assoc]
        by_cases hj1 : j < n * i.size
        · left
          rw [List.getElem?_append_left (by omega), List.getElem?_take, if_pos hj1]
          simp
        · rw [List.getElem?_append_right (by omega), htl]
          by_cases hj2 : j - n * i.size < news.length
          · right
            rw [List.getElem?_append_left hj2]
            exact ⟨news[j - n * i.size], List.getElem_mem hj2, List.getElem?_eq_getElem hj2⟩
          · left
            rw [List.getElem?_append_right (by omega), List.getElem?_drop]
            have : n * i.size + news.length + (j - n * i.size - news.length) = j := by omega
            rw [this]
            simp
    · have hsame : w'.heap[g]? = w.heap[g]? := by
        have holds : ∀ j u, xs[j]? = some u → w.cell? ((⟨g, 0, none⟩ : Addr).add j) = some u := hown.cells (g := g) rfl
        subst hby
        have hr' := run_append_grow (P := P) w t ty e i z ht hi hz ⟨g, 0, none⟩ n cap xs hown.1 holds a m c news hl hnews (by omega) (by simp only [maxLen] at h63; omega) (growslice_fits (by omega) hbytes)
        rw [hr'] at hr
        simp only [Result.ok.injEq] at hr
        obtain ⟨-, rfl⟩ := hr
        exact Go.RowKit.Below.heap_alloc w.drew _ g (Array.getElem?_eq_some_iff.1 hgg).1
      refine ⟨ownsRow_same hown (by rintro _ ⟨⟩; exact hsame), ?_⟩
      rintro g' ⟨⟩ j
      exact .inl (World.cell?_of_block (a := ⟨g, j, none⟩) hsame)

theorem wpList_append_keep {ops : Array Oper} {rest : List Oper} {o : Oper} {a : Act} {Q : Exit → Act → World → Prop} (hgd : o.guard = none) (s x : Operand) (t : TypeId)
    (ho : o.op = .call { callee := .builtin .append, args := #[s, x], argTypes := #[t, t] })
    (e : TypeId) (i : TypeInfo) (z : Value) (size bytes : Nat) (ht : P.underlying t = some (.slice e)) (hi : P.info? e = some i) (hz : i.zero = some z)
    (hsize : i.size = size) (hby : i.bytes = bytes) (hzs : z.cells.size = size) (hsz : 0 < size)
    (v : Value) (n : Nat) (xs : List Value) (hs : a.eval s = v) (hown : w.ownsRow 0 e size v n xs)
    (ad : Addr) (m c : Nat) (news : List Value) (hx : a.eval x = .slice (some ad) m c) (hl : news.length = m * size) (hnews : ∀ j u, news[j]? = some u → w.cell? (ad.add j) = some u) (h1 : ∀ u ∈ news, u.oneCell' = true)
    (h63 : n + m ≤ maxLen) (hbytes : (n + m) * bytes ≤ 140737488355328)
    (h : ∀ v' w', w'.ownsRow 0 e size v' (n + m) (xs ++ news) → w.grownBy w' v.ownBlock → (v'.ownBlock = v.ownBlock ∨ v'.ownBlock = some w.heap.size) → w'.ownsRow 0 e size v n xs →
      (∀ g, v.ownBlock = some g → ∀ j, w'.cell? ⟨g, j, none⟩ = w.cell? ⟨g, j, none⟩ ∨ ∃ u ∈ news, w'.cell? ⟨g, j, none⟩ = some u) → wpList P ops Q rest (a.put o.dst v') w') : wpList P ops Q (o :: rest) a w := by
  obtain ⟨v', w', hr, h2, h3, h4, h5, h6⟩ := run_append_keep (P := P) w t o.type e i z size bytes ht hi hz hsize hby hzs hsz v n xs hown ad m c news hl hnews h1 h63 hbytes
  refine wpList_plain hgd fun K hK => ?_
  unfold Oper.wp execOp
  simp only [ho, resolve, invoke, builtin, Sem.run_bind, Sem.run_pure, Result.andThen_ok, List.map_toArray, List.map_cons, List.map_nil, hs, hx, hr]
  exact hK _ _ (h v' w' h2 h3 h4 h5 h6)
end

/-- a list that its owner has written full -/
def MarkAt (w : World) (v X : Value) : Prop :=
  ∃ ao n cap, v = .slice ao n cap ∧ n ≤ 9 ∧ (ao = none → n = 0) ∧ (∀ a, ao = some a → a.off = 0 ∧ a.spot = none ∧ a.block < w.heap.size ∧ ∀ j, j < n → w.cell? ⟨a.block, j, none⟩ = some X)

theorem mark_of_row {w : World} {v X : Value} {n : Nat} (h : w.ownsRow 0 9 1 v n (List.replicate n X)) (hn : n ≤ 9) : MarkAt w v X := by
  obtain ⟨ao, cap, rfl, -, -, hnil, hao, hcell, -⟩ := owns_form h
  refine ⟨ao, n, cap, rfl, hn, fun e => (hnil e).1, fun a ha => ?_⟩
  obtain ⟨h1, h2, -, h4⟩ := hao a ha
  refine ⟨h1, h2, h4, fun j hj => ?_⟩
  rw [hcell a ha j (by omega)]
  simp [hj]

/-- a list that is written full stays so, where its cells stay or get the mark once more -/
theorem MarkAt.keep {w w' : World} {v X : Value} (h : MarkAt w v X) (hs : w.heap.size ≤ w'.heap.size) (hk : ∀ g, v.ownBlock = some g → g < w.heap.size → ∀ j, w'.cell? ⟨g, j, none⟩ = w.cell? ⟨g, j, none⟩ ∨ w'.cell? ⟨g, j, none⟩ = some X) : MarkAt w' v X := by
  obtain ⟨ao, n, cap, rfl, hn, hnil, hao⟩ := h
  refine ⟨ao, n, cap, rfl, hn, hnil, fun a ha => ?_⟩
  obtain ⟨h1, h2, h3, h4⟩ := hao a ha
  refine ⟨h1, h2, by omega, fun j hj => ?_⟩
  subst ha
  rcases hk a.block rfl h3 j with e | e
  · rw [e]; exact h4 j hj
  · exact e

theorem MarkAt.grown {w w' : World} {v u X : Value} {news : List Value} (h : MarkAt w v X) (hg : w.grownBy w' u.ownBlock) (hnews : ∀ y ∈ news, y = X)
    (hc : ∀ g, u.ownBlock = some g → ∀ j, w'.cell? ⟨g, j, none⟩ = w.cell? ⟨g, j, none⟩ ∨ ∃ y ∈ news, w'.cell? ⟨g, j, none⟩ = some y) : MarkAt w' v X := by
  refine h.keep hg.size fun g _ hgl j => ?_
  by_cases e : u.ownBlock = some g
  · rcases hc g e j with e1 | ⟨y, hy, e1⟩
    · exact .inl e1
    · right; rw [e1, hnews y hy]
  · exact .inl (World.cell?_of_block (a := ⟨g, j, none⟩) (hg.block g hgl (fun e' => e e'.symm)))

end Go.Proofs.YtbljamcdaoofbaaGreatDoor
