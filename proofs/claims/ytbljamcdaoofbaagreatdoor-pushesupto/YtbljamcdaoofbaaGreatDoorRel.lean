/- The program's state and the reference's: what ties them, and that each call keeps it. -/
import Derived.Test.YtbljamcdaoofbaaGreatDoorPDropAll
namespace Go.Proofs.YtbljamcdaoofbaaGreatDoor

theorem less_total : ∀ (a b : List UInt8), Op.bytesLess a b = false → a = b ∨ Op.bytesLess b a = true
  | [], [], _ => .inl rfl
  | [], _ :: _, h => by simp [Op.bytesLess] at h
  | _ :: _, [], _ => .inr rfl
  | x :: a, y :: b, h => by
    simp only [Op.bytesLess, Bool.or_eq_false_iff, Bool.and_eq_false_iff, decide_eq_false_iff_not, beq_eq_false_iff_ne] at h
    obtain ⟨h1, h2⟩ := h
    by_cases e : x = y
    · subst e
      rcases h2 with h2 | h2
      · exact absurd rfl h2
      · rcases less_total a b h2 with rfl | h3
        · exact .inl rfl
        · right; simp [Op.bytesLess, h3]
    · right
      have hlt : y < x := by
        have h1' : ¬ x.toNat < y.toNat := h1
        have e' : x.toNat ≠ y.toNat := fun hh => e (UInt8.toNat_inj.1 hh)
        show y.toNat < x.toNat
        omega
      simp [Op.bytesLess, hlt]

theorem less_ne {a b : List UInt8} (h : Op.bytesLess a b = true) : a ≠ b := by
  rintro rfl
  rw [less_irrefl] at h
  cases h
theorem less_asymm {a b : List UInt8} (h : Op.bytesLess a b = true) : Op.bytesLess b a = false := by
  rw [Bool.eq_false_iff]
  intro h'
  have := less_trans h h'
  rw [less_irrefl] at this
  cases this

/-- texts that rise -/
def Ris (l : List (List UInt8)) : Prop := l.Pairwise (fun a b => Op.bytesLess a b = true)

theorem ris_ext : ∀ {a b : List (List UInt8)}, Ris a → Ris b → (∀ x, x ∈ a ↔ x ∈ b) → a = b
  | [], [], _, _, _ => rfl
  | [], y :: b, _, _, h => by have := (h y).2 (by simp); simp at this
  | x :: a, [], _, _, h => by have := (h x).1 (by simp); simp at this
  | x :: a, y :: b, ha, hb, h => by
    have ha' := List.pairwise_cons.1 ha
    have hb' := List.pairwise_cons.1 hb
    have hxy : x = y := by
      have h1 := (h x).1 (by simp)
      have h2 := (h y).2 (by simp)
      rcases List.mem_cons.1 h1 with e | e
      · exact e
      · rcases List.mem_cons.1 h2 with e2 | e2
        · exact e2.symm
        · have l1 := hb'.1 x e
          have l2 := ha'.1 y e2
          have := less_asymm l1
          rw [l2] at this
          cases this
    subst hxy
    rw [ris_ext ha'.2 hb'.2 (fun z => ?_)]
    constructor
    · intro hz
      have := (h z).1 (List.mem_cons_of_mem _ hz)
      rcases List.mem_cons.1 this with e | e
      · subst e
        have := ha'.1 z hz
        rw [less_irrefl] at this; cases this
      · exact e
    · intro hz
      have := (h z).2 (List.mem_cons_of_mem _ hz)
      rcases List.mem_cons.1 this with e | e
      · subst e
        have := hb'.1 z hz
        rw [less_irrefl] at this; cases this
      · exact e

/-- into rising texts, at the place -/
theorem ris_ins {l : List (List UInt8)} {s : List UInt8} {k : Nat} (h : Ris l) (h1 : ∀ x ∈ l.take k, Op.bytesLess x s = true) (h2 : ∀ x ∈ l.drop k, Op.bytesLess s x = true) : Ris (l.take k ++ [s] ++ l.drop k) := by
  unfold Ris at h ⊢
  rw [← List.take_append_drop k l, List.pairwise_append] at h
  rw [List.append_assoc, List.pairwise_append]
  refine ⟨h.1, ?_, ?_⟩
  · rw [List.singleton_append, List.pairwise_cons]
    exact ⟨h2, h.2.1⟩
  · intro a ha b hb
    rw [List.singleton_append, List.mem_cons] at hb
    rcases hb with rfl | hb
    · exact h1 a ha
    · exact h.2.2 a ha b hb

theorem mem_ins {α : Type} (l : List α) (s x : α) (k : Nat) : x ∈ l.take k ++ [s] ++ l.drop k ↔ x = s ∨ x ∈ l := by
  conv => rhs; rw [← List.take_append_drop k l]
  simp only [List.mem_append, List.mem_singleton]
  constructor
  · rintro ((h | h) | h)
    · exact .inr (.inl h)
    · exact .inl h
    · exact .inr (.inr h)
  · rintro (h | h | h)
    · exact .inl (.inr h)
    · exact .inl (.inl h)
    · exact .inr h

/-- where a text is put: all ahead of it are less, none behind it is -/
theorem putK_spec {l : List (List UInt8)} (s : List UInt8) (h : Ris l) : ∀ k, k ≤ l.length → (∀ j (hj : j < l.length), j < putK l s k → Op.bytesLess l[j] s = true) ∧ (∀ j (hj : j < l.length), putK l s k ≤ j → j < k → Op.bytesLess l[j] s = false)
  | 0, _ => ⟨fun j _ hk => by simp [putK] at hk, fun j _ _ hk => by omega⟩
  | k + 1, hk => by
    have ih := putK_spec s h k (by omega)
    have hk' : k < l.length := by omega
    have hd : l.getD k [] = l[k] := by simp [hk']
    rw [putK_succ, hd]
    split
    · rename_i hless
      refine ⟨fun j hj hjk => ?_, fun j hj h1 h2 => by omega⟩
      rcases Nat.lt_or_eq_of_le (Nat.le_of_lt_succ hjk) with g | rfl
      · exact less_trans (List.pairwise_iff_getElem.1 h j k hj hk' g) hless
      · exact hless
    · rename_i hless
      refine ⟨ih.1, fun j hj h1 h2 => ?_⟩
      by_cases e : j = k
      · subst e; simpa using hless
      · exact ih.2 j hj h1 (by omega)

theorem putL_ris {l : List (List UInt8)} (s : List UInt8) (h : Ris l) : Ris (putL l s) ∧ ∀ x, x ∈ putL l s ↔ x = s ∨ x ∈ l := by
  unfold putL
  split
  · rename_i hc
    have hm : s ∈ l := by simpa using hc
    refine ⟨h, fun x => ⟨fun hx => .inr hx, ?_⟩⟩
    rintro (rfl | hx)
    · exact hm
    · exact hx
  · rename_i hc
    have hm : s ∉ l := by simpa using hc
    have hp := putK_spec s h l.length (Nat.le_refl _)
    refine ⟨ris_ins h ?_ ?_, fun x => mem_ins l s x _⟩
    · intro x hx
      obtain ⟨j, hj, rfl⟩ := List.getElem_of_mem hx
      simp only [List.length_take] at hj
      rw [List.getElem_take]
      exact hp.1 j (by omega) (show j < putAt l s by omega)
    · intro x hx
      obtain ⟨j, hj, rfl⟩ := List.getElem_of_mem hx
      simp only [List.length_drop] at hj
      rw [List.getElem_drop]
      have hf := hp.2 (putAt l s + j) (by omega) (by show putAt l s ≤ _; omega) (by omega)
      rcases less_total _ _ hf with e | e
      · exact absurd (e ▸ List.getElem_mem _) hm
      · exact e

theorem streams_ris (S : List Strm) : ∀ l, Ris l → Ris (S.foldl (fun l x => putL l x.1) l) ∧ ∀ x, x ∈ S.foldl (fun l x => putL l x.1) l ↔ x ∈ l ∨ ∃ y ∈ S, y.1 = x := by
  induction S with
  | nil => intro l h; exact ⟨h, fun x => by simp⟩
  | cons y S ih =>
    intro l h
    rw [List.foldl_cons]
    obtain ⟨h1, h2⟩ := putL_ris y.1 h
    obtain ⟨h3, h4⟩ := ih _ h1
    refine ⟨h3, fun x => ?_⟩
    rw [h4, h2]
    constructor
    · rintro ((e | e) | ⟨z, hz, e⟩)
      · exact .inr ⟨y, by simp, e.symm⟩
      · exact .inl e
      · exact .inr ⟨z, List.mem_cons_of_mem _ hz, e⟩
    · rintro (e | ⟨z, hz, e⟩)
      · exact .inl (.inr e)
      · rcases List.mem_cons.1 hz with rfl | hz
        · exact .inl (.inl e.symm)
        · exact .inr ⟨z, hz, e⟩

/-- What ties the program's streams to the reference's streams and lines. -/
structure RelA (ps : List PA) (S : List Strm) (L : List Rw) : Prop where
  ris : Ris (ps.map (·.1))
  uniq : (S.map (·.1)).Nodup
  len : S.length = ps.length
  mem : ∀ y : Strm, y ∈ S ↔ ∃ a ∈ ps, (a.1, a.2.1) = y
  lines : ∀ a ∈ ps, a.2.2 = (L.filter (fun r => r.1 == a.1)).map (fun r => (r.2.1, r.2.2))
  all : ∀ r ∈ L, ∃ a ∈ ps, a.1 = r.1
  late : ∀ a ∈ ps, ∀ x ∈ a.2.2, x.1 ≤ a.2.1
  order : ∀ a ∈ ps, InOrder a.2.2
  six : S.length ≤ 6
  many : L.length ≤ 300

theorem RelA.streams {ps : List PA} {S : List Strm} {L : List Rw} (h : RelA ps S L) : ps.map (·.1) = streamsR S := by
  obtain ⟨h1, h2⟩ := streams_ris S [] List.Pairwise.nil
  refine ris_ext h.ris h1 fun x => ?_
  rw [streamsR, h2]
  constructor
  · intro hx
    obtain ⟨a, ha, rfl⟩ := List.mem_map.1 hx
    exact .inr ⟨(a.1, a.2.1), (h.mem _).2 ⟨a, ha, rfl⟩, rfl⟩
  · rintro (hx | ⟨y, hy, rfl⟩)
    · simp at hx
    · obtain ⟨a, ha, rfl⟩ := (h.mem y).1 hy
      exact List.mem_map.2 ⟨a, ha, rfl⟩

end Go.Proofs.YtbljamcdaoofbaaGreatDoor
