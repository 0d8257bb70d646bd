/- The program's look at labels and the reference's come to one. -/
import Derived.Test.YtbljamcdaoofbaaGreatDoorLabel
namespace Go.Proofs.YtbljamcdaoofbaaGreatDoor

theorem foldl_cut (c : UInt8) (l : List UInt8) : ∀ (d : List (List UInt8)) (cur : List UInt8),
    l.foldl (fun st x => if x = c then (st.1 ++ [st.2], []) else (st.1, st.2 ++ [x])) (d, cur) =
      (d ++ (match cutSt c l with | ([], _) => ([] : List (List UInt8)) | (x :: xs, _) => (cur ++ x) :: xs), match cutSt c l with | ([], y) => cur ++ y | (_ :: _, y) => y) := by
  induction l with
  | nil => intro d cur; simp [cutSt]
  | cons x l ih =>
    intro d cur
    rw [List.foldl_cons]
    by_cases h : x = c
    · rw [if_pos h, ih]
      have h2 : cutSt c (x :: l) = ([] :: (match cutSt c l with | ([], _) => ([] : List (List UInt8)) | (x :: xs, _) => ([] ++ x) :: xs), match cutSt c l with | ([], y) => [] ++ y | (_ :: _, y) => y) := by
        rw [cutSt, List.foldl_cons, if_pos h, ih]; simp
      rw [h2]
      simp
    · rw [if_neg h, ih]
      have h2 : cutSt c (x :: l) = ((match cutSt c l with | ([], _) => ([] : List (List UInt8)) | (z :: xs, _) => ([x] ++ z) :: xs), match cutSt c l with | ([], y) => [x] ++ y | (_ :: _, y) => y) := by
        rw [cutSt, List.foldl_cons, if_neg h, ih]; simp
      rw [h2]
      rcases cutSt c l with ⟨_ | ⟨z, xs⟩, y⟩ <;> simp

/-- the pieces of a text: the first one, and those of what is behind it -/
theorem cutL_cons_hit (c : UInt8) (l : List UInt8) : cutL c (c :: l) = [] :: cutL c l := by
  have h2 : cutSt c (c :: l) = ([] :: (match cutSt c l with | ([], _) => ([] : List (List UInt8)) | (x :: xs, _) => ([] ++ x) :: xs), match cutSt c l with | ([], y) => [] ++ y | (_ :: _, y) => y) := by
    rw [cutSt, List.foldl_cons, if_pos rfl, foldl_cut]; simp
  rw [cutL, cutL, h2]
  rcases cutSt c l with ⟨_ | ⟨z, xs⟩, y⟩ <;> simp
theorem cutL_cons_miss (c x : UInt8) (l : List UInt8) (h : x ≠ c) : cutL c (x :: l) = match cutL c l with | [] => [] | y :: ys => (x :: y) :: ys := by
  have h2 : cutSt c (x :: l) = ((match cutSt c l with | ([], _) => ([] : List (List UInt8)) | (z :: xs, _) => ([x] ++ z) :: xs), match cutSt c l with | ([], y) => [x] ++ y | (_ :: _, y) => y) := by
    rw [cutSt, List.foldl_cons, if_neg h, foldl_cut]; simp
  rw [cutL, cutL, h2]
  rcases cutSt c l with ⟨_ | ⟨z, xs⟩, y⟩ <;> simp

theorem cutL_cut1 (c : UInt8) (l : List UInt8) : cutL c l = (cut1 c l).1 :: (if (cut1 c l).2.2 then cutL c (cut1 c l).2.1 else []) := by
  induction l with
  | nil => simp [cut1, cutL, cutSt]
  | cons x l ih =>
    by_cases h : x = c
    · subst h
      rw [cutL_cons_hit]
      simp [cut1]
    · rw [cutL_cons_miss c x l h, ih]
      simp [cut1, h]

/-- what stands behind a sign that may not be in a value: it is none, if that sign stands there again -/
theorem cut1_not_word (c : UInt8) (l : List UInt8) (hc : wordC true c = false) (h : (cut1 c l).2.2 = true) : wordB true l = false := by
  have hm : ∀ l : List UInt8, (cut1 c l).2.2 = true → c ∈ l := by
    intro l
    induction l with
    | nil => simp [cut1]
    | cons x l ih =>
      intro h
      by_cases e : x = c
      · simp [e]
      · simp [cut1, e] at h
        exact List.mem_cons_of_mem _ (ih h)
  have : l.all (wordC true) = false := by
    rw [Bool.eq_false_iff]
    intro hh
    rw [List.all_eq_true] at hh
    have := hh _ (hm l h)
    rw [hc] at this; cases this
  simp [wordB, this]

theorem pairL_eq (p : List UInt8) : (pairL p).2.2 = ((cut1 61 p).2.2 && wordB false (cut1 61 p).1 && wordB true (cut1 61 p).2.1) ∧ ((pairL p).2.2 = true → (pairL p).1 = (cut1 61 p).1) := by
  unfold pairL
  rw [cutL_cut1]
  generalize hq : cut1 61 p = q
  obtain ⟨q1, q2, q3⟩ := q
  cases q3
  · simp
  · simp only [if_true]
    rw [cutL_cut1]
    cases h : (cut1 61 q2).2.2
    · have hr : (cut1 61 q2).1 = q2 := by
        rcases cut1_index 61 q2 with ⟨_, h2⟩ | ⟨i, _, _, h3⟩
        · rw [h2]
        · rw [h3] at h; cases h
      simp [hr]
    · have hn := cut1_not_word 61 q2 (by decide) h
      have hne : ∃ z zs, cutL 61 (cut1 61 q2).2.1 = z :: zs := ⟨_, _, cutL_cut1 _ _⟩
      obtain ⟨z, zs, hz⟩ := hne
      simp [hz, hn]

theorem less_nil (a : List UInt8) : Op.bytesLess a [] = false := by cases a <;> rfl

theorem wordB_ne {dg : Bool} {a : List UInt8} (h : wordB dg a = true) : (a == ([] : List UInt8)) = false := by
  cases a with
  | nil => simp [wordB] at h
  | cons x a => rfl

/-- with n pairs yet: the program's look is the reference's, and that there are not more -/
theorem valid_eq (n : Nat) : ∀ (first : Bool) (prev text : List UInt8), (first = true → prev = []) →
    validGo n prev text = (labelsGo first prev (cutL 44 text) && decide ((cutL 44 text).length ≤ n)) := by
  induction n with
  | zero =>
    intro first prev text _
    have : ¬ (cutL 44 text).length ≤ 0 := by simp [cutL]
    simp [validGo, this]
  | succ n ih =>
    intro first prev text hf
    rw [validGo_succ, cutL_cut1 44 text]
    generalize cut1 44 text = P
    obtain ⟨p1, p2, p3⟩ := P
    obtain ⟨e1, e2⟩ := pairL_eq p1
    simp only [labelsGo]
    generalize cut1 61 p1 = Q at *
    obtain ⟨q1, q2, q3⟩ := Q
    simp only at e1 e2
    cases hok : (pairL p1).2.2
    · rw [hok] at e1
      have : validStep n prev (p1, p2, p3) (q1, q2, q3) = false := by
        unfold validStep
        rw [if_pos]
        revert e1
        cases q3 <;> cases wordB false q1 <;> cases wordB true q2 <;> simp
      rw [this]
      simp
    · rw [hok] at e1
      have hn := e2 hok
      have h3 : q3 = true := by revert e1; cases q3 <;> simp
      have h1 : wordB false q1 = true := by revert e1; cases wordB false q1 <;> simp
      have h2 : wordB true q2 = true := by revert e1; cases wordB true q2 <;> simp
      subst h3
      rw [hn]
      by_cases hb : (Op.bytesLess q1 prev || (q1 == prev)) = true
      · have hff : first = false := by
          cases first with
          | false => rfl
          | true =>
            rw [hf rfl, less_nil, wordB_ne h1] at hb
            cases hb
        rw [validStep_bad h1 h2 (by simpa using hb), if_pos (by rw [hff]; simp [hb])]
        simp
      · have hb' : Op.bytesLess q1 prev = false ∧ (q1 == prev) = false := by
          revert hb
          cases Op.bytesLess q1 prev <;> cases (q1 == prev) <;> simp
        rw [if_neg (by rw [hb'.1, hb'.2]; simp)]
        cases p3
        · rw [validStep_end h1 h2 hb']
          simp [labelsGo]
        · rw [validStep_more h1 h2 hb', ih false q1 p2 (by simp)]
          simp

theorem valid_labels (l : List UInt8) : validGo 4 [] l = labelsB l := valid_eq 4 true [] l (fun _ => rfl)

end Go.Proofs.YtbljamcdaoofbaaGreatDoor
