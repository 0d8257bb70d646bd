/- The reference's tokens: loamref.row, quoted. -/
import Derived.Test.YtbljamcdaoofbaaGreatDoorBaseToTok
namespace Go.Proofs.YtbljamcdaoofbaaGreatDoor
open Go.RowKit

def cls (dg : Bool) (c : UInt8) : Bool := if dg then isD c else isL c

theorem takeWhile_upto (p : UInt8 → Bool) (l : List UInt8) : ∀ (t : Nat), (∀ j (h : j < l.length), j < t → p l[j] = true) → (∀ h : t < l.length, p l[t] = false) → l.takeWhile p = l.take t := by
  induction l with
  | nil => intro t _ _; simp
  | cons c r ih =>
    intro t h1 h2
    cases t with
    | zero =>
      have := h2 (by simp)
      simp only [List.getElem_cons_zero] at this
      simp [this]
    | succ t =>
      have h0 := h1 0 (by simp) (by omega)
      simp only [List.getElem_cons_zero] at h0
      rw [List.takeWhile_cons_of_pos h0, List.take_succ_cons, ih t]
      · intro j hj hjt
        have := h1 (j + 1) (by simpa using hj) (by omega)
        simpa using this
      · intro hj
        have := h2 (by simpa using hj)
        simpa using this

theorem row_eq (dg : Bool) (l : List UInt8) (a t : Nat) (hat : a ≤ t) (ht : t ≤ l.length) (h1 : ∀ j (h : j < l.length), a ≤ j → j < t → cls dg l[j] = true) (h2 : ∀ h : t < l.length, cls dg l[t] = false) :
    (l.drop a).takeWhile (cls dg) = (l.take t).drop a := by
  rw [takeWhile_upto _ _ (t - a), List.drop_take]
  · intro j hj hjt
    rw [List.getElem_drop]
    rw [List.length_drop] at hj
    exact h1 (a + j) (by omega) (by omega) (by omega)
  · intro hj
    rw [List.getElem_drop]
    rw [List.length_drop] at hj
    have := h2 (by omega)
    simpa [show a + (t - a) = t by omega] using this

theorem SV_extract_l (l : List UInt8) (a b : Nat) : Value.string ((⟨l.toArray⟩ : ByteArray).extract a b) = SV ((l.take b).drop a) := by
  rw [SV_extract]

theorem row_ret (dg : Bool) (l : List UInt8) (a t : Nat) (hat : a ≤ t) (ht : t ≤ l.length) (h1 : ∀ j (h : j < l.length), a ≤ j → j < t → cls dg l[j] = true) (h2 : ∀ h : t < l.length, cls dg l[t] = false) :
    Value.string ((⟨l.toArray⟩ : ByteArray).extract a t) = SV ((l.drop a).takeWhile (cls dg)) := by
  rw [row_eq dg l a t hat ht h1 h2, SV_extract_l]

theorem row_step {dg : Bool} {l : List UInt8} {a t : Nat} (ht : t < l.length) (h1 : ∀ j (h : j < l.length), a ≤ j → j < t → cls dg l[j] = true) (h2 : cls dg l[t] = true) :
    ∀ j (h : j < l.length), a ≤ j → j < t + 1 → cls dg l[j] = true := by
  intro j hj h3 h4
  by_cases e : j = t
  · subst e; exact h2
  · exact h1 j hj h3 (by omega)

set_option maxRecDepth 10000 in
set_option maxHeartbeats 1000000 in
theorem row_any (l : List UInt8) (a : Nat) (dg : Bool) (w : World) (ha : a ≤ l.length) (hl : l.length ≤ 1048576) :
    Calls Tryz.prog 171 #[.string ⟨l.toArray⟩, .int .i64 a, .bool dg] w fun e w' => e = .returned (SV ((l.drop a).takeWhile (cls dg))) ∧ w' = w := by
  go_enter Tryz.func171, Tryz.ntmps171
  go_wp2
  go_loop [7] (fun i => ∃ t : Nat, a ≤ t ∧ t ≤ l.length ∧ i = .int .i64 t ∧ (∀ j (h : j < l.length), a ≤ j → j < t → cls dg l[j] = true)) (fun i => l.length - (intOf i).toNat)
  case atStart => exact ⟨a, Nat.le_refl _, ha, rfl, fun j _ h1 h2 => by omega⟩
  case round =>
    obtain ⟨t, hat, ht, rfl, hall⟩ := hrel
    have HA := hide hall
    clear hall
    by_cases hlt : t < l.length
    · cases dg
      · go_wp2_with (first | (go_at_call 169; refine (letter_any _ _).mono ?_; rintro e w' ⟨rfl, rfl⟩) | (go_at_call 170; refine (digit_any _ _).mono ?_; rintro e w' ⟨rfl, rfl⟩))
        · have hw : (!letterB (l[t].toNat : Int)) = true := by assumption
          go_ret
          exact ⟨congrArg Ending.returned (row_ret false l a t hat ht (unhide HA) (fun _ => (by simpa [cls, isL] using hw))), rfl⟩
        · have hw : (!letterB (l[t].toNat : Int)) = false := by assumption
          go_round
          case rel => exact ⟨t + 1, by omega, by omega, by go_num, row_step (by omega) (unhide HA) (by simpa [cls, isL] using hw)⟩
          case measure => simp [intOf]; omega
      · go_wp2_with (first | (go_at_call 169; refine (letter_any _ _).mono ?_; rintro e w' ⟨rfl, rfl⟩) | (go_at_call 170; refine (digit_any _ _).mono ?_; rintro e w' ⟨rfl, rfl⟩))
        · have hw : digitB (l[t].toNat : Int) = true := by assumption
          go_round
          case rel => exact ⟨t + 1, by omega, by omega, by go_num, row_step (by omega) (unhide HA) (by simpa [cls, isD] using hw)⟩
          case measure => simp [intOf]; omega
        · have hw : ¬ digitB (l[t].toNat : Int) = true := by assumption
          go_ret
          exact ⟨congrArg Ending.returned (row_ret true l a t hat ht (unhide HA) (fun _ => (by simpa [cls, isD] using hw))), rfl⟩
    · go_wp2
      go_ret
      exact ⟨congrArg Ending.returned (row_ret dg l a t hat ht (unhide HA) (fun h => absurd h hlt)), rfl⟩

theorem quoteAt_none {l : List UInt8} (h : ∀ j (hj : j < l.length), l[j] ≠ 34) : quoteAt l = none := by
  induction l with
  | nil => rfl
  | cons c r ih =>
    have h0 := h 0 (by simp)
    simp only [List.getElem_cons_zero] at h0
    rw [quoteAt, if_neg h0, ih]
    · rfl
    · intro j hj
      have := h (j + 1) (by simpa using hj)
      simpa using this

theorem quoteAt_some {l : List UInt8} {n : Nat} (hn : n < l.length) (h : ∀ j (hj : j < l.length), j < n → l[j] ≠ 34) (h1 : l[n] = 34) : quoteAt l = some n := by
  induction l generalizing n with
  | nil => simp at hn
  | cons c r ih =>
    cases n with
    | zero =>
      simp only [List.getElem_cons_zero] at h1
      rw [quoteAt, if_pos h1]
    | succ n =>
      have h0 := h 0 (by simp) (by omega)
      simp only [List.getElem_cons_zero] at h0
      rw [quoteAt, if_neg h0, ih (n := n) (by simpa using hn)]
      · rfl
      · intro j hj hjn
        have := h (j + 1) (by simpa using hj) (by omega)
        simpa using this
      · simpa using h1

def quotedL (l : List UInt8) : List UInt8 := match quoteAt l with | some n => l.take n | none => []

theorem quoted_hit (l : List UInt8) (a t : Nat) (hat : a ≤ t) (ht : t < l.length) (h1 : ∀ j (h : j < l.length), a ≤ j → j < t → l[j] ≠ 34) (h2 : l[t] = 34) :
    Value.string ((⟨l.toArray⟩ : ByteArray).extract a t) = SV (quotedL (l.drop a)) ∧ (quoteAt (l.drop a)).isSome = true := by
  have hq : quoteAt (l.drop a) = some (t - a) := by
    refine quoteAt_some (by rw [List.length_drop]; omega) (fun j hj hjn => ?_) ?_
    · rw [List.length_drop] at hj
      rw [List.getElem_drop]
      exact h1 (a + j) (by omega) (by omega) (by omega)
    · rw [List.getElem_drop]
      simpa [show a + (t - a) = t by omega] using h2
  rw [SV_extract_l, quotedL, hq]
  simp [List.drop_take]

theorem quoted_miss (l : List UInt8) (a : Nat) (h1 : ∀ j (h : j < l.length), a ≤ j → l[j] ≠ 34) : quoteAt (l.drop a) = none := by
  refine quoteAt_none fun j hj => ?_
  rw [List.length_drop] at hj
  rw [List.getElem_drop]
  exact h1 (a + j) (by omega) (by omega)

set_option maxRecDepth 10000 in
set_option maxHeartbeats 1000000 in
theorem quoted_any (l : List UInt8) (a : Nat) (w : World) (ha : a ≤ l.length) (hl : l.length ≤ 1048576) :
    Calls Tryz.prog 172 #[.string ⟨l.toArray⟩, .int .i64 a] w fun e w' => e = .returned (.tuple #[SV (quotedL (l.drop a)), .bool (quoteAt (l.drop a)).isSome]) ∧ w' = w := by
  go_enter Tryz.func172, Tryz.ntmps172
  go_wp2
  go_loop [6] (fun i => ∃ t : Nat, a ≤ t ∧ t ≤ l.length ∧ i = .int .i64 t ∧ (∀ j (h : j < l.length), a ≤ j → j < t → l[j] ≠ 34)) (fun i => l.length - (intOf i).toNat)
  case atStart => exact ⟨a, Nat.le_refl _, ha, rfl, fun j _ h1 h2 => by omega⟩
  case round =>
    obtain ⟨t, hat, ht, rfl, hall⟩ := hrel
    have HA := hide hall
    clear hall
    by_cases hlt : t < l.length
    · go_wp2
      · have hw : ((l[t].toNat : Int) == 34) = true := by assumption
        have hc : l[t] = 34 := by
          have := u8_eq l[t] 34
          rw [show ((34 : UInt8).toNat : Int) = 34 from rfl, hw] at this
          simpa using this.symm
        go_ret2
        obtain ⟨e1, e2⟩ := quoted_hit l a t hat hlt (unhide HA) hc
        rw [e2, ← e1]
        exact ⟨rfl, rfl⟩
      · have hw : ((l[t].toNat : Int) == 34) = false := by assumption
        have hc : l[t] ≠ 34 := by
          have := u8_eq l[t] 34
          rw [show ((34 : UInt8).toNat : Int) = 34 from rfl, hw] at this
          simpa using this.symm
        go_round
        case rel =>
          refine ⟨t + 1, by omega, by omega, by go_num, fun j hj h1 h2 => ?_⟩
          by_cases e : j = t
          · subst e; exact hc
          · exact unhide HA j hj h1 (by omega)
        case measure => simp [intOf]; omega
    · have HQ := hide (quoted_miss l a (fun j hj h1 => unhide HA j hj h1 (by omega)))
      go_wp2
      go_ret2
      rw [quotedL, unhide HQ]
      exact ⟨rfl, rfl⟩

theorem blanks_eq (l : List UInt8) (p q : Nat) (hpq : p ≤ q) (hq : q ≤ l.length) (h1 : ∀ j (h : j < l.length), p ≤ j → j < q → l[j] = 32) (h2 : ∀ h : q < l.length, l[q] ≠ 32) : p + blanks (l.drop p) = q := by
  have : (l.drop p).takeWhile (fun c => c == 32) = (l.drop p).take (q - p) := by
    refine takeWhile_upto _ _ _ ?_ ?_
    · intro j hj hjt
      rw [List.getElem_drop]
      rw [List.length_drop] at hj
      simpa using h1 (p + j) (by omega) (by omega) (by omega)
    · intro hj
      rw [List.getElem_drop]
      rw [List.length_drop] at hj
      have := h2 (by omega)
      simpa [show p + (q - p) = q by omega] using this
  rw [blanks, this, List.length_take, List.length_drop]
  omega

theorem u8_32 {c : UInt8} (h : ((c.toNat : Int) == 32) = true) : c = 32 := by
  have := u8_eq c 32
  rw [show ((32 : UInt8).toNat : Int) = 32 from rfl, h] at this
  simpa using this.symm
theorem u8_n32 {c : UInt8} (h : ((c.toNat : Int) == 32) = false) : c ≠ 32 := by
  have := u8_eq c 32
  rw [show ((32 : UInt8).toNat : Int) = 32 from rfl, h] at this
  simpa using this.symm

theorem u8_ne {c k : UInt8} (h : c ≠ k) : ((c.toNat : Int) == (k.toNat : Int)) = false := by
  rw [u8_eq]; simpa using h

theorem takeWhile_at {f : UInt8 → Bool} {l : List UInt8} {q : Nat} (h : q < l.length) (hf : f l[q] = true) : (l.drop q).takeWhile f = l[q] :: (l.drop (q + 1)).takeWhile f := by
  rw [List.drop_eq_getElem_cons h, List.takeWhile_cons_of_pos hf]

theorem tok1_L {l : List UInt8} {q : Nat} (h : q < l.length) (hL : isL l[q] = true) : tok1 (l.drop q) = (0, (l.drop q).takeWhile isL, ((l.drop q).takeWhile isL).length) := by
  rw [List.drop_eq_getElem_cons h, tok1_cons, if_pos hL]
theorem tok1_D {l : List UInt8} {q : Nat} (h : q < l.length) (hL : ¬ isL l[q] = true) (hD : isD l[q] = true) : tok1 (l.drop q) = (1, (l.drop q).takeWhile isD, ((l.drop q).takeWhile isD).length) := by
  rw [List.drop_eq_getElem_cons h, tok1_cons, if_neg hL, if_pos hD]

theorem tok1_Q {l : List UInt8} {q : Nat} (h : q < l.length) (hc : l[q] = 34) : tok1 (l.drop q) = (match quoteAt (l.drop (q + 1)) with | some n => (2, (l.drop (q + 1)).take n, n + 2) | none => (5, [], 0)) := by
  rw [List.drop_eq_getElem_cons h, tok1_cons, hc, if_neg (by decide), if_neg (by decide), if_pos rfl]
  cases quoteAt (l.drop (q + 1)) <;> rfl

theorem tok1_P {l : List UInt8} {q : Nat} (h : q < l.length) (hL : ¬ isL l[q] = true) (hD : ¬ isD l[q] = true) (hQ : ¬ l[q] = 34) (hc : l[q] = 33 ∨ l[q] = 124) (h1 : l[q + 1]? = some 61) : tok1 (l.drop q) = (3, [l[q], 61], 2) := by
  rw [List.drop_eq_getElem_cons h, tok1_cons, if_neg hL, if_neg hD, if_neg hQ, if_pos hc, if_pos (by rw [List.head?_drop]; exact h1)]
theorem tok1_H {l : List UInt8} {q : Nat} (h : q < l.length) (hL : ¬ isL l[q] = true) (hD : ¬ isD l[q] = true) (hQ : ¬ l[q] = 34) (hc : l[q] = 33 ∨ l[q] = 124) (h1 : ¬ l[q + 1]? = some 61) : tok1 (l.drop q) = (5, [], 0) := by
  rw [List.drop_eq_getElem_cons h, tok1_cons, if_neg hL, if_neg hD, if_neg hQ, if_pos hc, if_neg (by rw [List.head?_drop]; exact h1)]
theorem tok1_M {l : List UInt8} {q : Nat} (h : q < l.length) (hL : ¬ isL l[q] = true) (hD : ¬ isD l[q] = true) (hQ : ¬ l[q] = 34) (hc : ¬ (l[q] = 33 ∨ l[q] = 124)) (h1 : isM l[q] = true) : tok1 (l.drop q) = (3, [l[q]], 1) := by
  rw [List.drop_eq_getElem_cons h, tok1_cons, if_neg hL, if_neg hD, if_neg hQ, if_neg hc, if_pos h1]
theorem tok1_X {l : List UInt8} {q : Nat} (h : q < l.length) (hL : ¬ isL l[q] = true) (hD : ¬ isD l[q] = true) (hQ : ¬ l[q] = 34) (hc : ¬ (l[q] = 33 ∨ l[q] = 124)) (h1 : ¬ isM l[q] = true) : tok1 (l.drop q) = (5, [], 0) := by
  rw [List.drop_eq_getElem_cons h, tok1_cons, if_neg hL, if_neg hD, if_neg hQ, if_neg hc, if_neg h1]

theorem isM_cases {c : UInt8} (h : isM c = true) : c = 123 ∨ c = 125 ∨ c = 40 ∨ c = 41 ∨ c = 91 ∨ c = 93 ∨ c = 44 ∨ c = 61 := by
  simpa [isM, or_assoc] using h
theorem isM_not {c : UInt8} (h : ¬ isM c = true) : c ≠ 123 ∧ c ≠ 125 ∧ c ≠ 40 ∧ c ≠ 41 ∧ c ≠ 91 ∧ c ≠ 93 ∧ c ≠ 44 ∧ c ≠ 61 := by
  simpa [isM, and_assoc] using h

theorem pair_list {l : List UInt8} {q : Nat} (h : q < l.length) : (l.take (q + 2)).drop q = l[q] :: (l[q + 1]?).toList := by
  rw [List.drop_take, show q + 2 - q = 2 by omega, List.drop_eq_getElem_cons h, List.take_succ_cons]
  congr 1
  rw [List.take_one, List.head?_drop]
theorem pair_eq {l : List UInt8} {q : Nat} (h : q < l.length) (h1 : l[q + 1]? = some 61) : (⟨l.toArray⟩ : ByteArray).extract q (q + 2) = ⟨#[l[q], 61]⟩ := by
  rw [extract_list]
  show (⟨((l.take (q + 2)).drop q).toArray⟩ : ByteArray) = _
  rw [pair_list h, h1]
  rfl
theorem pair_ne1 {l : List UInt8} {q : Nat} (h : q < l.length) (hc : ¬ (l[q] = 33 ∨ l[q] = 124)) : ∃ X : List UInt8, (⟨l.toArray⟩ : ByteArray).extract q (q + 2) = ⟨X.toArray⟩ ∧ (X == [33, 61]) = false ∧ (X == [124, 61]) = false := by
  refine ⟨_, extract_list _ _ _, ?_, ?_⟩
  all_goals
    show ((l.take (q + 2)).drop q == _) = false
    rw [pair_list h, beq_eq_false_iff_ne]
    intro e
    simp only [List.cons.injEq] at e
    exact hc (by simp [e.1])
theorem pair_ne2 {l : List UInt8} {q : Nat} (h : q < l.length) (hc : ¬ l[q + 1]? = some 61) : ∃ X : List UInt8, (⟨l.toArray⟩ : ByteArray).extract q (q + 2) = ⟨X.toArray⟩ ∧ (X == [33, 61]) = false ∧ (X == [124, 61]) = false := by
  refine ⟨_, extract_list _ _ _, ?_, ?_⟩
  all_goals
    show ((l.take (q + 2)).drop q == _) = false
    rw [pair_list h, beq_eq_false_iff_ne]
    intro e
    simp only [List.cons.injEq] at e
    cases h2 : l[q + 1]? with
    | none => rw [h2] at e; simp at e
    | some d =>
      rw [h2] at e
      simp at e
      rw [h2, e.2] at hc
      exact hc rfl
theorem one_eq {l : List UInt8} {q : Nat} (h : q < l.length) : Value.string ((⟨l.toArray⟩ : ByteArray).extract q (q + 1)) = SV [l[q]] := by
  rw [SV_extract_l, List.drop_take, show q + 1 - q = 1 by omega, List.drop_eq_getElem_cons h]
  rfl

theorem toks_go {l : List UInt8} {p q : Nat} (hq : p + blanks (l.drop p) = q) {k n : Nat} {x : List UInt8} (ht : tok1 (l.drop q) = (k, x, n)) (hk : k < 4) : toks l p = ⟨k, q, x⟩ :: toks l (q + n) := by
  rw [toks, hq, ht, if_pos hk]
theorem toks_end {l : List UInt8} {p q : Nat} (hq : p + blanks (l.drop p) = q) {k n : Nat} {x : List UInt8} (ht : tok1 (l.drop q) = (k, x, n)) (hk : ¬ k < 4) : toks l p = [⟨k, q, x⟩] := by
  rw [toks, hq, ht, if_neg hk]

theorem takeWhile_none {f : UInt8 → Bool} {l : List UInt8} {q : Nat} (h : q < l.length) (hf : ¬ f l[q] = true) : (l.drop q).takeWhile f = [] := by
  rw [List.drop_eq_getElem_cons h, List.takeWhile_cons_of_neg hf]

end Go.Proofs.YtbljamcdaoofbaaGreatDoor
