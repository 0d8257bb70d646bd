/- The program's automaton: next. -/
import Derived.Test.YtbljamcdaoofbaaGreatDoorSourcesToPTok
import Derived.Test.YtbljamcdaoofbaaGreatDoorRTokOne
import Derived.ScopeJumps
import Derived.WalkMore
namespace Go.Proofs.YtbljamcdaoofbaaGreatDoor
open Go.RowKit

/-- As Q; by a goto to a label l: J l. -/
def jumps (J : Nat → Act → World → Prop) (Q : Exit → Act → World → Prop) : Exit → Act → World → Prop
  | .goto l, a, w => J l a w
  | e, a, w => Q e a w

theorem jumps_goto {J : Nat → Act → World → Prop} {Q : Exit → Act → World → Prop} {l : Nat} {a : Act} {w : World} (h : J l a w) : jumps J Q (.goto l) a w := h

/-- A scope in which the run jumps between labels: what holds at each jump, and a measure that every pass from a label lowers. -/
theorem scope_many {P : Program} {a : Act} {w : World} {Q : Exit → Act → World → Prop} {c : Code} (J : Nat → Act → World → Prop) (μ : Nat → Act → World → Nat)
    (first : c.wp P (jumps J Q) a w)
    (pass : ∀ l a w, J l a w → ∃ rest, findLabel c l = some rest ∧ rest.wp P (jumps (fun l' a' w' => J l' a' w' ∧ μ l' a' w' < μ l a w) Q) a w) : (Code.scope c).wp P Q a w := by
  intro b k cs
  have key : ∀ n l a w, μ l a w = n → J l a w → ∃ rest, findLabel c l = some rest ∧ ∃ e a' w', Q e a' w' ∧ Arrives P (lone (b.at a (.code rest :: .inScope c :: k)) cs w) b k cs e a' w' := by
    intro n
    induction n using Nat.strongRecOn with
    | _ n ih =>
      intro l a w hn hJ
      obtain ⟨rest, hf, hp⟩ := pass l a w hJ
      refine ⟨rest, hf, ?_⟩
      obtain ⟨e, a₁, w₁, hq, harr⟩ := hp b (.inScope c :: k) cs
      cases e with
      | normal => exact ⟨.normal, a₁, w₁, hq, Steps.trans harr (.one step_inScope)⟩
      | exit id => exact ⟨.exit id, a₁, w₁, hq, fun k' hk => harr k' (by simp [exitTo, hk])⟩
      | goto l' =>
        obtain ⟨hJ', hlt⟩ := hq
        obtain ⟨rest', hf', e₂, a₂, w₂, hq₂, harr₂⟩ := ih _ (by omega) l' a₁ w₁ rfl hJ'
        have hg : gotoIn l' (.inScope c :: k) = some (.code rest' :: .inScope c :: k) := by simp [gotoIn, hf']
        exact ⟨e₂, a₂, w₂, hq₂, .of_steps (harr _ hg) harr₂⟩
      | ret => exact ⟨_, a₁, w₁, hq, harr⟩
      | panic ch => exact ⟨_, a₁, w₁, hq, harr⟩
      | outgrown => exact ⟨_, a₁, w₁, hq, harr⟩
  obtain ⟨e, a₁, w₁, hq, harr⟩ := first b (.inScope c :: k) cs
  cases e with
  | normal => exact ⟨.normal, a₁, w₁, hq, .head step_scope (Steps.trans harr (.one step_inScope))⟩
  | exit id => exact ⟨.exit id, a₁, w₁, hq, fun k' hk => .head step_scope (harr k' (by simp [exitTo, hk]))⟩
  | goto l' =>
    obtain ⟨rest', hf', e₂, a₂, w₂, hq₂, harr₂⟩ := key _ l' a₁ w₁ rfl hq
    have hg : gotoIn l' (.inScope c :: k) = some (.code rest' :: .inScope c :: k) := by simp [gotoIn, hf']
    exact ⟨e₂, a₂, w₂, hq₂, .of_steps (.head step_scope (harr _ hg)) harr₂⟩
  | ret => exact ⟨_, a₁, w₁, hq, .of_steps (.one step_scope) harr⟩
  | panic ch => exact ⟨_, a₁, w₁, hq, .of_steps (.one step_scope) harr⟩
  | outgrown => exact ⟨_, a₁, w₁, hq, .of_steps (.one step_scope) harr⟩

/-- the program's number of a token's kind -/
def pk (k : Nat) : Int := match k with | 0 => 2 | 1 => 3 | 2 => 4 | 3 => 5 | 4 => 0 | _ => 1

/-- the frame at a jump: the cutter's pointer, the result's box; the rest is whatever -/
def NextF (c R : Nat) (a : Act) : Prop := ∃ u3 u4 u5 u6 u7 u8 u9 u10 u11 u12 u13 u14 u15 u16 u17 u18 u19 u20 u21 u22 u23 u24 u25 u26 u27 u28 u29 u30 u31 u32 u33 u34 u35 u36 u37 u38 u39 u40 u41 u42 u43 u44 u45 u46 u47 u48 u49 u50 u51 u52 u53 u54 u55 u56 u57 u58 u59 : Value, a = ⟨#[.pointer (some ⟨c, 0, none⟩), undef, .pointer (some ⟨R, 0, none⟩), u3, u4, u5, u6, u7, u8, u9, u10, u11, u12, u13, u14, u15, u16, u17, u18, u19, u20, u21, u22, u23, u24, u25, u26, u27, u28, u29, u30, u31, u32, u33, u34, u35, u36, u37, u38, u39, u40, u41, u42, u43, u44, u45, u46, u47, u48, u49, u50, u51, u52, u53, u54, u55, u56, u57, u58, u59], []⟩

/-- the world at a jump: w0 was the world when the call began, which lay the result's box -/
structure NextW (w0 : World) (c : Nat) (l : List UInt8) (w' : World) (b t : Nat) : Prop where
  cut : CutAt w' c l b t
  box : ∃ x y z, w'.heap[w0.heap.size]? = some (.cells #[x, y, z] 165 (0, 0))
  moved : Moved (fun k => k = c) w0 w'
  clt : c < w0.heap.size

/-- where the token begins -/
def qOf (l : List UInt8) (a : Nat) : Nat := a + blanks (l.drop a)

/-- what holds at each label -/
def NextP (l : List UInt8) (a0 : Nat) : Nat → Nat → Nat → Prop
  | 0, _, t => a0 ≤ t ∧ t ≤ l.length ∧ ∀ j (h : j < l.length), a0 ≤ j → j < t → l[j] = 32
  | 1, b, t => b = qOf l a0 ∧ b ≤ t ∧ t < l.length ∧ ∀ j (h : j < l.length), b ≤ j → j ≤ t → isL l[j] = true
  | 2, b, t => b = qOf l a0 ∧ b ≤ t ∧ t < l.length ∧ (∀ j (h : j < l.length), b ≤ j → j ≤ t → isD l[j] = true)
  | 3, b, t => b = qOf l a0 ∧ b ≤ t ∧ t < l.length ∧ l[b]? = some 34 ∧ ∀ j (h : j < l.length), b < j → j ≤ t → l[j] ≠ 34
  | 7, b, t => b = qOf l a0 ∧ b < t ∧ t < l.length ∧ tok1 (l.drop b) = (2, (l.take t).drop (b + 1), t + 1 - b)
  | 4, b, t => b = qOf l a0 ∧ t = b ∧ t < l.length ∧ (l[b]? = some 33 ∨ l[b]? = some 124)
  | 5, b, t => b = qOf l a0 ∧ b ≤ t ∧ t < l.length ∧ tok1 (l.drop b) = (3, (l.take (t + 1)).drop b, t + 1 - b)
  | 6, b, t => b = qOf l a0 ∧ b ≤ t ∧ t ≤ l.length ∧ tok1 (l.drop b) = (5, [], 0)
  | _, _, _ => False

def NextJ (w0 : World) (c : Nat) (l : List UInt8) (a0 : Nat) (lab : Nat) (a : Act) (w' : World) : Prop :=
  NextF c w0.heap.size a ∧ ∃ b t, NextW w0 c l w' b t ∧ NextP l a0 lab b t

def atOf (c : Nat) (w' : World) : Nat := match w'.cell? ⟨c, 2, none⟩ with | some (.int _ n) => n.toNat | _ => 0
def rank (lab : Nat) : Nat := match lab with | 0 => 9 | 4 => 6 | 6 => 0 | _ => 5
def NextM (c : Nat) (l : List UInt8) (lab : Nat) (_ : Act) (w' : World) : Nat := (l.length + 1 - atOf c w') * 10 + rank lab

theorem atOf_cut {w' : World} {c : Nat} {l : List UInt8} {b t : Nat} (h : CutAt w' c l b t) : atOf c w' = t := by
  simp [atOf, (cell_of_block3 h).2.2.1]

/-- what next gives -/
def NextPost (w0 : World) (c : Nat) (l : List UInt8) (a0 : Nat) (e : Ending) (w' : World) : Prop :=
  ∃ x t, e = .returned (.agg #[.int .i64 (pk (tok1 (l.drop (qOf l a0))).1), .int .i64 (qOf l a0), SV x]) ∧ ((tok1 (l.drop (qOf l a0))).1 ≠ 5 → x = (tok1 (l.drop (qOf l a0))).2.1) ∧
    CutAt w' c l (qOf l a0) t ∧ ((tok1 (l.drop (qOf l a0))).1 < 4 → t = qOf l a0 + (tok1 (l.drop (qOf l a0))).2.2) ∧ Moved (fun k => k = c) w0 w'

noncomputable def nextCode : Code := match Tryz.f123.body with | some (.seq _ (.scope c)) => c | _ => .skip

/-- the end of a pass: the token is laid into the box, and given -/
theorem next_ret {w0 w1 w2 : World} {c : Nat} {l : List UInt8} {b t : Nat} (h : NextW w0 c l w1 b t) (hb : Below w1.heap.size w1 w2) (u0 u1 u2 : Value) :
    (((w2.setCell ⟨w0.heap.size, 0, none⟩ u0).setCell ⟨w0.heap.size, 1, none⟩ u1).setCell ⟨w0.heap.size, 2, none⟩ u2).heap[w0.heap.size]? = some (.cells #[u0, u1, u2] 165 (0, 0)) ∧
    CutAt (((w2.setCell ⟨w0.heap.size, 0, none⟩ u0).setCell ⟨w0.heap.size, 1, none⟩ u1).setCell ⟨w0.heap.size, 2, none⟩ u2) c l b t ∧
    Moved (fun k => k = c) w0 (((w2.setCell ⟨w0.heap.size, 0, none⟩ u0).setCell ⟨w0.heap.size, 1, none⟩ u1).setCell ⟨w0.heap.size, 2, none⟩ u2) := by
  obtain ⟨hc, ⟨x, y, z, hx⟩, hm, hlt⟩ := h
  have hx2 : w2.heap[w0.heap.size]? = some (.cells #[x, y, z] 165 (0, 0)) := by
    rw [hb.block _ (Array.getElem?_eq_some_iff.1 hx).1]; exact hx
  have hc2 : CutAt w2 c l b t := by
    unfold CutAt
    rw [hb.block _ hc.lt]; exact hc
  refine ⟨box3 hx2 _ _ _, ((hc2.other (by show c ≠ w0.heap.size; omega) _).other (by show c ≠ w0.heap.size; omega) _).other (by show c ≠ w0.heap.size; omega) _, ?_⟩
  have hm2 : Moved (fun k => k = c) w0 w2 := hm.trans (Moved.of_below (F := fun _ => False) hb) (fun _ g => g.elim)
  exact ((hm2.setCell (p := ⟨w0.heap.size, 0, none⟩) (.inr (Nat.le_refl _)) _).setCell (p := ⟨w0.heap.size, 1, none⟩) (.inr (Nat.le_refl _)) _).setCell (p := ⟨w0.heap.size, 2, none⟩) (.inr (Nat.le_refl _)) _

theorem NextW.step {w0 w1 : World} {c : Nat} {l : List UInt8} {b t : Nat} (h : NextW w0 c l w1 b t) (t' n : Nat) : NextW w0 c l ((w1.setCell ⟨c, 2, none⟩ (.int .i64 t')).drewN n) b t' := by
  obtain ⟨hc, ⟨x, y, z, hx⟩, hm, hlt⟩ := h
  refine ⟨hc.setAt t', ⟨x, y, z, ?_⟩, (hm.setCell (p := ⟨c, 2, none⟩) (.inl rfl) _).drawn _, hlt⟩
  show (w1.setCell ⟨c, 2, none⟩ (.int .i64 t')).heap[w0.heap.size]? = _
  rw [Go.RowKit.Below.heap_setCell _ _ _ _ (by show w0.heap.size ≠ c; omega)]
  exact hx

theorem lookN_none {l : List UInt8} {t : Nat} (h : ¬ t < l.length) : lookN l t = 0 := by
  simp [lookN, List.getElem?_eq_none (Nat.le_of_not_lt h)]
theorem lookN_some {l : List UInt8} {t : Nat} (h : t < l.length) : lookN l t = classI l[t].toNat := by
  simp [lookN, List.getElem?_eq_getElem h]

theorem classI_32 (c : UInt8) (h : c = 32) : classI c.toNat = 1 := by subst h; rfl
theorem classI_L (c : UInt8) (h : isL c = true) : classI c.toNat = 2 := by
  simp only [isL, letterB, Bool.and_eq_true, decide_eq_true_eq] at h
  unfold classI
  rw [if_neg (by omega), if_pos h]
theorem classI_D (c : UInt8) (h : isD c = true) : classI c.toNat = 3 := by
  simp only [isD, digitB, Bool.and_eq_true, decide_eq_true_eq] at h
  unfold classI
  rw [if_neg (by omega), if_neg (by omega), if_pos h]
theorem classI_Q (c : UInt8) (h : c = 34) : classI c.toNat = 4 := by subst h; rfl
theorem classI_E (c : UInt8) (h : c = 61) : classI c.toNat = 5 := by subst h; rfl
theorem classI_H (c : UInt8) (h : c = 33 ∨ c = 124) : classI c.toNat = 6 := by rcases h with rfl | rfl <;> rfl
theorem classI_M (c : UInt8) (h : isM c = true) (h1 : c ≠ 61) : classI c.toNat = 7 := by
  rcases isM_cases h with rfl | rfl | rfl | rfl | rfl | rfl | rfl | rfl
  all_goals first | rfl | exact absurd rfl h1
theorem toInt_ne {c k : UInt8} (h : c ≠ k) : (c.toNat : Int) ≠ (k.toNat : Int) := by
  intro e
  exact h (UInt8.toNat_inj.1 (by omega))
theorem classI_X (c : UInt8) (h0 : c ≠ 32) (hL : ¬ isL c = true) (hD : ¬ isD c = true) (hQ : ¬ c = 34) (hH : ¬ (c = 33 ∨ c = 124)) (hM : ¬ isM c = true) : classI c.toNat = 8 := by
  obtain ⟨g1, g2, g3, g4, g5, g6, g7, g8⟩ := isM_not hM
  simp only [isL, letterB, Bool.and_eq_true, decide_eq_true_eq] at hL
  simp only [isD, digitB, Bool.and_eq_true, decide_eq_true_eq] at hD
  rw [not_or] at hH
  have e0 := toInt_ne h0
  have e1 := toInt_ne g1
  have e2 := toInt_ne g2
  have e3 := toInt_ne g3
  have e4 := toInt_ne g4
  have e5 := toInt_ne g5
  have e6 := toInt_ne g6
  have e7 := toInt_ne g7
  have e8 := toInt_ne g8
  have e9 := toInt_ne hQ
  have e10 := toInt_ne hH.1
  have e11 := toInt_ne hH.2
  simp only [show ((32 : UInt8).toNat : Int) = 32 from rfl, show ((123 : UInt8).toNat : Int) = 123 from rfl, show ((125 : UInt8).toNat : Int) = 125 from rfl, show ((40 : UInt8).toNat : Int) = 40 from rfl, show ((41 : UInt8).toNat : Int) = 41 from rfl, show ((91 : UInt8).toNat : Int) = 91 from rfl, show ((93 : UInt8).toNat : Int) = 93 from rfl, show ((44 : UInt8).toNat : Int) = 44 from rfl, show ((61 : UInt8).toNat : Int) = 61 from rfl, show ((34 : UInt8).toNat : Int) = 34 from rfl, show ((33 : UInt8).toNat : Int) = 33 from rfl, show ((124 : UInt8).toNat : Int) = 124 from rfl] at *
  unfold classI
  repeat' split
  all_goals omega

theorem classI_pos (x : Int) : 0 < classI x := by
  unfold classI
  repeat' split
  all_goals omega
theorem classI_L' {c : UInt8} (h : classI c.toNat = 2) : isL c = true := by
  simp only [isL, letterB, Bool.and_eq_true, decide_eq_true_eq]
  unfold classI at h
  repeat' split at h
  all_goals omega
theorem classI_D' {c : UInt8} (h : classI c.toNat = 3) : isD c = true := by
  simp only [isD, digitB, Bool.and_eq_true, decide_eq_true_eq]
  unfold classI at h
  repeat' split at h
  all_goals omega
theorem classI_Q' {c : UInt8} (h : classI c.toNat = 4) : c = 34 := by
  have : (c.toNat : Int) = 34 := by
    unfold classI at h
    repeat' split at h
    all_goals omega
  exact UInt8.toNat_inj.1 (by show c.toNat = 34; omega)
theorem classI_E' {c : UInt8} (h : classI c.toNat = 5) : c = 61 := by
  have : (c.toNat : Int) = 61 := by
    unfold classI at h
    repeat' split at h
    all_goals omega
  exact UInt8.toNat_inj.1 (by show c.toNat = 61; omega)

theorem next_post {w0 w' : World} {c : Nat} {l : List UInt8} {a0 k n t : Nat} {x x0 : List UInt8} (hk : tok1 (l.drop (qOf l a0)) = (k, x0, n)) (hx : k ≠ 5 → x = x0) (ht : k < 4 → t = qOf l a0 + n)
    (hc : CutAt w' c l (qOf l a0) t) (hm : Moved (fun k => k = c) w0 w') : NextPost w0 c l a0 (.returned (.agg #[.int .i64 (pk k), .int .i64 (qOf l a0), SV x])) w' :=
  ⟨x, t, by rw [hk], by rw [hk]; exact hx, hc, by rw [hk]; exact ht, hm⟩

/-- a row of letters, or digits, has come to its end -/
theorem run_end {dg : Bool} {l : List UInt8} {b t : Nat} (hbt : b ≤ t) (ht : t < l.length) (hall : ∀ j (h : j < l.length), b ≤ j → j ≤ t → cls dg l[j] = true) (hn : ∀ h : t + 1 < l.length, cls dg l[t + 1] = false) :
    (l.drop b).takeWhile (cls dg) = (l.take (t + 1)).drop b :=
  row_eq dg l b (t + 1) (by omega) (by omega) (fun j hj h1 h2 => hall j hj h1 (by omega)) hn
theorem word_end {l : List UInt8} {b t : Nat} (hbt : b ≤ t) (ht : t < l.length) (hall : ∀ j (h : j < l.length), b ≤ j → j ≤ t → isL l[j] = true) (hn : ∀ h : t + 1 < l.length, isL l[t + 1] = false) :
    tok1 (l.drop b) = (0, (l.take (t + 1)).drop b, t + 1 - b) := by
  have hr := run_end (dg := false) hbt ht hall hn
  rw [show cls false = isL from rfl] at hr
  rw [tok1_L (by omega) (hall b (by omega) (Nat.le_refl _) hbt), hr, List.length_drop, List.length_take, Nat.min_eq_left (by omega)]
theorem not_LD {c : UInt8} (h : isD c = true) : ¬ isL c = true := by
  simp only [isL, letterB, isD, digitB, Bool.and_eq_true, decide_eq_true_eq] at h ⊢
  omega
theorem num_end {l : List UInt8} {b t : Nat} (hbt : b ≤ t) (ht : t < l.length) (hall : ∀ j (h : j < l.length), b ≤ j → j ≤ t → isD l[j] = true) (hn : ∀ h : t + 1 < l.length, isD l[t + 1] = false) :
    tok1 (l.drop b) = (1, (l.take (t + 1)).drop b, t + 1 - b) := by
  have hr := run_end (dg := true) hbt ht hall hn
  rw [show cls true = isD from rfl] at hr
  have hb := hall b (by omega) (Nat.le_refl _) hbt
  rw [tok1_D (by omega) (not_LD hb) hb, hr, List.length_drop, List.length_take, Nat.min_eq_left (by omega)]
theorem str_end {l : List UInt8} {b t : Nat} (hbt : b < t) (ht : t < l.length) (hq : l[b] = 34) (hall : ∀ j (h : j < l.length), b < j → j < t → l[j] ≠ 34) (h34 : l[t] = 34) :
    tok1 (l.drop b) = (2, (l.take t).drop (b + 1), t + 1 - b) := by
  have h := quoted_hit l (b + 1) t (by omega) ht (fun j hj h1 h2 => hall j hj (by omega) h2) h34
  have hqq : quoteAt (l.drop (b + 1)) = some (t - (b + 1)) := by
    refine quoteAt_some (by rw [List.length_drop]; omega) (fun j hj hjn => ?_) ?_
    · rw [List.length_drop] at hj
      rw [List.getElem_drop]
      exact hall (b + 1 + j) (by omega) (by omega) (by omega)
    · rw [List.getElem_drop]
      simpa [show b + 1 + (t - (b + 1)) = t by omega] using h34
  rw [tok1_Q (by omega) hq, hqq]
  simp only [Prod.mk.injEq, true_and]
  exact ⟨by rw [List.drop_take], by omega⟩
theorem str_none {l : List UInt8} {b : Nat} (hb : b < l.length) (hq : l[b] = 34) (hall : ∀ j (h : j < l.length), b < j → l[j] ≠ 34) : tok1 (l.drop b) = (5, [], 0) := by
  rw [tok1_Q hb hq, quoted_miss l (b + 1) (fun j hj h1 => hall j hj (by omega))]

theorem nextF {c R : Nat} {u3 u4 u5 u6 u7 u8 u9 u10 u11 u12 u13 u14 u15 u16 u17 u18 u19 u20 u21 u22 u23 u24 u25 u26 u27 u28 u29 u30 u31 u32 u33 u34 u35 u36 u37 u38 u39 u40 u41 u42 u43 u44 u45 u46 u47 u48 u49 u50 u51 u52 u53 u54 u55 u56 u57 u58 u59 : Value} : NextF c R ⟨#[.pointer (some ⟨c, 0, none⟩), undef, .pointer (some ⟨R, 0, none⟩), u3, u4, u5, u6, u7, u8, u9, u10, u11, u12, u13, u14, u15, u16, u17, u18, u19, u20, u21, u22, u23, u24, u25, u26, u27, u28, u29, u30, u31, u32, u33, u34, u35, u36, u37, u38, u39, u40, u41, u42, u43, u44, u45, u46, u47, u48, u49, u50, u51, u52, u53, u54, u55, u56, u57, u58, u59], []⟩ := ⟨u3, u4, u5, u6, u7, u8, u9, u10, u11, u12, u13, u14, u15, u16, u17, u18, u19, u20, u21, u22, u23, u24, u25, u26, u27, u28, u29, u30, u31, u32, u33, u34, u35, u36, u37, u38, u39, u40, u41, u42, u43, u44, u45, u46, u47, u48, u49, u50, u51, u52, u53, u54, u55, u56, u57, u58, u59, rfl⟩

theorem box_facts {w0 w1 w2 : World} {c : Nat} {l : List UInt8} {b t : Nat} (h : NextW w0 c l w1 b t) (hb : Below w1.heap.size w1 w2) :
    (∃ x, w2.cell? ⟨w0.heap.size, 0, none⟩ = some x) ∧ (∃ x, w2.cell? ⟨w0.heap.size, 1, none⟩ = some x) ∧ (∃ x, w2.cell? ⟨w0.heap.size, 2, none⟩ = some x) ∧ (∀ j, w2.frozen? ⟨w0.heap.size, j, none⟩ = false) := by
  obtain ⟨hc, ⟨x, y, z, hx⟩, hm, hlt⟩ := h
  have hx2 : w2.heap[w0.heap.size]? = some (.cells #[x, y, z] 165 (0, 0)) := by
    rw [hb.block _ (Array.getElem?_eq_some_iff.1 hx).1]; exact hx
  obtain ⟨c0, c1, c2, fz⟩ := cell_of_block3 hx2
  exact ⟨⟨_, c0⟩, ⟨_, c1⟩, ⟨_, c2⟩, fz⟩

set_option maxRecDepth 10000 in
set_option maxHeartbeats 4000000 in
theorem pass1 (w0 : World) (c : Nat) (l : List UInt8) (a0 : Nat) (hl : l.length ≤ 200) (a : Act) (w1 : World) (hJ : NextJ w0 c l a0 1 a w1) :
    ∃ rest, findLabel nextCode 1 = some rest ∧ rest.wp Tryz.prog (jumps (fun l' a' w' => NextJ w0 c l a0 l' a' w' ∧ NextM c l l' a' w' < NextM c l 1 a w1) (bodyPost Tryz.prog Tryz.f123 (NextPost w0 c l a0))) a w1 := by
  obtain ⟨hF, b, t, hW, rfl, hbt, htl, hall⟩ := hJ
  unfold NextF at hF
  obtain ⟨u3, hF⟩ := hF
  obtain ⟨u4, hF⟩ := hF
  obtain ⟨u5, hF⟩ := hF
  obtain ⟨u6, hF⟩ := hF
  obtain ⟨u7, hF⟩ := hF
  obtain ⟨u8, hF⟩ := hF
  obtain ⟨u9, hF⟩ := hF
  obtain ⟨u10, hF⟩ := hF
  obtain ⟨u11, hF⟩ := hF
  obtain ⟨u12, hF⟩ := hF
  obtain ⟨u13, hF⟩ := hF
  obtain ⟨u14, hF⟩ := hF
  obtain ⟨u15, hF⟩ := hF
  obtain ⟨u16, hF⟩ := hF
  obtain ⟨u17, hF⟩ := hF
  obtain ⟨u18, hF⟩ := hF
  obtain ⟨u19, hF⟩ := hF
  obtain ⟨u20, hF⟩ := hF
  obtain ⟨u21, hF⟩ := hF
  obtain ⟨u22, hF⟩ := hF
  obtain ⟨u23, hF⟩ := hF
  obtain ⟨u24, hF⟩ := hF
  obtain ⟨u25, hF⟩ := hF
  obtain ⟨u26, hF⟩ := hF
  obtain ⟨u27, hF⟩ := hF
  obtain ⟨u28, hF⟩ := hF
  obtain ⟨u29, hF⟩ := hF
  obtain ⟨u30, hF⟩ := hF
  obtain ⟨u31, hF⟩ := hF
  obtain ⟨u32, hF⟩ := hF
  obtain ⟨u33, hF⟩ := hF
  obtain ⟨u34, hF⟩ := hF
  obtain ⟨u35, hF⟩ := hF
  obtain ⟨u36, hF⟩ := hF
  obtain ⟨u37, hF⟩ := hF
  obtain ⟨u38, hF⟩ := hF
  obtain ⟨u39, hF⟩ := hF
  obtain ⟨u40, hF⟩ := hF
  obtain ⟨u41, hF⟩ := hF
  obtain ⟨u42, hF⟩ := hF
  obtain ⟨u43, hF⟩ := hF
  obtain ⟨u44, hF⟩ := hF
  obtain ⟨u45, hF⟩ := hF
  obtain ⟨u46, hF⟩ := hF
  obtain ⟨u47, hF⟩ := hF
  obtain ⟨u48, hF⟩ := hF
  obtain ⟨u49, hF⟩ := hF
  obtain ⟨u50, hF⟩ := hF
  obtain ⟨u51, hF⟩ := hF
  obtain ⟨u52, hF⟩ := hF
  obtain ⟨u53, hF⟩ := hF
  obtain ⟨u54, hF⟩ := hF
  obtain ⟨u55, hF⟩ := hF
  obtain ⟨u56, hF⟩ := hF
  obtain ⟨u57, hF⟩ := hF
  obtain ⟨u58, hF⟩ := hF
  obtain ⟨u59, hF⟩ := hF
  subst hF
  refine ⟨_, rfl, ?_⟩
  have hst := step_any c l (qOf l a0) t w1 hW.cut (by omega)
  go_wp2_with fail
  refine hst.mono ?_
  rintro e w2 ⟨rfl, n, rfl⟩
  have hW2 : NextW w0 c l ((w1.setCell ⟨c, 2, none⟩ (.int .i64 ((t : Int) + 1))).drewN n) (qOf l a0) (t + 1) := by simpa using hW.step (t + 1) n
  by_cases hn : ∃ h : t + 1 < l.length, isL l[t + 1] = true
  · obtain ⟨h1, hn⟩ := hn
    rw [lookN_some h1, classI_L _ hn]
    go_wp2_with fail
    refine wp_goto ?_
    show NextJ _ _ _ _ _ _ _ ∧ _ < _
    refine ⟨⟨nextF, _, _, hW2, rfl, by omega, h1, ?_⟩, ?_⟩
    · intro j hj h2 h3
      by_cases e : j = t + 1
      · subst e; exact hn
      · exact hall j hj h2 (by omega)
    · simp only [NextM]
      rw [atOf_cut hW2.cut, atOf_cut hW.cut]
      simp only [rank]
      omega
  · have hz : (lookN l (t + 1) == 2) = false := by
      rw [beq_eq_false_iff_ne]
      intro e
      by_cases h1 : t + 1 < l.length
      · rw [lookN_some h1] at e
        exact hn ⟨h1, classI_L' e⟩
      · rw [lookN_none h1] at e; cases e
    have HT := hide (word_end hbt htl hall (fun h => (by simpa using fun e => hn ⟨h, e⟩)))
    generalize lookN l (t + 1) = z at *
    have hcu := pcut_any c l (qOf l a0) (t + 1) 2 _ hW2.cut (by omega) (by omega) (by omega)
    have HR := hide (fun w3 (hb : Below ((w1.setCell ⟨c, 2, none⟩ (.int .i64 ((t : Int) + 1))).drewN n).heap.size ((w1.setCell ⟨c, 2, none⟩ (.int .i64 ((t : Int) + 1))).drewN n) w3) => next_ret hW2 hb)
    have HB := hide (fun w3 (hb : Below ((w1.setCell ⟨c, 2, none⟩ (.int .i64 ((t : Int) + 1))).drewN n).heap.size ((w1.setCell ⟨c, 2, none⟩ (.int .i64 ((t : Int) + 1))).drewN n) w3) => box_facts hW2 hb)
    go_wp2_with fail
    refine hcu.mono ?_
    rintro e w3 ⟨rfl, hb⟩
    have hr3 := hide (unhide HR w3 hb)
    obtain ⟨⟨x0, f0⟩, ⟨x1, f1⟩, ⟨x2, f2⟩, fz⟩ := unhide HB w3 hb
    have g0 := fz 0
    have g1 := fz 1
    have g2 := fz 2
    clear fz
    go_wp2
    show bodyPost _ _ _ Exit.ret _ _
    refine bodyPost_ret (results_cell_row (p := 2) (ty := 165) rfl _ _ w0.heap.size _ _ _ _ rfl (unhide hr3 _ _ _).1 Tryz.underlying165 rfl tokSize) rfl ?_
    exact next_post (k := 0) (unhide HT) (fun _ => rfl) (fun _ => by omega) (unhide hr3 _ _ _).2.1 (unhide hr3 _ _ _).2.2

set_option maxRecDepth 10000 in
set_option maxHeartbeats 4000000 in
theorem pass2 (w0 : World) (c : Nat) (l : List UInt8) (a0 : Nat) (hl : l.length ≤ 200) (a : Act) (w1 : World) (hJ : NextJ w0 c l a0 2 a w1) :
    ∃ rest, findLabel nextCode 2 = some rest ∧ rest.wp Tryz.prog (jumps (fun l' a' w' => NextJ w0 c l a0 l' a' w' ∧ NextM c l l' a' w' < NextM c l 2 a w1) (bodyPost Tryz.prog Tryz.f123 (NextPost w0 c l a0))) a w1 := by
  obtain ⟨hF, b, t, hW, rfl, hbt, htl, hall⟩ := hJ
  unfold NextF at hF
  obtain ⟨u3, hF⟩ := hF
  obtain ⟨u4, hF⟩ := hF
  obtain ⟨u5, hF⟩ := hF
  obtain ⟨u6, hF⟩ := hF
  obtain ⟨u7, hF⟩ := hF
  obtain ⟨u8, hF⟩ := hF
  obtain ⟨u9, hF⟩ := hF
  obtain ⟨u10, hF⟩ := hF
  obtain ⟨u11, hF⟩ := hF
  obtain ⟨u12, hF⟩ := hF
  obtain ⟨u13, hF⟩ := hF
  obtain ⟨u14, hF⟩ := hF
  obtain ⟨u15, hF⟩ := hF
  obtain ⟨u16, hF⟩ := hF
  obtain ⟨u17, hF⟩ := hF
  obtain ⟨u18, hF⟩ := hF
  obtain ⟨u19, hF⟩ := hF
  obtain ⟨u20, hF⟩ := hF
  obtain ⟨u21, hF⟩ := hF
  obtain ⟨u22, hF⟩ := hF
  obtain ⟨u23, hF⟩ := hF
  obtain ⟨u24, hF⟩ := hF
  obtain ⟨u25, hF⟩ := hF
  obtain ⟨u26, hF⟩ := hF
  obtain ⟨u27, hF⟩ := hF
  obtain ⟨u28, hF⟩ := hF
  obtain ⟨u29, hF⟩ := hF
  obtain ⟨u30, hF⟩ := hF
  obtain ⟨u31, hF⟩ := hF
  obtain ⟨u32, hF⟩ := hF
  obtain ⟨u33, hF⟩ := hF
  obtain ⟨u34, hF⟩ := hF
  obtain ⟨u35, hF⟩ := hF
  obtain ⟨u36, hF⟩ := hF
  obtain ⟨u37, hF⟩ := hF
  obtain ⟨u38, hF⟩ := hF
  obtain ⟨u39, hF⟩ := hF
  obtain ⟨u40, hF⟩ := hF
  obtain ⟨u41, hF⟩ := hF
  obtain ⟨u42, hF⟩ := hF
  obtain ⟨u43, hF⟩ := hF
  obtain ⟨u44, hF⟩ := hF
  obtain ⟨u45, hF⟩ := hF
  obtain ⟨u46, hF⟩ := hF
  obtain ⟨u47, hF⟩ := hF
  obtain ⟨u48, hF⟩ := hF
  obtain ⟨u49, hF⟩ := hF
  obtain ⟨u50, hF⟩ := hF
  obtain ⟨u51, hF⟩ := hF
  obtain ⟨u52, hF⟩ := hF
  obtain ⟨u53, hF⟩ := hF
  obtain ⟨u54, hF⟩ := hF
  obtain ⟨u55, hF⟩ := hF
  obtain ⟨u56, hF⟩ := hF
  obtain ⟨u57, hF⟩ := hF
  obtain ⟨u58, hF⟩ := hF
  obtain ⟨u59, hF⟩ := hF
  subst hF
  refine ⟨_, rfl, ?_⟩
  have hst := step_any c l (qOf l a0) t w1 hW.cut (by omega)
  go_wp2_with fail
  refine hst.mono ?_
  rintro e w2 ⟨rfl, n, rfl⟩
  have hW2 : NextW w0 c l ((w1.setCell ⟨c, 2, none⟩ (.int .i64 ((t : Int) + 1))).drewN n) (qOf l a0) (t + 1) := by simpa using hW.step (t + 1) n
  by_cases hn : ∃ h : t + 1 < l.length, isD l[t + 1] = true
  · obtain ⟨h1, hn⟩ := hn
    rw [lookN_some h1, classI_D _ hn]
    go_wp2_with fail
    refine wp_goto ?_
    show NextJ _ _ _ _ _ _ _ ∧ _ < _
    refine ⟨⟨nextF, _, _, hW2, rfl, by omega, h1, ?_⟩, ?_⟩
    · intro j hj h2 h3
      by_cases e : j = t + 1
      · subst e; exact hn
      · exact hall j hj h2 (by omega)
    · simp only [NextM]
      rw [atOf_cut hW2.cut, atOf_cut hW.cut]
      simp only [rank]
      omega
  · have hz : (lookN l (t + 1) == 3) = false := by
      rw [beq_eq_false_iff_ne]
      intro e
      by_cases h1 : t + 1 < l.length
      · rw [lookN_some h1] at e
        exact hn ⟨h1, classI_D' e⟩
      · rw [lookN_none h1] at e; cases e
    have HT := hide (num_end hbt htl hall (fun h => (by simpa using fun e => hn ⟨h, e⟩)))
    generalize lookN l (t + 1) = z at *
    have hcu := pcut_any c l (qOf l a0) (t + 1) 3 _ hW2.cut (by omega) (by omega) (by omega)
    have HR := hide (fun w3 (hb : Below ((w1.setCell ⟨c, 2, none⟩ (.int .i64 ((t : Int) + 1))).drewN n).heap.size ((w1.setCell ⟨c, 2, none⟩ (.int .i64 ((t : Int) + 1))).drewN n) w3) => next_ret hW2 hb)
    have HB := hide (fun w3 (hb : Below ((w1.setCell ⟨c, 2, none⟩ (.int .i64 ((t : Int) + 1))).drewN n).heap.size ((w1.setCell ⟨c, 2, none⟩ (.int .i64 ((t : Int) + 1))).drewN n) w3) => box_facts hW2 hb)
    go_wp2_with fail
    refine hcu.mono ?_
    rintro e w3 ⟨rfl, hb⟩
    have hr3 := hide (unhide HR w3 hb)
    obtain ⟨⟨x0, f0⟩, ⟨x1, f1⟩, ⟨x2, f2⟩, fz⟩ := unhide HB w3 hb
    have g0 := fz 0
    have g1 := fz 1
    have g2 := fz 2
    clear fz
    go_wp2
    show bodyPost _ _ _ Exit.ret _ _
    refine bodyPost_ret (results_cell_row (p := 2) (ty := 165) rfl _ _ w0.heap.size _ _ _ _ rfl (unhide hr3 _ _ _).1 Tryz.underlying165 rfl tokSize) rfl ?_
    exact next_post (k := 1) (unhide HT) (fun _ => rfl) (fun _ => by omega) (unhide hr3 _ _ _).2.1 (unhide hr3 _ _ _).2.2

set_option maxRecDepth 10000 in
set_option maxHeartbeats 4000000 in
theorem pass3 (w0 : World) (c : Nat) (l : List UInt8) (a0 : Nat) (hl : l.length ≤ 200) (a : Act) (w1 : World) (hJ : NextJ w0 c l a0 3 a w1) :
    ∃ rest, findLabel nextCode 3 = some rest ∧ rest.wp Tryz.prog (jumps (fun l' a' w' => NextJ w0 c l a0 l' a' w' ∧ NextM c l l' a' w' < NextM c l 3 a w1) (bodyPost Tryz.prog Tryz.f123 (NextPost w0 c l a0))) a w1 := by
  obtain ⟨hF, b, t, hW, rfl, hbt, htl, hq, hall⟩ := hJ
  unfold NextF at hF
  obtain ⟨u3, hF⟩ := hF
  obtain ⟨u4, hF⟩ := hF
  obtain ⟨u5, hF⟩ := hF
  obtain ⟨u6, hF⟩ := hF
  obtain ⟨u7, hF⟩ := hF
  obtain ⟨u8, hF⟩ := hF
  obtain ⟨u9, hF⟩ := hF
  obtain ⟨u10, hF⟩ := hF
  obtain ⟨u11, hF⟩ := hF
  obtain ⟨u12, hF⟩ := hF
  obtain ⟨u13, hF⟩ := hF
  obtain ⟨u14, hF⟩ := hF
  obtain ⟨u15, hF⟩ := hF
  obtain ⟨u16, hF⟩ := hF
  obtain ⟨u17, hF⟩ := hF
  obtain ⟨u18, hF⟩ := hF
  obtain ⟨u19, hF⟩ := hF
  obtain ⟨u20, hF⟩ := hF
  obtain ⟨u21, hF⟩ := hF
  obtain ⟨u22, hF⟩ := hF
  obtain ⟨u23, hF⟩ := hF
  obtain ⟨u24, hF⟩ := hF
  obtain ⟨u25, hF⟩ := hF
  obtain ⟨u26, hF⟩ := hF
  obtain ⟨u27, hF⟩ := hF
  obtain ⟨u28, hF⟩ := hF
  obtain ⟨u29, hF⟩ := hF
  obtain ⟨u30, hF⟩ := hF
  obtain ⟨u31, hF⟩ := hF
  obtain ⟨u32, hF⟩ := hF
  obtain ⟨u33, hF⟩ := hF
  obtain ⟨u34, hF⟩ := hF
  obtain ⟨u35, hF⟩ := hF
  obtain ⟨u36, hF⟩ := hF
  obtain ⟨u37, hF⟩ := hF
  obtain ⟨u38, hF⟩ := hF
  obtain ⟨u39, hF⟩ := hF
  obtain ⟨u40, hF⟩ := hF
  obtain ⟨u41, hF⟩ := hF
  obtain ⟨u42, hF⟩ := hF
  obtain ⟨u43, hF⟩ := hF
  obtain ⟨u44, hF⟩ := hF
  obtain ⟨u45, hF⟩ := hF
  obtain ⟨u46, hF⟩ := hF
  obtain ⟨u47, hF⟩ := hF
  obtain ⟨u48, hF⟩ := hF
  obtain ⟨u49, hF⟩ := hF
  obtain ⟨u50, hF⟩ := hF
  obtain ⟨u51, hF⟩ := hF
  obtain ⟨u52, hF⟩ := hF
  obtain ⟨u53, hF⟩ := hF
  obtain ⟨u54, hF⟩ := hF
  obtain ⟨u55, hF⟩ := hF
  obtain ⟨u56, hF⟩ := hF
  obtain ⟨u57, hF⟩ := hF
  obtain ⟨u58, hF⟩ := hF
  obtain ⟨u59, hF⟩ := hF
  subst hF
  refine ⟨_, rfl, ?_⟩
  have hst := step_any c l (qOf l a0) t w1 hW.cut (by omega)
  go_wp2_with fail
  refine hst.mono ?_
  rintro e w2 ⟨rfl, n, rfl⟩
  have hW2 : NextW w0 c l ((w1.setCell ⟨c, 2, none⟩ (.int .i64 ((t : Int) + 1))).drewN n) (qOf l a0) (t + 1) := by simpa using hW.step (t + 1) n
  have hbl : qOf l a0 < l.length := by omega
  have hq' : l[qOf l a0] = 34 := by rw [List.getElem?_eq_getElem hbl] at hq; simpa using hq
  by_cases h1 : t + 1 < l.length
  · by_cases h34 : l[t + 1] = 34
    · rw [lookN_some h1, classI_Q _ h34]
      go_wp2_with fail
      refine wp_goto ?_
      show NextJ _ _ _ _ _ _ _ ∧ _ < _
      refine ⟨⟨nextF, _, _, hW2, rfl, by omega, h1, str_end (by omega) h1 hq' (fun j hj h2 h3 => hall j hj h2 (by omega)) h34⟩, ?_⟩
      · simp only [NextM]
        rw [atOf_cut hW2.cut, atOf_cut hW.cut]
        simp only [rank]
        omega
    · have hz4 : (classI l[t + 1].toNat == 4) = false := by
        rw [beq_eq_false_iff_ne]
        exact fun e => h34 (classI_Q' e)
      have hz0 : (classI l[t + 1].toNat == 0) = false := by
        rw [beq_eq_false_iff_ne]
        have := classI_pos l[t + 1].toNat
        omega
      rw [lookN_some h1]
      generalize classI l[t + 1].toNat = z at *
      go_wp2_with fail
      refine wp_goto ?_
      show NextJ _ _ _ _ _ _ _ ∧ _ < _
      refine ⟨⟨nextF, _, _, hW2, rfl, by omega, h1, hq, ?_⟩, ?_⟩
      · intro j hj h2 h3
        by_cases e : j = t + 1
        · subst e; exact h34
        · exact hall j hj h2 (by omega)
      · simp only [NextM]
        rw [atOf_cut hW2.cut, atOf_cut hW.cut]
        simp only [rank]
        omega
  · rw [lookN_none h1]
    go_wp2_with fail
    refine wp_goto ?_
    show NextJ _ _ _ _ _ _ _ ∧ _ < _
    refine ⟨⟨nextF, _, _, hW2, rfl, by omega, by omega, str_none hbl hq' (fun j hj h2 => hall j hj h2 (by omega))⟩, ?_⟩
    · simp only [NextM]
      rw [atOf_cut hW2.cut, atOf_cut hW.cut]
      simp only [rank]
      omega

set_option maxRecDepth 10000 in
set_option maxHeartbeats 4000000 in
theorem pass7 (w0 : World) (c : Nat) (l : List UInt8) (a0 : Nat) (hl : l.length ≤ 200) (a : Act) (w1 : World) (hJ : NextJ w0 c l a0 7 a w1) :
    ∃ rest, findLabel nextCode 7 = some rest ∧ rest.wp Tryz.prog (jumps (fun l' a' w' => NextJ w0 c l a0 l' a' w' ∧ NextM c l l' a' w' < NextM c l 7 a w1) (bodyPost Tryz.prog Tryz.f123 (NextPost w0 c l a0))) a w1 := by
  obtain ⟨hF, b, t, hW, rfl, hbt, htl, htok⟩ := hJ
  unfold NextF at hF
  obtain ⟨u3, hF⟩ := hF
  obtain ⟨u4, hF⟩ := hF
  obtain ⟨u5, hF⟩ := hF
  obtain ⟨u6, hF⟩ := hF
  obtain ⟨u7, hF⟩ := hF
  obtain ⟨u8, hF⟩ := hF
  obtain ⟨u9, hF⟩ := hF
  obtain ⟨u10, hF⟩ := hF
  obtain ⟨u11, hF⟩ := hF
  obtain ⟨u12, hF⟩ := hF
  obtain ⟨u13, hF⟩ := hF
  obtain ⟨u14, hF⟩ := hF
  obtain ⟨u15, hF⟩ := hF
  obtain ⟨u16, hF⟩ := hF
  obtain ⟨u17, hF⟩ := hF
  obtain ⟨u18, hF⟩ := hF
  obtain ⟨u19, hF⟩ := hF
  obtain ⟨u20, hF⟩ := hF
  obtain ⟨u21, hF⟩ := hF
  obtain ⟨u22, hF⟩ := hF
  obtain ⟨u23, hF⟩ := hF
  obtain ⟨u24, hF⟩ := hF
  obtain ⟨u25, hF⟩ := hF
  obtain ⟨u26, hF⟩ := hF
  obtain ⟨u27, hF⟩ := hF
  obtain ⟨u28, hF⟩ := hF
  obtain ⟨u29, hF⟩ := hF
  obtain ⟨u30, hF⟩ := hF
  obtain ⟨u31, hF⟩ := hF
  obtain ⟨u32, hF⟩ := hF
  obtain ⟨u33, hF⟩ := hF
  obtain ⟨u34, hF⟩ := hF
  obtain ⟨u35, hF⟩ := hF
  obtain ⟨u36, hF⟩ := hF
  obtain ⟨u37, hF⟩ := hF
  obtain ⟨u38, hF⟩ := hF
  obtain ⟨u39, hF⟩ := hF
  obtain ⟨u40, hF⟩ := hF
  obtain ⟨u41, hF⟩ := hF
  obtain ⟨u42, hF⟩ := hF
  obtain ⟨u43, hF⟩ := hF
  obtain ⟨u44, hF⟩ := hF
  obtain ⟨u45, hF⟩ := hF
  obtain ⟨u46, hF⟩ := hF
  obtain ⟨u47, hF⟩ := hF
  obtain ⟨u48, hF⟩ := hF
  obtain ⟨u49, hF⟩ := hF
  obtain ⟨u50, hF⟩ := hF
  obtain ⟨u51, hF⟩ := hF
  obtain ⟨u52, hF⟩ := hF
  obtain ⟨u53, hF⟩ := hF
  obtain ⟨u54, hF⟩ := hF
  obtain ⟨u55, hF⟩ := hF
  obtain ⟨u56, hF⟩ := hF
  obtain ⟨u57, hF⟩ := hF
  obtain ⟨u58, hF⟩ := hF
  obtain ⟨u59, hF⟩ := hF
  subst hF
  refine ⟨_, rfl, ?_⟩
  have hst := step_any c l (qOf l a0) t w1 hW.cut (by omega)
  go_wp2_with fail
  refine hst.mono ?_
  rintro e w2 ⟨rfl, n, rfl⟩
  have hW2 : NextW w0 c l ((w1.setCell ⟨c, 2, none⟩ (.int .i64 ((t : Int) + 1))).drewN n) (qOf l a0) (t + 1) := by simpa using hW.step (t + 1) n
  have HT := hide htok
  have hnl := (tok1_len (l.drop (qOf l a0))).1
  generalize lookN l (t + 1) = z at *
  have hcu := pcutS_any c l (qOf l a0) (t + 1) _ hW2.cut (by omega) (by omega) (by omega)
  have HR := hide (fun w3 (hb : Below ((w1.setCell ⟨c, 2, none⟩ (.int .i64 ((t : Int) + 1))).drewN n).heap.size ((w1.setCell ⟨c, 2, none⟩ (.int .i64 ((t : Int) + 1))).drewN n) w3) => next_ret hW2 hb)
  have HB := hide (fun w3 (hb : Below ((w1.setCell ⟨c, 2, none⟩ (.int .i64 ((t : Int) + 1))).drewN n).heap.size ((w1.setCell ⟨c, 2, none⟩ (.int .i64 ((t : Int) + 1))).drewN n) w3) => box_facts hW2 hb)
  go_wp2_with fail
  refine hcu.mono ?_
  rintro e w3 ⟨rfl, hb⟩
  have hr3 := hide (unhide HR w3 hb)
  obtain ⟨⟨x0, f0⟩, ⟨x1, f1⟩, ⟨x2, f2⟩, fz⟩ := unhide HB w3 hb
  have g0 := fz 0
  have g1 := fz 1
  have g2 := fz 2
  clear fz
  go_wp2
  show bodyPost _ _ _ Exit.ret _ _
  refine bodyPost_ret (results_cell_row (p := 2) (ty := 165) rfl _ _ w0.heap.size _ _ _ _ rfl (unhide hr3 _ _ _).1 Tryz.underlying165 rfl tokSize) rfl ?_
  exact next_post (k := 2) (unhide HT) (fun _ => rfl) (fun _ => by omega) (unhide hr3 _ _ _).2.1 (unhide hr3 _ _ _).2.2

set_option maxRecDepth 10000 in
set_option maxHeartbeats 4000000 in
theorem pass4 (w0 : World) (c : Nat) (l : List UInt8) (a0 : Nat) (hl : l.length ≤ 200) (a : Act) (w1 : World) (hJ : NextJ w0 c l a0 4 a w1) :
    ∃ rest, findLabel nextCode 4 = some rest ∧ rest.wp Tryz.prog (jumps (fun l' a' w' => NextJ w0 c l a0 l' a' w' ∧ NextM c l l' a' w' < NextM c l 4 a w1) (bodyPost Tryz.prog Tryz.f123 (NextPost w0 c l a0))) a w1 := by
  obtain ⟨hF, b, t, hW, rfl, rfl, htl, hq⟩ := hJ
  unfold NextF at hF
  obtain ⟨u3, hF⟩ := hF
  obtain ⟨u4, hF⟩ := hF
  obtain ⟨u5, hF⟩ := hF
  obtain ⟨u6, hF⟩ := hF
  obtain ⟨u7, hF⟩ := hF
  obtain ⟨u8, hF⟩ := hF
  obtain ⟨u9, hF⟩ := hF
  obtain ⟨u10, hF⟩ := hF
  obtain ⟨u11, hF⟩ := hF
  obtain ⟨u12, hF⟩ := hF
  obtain ⟨u13, hF⟩ := hF
  obtain ⟨u14, hF⟩ := hF
  obtain ⟨u15, hF⟩ := hF
  obtain ⟨u16, hF⟩ := hF
  obtain ⟨u17, hF⟩ := hF
  obtain ⟨u18, hF⟩ := hF
  obtain ⟨u19, hF⟩ := hF
  obtain ⟨u20, hF⟩ := hF
  obtain ⟨u21, hF⟩ := hF
  obtain ⟨u22, hF⟩ := hF
  obtain ⟨u23, hF⟩ := hF
  obtain ⟨u24, hF⟩ := hF
  obtain ⟨u25, hF⟩ := hF
  obtain ⟨u26, hF⟩ := hF
  obtain ⟨u27, hF⟩ := hF
  obtain ⟨u28, hF⟩ := hF
  obtain ⟨u29, hF⟩ := hF
  obtain ⟨u30, hF⟩ := hF
  obtain ⟨u31, hF⟩ := hF
  obtain ⟨u32, hF⟩ := hF
  obtain ⟨u33, hF⟩ := hF
  obtain ⟨u34, hF⟩ := hF
  obtain ⟨u35, hF⟩ := hF
  obtain ⟨u36, hF⟩ := hF
  obtain ⟨u37, hF⟩ := hF
  obtain ⟨u38, hF⟩ := hF
  obtain ⟨u39, hF⟩ := hF
  obtain ⟨u40, hF⟩ := hF
  obtain ⟨u41, hF⟩ := hF
  obtain ⟨u42, hF⟩ := hF
  obtain ⟨u43, hF⟩ := hF
  obtain ⟨u44, hF⟩ := hF
  obtain ⟨u45, hF⟩ := hF
  obtain ⟨u46, hF⟩ := hF
  obtain ⟨u47, hF⟩ := hF
  obtain ⟨u48, hF⟩ := hF
  obtain ⟨u49, hF⟩ := hF
  obtain ⟨u50, hF⟩ := hF
  obtain ⟨u51, hF⟩ := hF
  obtain ⟨u52, hF⟩ := hF
  obtain ⟨u53, hF⟩ := hF
  obtain ⟨u54, hF⟩ := hF
  obtain ⟨u55, hF⟩ := hF
  obtain ⟨u56, hF⟩ := hF
  obtain ⟨u57, hF⟩ := hF
  obtain ⟨u58, hF⟩ := hF
  obtain ⟨u59, hF⟩ := hF
  subst hF
  refine ⟨_, rfl, ?_⟩
  have hst := step_any c l (qOf l a0) (qOf l a0) w1 hW.cut (by omega)
  go_wp2_with fail
  refine hst.mono ?_
  rintro e w2 ⟨rfl, n, rfl⟩
  have hW2 : NextW w0 c l ((w1.setCell ⟨c, 2, none⟩ (.int .i64 ((qOf l a0 : Int) + 1))).drewN n) (qOf l a0) (qOf l a0 + 1) := by simpa using hW.step (qOf l a0 + 1) n
  have hq' : l[qOf l a0] = 33 ∨ l[qOf l a0] = 124 := by rw [List.getElem?_eq_getElem htl] at hq; simpa using hq
  have n1 : ¬ isL l[qOf l a0] = true := by rcases hq' with e | e <;> rw [e] <;> decide
  have n2 : ¬ isD l[qOf l a0] = true := by rcases hq' with e | e <;> rw [e] <;> decide
  have n3 : ¬ l[qOf l a0] = 34 := by rcases hq' with e | e <;> rw [e] <;> decide
  by_cases h61 : l[qOf l a0 + 1]? = some 61
  · obtain ⟨h1, he⟩ := List.getElem?_eq_some_iff.1 h61
    rw [lookN_some h1, classI_E _ he]
    go_wp2_with fail
    refine wp_goto ?_
    show NextJ _ _ _ _ _ _ _ ∧ _ < _
    refine ⟨⟨nextF, _, _, hW2, rfl, by omega, h1, ?_⟩, ?_⟩
    · rw [tok1_P htl n1 n2 n3 hq' h61, show qOf l a0 + 1 + 1 = qOf l a0 + 2 from rfl, pair_list htl, h61]
      simp
    · simp only [NextM]
      rw [atOf_cut hW2.cut, atOf_cut hW.cut]
      simp only [rank]
      omega
  · have hz : (lookN l (qOf l a0 + 1) == 5) = false := by
      rw [beq_eq_false_iff_ne]
      intro e
      by_cases h1 : qOf l a0 + 1 < l.length
      · rw [lookN_some h1] at e
        exact h61 (by rw [List.getElem?_eq_getElem h1, classI_E' e])
      · rw [lookN_none h1] at e; cases e
    generalize lookN l (qOf l a0 + 1) = z at *
    go_wp2_with fail
    refine wp_goto ?_
    show NextJ _ _ _ _ _ _ _ ∧ _ < _
    refine ⟨⟨nextF, _, _, hW2, rfl, by omega, by omega, tok1_H htl n1 n2 n3 hq' h61⟩, ?_⟩
    · simp only [NextM]
      rw [atOf_cut hW2.cut, atOf_cut hW.cut]
      simp only [rank]
      omega

set_option maxRecDepth 10000 in
set_option maxHeartbeats 4000000 in
theorem pass5 (w0 : World) (c : Nat) (l : List UInt8) (a0 : Nat) (hl : l.length ≤ 200) (a : Act) (w1 : World) (hJ : NextJ w0 c l a0 5 a w1) :
    ∃ rest, findLabel nextCode 5 = some rest ∧ rest.wp Tryz.prog (jumps (fun l' a' w' => NextJ w0 c l a0 l' a' w' ∧ NextM c l l' a' w' < NextM c l 5 a w1) (bodyPost Tryz.prog Tryz.f123 (NextPost w0 c l a0))) a w1 := by
  obtain ⟨hF, b, t, hW, rfl, hbt, htl, htok⟩ := hJ
  unfold NextF at hF
  obtain ⟨u3, hF⟩ := hF
  obtain ⟨u4, hF⟩ := hF
  obtain ⟨u5, hF⟩ := hF
  obtain ⟨u6, hF⟩ := hF
  obtain ⟨u7, hF⟩ := hF
  obtain ⟨u8, hF⟩ := hF
  obtain ⟨u9, hF⟩ := hF
  obtain ⟨u10, hF⟩ := hF
  obtain ⟨u11, hF⟩ := hF
  obtain ⟨u12, hF⟩ := hF
  obtain ⟨u13, hF⟩ := hF
  obtain ⟨u14, hF⟩ := hF
  obtain ⟨u15, hF⟩ := hF
  obtain ⟨u16, hF⟩ := hF
  obtain ⟨u17, hF⟩ := hF
  obtain ⟨u18, hF⟩ := hF
  obtain ⟨u19, hF⟩ := hF
  obtain ⟨u20, hF⟩ := hF
  obtain ⟨u21, hF⟩ := hF
  obtain ⟨u22, hF⟩ := hF
  obtain ⟨u23, hF⟩ := hF
  obtain ⟨u24, hF⟩ := hF
  obtain ⟨u25, hF⟩ := hF
  obtain ⟨u26, hF⟩ := hF
  obtain ⟨u27, hF⟩ := hF
  obtain ⟨u28, hF⟩ := hF
  obtain ⟨u29, hF⟩ := hF
  obtain ⟨u30, hF⟩ := hF
  obtain ⟨u31, hF⟩ := hF
  obtain ⟨u32, hF⟩ := hF
  obtain ⟨u33, hF⟩ := hF
  obtain ⟨u34, hF⟩ := hF
  obtain ⟨u35, hF⟩ := hF
  obtain ⟨u36, hF⟩ := hF
  obtain ⟨u37, hF⟩ := hF
  obtain ⟨u38, hF⟩ := hF
  obtain ⟨u39, hF⟩ := hF
  obtain ⟨u40, hF⟩ := hF
  obtain ⟨u41, hF⟩ := hF
  obtain ⟨u42, hF⟩ := hF
  obtain ⟨u43, hF⟩ := hF
  obtain ⟨u44, hF⟩ := hF
  obtain ⟨u45, hF⟩ := hF
  obtain ⟨u46, hF⟩ := hF
  obtain ⟨u47, hF⟩ := hF
  obtain ⟨u48, hF⟩ := hF
  obtain ⟨u49, hF⟩ := hF
  obtain ⟨u50, hF⟩ := hF
  obtain ⟨u51, hF⟩ := hF
  obtain ⟨u52, hF⟩ := hF
  obtain ⟨u53, hF⟩ := hF
  obtain ⟨u54, hF⟩ := hF
  obtain ⟨u55, hF⟩ := hF
  obtain ⟨u56, hF⟩ := hF
  obtain ⟨u57, hF⟩ := hF
  obtain ⟨u58, hF⟩ := hF
  obtain ⟨u59, hF⟩ := hF
  subst hF
  refine ⟨_, rfl, ?_⟩
  have hst := step_any c l (qOf l a0) t w1 hW.cut (by omega)
  go_wp2_with fail
  refine hst.mono ?_
  rintro e w2 ⟨rfl, n, rfl⟩
  have hW2 : NextW w0 c l ((w1.setCell ⟨c, 2, none⟩ (.int .i64 ((t : Int) + 1))).drewN n) (qOf l a0) (t + 1) := by simpa using hW.step (t + 1) n
  have HT := hide htok
  generalize lookN l (t + 1) = z at *
  have hcu := pcut_any c l (qOf l a0) (t + 1) 5 _ hW2.cut (by omega) (by omega) (by omega)
  have HR := hide (fun w3 (hb : Below ((w1.setCell ⟨c, 2, none⟩ (.int .i64 ((t : Int) + 1))).drewN n).heap.size ((w1.setCell ⟨c, 2, none⟩ (.int .i64 ((t : Int) + 1))).drewN n) w3) => next_ret hW2 hb)
  have HB := hide (fun w3 (hb : Below ((w1.setCell ⟨c, 2, none⟩ (.int .i64 ((t : Int) + 1))).drewN n).heap.size ((w1.setCell ⟨c, 2, none⟩ (.int .i64 ((t : Int) + 1))).drewN n) w3) => box_facts hW2 hb)
  go_wp2_with fail
  refine hcu.mono ?_
  rintro e w3 ⟨rfl, hb⟩
  have hr3 := hide (unhide HR w3 hb)
  obtain ⟨⟨x0, f0⟩, ⟨x1, f1⟩, ⟨x2, f2⟩, fz⟩ := unhide HB w3 hb
  have g0 := fz 0
  have g1 := fz 1
  have g2 := fz 2
  clear fz
  go_wp2
  show bodyPost _ _ _ Exit.ret _ _
  refine bodyPost_ret (results_cell_row (p := 2) (ty := 165) rfl _ _ w0.heap.size _ _ _ _ rfl (unhide hr3 _ _ _).1 Tryz.underlying165 rfl tokSize) rfl ?_
  exact next_post (k := 3) (unhide HT) (fun _ => rfl) (fun _ => by omega) (unhide hr3 _ _ _).2.1 (unhide hr3 _ _ _).2.2

set_option maxRecDepth 10000 in
set_option maxHeartbeats 4000000 in
theorem pass6 (w0 : World) (c : Nat) (l : List UInt8) (a0 : Nat) (_ : l.length ≤ 200) (a : Act) (w1 : World) (hJ : NextJ w0 c l a0 6 a w1) :
    ∃ rest, findLabel nextCode 6 = some rest ∧ rest.wp Tryz.prog (jumps (fun l' a' w' => NextJ w0 c l a0 l' a' w' ∧ NextM c l l' a' w' < NextM c l 6 a w1) (bodyPost Tryz.prog Tryz.f123 (NextPost w0 c l a0))) a w1 := by
  obtain ⟨hF, b, t, hW, rfl, hbt, htl, htok⟩ := hJ
  unfold NextF at hF
  obtain ⟨u3, hF⟩ := hF
  obtain ⟨u4, hF⟩ := hF
  obtain ⟨u5, hF⟩ := hF
  obtain ⟨u6, hF⟩ := hF
  obtain ⟨u7, hF⟩ := hF
  obtain ⟨u8, hF⟩ := hF
  obtain ⟨u9, hF⟩ := hF
  obtain ⟨u10, hF⟩ := hF
  obtain ⟨u11, hF⟩ := hF
  obtain ⟨u12, hF⟩ := hF
  obtain ⟨u13, hF⟩ := hF
  obtain ⟨u14, hF⟩ := hF
  obtain ⟨u15, hF⟩ := hF
  obtain ⟨u16, hF⟩ := hF
  obtain ⟨u17, hF⟩ := hF
  obtain ⟨u18, hF⟩ := hF
  obtain ⟨u19, hF⟩ := hF
  obtain ⟨u20, hF⟩ := hF
  obtain ⟨u21, hF⟩ := hF
  obtain ⟨u22, hF⟩ := hF
  obtain ⟨u23, hF⟩ := hF
  obtain ⟨u24, hF⟩ := hF
  obtain ⟨u25, hF⟩ := hF
  obtain ⟨u26, hF⟩ := hF
  obtain ⟨u27, hF⟩ := hF
  obtain ⟨u28, hF⟩ := hF
  obtain ⟨u29, hF⟩ := hF
  obtain ⟨u30, hF⟩ := hF
  obtain ⟨u31, hF⟩ := hF
  obtain ⟨u32, hF⟩ := hF
  obtain ⟨u33, hF⟩ := hF
  obtain ⟨u34, hF⟩ := hF
  obtain ⟨u35, hF⟩ := hF
  obtain ⟨u36, hF⟩ := hF
  obtain ⟨u37, hF⟩ := hF
  obtain ⟨u38, hF⟩ := hF
  obtain ⟨u39, hF⟩ := hF
  obtain ⟨u40, hF⟩ := hF
  obtain ⟨u41, hF⟩ := hF
  obtain ⟨u42, hF⟩ := hF
  obtain ⟨u43, hF⟩ := hF
  obtain ⟨u44, hF⟩ := hF
  obtain ⟨u45, hF⟩ := hF
  obtain ⟨u46, hF⟩ := hF
  obtain ⟨u47, hF⟩ := hF
  obtain ⟨u48, hF⟩ := hF
  obtain ⟨u49, hF⟩ := hF
  obtain ⟨u50, hF⟩ := hF
  obtain ⟨u51, hF⟩ := hF
  obtain ⟨u52, hF⟩ := hF
  obtain ⟨u53, hF⟩ := hF
  obtain ⟨u54, hF⟩ := hF
  obtain ⟨u55, hF⟩ := hF
  obtain ⟨u56, hF⟩ := hF
  obtain ⟨u57, hF⟩ := hF
  obtain ⟨u58, hF⟩ := hF
  obtain ⟨u59, hF⟩ := hF
  subst hF
  refine ⟨_, rfl, ?_⟩
  have HT := hide htok
  have hW2 := hW
  have hcu := pcut_any c l (qOf l a0) t 1 _ hW2.cut (by omega) (by omega) (by omega)
  have HR := hide (fun w3 (hb : Below w1.heap.size w1 w3) => next_ret hW2 hb)
  have HB := hide (fun w3 (hb : Below w1.heap.size w1 w3) => box_facts hW2 hb)
  go_wp2_with fail
  refine hcu.mono ?_
  rintro e w3 ⟨rfl, hb⟩
  have hr3 := hide (unhide HR w3 hb)
  obtain ⟨⟨x0, f0⟩, ⟨x1, f1⟩, ⟨x2, f2⟩, fz⟩ := unhide HB w3 hb
  have g0 := fz 0
  have g1 := fz 1
  have g2 := fz 2
  clear fz
  go_wp2
  show bodyPost _ _ _ Exit.ret _ _
  refine bodyPost_ret (results_cell_row (p := 2) (ty := 165) rfl _ _ w0.heap.size _ _ _ _ rfl (unhide hr3 _ _ _).1 Tryz.underlying165 rfl tokSize) rfl ?_
  exact next_post (k := 5) (unhide HT) (fun h => absurd rfl h) (fun h => absurd h (by omega)) (unhide hr3 _ _ _).2.1 (unhide hr3 _ _ _).2.2

end Go.Proofs.YtbljamcdaoofbaaGreatDoor
