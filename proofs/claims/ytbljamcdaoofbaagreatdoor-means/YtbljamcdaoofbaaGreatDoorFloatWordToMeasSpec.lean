/- Texts FloatWord, KFloat, PGCopy, RNum, RFloat, RWhole, MeasSpec, joined. -/
import Derived.Test.YtbljamcdaoofbaaGreatDoorKToldToFloatDiv
import Derived.Test.YtbljamcdaoofbaaGreatDoorPInsertToPPush2
import Derived.Test.YtbljamcdaoofbaaGreatDoorRSpanToPMeas
import Derived.Test.YtbljamcdaoofbaaGreatDoorLawSmallToKOrd
import Derived.Test.YtbljamcdaoofbaaGreatDoorPWholeToPSwap
/- The bits of a quotient, and the whole number that a float stands for; the machine's conversions and its division by them. -/
namespace Go.Proofs.YtbljamcdaoofbaaGreatDoor

open Classical in
/-- the bits of A / B as a float of 32 bits -/
noncomputable def fB (A B : Nat) : Nat := if A = 0 then 0 else if h : ∃ x, IsF A B x then h.choose else 0

theorem fB_eq {A B x : Nat} (hA : 0 < A) (hB : 0 < B) (h : IsF A B x) : fB A B = x := by
  have hx : ∃ x, IsF A B x := ⟨x, h⟩
  unfold fB
  rw [if_neg (by omega), dif_pos hx]
  exact IsF.uniq hB hx.choose_spec h

theorem fB_zero (B : Nat) : fB 0 B = 0 := by
  unfold fB
  rw [if_pos rfl]

/-- the whole number that a float's bits stand for -/
def wholeN (bits : Nat) : Nat := if bits = 0 then 0 else (bits % 8388608 + 8388608) * 2 ^ (bits / 8388608 - 150) / 2 ^ (150 - bits / 8388608)

theorem word_parts {E m : Nat} (h1 : 8388608 ≤ m) (h2 : m < 16777216) : (E * 8388608 + m) / 8388608 = E + 1 ∧ (E * 8388608 + m) % 8388608 + 8388608 = m := by
  constructor
  · rw [Nat.add_comm, Nat.add_mul_div_right _ _ (by decide)]
    have : m / 8388608 = 1 := by rw [Nat.div_eq_iff (by decide)]; omega
    omega
  · rw [Nat.add_comm (E * 8388608) m, Nat.add_mul_mod_self_right]
    have e : m = (m - 8388608) + 8388608 := by omega
    have e2 : m % 8388608 = m - 8388608 := by
      rw [e, Nat.add_mod_right, Nat.add_sub_cancel]
      exact Nat.mod_eq_of_lt (by omega)
    omega

theorem wholeN_eq {E m W : Nat} (h1 : 8388608 ≤ m) (h2 : m < 16777216) (h : m * 2 ^ E = W * 2 ^ 149) : wholeN (E * 8388608 + m) = W := by
  obtain ⟨e1, e2⟩ := word_parts (E := E) h1 h2
  unfold wholeN
  rw [if_neg (by omega), e1, e2]
  by_cases hE : 149 ≤ E
  · obtain ⟨k, rfl⟩ : ∃ k, E = k + 149 := ⟨E - 149, by omega⟩
    rw [show k + 149 + 1 - 150 = k by omega, show 150 - (k + 149 + 1) = 0 by omega, Nat.pow_zero, Nat.div_one]
    rw [Nat.pow_add, ← Nat.mul_assoc] at h
    exact Nat.eq_of_mul_eq_mul_right (Nat.two_pow_pos 149) h
  · obtain ⟨k, hk⟩ : ∃ k, 149 = E + k := ⟨149 - E, by omega⟩
    rw [show E + 1 - 150 = 0 by omega, show 150 - (E + 1) = k by omega, Nat.pow_zero, Nat.mul_one]
    have h' : m = W * 2 ^ k := by
      rw [hk, Nat.pow_add] at h
      refine Nat.eq_of_mul_eq_mul_right (Nat.two_pow_pos E) ?_
      rw [h]
      ac_rfl
    rw [h', Nat.mul_div_cancel _ (Nat.two_pow_pos _)]

theorem rne_one (a : Nat) : rne a 1 = a := by
  unfold rne
  rw [Nat.mod_one, Nat.div_one, if_neg (by omega)]
  rfl

/-- float32(A), as it reads -/
theorem ofNat_reads {A : Nat} (h1 : 0 < A) (h2 : A < 2 ^ 60) : ∃ m E W, Ieee.single.nearest false A 0 = E * 8388608 + m ∧ 8388608 ≤ m ∧ m < 16777216 ∧ 126 ≤ E ∧ E ≤ 187 ∧ m * 2 ^ E = W * 2 ^ 149 ∧ (A < 16777216 → W = A) ∧ 0 < W ∧ W ≤ 2 * A := by
  obtain ⟨l3, l1, e, hlo, hhi⟩ := ofNat_form h1 h2
  generalize A.log2 = k at *
  have hp : 0 < 2 ^ (k - 23) := Nat.two_pow_pos _
  have r1 := rne_ge hp hlo
  have r2 := rne_le hp hhi
  by_cases hk : k ≤ 23
  · have ek : k - 23 = 0 := by omega
    rw [ek, Nat.pow_zero] at e hlo hhi
    rw [rne_one] at e
    refine ⟨A * 2 ^ (23 - k), k + 126, A, e, by omega, by omega, by omega, by omega, ?_, fun _ => rfl, h1, by omega⟩
    rw [Nat.mul_assoc, ← Nat.pow_add, show 23 - k + (k + 126) = 149 by omega]
  · have hA : ¬ A < 16777216 := by
      have : 2 ^ 24 ≤ 2 ^ k := Nat.pow_le_pow_right (by decide) (by omega)
      have h24 : (2 : Nat) ^ 24 = 16777216 := by decide
      omega
    generalize rne (A * 2 ^ (23 - k)) (2 ^ (k - 23)) = r at *
    by_cases hr : r < 16777216
    · refine ⟨r, k + 126, r * 2 ^ (k - 23), e, r1, hr, by omega, by omega, ?_, fun h => absurd h hA, Nat.mul_pos (by omega) hp, ?_⟩
      · rw [Nat.mul_assoc, ← Nat.pow_add, show k - 23 + 149 = k + 126 by omega]
      · refine Nat.le_trans (Nat.le_of_lt (Nat.mul_lt_mul_of_pos_right hr hp)) ?_
        rw [show (16777216 : Nat) = 2 ^ 24 by decide, ← Nat.pow_add, show 24 + (k - 23) = k + 1 by omega, Nat.pow_succ]
        omega
    · have hr2 : r = 16777216 := by omega
      subst hr2
      refine ⟨8388608, k + 127, 8388608 * 2 ^ (k - 22), by rw [e]; omega, by omega, by omega, by omega, by omega, ?_, fun h => absurd h hA, Nat.mul_pos (by omega) (Nat.two_pow_pos _), ?_⟩
      · rw [Nat.mul_assoc, ← Nat.pow_add, show k - 22 + 149 = k + 127 by omega]
      · rw [show (8388608 : Nat) = 2 ^ 23 by decide, ← Nat.pow_add, show 23 + (k - 22) = k + 1 by omega, Nat.pow_succ]
        omega

theorem nearest_fB {A : Nat} (h : A < 2 ^ 60) : Ieee.single.nearest false A 0 = fB A 1 := by
  by_cases hA : A = 0
  · subst hA
    rw [fB_zero]
    unfold Ieee.Format.nearest
    rw [if_pos rfl, word_false]
  · exact (fB_eq (by omega) (by decide) (ofNat_isF (by omega) h)).symm

theorem whole_small {A : Nat} (h : A < 16777216) : wholeN (fB A 1) = A := by
  by_cases hA : A = 0
  · subst hA
    rw [fB_zero]
    rfl
  · have h60 : A < 2 ^ 60 := Nat.lt_trans h (by decide)
    obtain ⟨m, E, W, e, m1, m2, -, -, hW, hs, -, -⟩ := ofNat_reads (by omega) h60
    rw [← nearest_fB h60, e, wholeN_eq m1 m2 hW, hs h]

theorem zero_read : Ieee.single.read 0 = .number false 0 (-149) := by
  have el : Ieee.single.leastPlace = -149 := by decide
  have eb : Ieee.single.binade = 8388608 := by decide
  unfold Ieee.Format.read
  simp [el, eb]

theorem sign_word (x : Nat) : Ieee.single.word true x = 2147483648 + x := by
  have es : Ieee.single.signWeight = 2147483648 := by decide
  unfold Ieee.Format.word
  rw [if_pos rfl, es]

/-- float32(A) / float32(D), A with a sign -/
theorem div_fB (neg : Bool) {A D : Nat} (hA : 0 < A) (hA2 : A < 2 ^ 60) (hD : 0 < D) (hD2 : D < 16777216) : Ieee.single.div (Ieee.single.nearest neg A 0) (Ieee.single.nearest false D 0) = some (Ieee.single.word neg (fB (wholeN (fB A 1)) D)) := by
  have hD60 : D < 2 ^ 60 := Nat.lt_trans hD2 (by decide)
  obtain ⟨m, E, W, e, m1, m2, e1, e2, hW, -, hW0, -⟩ := ofNat_reads hA hA2
  obtain ⟨n, E', W', e', n1, n2, e1', e2', hW', hs', -, -⟩ := ofNat_reads hD hD60
  obtain rfl : W' = D := hs' hD2
  have hwh : wholeN (fB A 1) = W := by rw [← nearest_fB hA2, e, wholeN_eq m1 m2 hW]
  obtain ⟨bits, hdiv, hF⟩ := div_isF (neg := neg) m1 m2 n1 n2 e1 (by omega) e1' (by omega)
  rw [nearest_neg neg, e, e', hwh]
  rw [word_false] at hdiv
  rw [hdiv]
  have hF2 : IsF W W' bits := by
    refine IsF.ratio (Nat.mul_pos (by omega) (Nat.two_pow_pos _)) ?_ hF
    rw [hW, hW']
    generalize 2 ^ 149 = p
    ac_rfl
  rw [fB_eq hW0 hD hF2]

theorem div_zero {D : Nat} (hD : 0 < D) (hD2 : D < 16777216) : Ieee.single.div 0 (Ieee.single.nearest false D 0) = some 0 := by
  have hD60 : D < 2 ^ 60 := Nat.lt_trans hD2 (by decide)
  obtain ⟨n, E', W', e', n1, n2, e1', e2', hW', hs', -, -⟩ := ofNat_reads hD hD60
  rw [e']
  unfold Ieee.Format.div
  have hr := read_word (neg := false) n1 n2 (show E' < 250 by omega)
  rw [word_false] at hr
  rw [hr, zero_read]
  unfold Ieee.Datum.quotient
  have hn0 : ¬ n = 0 := by omega
  simp only [hn0, if_false, Nat.shiftLeft_eq, Nat.zero_mul, Nat.zero_div, Nat.zero_mod, Option.map_some, Ieee.Format.write]
  unfold Ieee.Format.nearest
  simp [word_false]

theorem whole_near {A : Nat} (h : A < 2 ^ 60) : wholeN (fB A 1) ≤ 2 * A ∧ fB A 1 / 8388608 ≤ 188 ∧ (0 < A → 0 < wholeN (fB A 1)) := by
  by_cases hA : A = 0
  · subst hA
    rw [fB_zero]
    exact ⟨by simp [wholeN], by simp, fun h => absurd h (by omega)⟩
  · obtain ⟨m, E, W, e, m1, m2, e1, e2, hW, -, hW0, hW2⟩ := ofNat_reads (by omega) h
    have hwh : wholeN (fB A 1) = W := by rw [← nearest_fB h, e, wholeN_eq m1 m2 hW]
    rw [hwh]
    refine ⟨hW2, ?_, fun _ => hW0⟩
    rw [← nearest_fB h, e, (word_parts m1 m2).1]
    omega

theorem fB_whole_lt {A D : Nat} (hA2 : A < 2 ^ 60) (hD : 0 < D) (hD2 : D < 16777216) : fB (wholeN (fB A 1)) D < 4294967296 := by
  by_cases hA : A = 0
  · subst hA
    rw [fB_zero, show wholeN 0 = 0 from rfl, fB_zero]
    decide
  · have h := div_fB false (by omega) hA2 hD hD2
    rw [word_false] at h
    have := Ieee.single.div_lt h
    exact this

end Go.Proofs.YtbljamcdaoofbaaGreatDoor

/- Floats that are whole numbers, and quotients that are. -/
namespace Go.Proofs.YtbljamcdaoofbaaGreatDoor
open Go.RowKit

theorem whole_form {N : Nat} (h0 : 0 < N) (h : N < 16777216) : ∃ e m : Nat, e ≤ 23 ∧ fB N 1 = (e + 126) * 8388608 + m ∧ 8388608 ≤ m ∧ m < 16777216 ∧ m = N * 2 ^ (23 - e) := by
  have hs : N < 2 ^ 60 := Nat.lt_trans h (by decide)
  obtain ⟨m, E, W, h1, h2, h3, h4, h5, h6, h7, -, -⟩ := ofNat_reads h0 hs
  rw [nearest_fB hs] at h1
  have hW := h7 h
  subst hW
  have hE : E ≤ 149 := by
    refine Nat.le_of_not_lt fun hE => ?_
    have a1 : 2 ^ 150 ≤ 2 ^ E := Nat.pow_le_pow_right (by decide) hE
    have a2 : 8388608 * 2 ^ 150 ≤ m * 2 ^ E := Nat.mul_le_mul h2 a1
    have a3 : W * 2 ^ 149 < 16777216 * 2 ^ 149 := Nat.mul_lt_mul_of_pos_right h (by decide)
    have a4 : (8388608 : Nat) * 2 ^ 150 = 16777216 * 2 ^ 149 := by decide
    rw [a4, h6] at a2
    exact absurd a3 (Nat.not_lt.2 a2)
  have hm : m = W * 2 ^ (149 - E) := by
    have h8 : m * 2 ^ E = W * 2 ^ (149 - E) * 2 ^ E := h6.trans (by rw [Nat.mul_assoc, ← Nat.pow_add, Nat.sub_add_cancel hE])
    exact Nat.eq_of_mul_eq_mul_right (Nat.pow_pos (by decide)) h8
  refine ⟨E - 126, m, by omega, ?_, h2, h3, ?_⟩
  · rw [h1, Nat.sub_add_cancel h4]
  · rw [hm, show 149 - E = 23 - (E - 126) by omega]

/-- a quotient that comes out even -/
theorem fB_even {M D : Nat} (hD : 0 < D) (hM : M < 2 ^ 60) : fB (D * M) D = fB M 1 := by
  by_cases h0 : M = 0
  · subst h0
    rw [Nat.mul_zero, fB_zero, fB_zero]
  · have hMp : 0 < M := Nat.pos_of_ne_zero h0
    have h1 := ofNat_isF hMp hM
    rw [nearest_fB hM] at h1
    refine fB_eq (Nat.mul_pos hD hMp) hD ?_
    obtain ⟨E, a, b, hb, k1, k2, k3, k4⟩ := h1
    refine ⟨E, a, b, hb, k1, k2, ?_, k4⟩
    calc a * D * 2 ^ E = D * (a * 1 * 2 ^ E) := by rw [Nat.mul_one, Nat.mul_comm a D, Nat.mul_assoc]
      _ = D * (M * b * 2 ^ 149) := by rw [k3]
      _ = D * M * b * 2 ^ 149 := by simp only [Nat.mul_assoc]

end Go.Proofs.YtbljamcdaoofbaaGreatDoor

/- copy and append of a make, of elements of several cells. -/
namespace Go.Proofs.YtbljamcdaoofbaaGreatDoor
open Go.RowKit

theorem run_copy_many {P : Program} (w : World) (dT sT ty elem : TypeId) (sz g o dLen dCap : Nat) (a : Addr) (sLen sCap : Nat) (cur : Array Value) (t : TypeId) (cs : List Value)
    (hu : P.underlying dT = some (.slice elem)) (hs : (P.info? elem).map (·.size) = some sz)
    (hg : w.heap[g]? = some (.cells cur t (0, 0))) (hn : cs.length = Nat.min sLen dLen * sz)
    (hsrc : ∀ j v, cs[j]? = some v → w.cell? (a.add j) = some v) (hfit : o + cs.length ≤ cur.size) (h1 : ∀ v ∈ cs, v.oneCell' = true) :
    (Builtin.copy_ #[dT, sT] ty #[.slice (some ⟨g, o, none⟩) dLen dCap, .slice (some a) sLen sCap]).run P w =
      .ok (goInt (Nat.min sLen dLen)) (w.setRow g (cur.toList.take o ++ cs ++ cur.toList.drop (o + cs.length)).toArray) := by
  have hl := run_loadCells_list (P := P) w a cs hsrc
  have hst := run_storeCells_at P g o t cs 0 cur w hg (by simpa using hfit) h1
  cases hq : P.info? elem with
  | none => simp [hq] at hs
  | some i =>
    have hi : i.size = sz := by simpa [hq] using hs
    rw [hn] at hl
    simp [Builtin.copy_, run_underlying hu, Builtin.lenOf, Builtin.firstCells, sizeOf, typeInfo, hq, hi, hl, hst]

theorem wp_copy_many {P : Program} (w : World) {o : Oper} {a : Act} {K : Act → World → Prop} {Q : Exit → Act → World → Prop} (d s : Operand) (dT sT : TypeId)
    (ho : o.op = .call { callee := .builtin .copy, args := #[d, s], argTypes := #[dT, sT] }) (elem : TypeId) (sz : Nat) (hu : P.underlying dT = some (.slice elem)) (hsz : (P.info? elem).map (·.size) = some sz)
    (g off dLen dCap : Nat) (ad : Addr) (sLen sCap : Nat) (hd : a.eval d = .slice (some ⟨g, off, none⟩) dLen dCap) (hs : a.eval s = .slice (some ad) sLen sCap)
    (cur : Array Value) (t : TypeId) (hg : w.heap[g]? = some (.cells cur t (0, 0))) (cs : List Value) (hn : cs.length = Nat.min sLen dLen * sz)
    (hsrc : ∀ j v, cs[j]? = some v → w.cell? (ad.add j) = some v) (hfit : off + cs.length ≤ cur.size) (h1 : ∀ v ∈ cs, v.oneCell' = true)
    (h : ∀ w', w'.heap[g]? = some (.cells (spl cur off cs) t (0, 0)) → w.grownBy w' (some g) → K (a.put o.dst (goInt (Nat.min sLen dLen))) w') : o.wp P a w K Q := by
  have hrun := run_copy_many (P := P) w dT sT o.type elem sz g off dLen dCap ad sLen sCap cur t cs hu hsz hg hn hsrc hfit h1
  unfold Oper.wp execOp
  simp only [ho, resolve, invoke, builtin, Sem.run_bind, Sem.run_pure, Result.andThen_ok, List.map_toArray, List.map_cons, List.map_nil, hd, hs, hrun]
  refine h _ ?_ ?_
  · exact setRow_heap w g cur _ t _ hg
  · exact ⟨rfl, rfl, rfl, by simp [World.setRow], fun k _ hk => setRow_other w g k _ (fun e => hk (by rw [e]))⟩

theorem wpList_copy_many {P : Program} (w : World) {ops : Array Oper} {rest : List Oper} {o : Oper} {a : Act} {Q : Exit → Act → World → Prop} (hgd : o.guard = none) (d s : Operand) (dT sT : TypeId)
    (ho : o.op = .call { callee := .builtin .copy, args := #[d, s], argTypes := #[dT, sT] }) (elem : TypeId) (sz : Nat) (hu : P.underlying dT = some (.slice elem)) (hsz : (P.info? elem).map (·.size) = some sz)
    (g off dLen dCap : Nat) (ad : Addr) (sLen sCap : Nat) (hd : a.eval d = .slice (some ⟨g, off, none⟩) dLen dCap) (hs : a.eval s = .slice (some ad) sLen sCap)
    (cur : Array Value) (t : TypeId) (hg : w.heap[g]? = some (.cells cur t (0, 0))) (cs : List Value) (hn : cs.length = Nat.min sLen dLen * sz)
    (hsrc : ∀ j v, cs[j]? = some v → w.cell? (ad.add j) = some v) (hfit : off + cs.length ≤ cur.size) (h1 : ∀ v ∈ cs, v.oneCell' = true)
    (h : ∀ w', w'.heap[g]? = some (.cells (spl cur off cs) t (0, 0)) → w.grownBy w' (some g) → wpList P ops Q rest (a.put o.dst (goInt (Nat.min sLen dLen))) w') : wpList P ops Q (o :: rest) a w :=
  wpList_plain hgd fun _ hK => wp_copy_many w d s dT sT ho elem sz hu hsz g off dLen dCap ad sLen sCap hd hs cur t hg cs hn hsrc hfit h1 fun w' h2 h3 => hK _ _ (h w' h2 h3)

theorem step_copy_many {P : Program} {ops : Array Oper} {o : Oper} {a : Act} {w : World} {K : Act → World → Prop} {Q : Exit → Act → World → Prop} {E : Prop} (hgd : o.guard = none) (d s : Operand) (dT sT : TypeId)
    (ho : o.op = .call { callee := .builtin .copy, args := #[d, s], argTypes := #[dT, sT] }) (elem : TypeId) (sz : Nat) (hu : P.underlying dT = some (.slice elem)) (hsz : (P.info? elem).map (·.size) = some sz)
    (g off dLen dCap : Nat) (ad : Addr) (sLen sCap : Nat) (hd : a.eval d = .slice (some ⟨g, off, none⟩) dLen dCap) (hs : a.eval s = .slice (some ad) sLen sCap)
    (cur : Array Value) (t : TypeId) (hg : w.heap[g]? = some (.cells cur t (0, 0))) (cs : List Value) (hn : cs.length = Nat.min sLen dLen * sz)
    (hsrc : ∀ j v, cs[j]? = some v → w.cell? (ad.add j) = some v) (hfit : off + cs.length ≤ cur.size) (h1 : ∀ v ∈ cs, v.oneCell' = true)
    (h : ∀ w', w'.heap[g]? = some (.cells (spl cur off cs) t (0, 0)) → w.grownBy w' (some g) → K (a.put o.dst (goInt (Nat.min sLen dLen))) w') :
    if Region.wanted o (yielded ops a.tmps) = true then Oper.wp P o a w K Q else E := by
  have hw : Region.wanted o (yielded ops a.tmps) = true := by simp [Region.wanted, hgd]
  rw [if_pos hw]
  exact wp_copy_many w d s dT sT ho elem sz hu hsz g off dLen dCap ad sLen sCap hd hs cur t hg cs hn hsrc hfit h1 h

/-- an append of a make, where there is no room -/
theorem wpList_append_zeros_many {P : Program} (w : World) {ops : Array Oper} {rest : List Oper} {o : Oper} {a : Act} {Q : Exit → Act → World → Prop} (hgd : o.guard = none) (s x : Operand) (t tn : TypeId)
    (ho : o.op = .call { callee := .builtin .append, args := #[s, x], argTypes := #[t, tn] }) (e : TypeId) (i : TypeInfo) (z : Value) (sz : Nat) (ht : P.underlying t = some (.slice e)) (htn : P.underlying tn = some (.int .i64)) (hi : P.info? e = some i) (hz : i.zero = some z)
    (hsz : i.size = sz) (hsz0 : 0 < sz) (hzs : z.cells.size = sz) (ad : Addr) (k cap m : Nat) (olds : List Value) (hol : olds.length = k * sz) (holds : ∀ j v, olds[j]? = some v → w.cell? (ad.add j) = some v)
    (hs : a.eval s = .slice (some ad) k cap) (q : Int) (hq : q = m) (hx : a.eval x = .int .i64 q) (h0 : 0 < m) (hg : cap < k + m) (h63 : k + m ≤ maxLen) (h47 : (k + m) * i.bytes ≤ 140737488355328)
    (h : ∀ w' G ROW, w'.heap[w.heap.size]? = some (.cells ROW e (0, 0)) → k + m ≤ G → G ≤ maxLen → ROW.size = G * sz → ROW.toList.take (k * sz) = olds → w.grownBy w' none → wpList P ops Q rest (a.put o.dst (.slice (some ⟨w.heap.size, 0, none⟩) (k + m) G)) w') : wpList P ops Q (o :: rest) a w := by
  subst hq
  have hold : (Builtin.firstCells i.size k (.slice (some ad) k cap)).run P w.drew = .ok olds.toArray w.drew :=
    run_firstCells_some w.drew i.size k ad k cap olds (by rw [hsz]; exact hol) (by simpa using holds)
  have h63' : k + m ≤ 9223372036854775807 := by unfold maxLen at h63; omega
  have h48 : m * i.bytes ≤ 281474976710656 := by
    have : m * i.bytes ≤ (k + m) * i.bytes := Nat.mul_le_mul_right _ (by omega)
    omega
  have hr := Lib.run_append_grow_zeros (P := P) w t tn o.type e i z .i64 .i64 ht htn hi hz (some ad) k cap olds hold m h0 (by omega) hg (by omega) h48 (growslice_fits hg h47)
  refine Lib.wpList_append_run w hgd s x t tn ho _ _ hs hx _ _ hr ?_
  refine h _ _ _ (heap_alloc_new w.drew _) (grownCap_ge w _ _ _) (grownCap_le_maxLen w _ _ _ h63) ?_ ?_ ⟨rfl, rfl, rfl, by simp, fun j hj _ => Go.RowKit.Below.heap_alloc w.drew _ j hj⟩
  · have hge := grownCap_ge w (k + m) cap e
    simp only [Array.size_append, List.size_toArray, hol, size_zeroCells, hzs]
    rw [← Nat.add_mul, ← Nat.add_mul]
    congr 1
    omega
  · simp only [Array.toList_append, List.append_assoc]
    rw [← hol]
    exact List.take_left

end Go.Proofs.YtbljamcdaoofbaaGreatDoor

/- The number that a line is: as a function, and the reference's. -/
namespace Go.Proofs.YtbljamcdaoofbaaGreatDoor
open Go.RowKit

/-- the digits of a line -/
def numS (l : List UInt8) : List UInt8 := if l.head? = some 45 then l.drop 1 else l
/-- is a line a number? -/
def numB (l : List UInt8) : Bool := (numS l).all isD && decide (1 ≤ (numS l).length) && decide ((numS l).length ≤ 6)
/-- the number -/
def numV (l : List UInt8) : Int := if numB l = true then (if l.head? = some 45 then -(spanL (numS l) : Int) else (spanL (numS l) : Int)) else 0

theorem takeWhile_len (p : UInt8 → Bool) (l : List UInt8) : (l.takeWhile p).length ≤ l.length := List.Sublist.length_le (List.takeWhile_sublist p)

theorem takeWhile_all_len (p : UInt8 → Bool) (l : List UInt8) : ((l.takeWhile p).length = l.length) ↔ l.all p = true := by
  induction l with
  | nil => simp
  | cons c r ih =>
    by_cases h : p c = true
    · rw [List.takeWhile_cons_of_pos h]
      simp [h, ih]
    · rw [List.takeWhile_cons_of_neg h]
      simp [h]

theorem numB_lt {l : List UInt8} (h : numB l = true) : (numS l).all isD = true ∧ 1 ≤ (numS l).length ∧ (numS l).length ≤ 6 := by
  unfold numB at h
  simp only [Bool.and_eq_true, decide_eq_true_eq] at h
  exact ⟨h.1.1, h.1.2, h.2⟩

theorem all_take {p : UInt8 → Bool} {l : List UInt8} (h : l.all p = true) : l.takeWhile p = l := by
  induction l with
  | nil => rfl
  | cons c r ih =>
    rw [List.all_cons, Bool.and_eq_true] at h
    rw [List.takeWhile_cons_of_pos h.1, ih h.2]

def NumP (l : List UInt8) (w : World) (e : Ending) (w' : World) : Prop := e = .returned (.tuple #[.int .i64 (numV l), .bool (numB l)]) ∧ w' = w

/-- what both ways come to -/
theorem numV_of {l s : List UInt8} (hs : numS l = s) (neg : Bool) (hn : (l.head? = some 45) = (neg = true)) (hb : numB l = true) : numV l = if neg = true then -(spanL s : Int) else (spanL s : Int) := by
  unfold numV
  rw [if_pos hb, hs]
  simp only [hn]

set_option maxRecDepth 10000 in
set_option maxHeartbeats 1000000 in
theorem numbers_any (l : List UInt8) (w : World) (hl : l.length ≤ 1000) :
    Calls Tryz.prog 149 #[SV l] w (NumP l w) := by
  have hv : numB l = false → numV l = 0 := fun h => by unfold numV; rw [h]; rfl
  have HV := hide hv
  clear hv
  go_enter Tryz.func149, Tryz.ntmps149
  by_cases hnil : l = []
  · subst hnil
    have hr := row_any [] 0 true w (by simp) (by simp)
    go_wp2_with fail
    refine hr.mono ?_
    rintro e w' ⟨rfl, hww⟩
    rw [hww]
    clear hww w' hr
    go_wp2_with fail
    go_ret2
    exact ⟨rfl, rfl⟩
  · have hpos : 0 < l.length := List.length_pos_iff.2 hnil
    have hget : l.head? = some l[0] := by rw [List.head?_eq_getElem?, List.getElem?_eq_getElem hpos]
    by_cases hh : l.head? = some 45
    · have h45 : l[0] = 45 := Option.some.inj (hget.symm.trans hh)
      have hS : numS l = l.drop 1 := by unfold numS; rw [if_pos hh]
      have hex : Value.string ((⟨l.toArray⟩ : ByteArray).extract 1 l.length) = SV (l.drop 1) := by
        rw [SV_extract_l, List.take_length]
      have hB : ((((⟨l.toArray⟩ : ByteArray)[0]'hpos).toNat : Int) == 45) = true := by
        rw [beq_iff_eq]
        show ((l[0].toNat : Nat) : Int) = 45
        rw [h45]; rfl
      have hsl : (l.drop 1).length ≤ 1000 := by rw [List.length_drop]; omega
      generalize l.drop 1 = r at *
      go_upto_region 4 with fail
      clear hB hex
      have hr : Calls Tryz.prog 171 #[SV (r), .int .i64 0, .bool true] w fun e w' => e = .returned (SV ((r).takeWhile isD)) ∧ w' = w := row_any (r) 0 true w (by omega) (by omega)
      have hlen := takeWhile_len isD (r)
      have HAL := hide (takeWhile_all_len isD (r))
      by_cases hb : numB l = true
      · obtain ⟨n1, n2, n3⟩ := numB_lt hb
        rw [hS] at n1 n2 n3
        have HVV : Hid (numV l = -(spanL (r) : Int)) := numV_of hS true (by simp [hh]) hb
        have hsp := rspan_any (r) w (by omega)
        rw [spanW_digits _ n1] at hsp
        have hle := spanW_le (r)
        rw [spanW_digits _ n1] at hle
        rw [all_take n1] at hr
        have HB := hide hb
        clear hlen HAL n1 HV hS hb
        generalize spanL (r) = v at *
        go_wp2_with fail
        refine hr.mono ?_
        rintro e w' ⟨rfl, hww⟩
        rw [hww]
        clear hww w' hr
        go_wp2_with fail
        refine hsp.mono ?_
        rintro e w' ⟨rfl, hww⟩
        rw [hww]
        clear hww w' hsp
        go_wp2_with fail
        go_ret2
        refine ⟨?_, rfl⟩
        rw [unhide HVV, unhide HB]
        rfl
      · have hb' : numB l = false := by simpa using hb
        have hcase : ¬ ((r).takeWhile isD).length = (r).length ∨ (r).length < 1 ∨ 6 < (r).length := by
          by_cases h1 : ((r).takeWhile isD).length = (r).length
          · right
            have h2 := (unhide HAL).1 h1
            unfold numB at hb
            rw [hS, h2] at hb
            simp at hb
            omega
          · exact .inl h1
        have HN := hide (unhide HV hb')
        have HB := hide hb'
        clear HAL HV hb hb' hS
        generalize (r).takeWhile isD = d at *
        go_wp2_with fail
        refine hr.mono ?_
        rintro e w' ⟨rfl, hww⟩
        rw [hww]
        clear hww w' hr
        by_cases c1 : d.length = (r).length
        · have c1b : ((d.length : Int) == ((r).length : Int)) = true := by simp [c1]
          by_cases c2 : d.length < 1
          · have c2i : (d.length : Int) < 1 := by omega
            go_wp2_with fail
            go_ret2
            refine ⟨?_, rfl⟩; rw [unhide HN, unhide HB]; rfl
          · have c2i : ¬ (d.length : Int) < 1 := by omega
            have c3i : (6 : Int) < (d.length : Int) := by omega
            go_wp2_with fail
            go_ret2
            refine ⟨?_, rfl⟩; rw [unhide HN, unhide HB]; rfl
        · have c1b : ((d.length : Int) == ((r).length : Int)) = false := by rw [beq_eq_false_iff_ne]; omega
          go_wp2_with fail
          go_ret2
          refine ⟨?_, rfl⟩; rw [unhide HN, unhide HB]; rfl
    · have hS : numS l = l := by unfold numS; rw [if_neg hh]
      have hB : ((((⟨l.toArray⟩ : ByteArray)[0]'hpos).toNat : Int) == 45) = false := by
        rw [beq_eq_false_iff_ne]
        intro h
        refine hh (hget.trans (congrArg some (UInt8.toNat_inj.1 ?_)))
        have h2 : (l[0].toNat : Int) = 45 := h
        show l[0].toNat = 45
        omega
      go_upto_region 4 with fail
      clear hB
      have hr : Calls Tryz.prog 171 #[SV (l), .int .i64 0, .bool true] w fun e w' => e = .returned (SV ((l).takeWhile isD)) ∧ w' = w := row_any (l) 0 true w (by omega) (by omega)
      have hlen := takeWhile_len isD (l)
      have HAL := hide (takeWhile_all_len isD (l))
      by_cases hb : numB l = true
      · obtain ⟨n1, n2, n3⟩ := numB_lt hb
        rw [hS] at n1 n2 n3
        have HVV : Hid (numV l = (spanL (l) : Int)) := numV_of hS false (by simp [hh]) hb
        have hsp := rspan_any (l) w (by omega)
        rw [spanW_digits _ n1] at hsp
        have hle := spanW_le (l)
        rw [spanW_digits _ n1] at hle
        rw [all_take n1] at hr
        have HB := hide hb
        clear hlen HAL n1 HV hS hb
        generalize spanL (l) = v at *
        go_wp2_with fail
        refine hr.mono ?_
        rintro e w' ⟨rfl, hww⟩
        rw [hww]
        clear hww w' hr
        go_wp2_with fail
        refine hsp.mono ?_
        rintro e w' ⟨rfl, hww⟩
        rw [hww]
        clear hww w' hsp
        go_wp2_with fail
        go_ret2
        refine ⟨?_, rfl⟩
        rw [unhide HVV, unhide HB]
        rfl
      · have hb' : numB l = false := by simpa using hb
        have hcase : ¬ ((l).takeWhile isD).length = (l).length ∨ (l).length < 1 ∨ 6 < (l).length := by
          by_cases h1 : ((l).takeWhile isD).length = (l).length
          · right
            have h2 := (unhide HAL).1 h1
            unfold numB at hb
            rw [hS, h2] at hb
            simp at hb
            omega
          · exact .inl h1
        have HN := hide (unhide HV hb')
        have HB := hide hb'
        clear HAL HV hb hb' hS
        generalize (l).takeWhile isD = d at *
        go_wp2_with fail
        refine hr.mono ?_
        rintro e w' ⟨rfl, hww⟩
        rw [hww]
        clear hww w' hr
        by_cases c1 : d.length = (l).length
        · have c1b : ((d.length : Int) == ((l).length : Int)) = true := by simp [c1]
          by_cases c2 : d.length < 1
          · omega
          · have c2i : ¬ (d.length : Int) < 1 := by omega
            have c3i : (6 : Int) < (d.length : Int) := by omega
            go_wp2_with fail
            go_ret2
            refine ⟨?_, rfl⟩; rw [unhide HN, unhide HB]; rfl
        · have c1b : ((d.length : Int) == ((l).length : Int)) = false := by rw [beq_eq_false_iff_ne]; omega
          go_wp2_with fail
          go_ret2
          refine ⟨?_, rfl⟩; rw [unhide HN, unhide HB]; rfl

end Go.Proofs.YtbljamcdaoofbaaGreatDoor

/- The reference's float and whole. -/
namespace Go.Proofs.YtbljamcdaoofbaaGreatDoor
open Go.RowKit

/-- what float comes to behind its loops -/
theorem float_end {A D a b E : Nat} (hA : 0 < A) (hD : 0 < D) (hb : 0 < b) (h1 : 8388608 * b ≤ a) (h2 : a < 16777216 * b) (h3 : a * D * 2 ^ E = A * b * 2 ^ 149) : fB A D = E * 8388608 + rne a b :=
  fB_eq hA hD ⟨E, a, b, hb, h1, h2, h3, rfl⟩

set_option maxRecDepth 10000 in
set_option maxHeartbeats 1000000 in
theorem rfloat_any (A D : Nat) (w : World) (hA : A < 1073741824) (hD : 0 < D) (hD2 : D < 16777216) :
    Calls Tryz.prog 150 #[.int .i64 A, .int .i64 D] w fun e w' => e = .returned (.int .i64 (fB A D)) ∧ w' = w := by
  go_enter Tryz.func150, Tryz.ntmps150
  by_cases hz : A = 0
  · subst hz
    rw [fB_zero]
    go_wp2
    go_ret
    exact ⟨rfl, rfl⟩
  · have hzb : ((A : Int) == 0) = false := by rw [beq_eq_false_iff_ne]; omega
    go_wp2
    go_loopw [1, 5] (fun d e wr => wr = w ∧ ∃ k b : Nat, b = D * 2 ^ k ∧ d = .int .i64 b ∧ e = .int .i64 k ∧ b < 16777216 ∧ 0 < b ∧ k ≤ b) (fun d _ _ => 16777216 - (intOf d).toNat)
    case atStart => exact ⟨rfl, 0, D, by simp, rfl, rfl, hD2, hD, by omega⟩
    case round =>
      obtain ⟨rfl, k, b, hb, rfl, rfl, hb1, hb2, hkb⟩ := hrel
      have HB := hide hb
      clear hb
      by_cases hge : b * 16777216 ≤ A
      · have hgi : (b : Int) * 16777216 ≤ (A : Int) := by omega
        go_wp2
        go_roundw
        case rel =>
          refine ⟨trivial, k + 1, 2 * b, by rw [unhide HB, Nat.pow_succ]; ac_rfl, by go_num, by go_num, by omega, by omega, by omega⟩
        case measure => simp [intOf]; omega
      · have hgi : ¬ (b : Int) * 16777216 ≤ (A : Int) := by omega
        go_wp2
        go_loopw [0, 5] (fun n e wx => wx = wr ∧ ∃ j a : Nat, a = A * 2 ^ j ∧ n = .int .i64 a ∧ e = .int .i64 ((k : Int) - (j : Int)) ∧ a < 16777216 * b ∧ 0 < a ∧ j < a) (fun n _ _ => b * 8388608 - (intOf n).toNat)
        case atStart => exact ⟨rfl, 0, A, by simp, rfl, by simp, by omega, by omega, by omega⟩
        case round =>
          obtain ⟨rfl, j, a, ha, rfl, rfl, ha1, ha2, hja⟩ := hrel
          have HA := hide ha
          clear ha
          by_cases hlt : a < b * 8388608
          · have hli : (a : Int) < (b : Int) * 8388608 := by omega
            go_wp2
            go_roundw
            case rel =>
              refine ⟨trivial, j + 1, 2 * a, by rw [unhide HA, Nat.pow_succ]; ac_rfl, by go_num, by go_num, by omega, by omega, by omega⟩
            case measure => simp [intOf]; omega
          · have hli : ¬ (a : Int) < (b : Int) * 8388608 := by omega
            have hj : j < 149 := by
              have h1 : 2 ^ j ≤ A * 2 ^ j := Nat.le_mul_of_pos_left _ (by omega)
              rw [← unhide HA] at h1
              have h2 : 2 ^ j < 2 ^ 48 := by
                have h48 : (2 : Nat) ^ 48 = 281474976710656 := by decide
                omega
              have := (Nat.pow_lt_pow_iff_right (show 1 < 2 by decide)).1 h2
              omega
            obtain ⟨E, hE⟩ : ∃ E : Nat, E + j = k + 149 := ⟨k + 149 - j, by omega⟩
            have hres := float_end (A := A) (D := D) (a := a) (b := b) (E := E) (by omega) hD hb2 (by omega) (by omega) (by
              have u : 2 ^ j * 2 ^ E = 2 ^ k * 2 ^ 149 := by rw [← Nat.pow_add, ← Nat.pow_add, Nat.add_comm j E, hE]
              rw [unhide HA, unhide HB]
              generalize 2 ^ 149 = p at *
              generalize 2 ^ j = p1 at *
              generalize 2 ^ k = p2 at *
              generalize 2 ^ E = p3 at *
              exact (show A * p1 * D * p3 = A * D * (p1 * p3) by ac_rfl).trans ((congrArg (A * D * ·) u).trans (by ac_rfl)))
            have HRES := hide hres
            clear hres HA HB
            have hm1 : 8388608 ≤ a / b := (Nat.le_div_iff_mul_le hb2).2 (by omega)
            have hm2 : a / b < 16777216 := (Nat.div_lt_iff_lt_mul hb2).2 (by omega)
            have hr := Nat.mod_lt a hb2
            have hbz : ¬ (b : Int) = 0 := by omega
            go_upto_region 12 with fail
            have hrne : rne a b = a / b + (if b < 2 * (a % b) ∨ (2 * (a % b) = b ∧ a / b % 2 = 1) then 1 else 0) := rfl
            rw [hrne] at HRES
            rw [show (a : Int) / (b : Int) = ((a / b : Nat) : Int) from rfl, show (a : Int) % (b : Int) = ((a % b : Nat) : Int) from rfl]
            clear hrne hlt hli hge hgi hja ha1 ha2
            generalize a / b = m at *
            generalize a % b = r at *
            have hEi : (k : Int) - (j : Int) = (E : Int) - 149 := by omega
            have hEk : E ≤ 16777365 := by omega
            generalize (k : Int) - (j : Int) = ee at *
            subst hEi
            clear hE
            by_cases c1 : b < 2 * r
            · have g1 : (b : Int) < 2 * (r : Int) := by omega
              rw [if_pos (.inl c1)] at HRES
              by_cases c4 : m = 16777215
              · subst c4
                go_wp2
                go_ret
                refine ⟨?_, rfl⟩
                rw [unhide HRES]
                go_num
              · have g4 : ((m : Int) + 1 == 16777216) = false := by rw [beq_eq_false_iff_ne]; omega
                go_wp2
                go_ret
                refine ⟨?_, rfl⟩
                rw [unhide HRES]
                go_num
            · have g1 : ¬ (b : Int) < 2 * (r : Int) := by omega
              by_cases c2 : 2 * r = b ∧ m % 2 = 1
              · have g2 : (2 * (r : Int) == (b : Int)) = true := by rw [beq_iff_eq]; omega
                have g3 : ((m : Int).tmod 2 == 1) = true := by rw [beq_iff_eq, Int.tmod_eq_emod_of_nonneg (by omega)]; omega
                rw [if_pos (.inr c2)] at HRES
                by_cases c4 : m = 16777215
                · subst c4
                  go_wp2
                  go_ret
                  refine ⟨?_, rfl⟩
                  rw [unhide HRES]
                  go_num
                · have g4 : ((m : Int) + 1 == 16777216) = false := by rw [beq_eq_false_iff_ne]; omega
                  go_wp2
                  go_ret
                  refine ⟨?_, rfl⟩
                  rw [unhide HRES]
                  go_num
              · rw [if_neg (by omega)] at HRES
                have g4 : ((m : Int) == 16777216) = false := by rw [beq_eq_false_iff_ne]; omega
                by_cases c3 : 2 * r = b
                · have g2 : (2 * (r : Int) == (b : Int)) = true := by rw [beq_iff_eq]; omega
                  have g3 : ((m : Int).tmod 2 == 1) = false := by rw [beq_eq_false_iff_ne, Int.tmod_eq_emod_of_nonneg (by omega)]; omega
                  go_wp2
                  go_ret
                  refine ⟨?_, rfl⟩
                  rw [unhide HRES]
                  go_num
                · have g2 : (2 * (r : Int) == (b : Int)) = false := by rw [beq_eq_false_iff_ne]; omega
                  go_wp2
                  go_ret
                  refine ⟨?_, rfl⟩
                  rw [unhide HRES]
                  go_num

end Go.Proofs.YtbljamcdaoofbaaGreatDoor

/- The reference's whole. -/
namespace Go.Proofs.YtbljamcdaoofbaaGreatDoor
open Go.RowKit

theorem twice_bound {m i : Nat} (h : m < 16777216) (hi : i ≤ 38) : m * 2 ^ i < 4611686018427387904 := by
  have h1 : 2 ^ i ≤ 2 ^ 38 := Nat.pow_le_pow_right (by decide) hi
  have h2 : m * 2 ^ i ≤ 16777215 * 2 ^ 38 := Nat.mul_le_mul (by omega) h1
  exact Nat.lt_of_le_of_lt h2 (by decide)

set_option maxRecDepth 10000 in
set_option maxHeartbeats 600000 in
theorem rwhole_any (bits : Nat) (w : World) (hq : bits / 8388608 ≤ 188) :
    Calls Tryz.prog 151 #[.int .i64 bits] w fun e w' => e = .returned (.int .i64 (wholeN bits)) ∧ w' = w := by
  have hb : bits < 189 * 8388608 := by omega
  go_enter Tryz.func151, Tryz.ntmps151
  by_cases hz : bits = 0
  · subst hz
    go_wp2
    go_ret
    exact ⟨rfl, rfl⟩
  · have hzb : ((bits : Int) == 0) = false := by rw [beq_eq_false_iff_ne]; omega
    have HRES := hide (show wholeN bits = (bits % 8388608 + 8388608) * 2 ^ (bits / 8388608 - 150) / 2 ^ (150 - bits / 8388608) by unfold wholeN; rw [if_neg hz])
    have hm0 : bits % 8388608 + 8388608 < 16777216 := by omega
    have hm1 : 0 < bits % 8388608 + 8388608 := by omega
    go_upto_region 5 with fail
    go_loopw [3, 4] (fun m e wr => wr = w ∧ ∃ i a : Nat, a = (bits % 8388608 + 8388608) * 2 ^ i ∧ m = .int .i64 a ∧ e = .int .i64 ((bits : Int) / 8388608 - 150 - (i : Int)) ∧ i ≤ bits / 8388608 - 150 ∧ a < 4611686018427387904) (fun _ e _ => (intOf e).toNat)
    case atStart => exact ⟨rfl, 0, bits % 8388608 + 8388608, by simp, rfl, by simp, by omega, Nat.lt_trans hm0 (by decide)⟩
    case round =>
      obtain ⟨rfl, i, a, ha, rfl, rfl, hi, hab⟩ := hrel
      have HA := hide ha
      clear ha
      by_cases hlt : i < bits / 8388608 - 150
      · have hli : (0 : Int) < (bits : Int) / 8388608 - 150 - (i : Int) := by omega
        have hnew := twice_bound (i := i + 1) hm0 (by omega)
        have hbig : 2 * a < 4611686018427387904 := by
          have e : 2 * a = (bits % 8388608 + 8388608) * 2 ^ (i + 1) := by rw [unhide HA, Nat.pow_succ]; ac_rfl
          rw [e]; exact hnew
        clear hnew
        go_wp2
        go_roundw
        case rel =>
          exact ⟨trivial, i + 1, 2 * a, by rw [unhide HA, Nat.pow_succ]; ac_rfl, by go_num, by go_num, by omega, hbig⟩
        case measure => simp [intOf]; omega
      · have hli : ¬ (0 : Int) < (bits : Int) / 8388608 - 150 - (i : Int) := by omega
        have ei : i = bits / 8388608 - 150 := by omega
        have HR2 : Hid (wholeN bits = a / 2 ^ (150 - bits / 8388608)) := by
          show wholeN bits = _
          rw [unhide HRES, unhide HA, ei]
        clear HA HRES ei hi
        go_upto_region 9 with fail
        go_loopw [3, 5] (fun m e wx => wx = wr ∧ ∃ i b : Nat, b = a / 2 ^ i ∧ m = .int .i64 b ∧ e = .int .i64 ((bits : Int) / 8388608 - 150 + (i : Int)) ∧ i ≤ 150 - bits / 8388608 ∧ b ≤ a) (fun _ e _ => (-(intOf e)).toNat)
        case atStart => exact ⟨rfl, 0, a, by simp, rfl, by simp, by omega, by omega⟩
        case round =>
          obtain ⟨rfl, i', b, hb', rfl, rfl, hi', hba⟩ := hrel
          have HB := hide hb'
          clear hb'
          by_cases hlt2 : i' < 150 - bits / 8388608
          · have hli2 : (bits : Int) / 8388608 - 150 + (i' : Int) < 0 := by omega
            go_wp2
            go_roundw
            case rel =>
              exact ⟨trivial, i' + 1, b / 2, by rw [unhide HB, Nat.pow_succ, Nat.div_div_eq_div_mul], by go_num, by go_num, by omega, by omega⟩
            case measure => simp [intOf]; omega
          · have hli2 : ¬ (bits : Int) / 8388608 - 150 + (i' : Int) < 0 := by omega
            have ei : i' = 150 - bits / 8388608 := by omega
            have HR3 : Hid (wholeN bits = b) := by
              show wholeN bits = _
              rw [unhide HR2, unhide HB, ei]
            clear HB HR2 ei hi'
            go_wp2
            go_ret
            refine ⟨?_, rfl⟩
            rw [unhide HR3]
            rfl

end Go.Proofs.YtbljamcdaoofbaaGreatDoor

/- What a measure comes to, as plain functions. -/
namespace Go.Proofs.YtbljamcdaoofbaaGreatDoor
open Go.RowKit

def bytesL (G : List Rw) : Nat := (G.map (fun r => r.2.2.length)).sum
def manyL (G : List Rw) : Nat := (G.filter (fun r => numB r.2.2)).length
def sumL (G : List Rw) : Int := (G.map (fun r => numV r.2.2)).sum

def countT : List UInt8 := [99, 111, 117, 110, 116]
def rateT : List UInt8 := [114, 97, 116, 101]
def bytesT : List UInt8 := [98, 121, 116, 101, 115]

/-- the bits of a sample; none: there is no sample -/
noncomputable def smpS (meas : List UInt8) (span n bytes many : Nat) (sum : Int) : Option Nat :=
  if meas = countT then some (fB n 1)
  else if meas = rateT then some (fB n span)
  else if meas = bytesT then some (fB bytes 1)
  else if many = 0 then none
  else if sum < 0 then some (2147483648 + fB (wholeN (fB (-sum).toNat 1)) many)
  else some (fB (wholeN (fB sum.toNat 1)) many)

theorem take_snoc_rw (G : List Rw) (k : Nat) (h : k < G.length) : G.take (k + 1) = G.take k ++ [G[k]] := List.take_succ_eq_append_getElem h

theorem bytesL_snoc (G : List Rw) (k : Nat) (h : k < G.length) : bytesL (G.take (k + 1)) = bytesL (G.take k) + G[k].2.2.length := by
  unfold bytesL
  rw [take_snoc_rw G k h, List.map_append, List.sum_append]
  simp
theorem sumL_snoc (G : List Rw) (k : Nat) (h : k < G.length) : sumL (G.take (k + 1)) = sumL (G.take k) + numV G[k].2.2 := by
  unfold sumL
  rw [take_snoc_rw G k h, List.map_append, List.sum_append]
  simp
theorem manyL_snoc (G : List Rw) (k : Nat) (h : k < G.length) : manyL (G.take (k + 1)) = manyL (G.take k) + (if numB G[k].2.2 = true then 1 else 0) := by
  unfold manyL
  rw [take_snoc_rw G k h, List.filter_append, List.length_append]
  by_cases e : numB G[k].2.2 = true
  · rw [if_pos e, List.filter_cons_of_pos (by simpa using e)]; rfl
  · rw [if_neg e, List.filter_cons_of_neg (by simpa using e)]; rfl

theorem numV_abs (l : List UInt8) : -1000001 ≤ numV l ∧ numV l ≤ 1000001 := by
  have h : numB l = true → spanL (numS l) ≤ 1000001 := fun hb => by
    rw [← spanW_digits _ (numB_lt hb).1]
    exact spanW_le _
  unfold numV
  split
  · rename_i hb
    have := h hb
    split <;> omega
  · omega

theorem numV_zero {l : List UInt8} (h : numB l = false) : numV l = 0 := by unfold numV; rw [h]; rfl

theorem bytesL_le (G : List Rw) (h : ∀ r ∈ G, r.2.2.length ≤ 40) : bytesL G ≤ 40 * G.length := by
  induction G with
  | nil => simp [bytesL]
  | cons r G ih =>
    have h1 := ih fun x hx => h x (List.mem_cons_of_mem _ hx)
    have h2 := h r List.mem_cons_self
    unfold bytesL at h1 ⊢
    rw [List.map_cons, List.sum_cons, List.length_cons]
    omega

theorem sumL_abs (G : List Rw) : -(1000001 * (G.length : Int)) ≤ sumL G ∧ sumL G ≤ 1000001 * (G.length : Int) := by
  induction G with
  | nil => simp [sumL]
  | cons r G ih =>
    have h2 := numV_abs r.2.2
    unfold sumL at ih ⊢
    rw [List.map_cons, List.sum_cons, List.length_cons]
    omega

theorem manyL_le (G : List Rw) : manyL G ≤ G.length := List.length_filter_le _ _

end Go.Proofs.YtbljamcdaoofbaaGreatDoor
