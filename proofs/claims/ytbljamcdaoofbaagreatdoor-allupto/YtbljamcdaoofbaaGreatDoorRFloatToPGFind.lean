/- Texts RFloat, RWhole, MeasSpec, PValue, PBits, PGFind, joined. -/
import Derived.Test.YtbljamcdaoofbaaGreatDoorPGCopyToFloatWord
import Derived.Test.YtbljamcdaoofbaaGreatDoorLawSmallToLawBook
import Derived.Test.YtbljamcdaoofbaaGreatDoorPWholeToPSwap
import Derived.WalkLawsBesides
import Derived.Test.YtbljamcdaoofbaaGreatDoorPFindToPAdd
/- The reference's float and whole. -/
namespace Go.Proofs.YtbljamcdaoofbaaGreatDoor
open Go.RowKit

/-- what float comes to behind its loops -/
theorem float_end {A D a b E : Nat} (hA : 0 < A) (hD : 0 < D) (hb : 0 < b) (h1 : 8388608 * b ≤ a) (h2 : a < 16777216 * b) (h3 : a * D * 2 ^ E = A * b * 2 ^ 149) : fB A D = E * 8388608 + rne a b :=
  fB_eq hA hD ⟨E, a, b, hb, h1, h2, h3, rfl⟩

set_option maxRecDepth 10000 in
set_option maxHeartbeats 1000000 in
theorem rfloat_any (A D : Nat) (w : World) (hA : A < 1073741824) (hD : 0 < D) (hD2 : D < 16777216) :
    Calls Tryz.prog 150 #[.int .i64 A, .int .i64 D] w fun e w' => e = .returned (.int .i64 (fB A D)) ∧ w' = w := by
  go_enter Tryz.func150, Tryz.ntmps150
  by_cases hz : A = 0
  · subst hz
    rw [fB_zero]
    go_wp2
    go_ret
    exact ⟨rfl, rfl⟩
  · have hzb : ((A : Int) == 0) = false := by rw [beq_eq_false_iff_ne]; omega
    go_wp2
    go_loopw [1, 5] (fun d e wr => wr = w ∧ ∃ k b : Nat, b = D * 2 ^ k ∧ d = .int .i64 b ∧ e = .int .i64 k ∧ b < 16777216 ∧ 0 < b ∧ k ≤ b) (fun d _ _ => 16777216 - (intOf d).toNat)
    case atStart => exact ⟨rfl, 0, D, by simp, rfl, rfl, hD2, hD, by omega⟩
    case round =>
      obtain ⟨rfl, k, b, hb, rfl, rfl, hb1, hb2, hkb⟩ := hrel
      have HB := hide hb
      clear hb
      by_cases hge : b * 16777216 ≤ A
      · have hgi : (b : Int) * 16777216 ≤ (A : Int) := by omega
        go_wp2
        go_roundw
        case rel =>
          refine ⟨trivial, k + 1, 2 * b, by rw [unhide HB, Nat.pow_succ]; ac_rfl, by go_num, by go_num, by omega, by omega, by omega⟩
        case measure => simp [intOf]; omega
      · have hgi : ¬ (b : Int) * 16777216 ≤ (A : Int) := by omega
        go_wp2
        go_loopw [0, 5] (fun n e wx => wx = wr ∧ ∃ j a : Nat, a = A * 2 ^ j ∧ n = .int .i64 a ∧ e = .int .i64 ((k : Int) - (j : Int)) ∧ a < 16777216 * b ∧ 0 < a ∧ j < a) (fun n _ _ => b * 8388608 - (intOf n).toNat)
        case atStart => exact ⟨rfl, 0, A, by simp, rfl, by simp, by omega, by omega, by omega⟩
        case round =>
          obtain ⟨rfl, j, a, ha, rfl, rfl, ha1, ha2, hja⟩ := hrel
          have HA := hide ha
          clear ha
          by_cases hlt : a < b * 8388608
          · have hli : (a : Int) < (b : Int) * 8388608 := by omega
            go_wp2
            go_roundw
            case rel =>
              refine ⟨trivial, j + 1, 2 * a, by rw [unhide HA, Nat.pow_succ]; ac_rfl, by go_num, by go_num, by omega, by omega, by omega⟩
            case measure => simp [intOf]; omega
          · have hli : ¬ (a : Int) < (b : Int) * 8388608 := by omega
            have hj : j < 149 := by
              have h1 : 2 ^ j ≤ A * 2 ^ j := Nat.le_mul_of_pos_left _ (by omega)
              rw [← unhide HA] at h1
              have h2 : 2 ^ j < 2 ^ 48 := by
                have h48 : (2 : Nat) ^ 48 = 281474976710656 := by decide
                omega
              have := (Nat.pow_lt_pow_iff_right (show 1 < 2 by decide)).1 h2
              omega
            obtain ⟨E, hE⟩ : ∃ E : Nat, E + j = k + 149 := ⟨k + 149 - j, by omega⟩
            have hres := float_end (A := A) (D := D) (a := a) (b := b) (E := E) (by omega) hD hb2 (by omega) (by omega) (by
              have u : 2 ^ j * 2 ^ E = 2 ^ k * 2 ^ 149 := by rw [← Nat.pow_add, ← Nat.pow_add, Nat.add_comm j E, hE]
              rw [unhide HA, unhide HB]
              generalize 2 ^ 149 = p at *
              generalize 2 ^ j = p1 at *
              generalize 2 ^ k = p2 at *
              generalize 2 ^ E = p3 at *
              exact (show A * p1 * D * p3 = A * D * (p1 * p3) by ac_rfl).trans ((congrArg (A * D * ·) u).trans (by ac_rfl)))
            have HRES := hide hres
            clear hres HA HB
            have hm1 : 8388608 ≤ a / b := (Nat.le_div_iff_mul_le hb2).2 (by omega)
            have hm2 : a / b < 16777216 := (Nat.div_lt_iff_lt_mul hb2).2 (by omega)
            have hr := Nat.mod_lt a hb2
            have hbz : ¬ (b : Int) = 0 := by omega
            go_upto_region 12 with fail
            have hrne : rne a b = a / b + (if b < 2 * (a % b) ∨ (2 * (a % b) = b ∧ a / b % 2 = 1) then 1 else 0) := rfl
            rw [hrne] at HRES
            rw [show (a : Int) / (b : Int) = ((a / b : Nat) : Int) from rfl, show (a : Int) % (b : Int) = ((a % b : Nat) : Int) from rfl]
            clear hrne hlt hli hge hgi hja ha1 ha2
            generalize a / b = m at *
            generalize a % b = r at *
            have hEi : (k : Int) - (j : Int) = (E : Int) - 149 := by omega
            have hEk : E ≤ 16777365 := by omega
            generalize (k : Int) - (j : Int) = ee at *
            subst hEi
            clear hE
            by_cases c1 : b < 2 * r
            · have g1 : (b : Int) < 2 * (r : Int) := by omega
              rw [if_pos (.inl c1)] at HRES
              by_cases c4 : m = 16777215
              · subst c4
                go_wp2
                go_ret
                refine ⟨?_, rfl⟩
                rw [unhide HRES]
                go_num
              · have g4 : ((m : Int) + 1 == 16777216) = false := by rw [beq_eq_false_iff_ne]; omega
                go_wp2
                go_ret
                refine ⟨?_, rfl⟩
                rw [unhide HRES]
                go_num
            · have g1 : ¬ (b : Int) < 2 * (r : Int) := by omega
              by_cases c2 : 2 * r = b ∧ m % 2 = 1
              · have g2 : (2 * (r : Int) == (b : Int)) = true := by rw [beq_iff_eq]; omega
                have g3 : ((m : Int).tmod 2 == 1) = true := by rw [beq_iff_eq, Int.tmod_eq_emod_of_nonneg (by omega)]; omega
                rw [if_pos (.inr c2)] at HRES
                by_cases c4 : m = 16777215
                · subst c4
                  go_wp2
                  go_ret
                  refine ⟨?_, rfl⟩
                  rw [unhide HRES]
                  go_num
                · have g4 : ((m : Int) + 1 == 16777216) = false := by rw [beq_eq_false_iff_ne]; omega
                  go_wp2
                  go_ret
                  refine ⟨?_, rfl⟩
                  rw [unhide HRES]
                  go_num
              · rw [if_neg (by omega)] at HRES
                have g4 : ((m : Int) == 16777216) = false := by rw [beq_eq_false_iff_ne]; omega
                by_cases c3 : 2 * r = b
                · have g2 : (2 * (r : Int) == (b : Int)) = true := by rw [beq_iff_eq]; omega
                  have g3 : ((m : Int).tmod 2 == 1) = false := by rw [beq_eq_false_iff_ne, Int.tmod_eq_emod_of_nonneg (by omega)]; omega
                  go_wp2
                  go_ret
                  refine ⟨?_, rfl⟩
                  rw [unhide HRES]
                  go_num
                · have g2 : (2 * (r : Int) == (b : Int)) = false := by rw [beq_eq_false_iff_ne]; omega
                  go_wp2
                  go_ret
                  refine ⟨?_, rfl⟩
                  rw [unhide HRES]
                  go_num

end Go.Proofs.YtbljamcdaoofbaaGreatDoor

/- The reference's whole. -/
namespace Go.Proofs.YtbljamcdaoofbaaGreatDoor
open Go.RowKit

theorem twice_bound {m i : Nat} (h : m < 16777216) (hi : i ≤ 38) : m * 2 ^ i < 4611686018427387904 := by
  have h1 : 2 ^ i ≤ 2 ^ 38 := Nat.pow_le_pow_right (by decide) hi
  have h2 : m * 2 ^ i ≤ 16777215 * 2 ^ 38 := Nat.mul_le_mul (by omega) h1
  exact Nat.lt_of_le_of_lt h2 (by decide)

set_option maxRecDepth 10000 in
set_option maxHeartbeats 600000 in
theorem rwhole_any (bits : Nat) (w : World) (hq : bits / 8388608 ≤ 188) :
    Calls Tryz.prog 151 #[.int .i64 bits] w fun e w' => e = .returned (.int .i64 (wholeN bits)) ∧ w' = w := by
  have hb : bits < 189 * 8388608 := by omega
  go_enter Tryz.func151, Tryz.ntmps151
  by_cases hz : bits = 0
  · subst hz
    go_wp2
    go_ret
    exact ⟨rfl, rfl⟩
  · have hzb : ((bits : Int) == 0) = false := by rw [beq_eq_false_iff_ne]; omega
    have HRES := hide (show wholeN bits = (bits % 8388608 + 8388608) * 2 ^ (bits / 8388608 - 150) / 2 ^ (150 - bits / 8388608) by unfold wholeN; rw [if_neg hz])
    have hm0 : bits % 8388608 + 8388608 < 16777216 := by omega
    have hm1 : 0 < bits % 8388608 + 8388608 := by omega
    go_upto_region 5 with fail
    go_loopw [3, 4] (fun m e wr => wr = w ∧ ∃ i a : Nat, a = (bits % 8388608 + 8388608) * 2 ^ i ∧ m = .int .i64 a ∧ e = .int .i64 ((bits : Int) / 8388608 - 150 - (i : Int)) ∧ i ≤ bits / 8388608 - 150 ∧ a < 4611686018427387904) (fun _ e _ => (intOf e).toNat)
    case atStart => exact ⟨rfl, 0, bits % 8388608 + 8388608, by simp, rfl, by simp, by omega, Nat.lt_trans hm0 (by decide)⟩
    case round =>
      obtain ⟨rfl, i, a, ha, rfl, rfl, hi, hab⟩ := hrel
      have HA := hide ha
      clear ha
      by_cases hlt : i < bits / 8388608 - 150
      · have hli : (0 : Int) < (bits : Int) / 8388608 - 150 - (i : Int) := by omega
        have hnew := twice_bound (i := i + 1) hm0 (by omega)
        have hbig : 2 * a < 4611686018427387904 := by
          have e : 2 * a = (bits % 8388608 + 8388608) * 2 ^ (i + 1) := by rw [unhide HA, Nat.pow_succ]; ac_rfl
          rw [e]; exact hnew
        clear hnew
        go_wp2
        go_roundw
        case rel =>
          exact ⟨trivial, i + 1, 2 * a, by rw [unhide HA, Nat.pow_succ]; ac_rfl, by go_num, by go_num, by omega, hbig⟩
        case measure => simp [intOf]; omega
      · have hli : ¬ (0 : Int) < (bits : Int) / 8388608 - 150 - (i : Int) := by omega
        have ei : i = bits / 8388608 - 150 := by omega
        have HR2 : Hid (wholeN bits = a / 2 ^ (150 - bits / 8388608)) := by
          show wholeN bits = _
          rw [unhide HRES, unhide HA, ei]
        clear HA HRES ei hi
        go_upto_region 9 with fail
        go_loopw [3, 5] (fun m e wx => wx = wr ∧ ∃ i b : Nat, b = a / 2 ^ i ∧ m = .int .i64 b ∧ e = .int .i64 ((bits : Int) / 8388608 - 150 + (i : Int)) ∧ i ≤ 150 - bits / 8388608 ∧ b ≤ a) (fun _ e _ => (-(intOf e)).toNat)
        case atStart => exact ⟨rfl, 0, a, by simp, rfl, by simp, by omega, by omega⟩
        case round =>
          obtain ⟨rfl, i', b, hb', rfl, rfl, hi', hba⟩ := hrel
          have HB := hide hb'
          clear hb'
          by_cases hlt2 : i' < 150 - bits / 8388608
          · have hli2 : (bits : Int) / 8388608 - 150 + (i' : Int) < 0 := by omega
            go_wp2
            go_roundw
            case rel =>
              exact ⟨trivial, i' + 1, b / 2, by rw [unhide HB, Nat.pow_succ, Nat.div_div_eq_div_mul], by go_num, by go_num, by omega, by omega⟩
            case measure => simp [intOf]; omega
          · have hli2 : ¬ (bits : Int) / 8388608 - 150 + (i' : Int) < 0 := by omega
            have ei : i' = 150 - bits / 8388608 := by omega
            have HR3 : Hid (wholeN bits = b) := by
              show wholeN bits = _
              rw [unhide HR2, unhide HB, ei]
            clear HB HR2 ei hi'
            go_wp2
            go_ret
            refine ⟨?_, rfl⟩
            rw [unhide HR3]
            rfl

end Go.Proofs.YtbljamcdaoofbaaGreatDoor

/- What a measure comes to, as plain functions. -/
namespace Go.Proofs.YtbljamcdaoofbaaGreatDoor
open Go.RowKit

def bytesL (G : List Rw) : Nat := (G.map (fun r => r.2.2.length)).sum
def manyL (G : List Rw) : Nat := (G.filter (fun r => numB r.2.2)).length
def sumL (G : List Rw) : Int := (G.map (fun r => numV r.2.2)).sum

def countT : List UInt8 := [99, 111, 117, 110, 116]
def rateT : List UInt8 := [114, 97, 116, 101]
def bytesT : List UInt8 := [98, 121, 116, 101, 115]

/-- the bits of a sample; none: there is no sample -/
noncomputable def smpS (meas : List UInt8) (span n bytes many : Nat) (sum : Int) : Option Nat :=
  if meas = countT then some (fB n 1)
  else if meas = rateT then some (fB n span)
  else if meas = bytesT then some (fB bytes 1)
  else if many = 0 then none
  else if sum < 0 then some (2147483648 + fB (wholeN (fB (-sum).toNat 1)) many)
  else some (fB (wholeN (fB sum.toNat 1)) many)

theorem take_snoc_rw (G : List Rw) (k : Nat) (h : k < G.length) : G.take (k + 1) = G.take k ++ [G[k]] := List.take_succ_eq_append_getElem h

theorem bytesL_snoc (G : List Rw) (k : Nat) (h : k < G.length) : bytesL (G.take (k + 1)) = bytesL (G.take k) + G[k].2.2.length := by
  unfold bytesL
  rw [take_snoc_rw G k h, List.map_append, List.sum_append]
  simp
theorem sumL_snoc (G : List Rw) (k : Nat) (h : k < G.length) : sumL (G.take (k + 1)) = sumL (G.take k) + numV G[k].2.2 := by
  unfold sumL
  rw [take_snoc_rw G k h, List.map_append, List.sum_append]
  simp
theorem manyL_snoc (G : List Rw) (k : Nat) (h : k < G.length) : manyL (G.take (k + 1)) = manyL (G.take k) + (if numB G[k].2.2 = true then 1 else 0) := by
  unfold manyL
  rw [take_snoc_rw G k h, List.filter_append, List.length_append]
  by_cases e : numB G[k].2.2 = true
  · rw [if_pos e, List.filter_cons_of_pos (by simpa using e)]; rfl
  · rw [if_neg e, List.filter_cons_of_neg (by simpa using e)]; rfl

theorem numV_abs (l : List UInt8) : -1000001 ≤ numV l ∧ numV l ≤ 1000001 := by
  have h : numB l = true → spanL (numS l) ≤ 1000001 := fun hb => by
    rw [← spanW_digits _ (numB_lt hb).1]
    exact spanW_le _
  unfold numV
  split
  · rename_i hb
    have := h hb
    split <;> omega
  · omega

theorem numV_zero {l : List UInt8} (h : numB l = false) : numV l = 0 := by unfold numV; rw [h]; rfl

theorem bytesL_le (G : List Rw) (h : ∀ r ∈ G, r.2.2.length ≤ 40) : bytesL G ≤ 40 * G.length := by
  induction G with
  | nil => simp [bytesL]
  | cons r G ih =>
    have h1 := ih fun x hx => h x (List.mem_cons_of_mem _ hx)
    have h2 := h r List.mem_cons_self
    unfold bytesL at h1 ⊢
    rw [List.map_cons, List.sum_cons, List.length_cons]
    omega

theorem sumL_abs (G : List Rw) : -(1000001 * (G.length : Int)) ≤ sumL G ∧ sumL G ≤ 1000001 * (G.length : Int) := by
  induction G with
  | nil => simp [sumL]
  | cons r G ih =>
    have h2 := numV_abs r.2.2
    unfold sumL at ih ⊢
    rw [List.map_cons, List.sum_cons, List.length_cons]
    omega

theorem manyL_le (G : List Rw) : manyL G ≤ G.length := List.length_filter_le _ _

end Go.Proofs.YtbljamcdaoofbaaGreatDoor

/- What the program takes a group for. -/
namespace Go.Proofs.YtbljamcdaoofbaaGreatDoor
open Go.RowKit

def meanT : List UInt8 := [109, 101, 97, 110]
/-- the bits of a group's value -/
noncomputable def valS (kind : List UInt8) (span n b : Nat) (s : Int) : Nat :=
  if kind = rateT then fB n span
  else if kind = bytesT then fB b 1
  else if kind = meanT then (if s < 0 then 2147483648 + fB (wholeN (fB (-s).toNat 1)) n else fB (wholeN (fB s.toNat 1)) n)
  else fB n 1

theorem ofInt_nat (n : Nat) (h : n < 2 ^ 60) : floatOfInt .f32 (n : Int) = fB n 1 := by
  have e : floatOfInt .f32 (n : Int) = Ieee.single.nearest (decide ((n : Int) < 0)) n 0 := rfl
  rw [e, show decide ((n : Int) < 0) = false by simp, nearest_fB h]

theorem ofInt_neg (n : Nat) (h : 0 < n) : floatOfInt .f32 (-(n : Int)) = Ieee.single.nearest true n 0 := by
  have e : floatOfInt .f32 (-(n : Int)) = Ieee.single.nearest (decide (-(n : Int) < 0)) (-(n : Int)).natAbs 0 := rfl
  rw [e, show decide (-(n : Int) < 0) = true by simp; omega, Int.natAbs_neg, Int.natAbs_natCast]

theorem quo_rate {n d : Nat} (hn : n < 16777216) (hd : 0 < d) (hd2 : d < 16777216) : floatBits .quo .f32 (fB n 1) (fB d 1) = some (fB n d) := by
  have h1 : n < 2 ^ 60 := Nat.lt_trans hn (by decide)
  have h2 : d < 2 ^ 60 := Nat.lt_trans hd2 (by decide)
  show Ieee.single.div (fB n 1) (fB d 1) = _
  by_cases h0 : n = 0
  · subst h0
    rw [fB_zero, fB_zero, ← nearest_fB h2, div_zero hd hd2]
  · rw [← nearest_fB h1, ← nearest_fB h2, div_fB false (by omega) h1 hd hd2, word_false, whole_small hn]

theorem quo_mean {n d : Nat} (hn : n < 2 ^ 60) (hd : 0 < d) (hd2 : d < 16777216) : floatBits .quo .f32 (fB n 1) (fB d 1) = some (fB (wholeN (fB n 1)) d) := by
  have h2 : d < 2 ^ 60 := Nat.lt_trans hd2 (by decide)
  show Ieee.single.div (fB n 1) (fB d 1) = _
  by_cases h0 : n = 0
  · subst h0
    rw [fB_zero, ← nearest_fB h2, div_zero hd hd2, show wholeN 0 = 0 from rfl, fB_zero]
  · rw [← nearest_fB h2]
    have := div_fB false (A := n) (by omega) hn hd hd2
    rw [word_false, nearest_fB hn] at this
    exact this

theorem quo_neg {n d : Nat} (h0 : 0 < n) (hn : n < 2 ^ 60) (hd : 0 < d) (hd2 : d < 16777216) : floatBits .quo .f32 (Ieee.single.nearest true n 0) (fB d 1) = some (2147483648 + fB (wholeN (fB n 1)) d) := by
  have h2 : d < 2 ^ 60 := Nat.lt_trans hd2 (by decide)
  show Ieee.single.div (Ieee.single.nearest true n 0) (fB d 1) = _
  rw [← nearest_fB h2, div_fB true h0 hn hd hd2, sign_word]

set_option maxRecDepth 10000 in
set_option maxHeartbeats 1000000 in
theorem value_any' {w : World} {gb : Nat} {kind key : List UInt8} {span n b : Nat} {s : Int} {vg : Value} (hg : w.heap[gb]? = some (.cells #[SV kind, .int .i64 span, vg] 139 (0, 0))) (hn : 0 < n) (hn2 : n ≤ 300) (hb : b ≤ 12000) (hs : 0 < span) (hs2 : span ≤ 1000000) (s1 : -300000300 ≤ s) (s2 : s ≤ 300000300) :
    Calls Tryz.prog 87 #[.pointer (some ⟨gb, 0, none⟩), .agg #[SV key, .int .i64 n, .int .i64 b, .int .i64 s]] w fun e w' => e = .returned (.float .f32 (valS kind span n b s)) ∧ Below w.heap.size w w' := by
  obtain ⟨c0, c1, c2, -⟩ := cell_of_block3 hg
  have hgw := (Array.getElem?_eq_some_iff.1 hg).1
  clear hg
  have h60 : (300000300 : Nat) < 2 ^ 60 := by decide
  have f1 := ofInt_nat n (by omega)
  have f2 := ofInt_nat b (by omega)
  have f3 := ofInt_nat span (by omega)
  go_enter Tryz.func87, Tryz.ntmps87
  cases t1 : (kind == [114, 97, 116, 101]) with
  | true =>
    have HV := hide (show valS kind span n b s = fB n span by unfold valS; rw [if_pos (by simpa [rateT] using t1)])
    have hq := quo_rate (n := n) (d := span) (by omega) hs (by omega)
    have hrun := fun W => run_float_arith (P := Tryz.prog) W .quo 151 .f32 _ _ _ hq
    go_upto_region 3 with fail
    clear hq t1
    go_quiet (fail)
    go_wp2_with fail
    go_ret
    refine ⟨?_, ?_⟩
    · rw [unhide HV]
      rfl
    · repeat (first | exact (Below.refl _ w).alloc (Nat.le_refl _) _ | apply Below.drew | apply Below.drawn)
  | false =>
    have g1 : ¬ kind = rateT := by simpa [rateT] using t1
    cases t2 : (kind == [98, 121, 116, 101, 115]) with
    | true =>
      have HV := hide (show valS kind span n b s = fB b 1 by unfold valS; rw [if_neg g1, if_pos (by simpa [bytesT] using t2)])
      go_wp2_with fail
      go_ret
      refine ⟨?_, (Below.refl _ w).alloc (Nat.le_refl _) _⟩
      rw [unhide HV, ← f2]
      rfl
    | false =>
      have g2 : ¬ kind = bytesT := by simpa [bytesT] using t2
      cases t3 : (kind == [109, 101, 97, 110]) with
      | true =>
        have HV := hide (show valS kind span n b s = (if s < 0 then 2147483648 + fB (wholeN (fB (-s).toNat 1)) n else fB (wholeN (fB s.toNat 1)) n) by unfold valS; rw [if_neg g1, if_neg g2, if_pos (by simpa [meanT] using t3)])
        by_cases h5 : s < 0
        · obtain ⟨a, rfl⟩ : ∃ a : Nat, s = -(a : Int) := ⟨(-s).toNat, by omega⟩
          rw [if_pos h5, show (-(-(a : Int))).toNat = a by omega] at HV
          have f4 := ofInt_neg a (by omega)
          have hq := quo_neg (n := a) (d := n) (by omega) (by omega) hn (by omega)
          have hrun := fun W => run_float_arith (P := Tryz.prog) W .quo 151 .f32 _ _ _ hq
          clear hq
          generalize Ieee.single.nearest true a 0 = fa at *
          go_wp2_with fail
          go_ret
          refine ⟨?_, (Below.refl _ w).alloc (Nat.le_refl _) _⟩
          rw [unhide HV]
          rfl
        · obtain ⟨a, rfl⟩ : ∃ a : Nat, s = (a : Int) := ⟨s.toNat, by omega⟩
          rw [if_neg h5, show ((a : Int)).toNat = a by omega] at HV
          have f4 := ofInt_nat a (by omega)
          have hq := quo_mean (n := a) (d := n) (by omega) hn (by omega)
          have hrun := fun W => run_float_arith (P := Tryz.prog) W .quo 151 .f32 _ _ _ hq
          clear hq
          go_wp2_with fail
          go_ret
          refine ⟨?_, (Below.refl _ w).alloc (Nat.le_refl _) _⟩
          rw [unhide HV]
          rfl
      | false =>
        have g3 : ¬ kind = meanT := by simpa [meanT] using t3
        have HV := hide (show valS kind span n b s = fB n 1 by unfold valS; rw [if_neg g1, if_neg g2, if_neg g3])
        go_wp2_with fail
        go_ret
        refine ⟨?_, (Below.refl _ w).alloc (Nat.le_refl _) _⟩
        rw [unhide HV, ← f1]
        rfl

end Go.Proofs.YtbljamcdaoofbaaGreatDoor

/- The bits of a float, as the program asks for them. -/
namespace Go.Proofs.YtbljamcdaoofbaaGreatDoor
open Go.RowKit

theorem bits_run (b : Nat) (w : World) :
    (callFunc 86 #[.float .f32 b]).run Tryz.prog w = .ok (.value (.int .u32 b)) w := by
  rw [run_callFunc_extern (e := Extern.MathFloatBits.float32bits) Tryz.func86 (by kernel_rfl) (by kernel_rfl) (by kernel_rfl) (by kernel_rfl)]
  rfl

end Go.Proofs.YtbljamcdaoofbaaGreatDoor

/- The program's search for a group by its key. -/
namespace Go.Proofs.YtbljamcdaoofbaaGreatDoor
open Go.RowKit

/-- a group -/
structure Grp where
  key : List UInt8
  n : Nat
  b : Nat
  s : Int

def cellsG (g : Grp) : List Value := [SV g.key, .int .i64 g.n, .int .i64 g.b, .int .i64 g.s]
def GRise (gs : List Grp) : Prop := gs.Pairwise (fun a b => Op.bytesLess a.key b.key = true)

theorem cellsG_at (L : List Grp) (k : Nat) (h : k < L.length) : (L.flatMap cellsG)[k * 4]? = some (SV L[k].key) ∧ (L.flatMap cellsG)[k * 4 + 1]? = some (.int .i64 L[k].n) ∧ (L.flatMap cellsG)[k * 4 + 2]? = some (.int .i64 L[k].b) ∧ (L.flatMap cellsG)[k * 4 + 3]? = some (.int .i64 L[k].s) := by
  induction L generalizing k with
  | nil => simp at h
  | cons x S ih =>
    rw [List.flatMap_cons]
    cases k with
    | zero => simp [cellsG]
    | succ k =>
      have := ih k (by simpa using h)
      simp only [cellsG, List.cons_append, List.nil_append, Nat.add_mul, Nat.one_mul, List.getElem?_cons_succ, List.getElem_cons_succ] at this ⊢
      exact this

theorem grp_flat_len (L : List Grp) : (L.flatMap cellsG).length = L.length * 4 := by
  induction L with
  | nil => rfl
  | cons x S ih => rw [List.flatMap_cons, List.length_append, ih, List.length_cons]; simp [cellsG]; omega

/-- the place among rising keys -/
def gplace (gs : List Grp) (l : List UInt8) : Nat := (gs.filter (fun g => Op.bytesLess g.key l)).length

theorem gplace_split {gs : List Grp} (l : List UInt8) (r : Nat) (hr : r ≤ gs.length) (h1 : ∀ j (hj : j < gs.length), j < r → Op.bytesLess gs[j].key l = true) (h2 : ∀ j (hj : j < gs.length), r ≤ j → Op.bytesLess gs[j].key l = false) : gplace gs l = r := by
  unfold gplace
  rw [← List.take_append_drop r gs, List.filter_append]
  have e1 : (gs.take r).filter (fun g => Op.bytesLess g.key l) = gs.take r := by
    rw [List.filter_eq_self]
    intro n hn
    obtain ⟨j, hj, rfl⟩ := List.getElem_of_mem hn
    simp only [List.length_take] at hj
    rw [List.getElem_take]
    exact h1 j (by omega) (by omega)
  have e2 : (gs.drop r).filter (fun g => Op.bytesLess g.key l) = [] := by
    rw [List.filter_eq_nil_iff]
    intro n hn
    obtain ⟨j, hj, rfl⟩ := List.getElem_of_mem hn
    simp only [List.length_drop] at hj
    rw [List.getElem_drop, h2 (r + j) (by omega) (by omega)]
    simp
  rw [e1, e2]
  simp; omega

theorem gless_mono {gs : List Grp} (h : GRise gs) {l : List UInt8} {i j : Nat} (hij : i ≤ j) (hj : j < gs.length) (hl : Op.bytesLess gs[j].key l = true) : Op.bytesLess (gs[i]'(by omega)).key l = true := by
  rcases Nat.lt_or_eq_of_le hij with hlt | rfl
  · have := List.pairwise_iff_getElem.1 h i j (by omega) hj hlt
    exact less_trans this hl
  · exact hl

theorem gcmp_any (g : Grp) (l : List UInt8) (w : World) :
    Calls Tryz.prog 114 #[.agg #[SV g.key, .int .i64 g.n, .int .i64 g.b, .int .i64 g.s], .string ⟨l.toArray⟩] w fun e w' => e = .returned (.int .i64 (Lib.compareBytes g.key l)) ∧ Below w.heap.size w w' := by
  go_enter Tryz.func114, Tryz.ntmps114
  go_wp2_with fail
  refine (compare_any g.key l _).mono ?_
  rintro e w2 ⟨rfl, hww⟩
  rw [hww]
  clear hww w2
  go_wp2
  go_ret
  exact ⟨rfl, (Below.refl _ w).alloc (Nat.le_refl _) _⟩

set_option maxRecDepth 10000 in
set_option maxHeartbeats 2000000 in
theorem gsearch_any {w : World} {base : Nat} {gs : List Grp} {va : Value} (l : List UInt8) (h : w.ownsRow base 148 4 va gs.length (gs.flatMap cellsG)) (hn : gs.length ≤ 300) (hs : GRise gs) :
    Calls Tryz.prog 113 #[va, .string ⟨l.toArray⟩, .func (.func 114) #[] #[]] w fun e w' =>
      e = .returned (.tuple #[.int .i64 (gplace gs l), .bool (decide (∃ g ∈ gs, g.key = l))]) ∧ Below w.heap.size w w' := by
  obtain ⟨ao, cap, rfl, hnc, hcm, hnil, hao, hcell, hfz⟩ := owns_form h
  have HN := hide hnil
  have HA := hide hao
  have HC := hide hcell
  have HS := hide hs
  clear hnil hao hcell hfz hs h
  unfold maxLen at hcm
  go_enter Tryz.func113, Tryz.ntmps113
  go_wp2
  go_loopw [9, 10, 11] (fun i j _ wr => Hid (Below w.heap.size w wr) ∧ ∃ a b : Nat, a ≤ b ∧ b ≤ gs.length ∧ i = .int .i64 a ∧ j = .int .i64 b ∧ (∀ k (hk : k < gs.length), k < a → Op.bytesLess gs[k].key l = true) ∧ (∀ k (hk : k < gs.length), b ≤ k → Op.bytesLess gs[k].key l = false)) (fun i j _ _ => (intOf j).toNat - (intOf i).toNat)
  case atStart => exact ⟨hide (Below.refl _ _), 0, gs.length, by omega, by omega, rfl, rfl, fun k _ h => by omega, fun k hk h => by omega⟩
  case round =>
    obtain ⟨HB, a, b, hab, hb, rfl, rfl, h1, h2⟩ := hrel
    have H1 := hide h1
    have H2 := hide h2
    clear h1 h2
    by_cases hlt : a < b
    · obtain ⟨⟨g, o, sp⟩, rfl⟩ : ∃ a, ao = some a := by
        cases ao with
        | none => have := (unhide HN rfl).1; omega
        | some a => exact ⟨a, rfl⟩
      obtain ⟨ho, hsp, -, hgw⟩ := unhide HA _ rfl
      simp only at ho hsp hgw
      subst ho hsp
      go_upto_region 5 with fail
      obtain ⟨hm1, hm2⟩ := mid_bounds hlt
      rw [show ((a : Int) + (b : Int)) / 2 = (((a + b) / 2 : Nat) : Int) by omega]
      generalize (a + b) / 2 = m at *
      have hml : m < gs.length := by omega
      obtain ⟨e0, e1, e2, e3⟩ := cellsG_at gs m hml
      have m0 := (((unhide HB).cell (p := ⟨g, m * 4, none⟩) hgw).trans (unhide HC _ rfl _ (by omega))).trans e0
      have m1 := (((unhide HB).cell (p := ⟨g, m * 4 + 1, none⟩) hgw).trans (unhide HC _ rfl _ (by omega))).trans e1
      have m2 := (((unhide HB).cell (p := ⟨g, m * 4 + 2, none⟩) hgw).trans (unhide HC _ rfl _ (by omega))).trans e2
      have m3 := (((unhide HB).cell (p := ⟨g, m * 4 + 3, none⟩) hgw).trans (unhide HC _ rfl _ (by omega))).trans e3
      clear e0 e1 e2 e3
      obtain ⟨hcmp, hcmp0⟩ := compare_less gs[m].key l
      have HCM := hide hcmp
      have hgc := gcmp_any gs[m] l wr
      have hszr := (unhide HB).size
      have hmi : (m : Int) < (gs.length : Int) := by omega
      clear hcmp hcmp0
      cases hless : Op.bytesLess gs[m].key l
      · have hge : ¬ Lib.compareBytes gs[m].key l < 0 := fun h => by rw [(unhide HCM).1 h] at hless; cases hless
        have HLS := hide hless
        clear hless
        go_wp2_with fail
        refine hgc.mono ?_
        rintro e w3 ⟨rfl, hb3⟩
        clear hgc
        have HB3 := hide ((unhide HB).trans (hb3.mono hszr))
        clear hb3
        go_wp2_with fail
        go_roundw
        case rel =>
          refine ⟨HB3, a, m, by omega, by omega, rfl, rfl, unhide H1, fun k hk hmk => ?_⟩
          rw [Bool.eq_false_iff]
          intro hl
          have := gless_mono (unhide HS) hmk hk hl
          rw [unhide HLS] at this
          cases this
        case measure => simp [intOf]; omega
      · have hge : Lib.compareBytes gs[m].key l < 0 := (unhide HCM).2 hless
        have HLS := hide hless
        clear hless
        go_wp2_with fail
        refine hgc.mono ?_
        rintro e w3 ⟨rfl, hb3⟩
        clear hgc
        have HB3 := hide ((unhide HB).trans (hb3.mono hszr))
        clear hb3
        go_wp2_with fail
        go_roundw
        case rel =>
          refine ⟨HB3, m + 1, b, by omega, by omega, by go_num, rfl, fun k hk hkm => ?_, unhide H2⟩
          exact gless_mono (unhide HS) (by omega) hml (unhide HLS)
        case measure => simp [intOf]; omega
    · have he : a = b := by omega
      subst he
      have hpl : gplace gs l = a := gplace_split l a hb (unhide H1) (unhide H2)
      have HPL := hide hpl
      clear hpl
      by_cases hal : a < gs.length
      · obtain ⟨⟨g, o, sp⟩, rfl⟩ : ∃ a, ao = some a := by
          cases ao with
          | none => have := (unhide HN rfl).1; omega
          | some a => exact ⟨a, rfl⟩
        obtain ⟨ho, hsp, -, hgw⟩ := unhide HA _ rfl
        simp only at ho hsp hgw
        subst ho hsp
        obtain ⟨e0, e1, e2, e3⟩ := cellsG_at gs a hal
        have m0 := (((unhide HB).cell (p := ⟨g, a * 4, none⟩) hgw).trans (unhide HC _ rfl _ (by omega))).trans e0
        have m1 := (((unhide HB).cell (p := ⟨g, a * 4 + 1, none⟩) hgw).trans (unhide HC _ rfl _ (by omega))).trans e1
        have m2 := (((unhide HB).cell (p := ⟨g, a * 4 + 2, none⟩) hgw).trans (unhide HC _ rfl _ (by omega))).trans e2
        have m3 := (((unhide HB).cell (p := ⟨g, a * 4 + 3, none⟩) hgw).trans (unhide HC _ rfl _ (by omega))).trans e3
        clear e0 e1 e2 e3
        have hgc := gcmp_any gs[a] l wr
        have hszr := (unhide HB).size
        have hai : (a : Int) < (gs.length : Int) := by omega
        go_wp2_with fail
        refine hgc.mono ?_
        rintro e w3 ⟨rfl, hb3⟩
        clear hgc
        have HB3 := hide ((unhide HB).trans (hb3.mono hszr))
        clear hb3
        go_wp2_with fail
        go_ret2
        refine ⟨?_, unhide HB3⟩
        rw [unhide HPL]
        have hd : (Lib.compareBytes gs[a].key l == 0) = decide (∃ g ∈ gs, g.key = l) := by
          rw [Bool.eq_iff_iff, beq_iff_eq, (compare_less gs[a].key l).2, decide_eq_true_iff]
          constructor
          · intro h; exact ⟨_, List.getElem_mem hal, h⟩
          · rintro ⟨n, hnm, hl⟩
            obtain ⟨j, hj, rfl⟩ := List.getElem_of_mem hnm
            rcases Nat.lt_trichotomy j a with h | h | h
            · have := unhide H1 j hj h
              rw [hl, less_irrefl] at this
              cases this
            · subst h; exact hl
            · have h3 := List.pairwise_iff_getElem.1 (unhide HS) a j hal hj h
              rw [hl, unhide H2 a hal (Nat.le_refl _)] at h3
              cases h3
        rw [← hd]
        rfl
      · go_wp2
        go_ret2
        refine ⟨?_, unhide HB⟩
        rw [unhide HPL]
        have hd : decide (∃ g ∈ gs, g.key = l) = false := by
          rw [decide_eq_false_iff_not]
          rintro ⟨n, hnm, hl⟩
          obtain ⟨j, hj, rfl⟩ := List.getElem_of_mem hnm
          have := unhide H1 j hj (by omega)
          rw [hl, less_irrefl] at this
          cases this
        rw [hd]
        rfl

end Go.Proofs.YtbljamcdaoofbaaGreatDoor
