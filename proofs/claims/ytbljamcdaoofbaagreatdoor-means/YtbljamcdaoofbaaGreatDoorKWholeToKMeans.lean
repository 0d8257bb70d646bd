/- Texts KWhole, KDig, KMean, KMeans, joined. -/
import Derived.Test.YtbljamcdaoofbaaGreatDoorPMAllToKMsr
/- loamkeep's whole and one. -/
namespace Go.Proofs.YtbljamcdaoofbaaGreatDoor
open Go.RowKit

set_option maxRecDepth 10000 in
set_option maxHeartbeats 1000000 in
theorem kwhole_any (N : Nat) (hN : N < 16777216) (w : World) :
    Calls Tryz.prog 29 #[.int .i64 ((fB N 1 : Nat) : Int)] w fun e w' => e = .returned (.int .i64 N) ∧ w' = w := by
  by_cases h0 : N = 0
  · subst h0
    rw [fB_zero]
    go_enter Tryz.func29, Tryz.ntmps29
    go_wp2_with fail
    go_ret
    exact ⟨rfl, rfl⟩
  · obtain ⟨e, m, he, hb, hm1, hm2, hm⟩ := whole_form (Nat.pos_of_ne_zero h0) hN
    rw [hb]
    generalize hbb : (e + 126) * 8388608 + m = b
    have hd : (b : Int) / 8388608 = (e : Int) + 127 := by omega
    have hr : (b : Int) % 8388608 = (m : Int) - 8388608 := by omega
    have hbn : ((b : Int) == 0) = false := by simp; omega
    have hbs : (b : Int) < 4294967296 := by omega
    have HM := hide hm
    have i1 : (8388608 : Int) ≤ m := by omega
    have i2 : (m : Int) < 16777216 := by omega
    have i3 : (e : Int) ≤ 23 := by omega
    have j4 : ¬ (b : Int) / 8388608 - 127 < 0 := by omega
    have j5 : ¬ (23 : Int) < (b : Int) / 8388608 - 127 := by omega
    clear hbb hb hm hm1 hm2 hN h0
    go_enter Tryz.func29, Tryz.ntmps29
    go_upto_region 5 with fail
    have HI := hide (⟨i1, i2⟩ : (8388608 : Int) ≤ m ∧ (m : Int) < 16777216)
    have k1 : ¬ (e : Int) < 0 := by omega
    have k2 : ¬ (23 : Int) < (e : Int) := by omega
    clear hd hr hbn hbs i1 i2 j4 j5 i3
    go_wp2_with fail
    go_loopw [4, 5] (fun m' k wr => wr = w ∧ ∃ i a : Nat, a = N * 2 ^ (i - e) ∧ m' = .int .i64 a ∧ k = .int .i64 i ∧ e ≤ i ∧ i ≤ 23 ∧ (a : Int) < 16777216) (fun _ k _ => (intOf k).toNat)
    case atStart => exact ⟨rfl, 23, m, unhide HM, rfl, rfl, he, Nat.le_refl _, (unhide HI).2⟩
    case round =>
      obtain ⟨rfl, i, a, ha, rfl, rfl, hi, hi2, has⟩ := hrel
      have HA := hide ha
      clear ha
      by_cases hlt : e < i
      · have hli : (e : Int) < (i : Int) := by omega
        have hev : a % 2 = 0 ∧ a / 2 = N * 2 ^ (i - 1 - e) := by
          have e1 : a = 2 * (N * 2 ^ (i - 1 - e)) := by
            rw [unhide HA, show i - e = (i - 1 - e) + 1 by omega, Nat.pow_succ]
            ac_rfl
          omega
        have hev2 : (((a : Int) % 2) == 1) = false := by
          rw [beq_eq_false_iff_ne]
          omega
        have HV := hide hev.2
        clear hev
        go_wp2_with fail
        go_roundw
        case rel => exact ⟨trivial, i - 1, a / 2, unhide HV, by go_num, by go_num, by omega, by omega, by omega⟩
        case measure => simp [intOf]; omega
      · have hli : ¬ (e : Int) < (i : Int) := by omega
        have ha0 : a = N := by
          rw [unhide HA, show i - e = 0 by omega]
          simp
        subst ha0
        go_wp2_with fail
        go_ret
        exact ⟨rfl, rfl⟩

/-- what one tells -/
def OneP (w : World) (v : Nat) (e : Ending) (w' : World) : Prop := e = .returned (.int .i64 v) ∧ Below w.heap.size w w'

set_option maxRecDepth 10000 in
set_option maxHeartbeats 1000000 in
theorem one_any {w0 w : World} {F : Nat → Prop} {p : Nat} {S : List Strm} {L : List Rw} (l : List UInt8) (at_ : Int) (v : Nat) (h : KeepAt w0 w F p S L) (hl : l.length ≤ 200) (hg : Glob w0) (hE : measE l at_ = (0, 0)) (hA : OneA (measA l at_ L) v) :
    Calls Tryz.prog 27 #[.pointer (some ⟨p, 0, none⟩), .string ⟨l.toArray⟩, .int .i64 at_] w (OneP w v) := by
  have hm := kmeas_any l at_ h (by omega) hg
  rw [hE] at hm
  obtain ⟨hv, hA⟩ := hA
  go_enter Tryz.func27, Tryz.ntmps27
  go_wp2_with fail
  refine hm.mono ?_
  rintro e w1 ⟨v1, rfl, hown, hb⟩
  clear hm h
  have HB := hide hb
  clear hb
  rcases hA with ⟨hR, rfl⟩ | hR
  · rw [hR] at hown
    obtain ⟨ao, cap, rfl, -, -, -, -, -, -⟩ := owns_form hown
    clear hown hR
    go_wp2_with fail
    go_ret
    exact ⟨rfl, unhide HB⟩
  · rw [hR] at hown
    obtain ⟨g, cap, rfl, -, -, -, -, k, -⟩ := owns_open hown (by simp)
    have c0 : w1.cell? ⟨g, 0, none⟩ = some (SV []) := k 0 (by simp)
    have c1 : w1.cell? ⟨g, 1, none⟩ = some (.int .i64 (fB v 1 : Nat)) := k 1 (by simp)
    have hw := kwhole_any v hv w1
    clear hown hR k hv hE
    generalize fB v 1 = b at *
    go_wp2_with fail
    refine hw.mono ?_
    rintro e w' ⟨rfl, hww⟩
    rw [hww]
    clear hww w' hw
    go_wp2_with fail
    go_ret
    exact ⟨rfl, unhide HB⟩

end Go.Proofs.YtbljamcdaoofbaaGreatDoor

/- Digits of a number; what is asked for is a permutation of what is wanted. -/
namespace Go.Proofs.YtbljamcdaoofbaaGreatDoor
open Go.RowKit

def spanF (a : Nat) (s : List UInt8) : Nat := s.foldl (fun n c => min (10 * n + (c.toNat - 48)) 1000001) a

theorem dig_c : ∀ d, d < 10 → (48 + UInt8.ofNat d).toNat = 48 + d ∧ isD (48 + UInt8.ofNat d) = true := by decide

theorem wordGo_span : ∀ (f n : Nat) (s : List UInt8), n < f → n ≤ 1000000 → s ≠ [] → spanF 0 (wordGo f n s) = spanF n s
  | 0, n, s, h, _, _ => by omega
  | f + 1, n, s, h, hn, hs => by
    unfold wordGo
    by_cases h0 : 0 < n
    · rw [if_pos (.inl h0), wordGo_span f (n / 10) _ (by omega) (by omega) (by simp)]
      have hc := (dig_c (n % 10) (by omega)).1
      show spanF (min (10 * (n / 10) + ((48 + UInt8.ofNat (n % 10)).toNat - 48)) 1000001) s = _
      rw [hc, show min (10 * (n / 10) + (48 + n % 10 - 48)) 1000001 = n by omega]
    · rw [if_neg (by simp [hs]; omega), show n = 0 by omega]

theorem wordGo_dig : ∀ (f n : Nat) (s : List UInt8), s.all isD = true → (wordGo f n s).all isD = true
  | 0, n, s, h => h
  | f + 1, n, s, h => by
    unfold wordGo
    split
    · refine wordGo_dig f _ _ ?_
      rw [List.all_cons, h, (dig_c (n % 10) (by omega)).2]
      rfl
    · exact h

theorem wordGo_ne : ∀ (f n : Nat) (s : List UInt8), s ≠ [] → wordGo f n s ≠ []
  | 0, n, s, h => h
  | f + 1, n, s, h => by
    unfold wordGo
    split
    · exact wordGo_ne f _ _ (by simp)
    · exact h

theorem dig_num {n : Nat} (hn : n ≤ 999999) : (digL n).all isD = true ∧ spanL (digL n) = n ∧ digL n ≠ [] ∧ (digL n).length ≤ 6 := by
  refine ⟨wordGo_dig _ _ _ rfl, ?_, ?_, digL_len n 5 (by omega)⟩
  · show spanF 0 (wordGo (n + 1 + 1) n []) = n
    rw [wordGo, if_pos (.inr rfl), wordGo_span _ _ _ (by omega) (by omega) (by simp)]
    have hc := (dig_c (n % 10) (by omega)).1
    show min (10 * (n / 10) + ((48 + UInt8.ofNat (n % 10)).toNat - 48)) 1000001 = n
    rw [hc]
    omega
  · show wordGo (n + 1 + 1) n [] ≠ []
    rw [wordGo, if_pos (.inr rfl)]
    exact wordGo_ne _ _ _ (by simp)

theorem num_dig {n : Nat} (hn : n ≤ 999999) : numB (digL n) = true ∧ numV (digL n) = n := by
  obtain ⟨h1, h2, h3, h4⟩ := dig_num hn
  have hd : (digL n).head? ≠ some 45 := by
    cases e : digL n with
    | nil => simp
    | cons c r =>
      rw [e, List.all_cons, Bool.and_eq_true] at h1
      rintro ⟨⟩
      exact absurd h1.1 (by decide)
  have hs : numS (digL n) = digL n := by unfold numS; rw [if_neg hd]
  have hB : numB (digL n) = true := by
    unfold numB
    rw [hs, h1]
    have : 1 ≤ (digL n).length := by
      cases e : digL n with
      | nil => exact absurd e h3
      | cons c r => simp
    simp [this, h4]
  refine ⟨hB, ?_⟩
  unfold numV
  rw [if_pos hB, if_neg hd, hs, h2]

theorem insR_perm (o : List Rw) (r : Rw) : (insR o r).Perm (r :: o) := by
  unfold insR
  rw [List.append_assoc, List.singleton_append]
  refine List.perm_middle.trans ?_
  rw [List.take_append_drop]

theorem asked_perm (M : List Mch) (Fs : List Flt) (fr tt : Int) (L : List Rw) : (askedL M Fs fr tt L).Perm (L.filter (wantB M Fs fr tt)) := by
  have h : ∀ (L out : List Rw), (L.foldl (fun out r => if wantB M Fs fr tt r = true then insR out r else out) out).Perm (out ++ L.filter (wantB M Fs fr tt)) := by
    intro L
    induction L with
    | nil => intro out; rw [List.foldl_nil, List.filter_nil, List.append_nil]
    | cons r L ih =>
      intro out
      rw [List.foldl_cons]
      refine (ih _).trans ?_
      by_cases hw : wantB M Fs fr tt r = true
      · rw [if_pos hw, List.filter_cons_of_pos hw]
        refine ((insR_perm out r).append_right _).trans ?_
        exact List.perm_middle.symm
      · rw [if_neg hw, List.filter_cons_of_neg hw]
  exact h L []

theorem many_perm {A B : List Rw} (h : A.Perm B) : manyL A = manyL B := (h.filter _).length_eq
theorem sum_perm {A B : List Rw} (h : A.Perm B) : sumL A = sumL B := perm_sum (h.map _)
theorem bytes_perm {A B : List Rw} (h : A.Perm B) : bytesL A = bytesL B := (h.map _).sum_nat

end Go.Proofs.YtbljamcdaoofbaaGreatDoor

/- What Means keeps, and what its measures come to. -/
namespace Go.Proofs.YtbljamcdaoofbaaGreatDoor
open Go.RowKit

def abL : List UInt8 := [97, 61, 98]
def cdL : List UInt8 := [99, 61, 100]
def no77 : List UInt8 := [110, 111, 32, 55, 55]
def threeM (n i : Nat) : List Rw := [(abL, 5, digL (n + i + 1000)), (abL, 5, digL (n + 1000 - i)), (abL, 5, no77)]
def mA (n k : Nat) : List Rw := (List.range k).flatMap (threeM n)
def sA (k : Nat) : List Strm := if k = 0 then [] else [(abL, 5)]
def mB (c r : Nat) : List Rw := (List.range r).flatMap (fun t => List.replicate c (cdL, ((t + 1 : Nat) : Int), [120]))

theorem mA_succ (n i : Nat) : mA n (i + 1) = mA n i ++ threeM n i := by
  unfold mA
  rw [List.range_succ, List.flatMap_append]
  simp
theorem mB_succ (c r : Nat) : mB c (r + 1) = mB c r ++ List.replicate c (cdL, ((r + 1 : Nat) : Int), [120]) := by
  unfold mB
  rw [List.range_succ, List.flatMap_append]
  simp

theorem mA_len (n k : Nat) : (mA n k).length = 3 * k := by
  induction k with
  | zero => rfl
  | succ k ih => rw [mA_succ, List.length_append, ih]; simp [threeM]; omega
theorem mB_len (c r : Nat) : (mB c r).length = r * c := by
  induction r with
  | zero => simp [mB]
  | succ r ih => rw [mB_succ, List.length_append, ih, List.length_replicate, Nat.succ_mul]

theorem push_new {S : List Strm} {L : List Rw} {l x : List UInt8} {t : Int} (hl : labelsB l = true) (ht : 0 ≤ t) (ht2 : t ≤ 1000000) (hx : x.length ≤ 40) (hS : ∀ y ∈ S, y.1 ≠ l) (h6 : S.length < 6) (hL : L.length < 300) : pushR S L l t x = (0, S ++ [(l, t)], L ++ [(l, t, x)]) := by
  have ha : ¬ at_ S l < S.length := by
    unfold at_
    rw [List.findIdx_lt_length]
    rintro ⟨y, hy, e⟩
    exact hS y hy (by simpa using e)
  unfold pushR
  rw [if_neg (by simp [hl]), if_neg (by simp [timeB, ht, ht2]), if_neg (by omega), dif_neg ha, if_neg (by omega), if_neg (by omega)]

theorem push_old {S : List Strm} {L : List Rw} {l x : List UInt8} {t t0 : Int} (hl : labelsB l = true) (ht : 0 ≤ t) (ht2 : t ≤ 1000000) (hx : x.length ≤ 40) (hS : ∀ y ∈ S, y.1 ≠ l) (ht0 : t0 ≤ t) (hL : L.length < 300) : pushR (S ++ [(l, t0)]) L l t x = (0, S ++ [(l, t)], L ++ [(l, t, x)]) := by
  have ha : at_ (S ++ [(l, t0)]) l = S.length := by
    unfold at_
    rw [List.findIdx_append]
    have : ¬ S.findIdx (fun y => y.1 == l) < S.length := by
      rw [List.findIdx_lt_length]
      rintro ⟨y, hy, e⟩
      exact hS y hy (by simpa using e)
    rw [if_neg this]
    simp
  have hlt : at_ (S ++ [(l, t0)]) l < (S ++ [(l, t0)]).length := by rw [ha]; simp
  have he : (S ++ [(l, t0)])[at_ (S ++ [(l, t0)]) l] = (l, t0) := by
    simp only [ha]
    simp
  unfold pushR
  rw [if_neg (by simp [hl]), if_neg (by simp [timeB, ht, ht2]), if_neg (by omega), dif_pos hlt, he, if_neg (by simp; omega), if_neg (by omega), ha]
  simp

theorem ab_ok : labelsB abL = true := by kernel_rfl
theorem cd_ok : labelsB cdL = true := by kernel_rfl

/-- a line of the first stream -/
theorem push_a {k : Nat} {L : List Rw} {x : List UInt8} (hx : x.length ≤ 40) (hL : L.length < 300) : pushR (sA k) L abL 5 x = (0, sA 1, L ++ [(abL, 5, x)]) := by
  unfold sA
  by_cases h : k = 0
  · rw [if_pos h]
    exact push_new ab_ok (by decide) (by decide) hx (fun y hy => by simp at hy) (by decide) hL
  · rw [if_neg h]
    exact push_old (S := []) ab_ok (by decide) (by decide) hx (fun y hy => by simp at hy) (by decide) hL

/-- a line of the second -/
def sC (k : Nat) (t0 : Option Int) : List Strm := sA k ++ (match t0 with | none => [] | some t => [(cdL, t)])
theorem push_c {k : Nat} {t0 : Option Int} {L : List Rw} {t : Int} (h0 : ∀ x, t0 = some x → x ≤ t) (ht : 0 ≤ t) (ht2 : t ≤ 1000000) (hL : L.length < 300) : pushR (sC k t0) L cdL t [120] = (0, sC k (some t), L ++ [(cdL, t, [120])]) := by
  have hS : ∀ y ∈ sA k, y.1 ≠ cdL := by
    intro y hy
    unfold sA at hy
    split at hy
    · simp at hy
    · rw [List.mem_singleton.1 hy]
      decide
  have hlen : (sA k).length ≤ 1 := by unfold sA; split <;> simp
  unfold sC
  cases t0 with
  | none => rw [List.append_nil]; exact push_new cd_ok ht ht2 (by decide) hS (by omega) hL
  | some x => exact push_old cd_ok ht ht2 (by decide) hS (h0 x rfl) hL

theorem mA_mem {n k : Nat} {r : Rw} (h : r ∈ mA n k) : r.1 = abL ∧ r.2.1 = 5 := by
  obtain ⟨i, -, hr⟩ := List.mem_flatMap.1 h
  simp only [threeM, List.mem_cons, List.not_mem_nil, or_false] at hr
  rcases hr with rfl | rfl | rfl <;> exact ⟨rfl, rfl⟩
theorem mB_mem {c r : Nat} {x : Rw} (h : x ∈ mB c r) : x.1 = cdL ∧ 1 ≤ x.2.1 ∧ x.2.1 ≤ r ∧ x.2.2 = [120] := by
  obtain ⟨t, ht, hx⟩ := List.mem_flatMap.1 h
  have ht := List.mem_range.1 ht
  rw [(List.mem_replicate.1 hx).2]
  refine ⟨rfl, ?_, ?_, rfl⟩
  · show (1 : Int) ≤ ((t + 1 : Nat) : Int); omega
  · show ((t + 1 : Nat) : Int) ≤ r; omega

theorem no77_b : numB no77 = false := by kernel_rfl
theorem x_b : numB [120] = false := by kernel_rfl

theorem mA_many (n k : Nat) (hn : n ≤ 9000) (hk : k ≤ 20) : manyL (mA n k) = 2 * k := by
  induction k with
  | zero => rfl
  | succ k ih =>
    have h1 := (num_dig (n := n + k + 1000) (by omega)).1
    have h2 := (num_dig (n := n + 1000 - k) (by omega)).1
    rw [mA_succ]
    unfold manyL at ih ⊢
    rw [List.filter_append, List.length_append, ih (by omega)]
    simp [threeM, h1, h2, no77_b]
    omega

theorem mA_sum (n k : Nat) (hn : n ≤ 9000) (hk : k ≤ 20) : sumL (mA n k) = ((2 * k * (n + 1000) : Nat) : Int) := by
  induction k with
  | zero => simp [mA, sumL]
  | succ k ih =>
    have h1 := (num_dig (n := n + k + 1000) (by omega)).2
    have h2 := (num_dig (n := n + 1000 - k) (by omega)).2
    rw [mA_succ]
    unfold sumL at ih ⊢
    rw [List.map_append, List.sum_append, ih (by omega)]
    simp only [threeM, List.map_cons, List.map_nil, List.sum_cons, List.sum_nil, h1, h2, numV_zero no77_b]
    rw [show 2 * (k + 1) * (n + 1000) = 2 * k * (n + 1000) + 2 * (n + 1000) by rw [Nat.mul_add 2 k 1, Nat.add_mul]]
    omega

theorem mB_many (c r : Nat) : manyL (mB c r) = 0 := by
  unfold manyL
  rw [List.length_eq_zero_iff, List.filter_eq_nil_iff]
  intro x hx
  rw [(mB_mem hx).2.2.2, x_b]
  simp

def mchA : Mch := ⟨[97], [98], false⟩
def mchC : Mch := ⟨[99], [100], false⟩

theorem okA : okM abL mchA = true := by kernel_rfl
theorem okC : okM cdL mchC = true := by kernel_rfl
theorem okAC : okM abL mchC = false := by kernel_rfl

theorem want_a {n k : Nat} : (mA n k).filter (wantB [mchA] [] 1 6) = mA n k := by
  rw [List.filter_eq_self]
  intro r hr
  obtain ⟨h1, h2⟩ := mA_mem hr
  unfold wantB asksB
  rw [h1, h2]
  simp [okA]

theorem want_c {n k c r : Nat} : (mA n k ++ mB c r).filter (wantB [mchC] [] 1 (r + 1)) = mB c r := by
  rw [List.filter_append, List.filter_eq_nil_iff.2, List.nil_append, List.filter_eq_self]
  · intro x hx
    obtain ⟨h1, h2, h3, -⟩ := mB_mem hx
    unfold wantB asksB
    rw [h1]
    simp [okC]
    omega
  · intro x hx
    obtain ⟨h1, h2⟩ := mA_mem hx
    unfold wantB asksB
    rw [h1]
    simp [okAC]

def qMa : List UInt8 := [109, 101, 97, 110, 40, 123, 97, 61, 34, 98, 34, 125, 91, 53, 93, 41]
theorem pMa : parseL qMa = (16, true, ⟨[mchA], [], meanT, 5, []⟩) := by
  rw [parseF_eq]
  kernel_rfl
theorem eMa : measE qMa 5 = (0, 0) := measE_ok (q := ⟨[mchA], [], meanT, 5, []⟩) (by decide) (by rw [pMa]) (by decide) (by decide) (by decide)

theorem oneMa (n k : Nat) (hn : n ≤ 9000) (hk : k ≤ 20) : OneA (measA qMa 5 (mA n k)) (if k = 0 then 0 else n + 1000) := by
  rw [measA_ask eMa, pMa]
  simp only
  have hp := asked_perm [mchA] [] (5 - (5 : Int) + 1) (5 + 1) (mA n k)
  have e : (5 - (5 : Int) + 1) = 1 ∧ ((5 : Int) + 1) = 6 := by decide
  have hp' : (askQ ⟨[mchA], [], meanT, 5, []⟩ 5 (mA n k)).Perm (mA n k) := by
    rw [e.1, e.2, want_a] at hp
    exact hp
  have h1 := many_perm hp'
  have h2 := sum_perm hp'
  rw [mA_many n k hn hk] at h1
  rw [mA_sum n k hn hk] at h2
  split
  · rename_i h0
    exact one_mean_none rfl rfl (by rw [h1, h0])
  · rename_i h0
    have hb : 2 * k * (n + 1000) ≤ 40 * 10000 := Nat.mul_le_mul (by omega) (by omega)
    exact one_mean rfl rfl (by omega) (by omega) (by rw [h2, h1]) (by rw [h1]; omega)

/-- rate or mean of the second stream -/
def qC (kind d : List UInt8) : List UInt8 := kind ++ 40 :: 123 :: ([99] ++ 61 :: 34 :: ([100] ++ 34 :: 125 :: 91 :: (d ++ 93 :: [41])))

theorem pC {kind d : List UInt8} {r : Nat} (hk : kind = rateT ∨ kind = meanT) (hd : d.all isD = true) (hn : d ≠ []) (hs : spanL d = r) (h1 : 1 ≤ r) (h2 : r ≤ 1000000) : (parseL (qC kind d)).2 = (true, ⟨[mchC], [], kind, r, []⟩) := by
  have hkw : kind ≠ [] ∧ kind.all isL = true ∧ measB kind = true := by rcases hk with rfl | rfl <;> decide
  have ht : ∃ p1 p2 p3 p4 p5 p6 p7 p8 p9 p10 p11, TokR (qC kind d) 0 [⟨0, 0, kind⟩, ⟨3, p1, [40]⟩, ⟨3, p2, [123]⟩, ⟨0, p3, [99]⟩, ⟨3, p4, [61]⟩, ⟨2, p5, [100]⟩, ⟨3, p6, [125]⟩, ⟨3, p7, [91]⟩, ⟨1, p8, d⟩, ⟨3, p9, [93]⟩, ⟨3, p10, [41]⟩, ⟨4, p11, []⟩] :=
    ⟨_, _, _, _, _, _, _, _, _, _, _, TokR.word hkw.1 hkw.2.1 (fun c hc => by cases hc; decide) (TokR.mark (by decide) (TokR.mark (by decide) (TokR.word (by decide) (by decide) (fun c hc => by cases hc; decide) (TokR.mark (by decide) (TokR.str (by decide) (TokR.mark (by decide) (TokR.mark (by decide) (TokR.num hn hd (fun c hc => by cases hc; decide) (TokR.mark (by decide) (TokR.mark (by decide) (TokR.fin _)))))))))))⟩
  obtain ⟨p1, p2, p3, p4, p5, p6, p7, p8, p9, p10, p11, ht⟩ := ht
  rw [ht.parse]
  exact meas_of (j := 7) (e := 11) rfl hkw.2.2 rfl rfl rfl rfl hs h1 h2 rfl rfl rfl rfl

theorem qC_len {kind d : List UInt8} (hk : kind = rateT ∨ kind = meanT) (hd : d.length ≤ 6) : (qC kind d).length ≤ 200 := by
  have : kind.length ≤ 4 := by rcases hk with rfl | rfl <;> decide
  unfold qC
  simp
  omega

theorem eC {kind : List UInt8} {r : Nat} (hk : kind = rateT ∨ kind = meanT) (h1 : 1 ≤ r) (h2 : r ≤ 10) : measE (qC kind (digL r)) r = (0, 0) ∧ (parseL (qC kind (digL r))).2 = (true, ⟨[mchC], [], kind, r, []⟩) := by
  obtain ⟨d1, d2, d3, d4⟩ := dig_num (n := r) (by omega)
  have hp := pC hk d1 d3 d2 h1 (by omega)
  refine ⟨measE_ok (q := ⟨[mchC], [], kind, r, []⟩) (qC_len hk d4) hp ?_ (by omega) (by omega), hp⟩
  show kind ≠ []
  rcases hk with rfl | rfl <;> decide

theorem askC (n k c r : Nat) (kind : List UInt8) : (askQ ⟨[mchC], [], kind, r, []⟩ r (mA n k ++ mB c r)).Perm (mB c r) := by
  have hp := asked_perm [mchC] [] ((r : Int) - (r : Int) + 1) ((r : Int) + 1) (mA n k ++ mB c r)
  rw [show (r : Int) - (r : Int) + 1 = 1 by omega, want_c] at hp
  unfold askQ
  simp only
  rw [show (r : Int) - (r : Int) + 1 = 1 by omega]
  exact hp

theorem oneC_rate (n k c r : Nat) (h1 : 1 ≤ r) (h2 : r ≤ 10) (hc : c ≤ 20) : OneA (measA (qC rateT (digL r)) r (mA n k ++ mB c r)) c := by
  obtain ⟨e1, e2⟩ := eC (.inl rfl) h1 h2
  rw [measA_ask e1, e2]
  exact one_rate rfl rfl (by omega) h1 ((askC n k c r rateT).length_eq.trans (mB_len c r))

theorem oneC_mean (n k c r : Nat) (h1 : 1 ≤ r) (h2 : r ≤ 10) : OneA (measA (qC meanT (digL r)) r (mA n k ++ mB c r)) 0 := by
  obtain ⟨e1, e2⟩ := eC (.inr rfl) h1 h2
  rw [measA_ask e1, e2]
  exact one_mean_none rfl rfl ((many_perm (askC n k c r meanT)).trans (mB_many c r))

end Go.Proofs.YtbljamcdaoofbaaGreatDoor

/- loamkeep's Means. -/
namespace Go.Proofs.YtbljamcdaoofbaaGreatDoor
open Go.RowKit

theorem kpush_ok {w0 w : World} {F : Nat → Prop} {p : Nat} {S S' : List Strm} {L L' : List Rw} (l x : List UInt8) (t : Int) (h : KeepAt w0 w F p S L) (hl : l.length ≤ 1048576) (hx : x.length ≤ 1048576) (hp : pushR S L l t x = (0, S', L')) :
    Calls Tryz.prog 23 #[.pointer (some ⟨p, 0, none⟩), .string ⟨l.toArray⟩, .int .i64 t, .string ⟨x.toArray⟩] w fun e w' => e = .returned (.int .i64 0) ∧ ∃ F', KeepAt w0 w' F' p S' L' := by
  refine (kpush_any l x t h hl hx).mono ?_
  rintro e w' ⟨rfl, F', hk, -, -⟩
  rw [hp] at hk ⊢
  exact ⟨rfl, F', hk⟩

set_option maxRecDepth 10000 in
set_option maxHeartbeats 4000000 in
theorem means_any {w : World} (A B C D : Int) (ha : -9223372036854775808 ≤ A ∧ A ≤ 9223372036854775807) (hb : -9223372036854775808 ≤ B ∧ B ≤ 9223372036854775807) (hc : -9223372036854775808 ≤ C ∧ C ≤ 9223372036854775807) (hd : -9223372036854775808 ≤ D ∧ D ≤ 9223372036854775807) (hg : Glob w) :
    Calls Tryz.prog 11 #[.int .i64 A, .int .i64 B, .int .i64 C, .int .i64 D] w fun e w' => e = .returned (.bool true) ∧ Below w.heap.size w w' := by
  have hpA := fun W => kpick_any A 9000 W ha.1 ha.2 (by omega) (by omega)
  have hpB := fun W => kpick_any B 20 W hb.1 hb.2 (by omega) (by omega)
  have hpC := fun W => kpick_any C 20 W hc.1 hc.2 (by omega) (by omega)
  have hpD := fun W => kpick_any D 10 W hd.1 hd.2 (by omega) (by omega)
  have hn := pickN_lt A (n := 9000) (by omega)
  have hk := pickN_lt B (n := 20) (by omega)
  have hc2 := pickN_lt C (n := 20) (by omega)
  have hr2 := pickN_lt D (n := 10) (by omega)
  generalize pickN A 9000 = n at *
  generalize pickN B 20 = k at *
  generalize pickN C 20 = c0 at *
  generalize pickN D 10 = r0 at *
  have HG := hide hg
  clear ha hb hc hd hg
  go_enter Tryz.func11, Tryz.ntmps11
  go_wp2_with fail
  refine (measuring_any (unhide HG)).mono ?_
  rintro e w1 ⟨rfl, hb1⟩
  have HB1 := hide hb1
  clear hb1
  go_wp2_with fail
  refine (knew_any w1).mono ?_
  rintro e w2 ⟨rfl, hk2⟩
  have HK2 := hide (hk2.rebase (unhide HB1))
  clear hk2
  generalize w1.heap.size = p at *
  go_wp2_with fail
  refine (hpA _).mono ?_
  rintro e w' ⟨rfl, hww⟩
  rw [hww]
  clear hww w' hpA
  go_wp2_with fail
  refine (hpB _).mono ?_
  rintro e w' ⟨rfl, hww⟩
  rw [hww]
  clear hww w' hpB
  go_wp2_with fail
  rename World => wA
  go_loopw [13, 14, 15, 16] (fun i _ _ _ wr => ∃ j : Nat, j ≤ k ∧ i = .int .i64 j ∧ Hid (∃ F, KeepAt w wr F p (sA j) (mA n j))) (fun i _ _ _ _ => k - (intOf i).toNat)
  case atStart => exact ⟨0, Nat.zero_le _, rfl, hide ⟨_, unhide HK2⟩⟩
  case round =>
    clear HK2
    obtain ⟨j, hj, rfl, HK⟩ := hrel
    by_cases hlt : j < k
    · have hji : (j : Int) < (k : Int) := by omega
      have hlen := mA_len n j
      obtain ⟨-, -, -, l1⟩ := dig_num (n := n + j + 1000) (by omega)
      obtain ⟨-, -, -, l2⟩ := dig_num (n := n + 1000 - j) (by omega)
      obtain ⟨F0, hk0⟩ := unhide HK
      have hd1 := fun W => digits_any (n + j + 1000) W (by omega)
      have hd2 := fun W => digits_any (n + 1000 - j) W (by omega)
      have e1 : (n : Int) + (j : Int) + 1000 = ((n + j + 1000 : Nat) : Int) := by omega
      have e2 : (n : Int) - (j : Int) + 1000 = ((n + 1000 - j : Nat) : Int) := by omega
      have HS := hide (mA_succ n j)
      unfold threeM at HS
      clear HK
      generalize digL (n + j + 1000) = x1 at *
      generalize digL (n + 1000 - j) = x2 at *
      have HE1 := hide e1
      have HE2 := hide e2
      have HK0 := hide hk0
      clear e1 e2 hk0
      go_wp2_with fail
      rw [unhide HE1]
      refine (hd1 _).mono ?_
      rintro e w3 ⟨rfl, hb3⟩
      clear hd1
      have hk3 := (unhide HK0).below hb3
      clear hb3 HK0
      have hq1 := kpush_ok abL x1 5 hk3 (by decide) (by omega) (push_a (by omega) (by omega))
      clear hk3
      go_wp2_with fail
      refine hq1.mono ?_
      rintro e w4 ⟨rfl, F4, hk4⟩
      clear hq1
      have HK4 := hide hk4
      clear hk4
      go_wp2_with fail
      rw [unhide HE2]
      refine (hd2 _).mono ?_
      rintro e w5 ⟨rfl, hb5⟩
      clear hd2
      have hk5 := (unhide HK4).below hb5
      clear hb5 HK4
      have hq2 := kpush_ok abL x2 5 hk5 (by decide) (by omega) (push_a (by omega) (by simp; omega))
      clear hk5
      go_wp2_with fail
      refine hq2.mono ?_
      rintro e w6 ⟨rfl, F6, hk6⟩
      clear hq2
      have hq3 := kpush_ok abL no77 5 hk6 (by decide) (by decide) (push_a (by decide) (by simp; omega))
      clear hk6
      go_wp2_with fail
      refine hq3.mono ?_
      rintro e w7 ⟨rfl, F7, hk7⟩
      clear hq3
      have HK7 := hide (show ∃ F, KeepAt w w7 F p (sA (j + 1)) (mA n (j + 1)) from ⟨F7, by
        rw [unhide HS, show sA (j + 1) = sA 1 by simp [sA]]
        have := hk7
        simp only [List.append_assoc, List.cons_append, List.nil_append] at this
        exact this⟩)
      clear hk7
      go_wp2_with fail
      go_roundw
      case rel => exact ⟨j + 1, by omega, by go_num, HK7⟩
      case measure => simp [intOf]; omega
    · have hjk : j = k := by omega
      subst hjk
      obtain ⟨F0, hk0⟩ := unhide HK
      have hone := one_any qMa 5 _ hk0 (by decide) (unhide HG) eMa (oneMa n j (by omega) (by omega))
      have HK0 := hide hk0
      clear HK hk0 hlt hj
      have hv : ((if j = 0 then 0 else n + 1000 : Nat) : Int) = if (j : Int) = 0 then 0 else (n : Int) + 1000 := by
        by_cases h : j = 0
        · simp [h]
        · have : ¬ (j : Int) = 0 := by omega
          simp [h]
      have HV := hide hv
      clear hv
      generalize (if j = 0 then 0 else n + 1000 : Nat) = mv at *
      go_wp2_with fail
      refine hone.mono ?_
      rintro e w8 ⟨rfl, hb8⟩
      clear hone
      have HK8 := hide (show ∃ F t0, KeepAt w w8 F p (sC j t0) (mA n j ++ mB (c0 + 1) (1 - 1)) ∧ ∀ x, t0 = some x → x ≤ ((1 : Nat) : Int) from ⟨F0, none, by
        have := (unhide HK0).below hb8
        simpa [sC, mB] using this, fun x hx => by cases hx⟩)
      clear hb8 HK0
      have hcase : ((j : Int) == 0) = true ∧ (mv : Int) = 0 ∨ ((j : Int) == 0) = false ∧ 0 < (j : Int) ∧ (mv : Int) = (n : Int) + 1000 := by
        have := unhide HV
        by_cases h : j = 0
        · left
          refine ⟨by simp [h], ?_⟩
          rw [this, if_pos (by omega)]
        · right
          refine ⟨by simp; omega, by omega, ?_⟩
          rw [this, if_neg (by omega)]
      have hmj := mA_len n j
      clear HV
      rcases hcase with ⟨hj0, hmv⟩ | ⟨hj0, hj1, hmv⟩
      all_goals
        rw [hmv]
        clear hmv
        go_wp2_with fail
        refine (hpD _).mono ?_
        rintro e w' ⟨rfl, hww⟩
        rw [hww]
        clear hww w' hpD
        go_wp2_with fail
        refine (hpC _).mono ?_
        rintro e w' ⟨rfl, hww⟩
        rw [hww]
        clear hww w' hpC
        go_wp2_with fail
        rename World => wB
        go_loopw [20, 21, 22] (fun i _ _ wr => ∃ t : Nat, 1 ≤ t ∧ t ≤ r0 + 2 ∧ i = .int .i64 t ∧ Hid (∃ F t0, KeepAt w wr F p (sC j t0) (mA n j ++ mB (c0 + 1) (t - 1)) ∧ ∀ x, t0 = some x → x ≤ (t : Int))) (fun i _ _ _ => r0 + 2 - (intOf i).toNat)
        case atStart => exact ⟨1, by omega, by omega, rfl, HK8⟩
        case round =>
          clear HK8
          obtain ⟨t, ht1, ht2, rfl, HKt⟩ := hrel
          by_cases hlt2 : t ≤ r0 + 1
          · have hti : (t : Int) ≤ 1 + (r0 : Int) := by omega
            have hmb : (mB (c0 + 1) (t - 1)).length ≤ 200 := by
              rw [mB_len]
              exact Nat.le_trans (Nat.mul_le_mul (show t - 1 ≤ 10 by omega) (show c0 + 1 ≤ 20 by omega)) (by decide)
            go_wp2_with fail
            rename World => wC
            go_loopw [21, 22] (fun i _ wr => ∃ m : Nat, m ≤ c0 + 1 ∧ i = .int .i64 m ∧ Hid (∃ F t0, KeepAt w wr F p (sC j t0) (mA n j ++ mB (c0 + 1) (t - 1) ++ List.replicate m (cdL, (t : Int), [120])) ∧ ∀ x, t0 = some x → x ≤ (t : Int))) (fun i _ _ => c0 + 1 - (intOf i).toNat)
            case atStart => exact ⟨0, by omega, rfl, hide (by rw [List.replicate_zero, List.append_nil]; exact unhide HKt)⟩
            case round =>
              clear HKt
              obtain ⟨m, hm, rfl, HKm⟩ := hrel
              by_cases hlt3 : m < c0 + 1
              · have hmi : (m : Int) < 1 + (c0 : Int) := by omega
                obtain ⟨Fm, t0, hkm, hx0⟩ := unhide HKm
                have hq := kpush_ok cdL [120] t hkm (by decide) (by decide) (push_c hx0 (by omega) (by omega) (by simp; omega))
                clear HKm hkm hx0
                go_wp2_with fail
                refine hq.mono ?_
                rintro e w9 ⟨rfl, F9, hk9⟩
                have HK9 := hide (show ∃ F t0, KeepAt w w9 F p (sC j t0) (mA n j ++ mB (c0 + 1) (t - 1) ++ List.replicate (m + 1) (cdL, (t : Int), [120])) ∧ ∀ x, t0 = some x → x ≤ (t : Int) from ⟨F9, _, by
                  rw [List.replicate_succ', ← List.append_assoc]
                  exact hk9, fun x hx => by cases hx; exact Int.le_refl _⟩)
                clear hq hk9
                go_wp2_with fail
                go_roundw
                case rel => exact ⟨m + 1, by omega, by go_num, HK9⟩
                case measure => simp [intOf]; omega
              · have hmi : ¬ (m : Int) < 1 + (c0 : Int) := by omega
                have hmc : m = c0 + 1 := by omega
                have HKn := hide (show ∃ F t0, KeepAt w _ F p (sC j t0) (mA n j ++ mB (c0 + 1) (t + 1 - 1)) ∧ ∀ x, t0 = some x → x ≤ ((t + 1 : Nat) : Int) from by
                  obtain ⟨Fm, t0, hkm, hx0⟩ := unhide HKm
                  refine ⟨Fm, t0, ?_, fun x hx => by have := hx0 x hx; omega⟩
                  rw [hmc] at hkm
                  obtain ⟨t', rfl⟩ : ∃ t', t = t' + 1 := ⟨t - 1, by omega⟩
                  rw [show t' + 1 + 1 - 1 = t' + 1 by omega, mB_succ, ← List.append_assoc]
                  rw [show t' + 1 - 1 = t' by omega] at hkm
                  exact hkm)
                clear HKm
                go_wp2_with fail
                go_roundw
                case rel => exact ⟨t + 1, by omega, by omega, by go_num, HKn⟩
                case measure => simp [intOf]; omega
          · have hti : ¬ (t : Int) ≤ 1 + (r0 : Int) := by omega
            have htr : t = r0 + 2 := by omega
            subst htr
            obtain ⟨Ft, t0, hkt, -⟩ := unhide HKt
            rw [show r0 + 2 - 1 = r0 + 1 by omega] at hkt
            have HKx := hide hkt
            clear HKt hkt
            go_wp2_with fail
            have er : (1 : Int) + (r0 : Int) = ((r0 + 1 : Nat) : Int) := by omega
            have ec : (1 : Int) + (c0 : Int) = ((c0 + 1 : Nat) : Int) := by omega
            obtain ⟨-, -, -, dl⟩ := dig_num (n := r0 + 1) (by omega)
            have hdg := fun W => digits_any (r0 + 1) W (by omega)
            obtain ⟨x1, -⟩ := eC (kind := rateT) (r := r0 + 1) (.inl rfl) (by omega) (by omega)
            obtain ⟨x2, -⟩ := eC (kind := meanT) (r := r0 + 1) (.inr rfl) (by omega) (by omega)
            have z1 := oneC_rate n j (c0 + 1) (r0 + 1) (by omega) (by omega) (by omega)
            have z2 := oneC_mean n j (c0 + 1) (r0 + 1) (by omega) (by omega)
            have l1 := qC_len (kind := rateT) (.inl rfl) dl
            have l2 := qC_len (kind := meanT) (.inr rfl) dl
            have hq1 : (⟨#[114, 97, 116, 101, 40, 123, 99, 61, 34, 100, 34, 125, 91]⟩ : ByteArray) ++ ⟨(digL (r0 + 1)).toArray⟩ ++ ⟨#[93, 41]⟩ = ⟨(qC rateT (digL (r0 + 1))).toArray⟩ := by
              rw [show (#[114, 97, 116, 101, 40, 123, 99, 61, 34, 100, 34, 125, 91] : Array UInt8) = [114, 97, 116, 101, 40, 123, 99, 61, 34, 100, 34, 125, 91].toArray from rfl, show (#[93, 41] : Array UInt8) = [93, 41].toArray from rfl, bytes_append, bytes_append]
              rfl
            have hq2 : (⟨#[109, 101, 97, 110, 40, 123, 99, 61, 34, 100, 34, 125, 91]⟩ : ByteArray) ++ ⟨(digL (r0 + 1)).toArray⟩ ++ ⟨#[93, 41]⟩ = ⟨(qC meanT (digL (r0 + 1))).toArray⟩ := by
              rw [show (#[109, 101, 97, 110, 40, 123, 99, 61, 34, 100, 34, 125, 91] : Array UInt8) = [109, 101, 97, 110, 40, 123, 99, 61, 34, 100, 34, 125, 91].toArray from rfl, show (#[93, 41] : Array UInt8) = [93, 41].toArray from rfl, bytes_append, bytes_append]
              rfl
            rw [er, ec]
            generalize hrr : r0 + 1 = r at *
            generalize c0 + 1 = c at *
            have HX := hide (show measE (qC rateT (digL r)) r = (0, 0) ∧ measE (qC meanT (digL r)) r = (0, 0) ∧ OneA (measA (qC rateT (digL r)) r (mA n j ++ mB c r)) c ∧ OneA (measA (qC meanT (digL r)) r (mA n j ++ mB c r)) 0 ∧ (qC rateT (digL r)).length ≤ 200 ∧ (qC meanT (digL r)).length ≤ 200 from ⟨x1, x2, z1, z2, l1, l2⟩)
            have HQ1 := hide hq1
            have HQ2 := hide hq2
            clear x1 x2 z1 z2 l1 l2 hq1 hq2 er ec hti ht1 ht2 hlt2 hrr
            refine (hdg _).mono ?_
            rintro e w10 ⟨rfl, hb10⟩
            have hk10 := (unhide HKx).below hb10
            have ho1 := one_any _ r _ hk10 (unhide HX).2.2.2.2.1 (unhide HG) (unhide HX).1 (unhide HX).2.2.1
            have HK10 := hide hk10
            clear hb10 hk10 HKx
            go_wp2_with fail
            rw [unhide HQ1]
            refine ho1.mono ?_
            rintro e w11 ⟨rfl, hb11⟩
            have hk11 := (unhide HK10).below hb11
            have HK11 := hide hk11
            clear hb11 hk11 HK10 ho1 HQ1
            go_wp2_with fail
            refine (hdg _).mono ?_
            rintro e w12 ⟨rfl, hb12⟩
            have hk12 := (unhide HK11).below hb12
            have ho2 := one_any _ r _ hk12 (unhide HX).2.2.2.2.2 (unhide HG) (unhide HX).2.1 (unhide HX).2.2.2.1
            have HK12 := hide hk12
            clear hb12 hk12 HK11 hdg
            go_wp2_with fail
            rw [unhide HQ2]
            refine ho2.mono ?_
            rintro e w13 ⟨rfl, hb13⟩
            have HB13 := hide ((unhide HK12).below hb13).bel
            clear hb13 HK12 ho2 HQ2
            go_wp2_with fail
            go_ret
            exact ⟨rfl, unhide HB13⟩

theorem meansK_any {w : World} {A B C D : Int} (hg : Glob w) (ha : -9223372036854775808 ≤ A ∧ A ≤ 9223372036854775807) (hb : -9223372036854775808 ≤ B ∧ B ≤ 9223372036854775807) (hc : -9223372036854775808 ≤ C ∧ C ≤ 9223372036854775807) (hd : -9223372036854775808 ≤ D ∧ D ≤ 9223372036854775807) :
    Calls Tryz.prog 11 #[.int .i64 A, .int .i64 B, .int .i64 C, .int .i64 D] w fun e w' => e = .returned (.bool true) ∧ Below w.heap.size w w' := means_any A B C D ha hb hc hd hg

end Go.Proofs.YtbljamcdaoofbaaGreatDoor
