/- Texts KWhole, KDig, KPart, KPartV, joined. -/
import Derived.Test.YtbljamcdaoofbaaGreatDoorPMAllToKMsr
import Derived.Test.YtbljamcdaoofbaaGreatDoorKSmallToOwnRaw
/- loamkeep's whole and one. -/
namespace Go.Proofs.YtbljamcdaoofbaaGreatDoor
open Go.RowKit

set_option maxRecDepth 10000 in
set_option maxHeartbeats 1000000 in
theorem kwhole_any (N : Nat) (hN : N < 16777216) (w : World) :
    Calls Tryz.prog 29 #[.int .i64 ((fB N 1 : Nat) : Int)] w fun e w' => e = .returned (.int .i64 N) ∧ w' = w := by
  by_cases h0 : N = 0
  · subst h0
    rw [fB_zero]
    go_enter Tryz.func29, Tryz.ntmps29
    go_wp2_with fail
    go_ret
    exact ⟨rfl, rfl⟩
  · obtain ⟨e, m, he, hb, hm1, hm2, hm⟩ := whole_form (Nat.pos_of_ne_zero h0) hN
    rw [hb]
    generalize hbb : (e + 126) * 8388608 + m = b
    have hd : (b : Int) / 8388608 = (e : Int) + 127 := by omega
    have hr : (b : Int) % 8388608 = (m : Int) - 8388608 := by omega
    have hbn : ((b : Int) == 0) = false := by simp; omega
    have hbs : (b : Int) < 4294967296 := by omega
    have HM := hide hm
    have i1 : (8388608 : Int) ≤ m := by omega
    have i2 : (m : Int) < 16777216 := by omega
    have i3 : (e : Int) ≤ 23 := by omega
    have j4 : ¬ (b : Int) / 8388608 - 127 < 0 := by omega
    have j5 : ¬ (23 : Int) < (b : Int) / 8388608 - 127 := by omega
    clear hbb hb hm hm1 hm2 hN h0
    go_enter Tryz.func29, Tryz.ntmps29
    go_upto_region 5 with fail
    have HI := hide (⟨i1, i2⟩ : (8388608 : Int) ≤ m ∧ (m : Int) < 16777216)
    have k1 : ¬ (e : Int) < 0 := by omega
    have k2 : ¬ (23 : Int) < (e : Int) := by omega
    clear hd hr hbn hbs i1 i2 j4 j5 i3
    go_wp2_with fail
    go_loopw [4, 5] (fun m' k wr => wr = w ∧ ∃ i a : Nat, a = N * 2 ^ (i - e) ∧ m' = .int .i64 a ∧ k = .int .i64 i ∧ e ≤ i ∧ i ≤ 23 ∧ (a : Int) < 16777216) (fun _ k _ => (intOf k).toNat)
    case atStart => exact ⟨rfl, 23, m, unhide HM, rfl, rfl, he, Nat.le_refl _, (unhide HI).2⟩
    case round =>
      obtain ⟨rfl, i, a, ha, rfl, rfl, hi, hi2, has⟩ := hrel
      have HA := hide ha
      clear ha
      by_cases hlt : e < i
      · have hli : (e : Int) < (i : Int) := by omega
        have hev : a % 2 = 0 ∧ a / 2 = N * 2 ^ (i - 1 - e) := by
          have e1 : a = 2 * (N * 2 ^ (i - 1 - e)) := by
            rw [unhide HA, show i - e = (i - 1 - e) + 1 by omega, Nat.pow_succ]
            ac_rfl
          omega
        have hev2 : (((a : Int) % 2) == 1) = false := by
          rw [beq_eq_false_iff_ne]
          omega
        have HV := hide hev.2
        clear hev
        go_wp2_with fail
        go_roundw
        case rel => exact ⟨trivial, i - 1, a / 2, unhide HV, by go_num, by go_num, by omega, by omega, by omega⟩
        case measure => simp [intOf]; omega
      · have hli : ¬ (e : Int) < (i : Int) := by omega
        have ha0 : a = N := by
          rw [unhide HA, show i - e = 0 by omega]
          simp
        subst ha0
        go_wp2_with fail
        go_ret
        exact ⟨rfl, rfl⟩

/-- what one tells -/
def OneP (w : World) (v : Nat) (e : Ending) (w' : World) : Prop := e = .returned (.int .i64 v) ∧ Below w.heap.size w w'

set_option maxRecDepth 10000 in
set_option maxHeartbeats 1000000 in
theorem one_any {w0 w : World} {F : Nat → Prop} {p : Nat} {S : List Strm} {L : List Rw} (l : List UInt8) (at_ : Int) (v : Nat) (h : KeepAt w0 w F p S L) (hl : l.length ≤ 200) (hg : Glob w0) (hE : measE l at_ = (0, 0)) (hA : OneA (measA l at_ L) v) :
    Calls Tryz.prog 27 #[.pointer (some ⟨p, 0, none⟩), .string ⟨l.toArray⟩, .int .i64 at_] w (OneP w v) := by
  have hm := kmeas_any l at_ h (by omega) hg
  rw [hE] at hm
  obtain ⟨hv, hA⟩ := hA
  go_enter Tryz.func27, Tryz.ntmps27
  go_wp2_with fail
  refine hm.mono ?_
  rintro e w1 ⟨v1, rfl, hown, hb⟩
  clear hm h
  have HB := hide hb
  clear hb
  rcases hA with ⟨hR, rfl⟩ | hR
  · rw [hR] at hown
    obtain ⟨ao, cap, rfl, -, -, -, -, -, -⟩ := owns_form hown
    clear hown hR
    go_wp2_with fail
    go_ret
    exact ⟨rfl, unhide HB⟩
  · rw [hR] at hown
    obtain ⟨g, cap, rfl, -, -, -, -, k, -⟩ := owns_open hown (by simp)
    have c0 : w1.cell? ⟨g, 0, none⟩ = some (SV []) := k 0 (by simp)
    have c1 : w1.cell? ⟨g, 1, none⟩ = some (.int .i64 (fB v 1 : Nat)) := k 1 (by simp)
    have hw := kwhole_any v hv w1
    clear hown hR k hv hE
    generalize fB v 1 = b at *
    go_wp2_with fail
    refine hw.mono ?_
    rintro e w' ⟨rfl, hww⟩
    rw [hww]
    clear hww w' hw
    go_wp2_with fail
    go_ret
    exact ⟨rfl, unhide HB⟩

end Go.Proofs.YtbljamcdaoofbaaGreatDoor

/- Digits of a number; what is asked for is a permutation of what is wanted. -/
namespace Go.Proofs.YtbljamcdaoofbaaGreatDoor
open Go.RowKit

def spanF (a : Nat) (s : List UInt8) : Nat := s.foldl (fun n c => min (10 * n + (c.toNat - 48)) 1000001) a

theorem dig_c : ∀ d, d < 10 → (48 + UInt8.ofNat d).toNat = 48 + d ∧ isD (48 + UInt8.ofNat d) = true := by decide

theorem wordGo_span : ∀ (f n : Nat) (s : List UInt8), n < f → n ≤ 1000000 → s ≠ [] → spanF 0 (wordGo f n s) = spanF n s
  | 0, n, s, h, _, _ => by omega
  | f + 1, n, s, h, hn, hs => by
    unfold wordGo
    by_cases h0 : 0 < n
    · rw [if_pos (.inl h0), wordGo_span f (n / 10) _ (by omega) (by omega) (by simp)]
      have hc := (dig_c (n % 10) (by omega)).1
      show spanF (min (10 * (n / 10) + ((48 + UInt8.ofNat (n % 10)).toNat - 48)) 1000001) s = _
      rw [hc, show min (10 * (n / 10) + (48 + n % 10 - 48)) 1000001 = n by omega]
    · rw [if_neg (by simp [hs]; omega), show n = 0 by omega]

theorem wordGo_dig : ∀ (f n : Nat) (s : List UInt8), s.all isD = true → (wordGo f n s).all isD = true
  | 0, n, s, h => h
  | f + 1, n, s, h => by
    unfold wordGo
    split
    · refine wordGo_dig f _ _ ?_
      rw [List.all_cons, h, (dig_c (n % 10) (by omega)).2]
      rfl
    · exact h

theorem wordGo_ne : ∀ (f n : Nat) (s : List UInt8), s ≠ [] → wordGo f n s ≠ []
  | 0, n, s, h => h
  | f + 1, n, s, h => by
    unfold wordGo
    split
    · exact wordGo_ne f _ _ (by simp)
    · exact h

theorem dig_num {n : Nat} (hn : n ≤ 999999) : (digL n).all isD = true ∧ spanL (digL n) = n ∧ digL n ≠ [] ∧ (digL n).length ≤ 6 := by
  refine ⟨wordGo_dig _ _ _ rfl, ?_, ?_, digL_len n 5 (by omega)⟩
  · show spanF 0 (wordGo (n + 1 + 1) n []) = n
    rw [wordGo, if_pos (.inr rfl), wordGo_span _ _ _ (by omega) (by omega) (by simp)]
    have hc := (dig_c (n % 10) (by omega)).1
    show min (10 * (n / 10) + ((48 + UInt8.ofNat (n % 10)).toNat - 48)) 1000001 = n
    rw [hc]
    omega
  · show wordGo (n + 1 + 1) n [] ≠ []
    rw [wordGo, if_pos (.inr rfl)]
    exact wordGo_ne _ _ _ (by simp)

theorem num_dig {n : Nat} (hn : n ≤ 999999) : numB (digL n) = true ∧ numV (digL n) = n := by
  obtain ⟨h1, h2, h3, h4⟩ := dig_num hn
  have hd : (digL n).head? ≠ some 45 := by
    cases e : digL n with
    | nil => simp
    | cons c r =>
      rw [e, List.all_cons, Bool.and_eq_true] at h1
      rintro ⟨⟩
      exact absurd h1.1 (by decide)
  have hs : numS (digL n) = digL n := by unfold numS; rw [if_neg hd]
  have hB : numB (digL n) = true := by
    unfold numB
    rw [hs, h1]
    have : 1 ≤ (digL n).length := by
      cases e : digL n with
      | nil => exact absurd e h3
      | cons c r => simp
    simp [this, h4]
  refine ⟨hB, ?_⟩
  unfold numV
  rw [if_pos hB, if_neg hd, hs, h2]

theorem insR_perm (o : List Rw) (r : Rw) : (insR o r).Perm (r :: o) := by
  unfold insR
  rw [List.append_assoc, List.singleton_append]
  refine List.perm_middle.trans ?_
  rw [List.take_append_drop]

theorem asked_perm (M : List Mch) (Fs : List Flt) (fr tt : Int) (L : List Rw) : (askedL M Fs fr tt L).Perm (L.filter (wantB M Fs fr tt)) := by
  have h : ∀ (L out : List Rw), (L.foldl (fun out r => if wantB M Fs fr tt r = true then insR out r else out) out).Perm (out ++ L.filter (wantB M Fs fr tt)) := by
    intro L
    induction L with
    | nil => intro out; rw [List.foldl_nil, List.filter_nil, List.append_nil]
    | cons r L ih =>
      intro out
      rw [List.foldl_cons]
      refine (ih _).trans ?_
      by_cases hw : wantB M Fs fr tt r = true
      · rw [if_pos hw, List.filter_cons_of_pos hw]
        refine ((insR_perm out r).append_right _).trans ?_
        exact List.perm_middle.symm
      · rw [if_neg hw, List.filter_cons_of_neg hw]
  exact h L []

theorem many_perm {A B : List Rw} (h : A.Perm B) : manyL A = manyL B := (h.filter _).length_eq
theorem sum_perm {A B : List Rw} (h : A.Perm B) : sumL A = sumL B := perm_sum (h.map _)
theorem bytes_perm {A B : List Rw} (h : A.Perm B) : bytesL A = bytesL B := (h.map _).sum_nat

end Go.Proofs.YtbljamcdaoofbaaGreatDoor

/- Queries for all lines, with filters and matchers, and what they come to. -/
namespace Go.Proofs.YtbljamcdaoofbaaGreatDoor
open Go.RowKit

def noneT : List UInt8 := [110, 111, 110, 101]
def evM : Mch := ⟨noneT, [120], true⟩
def tailQ (d : List UInt8) : List UInt8 := 91 :: (d ++ 93 :: [41])
def allQ (rest : List UInt8) : List UInt8 := 123 :: (noneT ++ 32 :: 33 :: 61 :: 32 :: 34 :: ([120] ++ 34 :: 125 :: rest))
def qAll (kind d : List UInt8) : List UInt8 := kind ++ 40 :: allQ (tailQ d)
def qFlt (kind : List UInt8) (c : UInt8) (x d : List UInt8) : List UInt8 := kind ++ 40 :: allQ (c :: 61 :: 34 :: (x ++ 34 :: tailQ d))
def qFltB (kind : List UInt8) (c : UInt8) (x d : List UInt8) : List UInt8 := kind ++ 40 :: allQ (32 :: c :: 61 :: 32 :: 34 :: (x ++ 34 :: tailQ d))
def qTwo (kind x d : List UInt8) : List UInt8 := kind ++ 40 :: allQ (32 :: 124 :: 61 :: 32 :: 34 :: (x ++ 34 :: 32 :: 33 :: 61 :: 32 :: 34 :: (x ++ 34 :: tailQ d)))
def qEq (m v d : List UInt8) : List UInt8 := countT ++ 40 :: 123 :: (m ++ 61 :: 34 :: (v ++ 34 :: 125 :: tailQ d))
def qNe (m v d : List UInt8) : List UInt8 := countT ++ 40 :: 123 :: (m ++ 33 :: 61 :: 34 :: (v ++ 34 :: 125 :: tailQ d))
def qBoth (m v d : List UInt8) : List UInt8 := countT ++ 40 :: 123 :: (m ++ 33 :: 61 :: 34 :: (v ++ 34 :: 44 :: (m ++ 61 :: 34 :: (v ++ 34 :: 125 :: tailQ d))))
def qBy (kind m d : List UInt8) : List UInt8 := kind ++ 40 :: allQ (91 :: (d ++ 93 :: 41 :: ([98, 121] ++ 32 :: (m ++ []))))
def qByB (kind m d : List UInt8) : List UInt8 := kind ++ 40 :: allQ (91 :: (d ++ 93 :: 41 :: 32 :: ([98, 121] ++ 32 :: (m ++ []))))

/-- digits of a span -/
structure Dig (d : List UInt8) (n : Nat) : Prop where
  dig : d.all isD = true
  ne : d ≠ []
  val : spanL d = n
  lo : 1 ≤ n
  hi : n ≤ 150
  len : d.length ≤ 3

theorem dig_of {n : Nat} (h1 : 1 ≤ n) (h2 : n ≤ 150) : Dig (digL n) n := by
  obtain ⟨a, b, c, d⟩ := dig_small h2
  exact ⟨a, c, b, h1, h2, d⟩

theorem TokR.tail {d : List UInt8} {n : Nat} (hd : Dig d n) (p : Nat) : TokR (tailQ d) p [⟨3, p, [91]⟩, ⟨1, p + 1, d⟩, ⟨3, p + 1 + d.length, [93]⟩, ⟨3, p + 1 + d.length + 1, [41]⟩, ⟨4, p + 1 + d.length + 1 + 1, []⟩] :=
  TokR.mark (by decide) (TokR.num hd.ne hd.dig (fun c hc => by cases hc; decide) (TokR.mark (by decide) (TokR.mark (by decide) (TokR.fin _))))

theorem TokR.all {rest : List UInt8} {p : Nat} {ts : List Tok} (h : TokR rest (p + 13) ts) : TokR (allQ rest) p (⟨3, p, [123]⟩ :: ⟨0, p + 1, noneT⟩ :: ⟨3, p + 6, [33, 61]⟩ :: ⟨2, p + 9, [120]⟩ :: ⟨3, p + 12, [125]⟩ :: ts) :=
  TokR.mark (by decide) (TokR.word (by decide) (by decide) (fun c hc => by cases hc; decide) (TokR.blank (TokR.two (.inl rfl) (TokR.blank (TokR.str (by decide) (TokR.mark (by decide) h))))))

def kinds : List (List UInt8) := [countT, bytesT]
theorem kind_ok {kind : List UInt8} (h : kind ∈ kinds) : kind ≠ [] ∧ kind.all isL = true ∧ measB kind = true ∧ kind.length ≤ 5 := by
  simp only [kinds, List.mem_cons, List.not_mem_nil, or_false] at h
  rcases h with rfl | rfl <;> decide

theorem p_all {kind d : List UInt8} {n : Nat} (hk : kind ∈ kinds) (hd : Dig d n) : (parseL (qAll kind d)).2 = (true, ⟨[evM], [], kind, n, []⟩) := by
  obtain ⟨k1, k2, k3, -⟩ := kind_ok hk
  have ht : TokR (qAll kind d) 0 _ := TokR.word k1 k2 (fun c hc => by cases hc; decide) (TokR.mark (by decide) (TokR.all (TokR.tail hd _)))
  rw [ht.parse]
  exact meas_of (j := 7) (e := 11) rfl k3 rfl rfl rfl rfl hd.val hd.lo (by have := hd.hi; omega) rfl rfl rfl rfl

theorem p_flt {kind x d : List UInt8} {n : Nat} {c : UInt8} (hk : kind ∈ kinds) (hd : Dig d n) (hc : c = 33 ∨ c = 124) (hx : ∀ y ∈ x, y ≠ 34) : (parseL (qFlt kind c x d)).2 = (true, ⟨[evM], [⟨x, c == 33⟩], kind, n, []⟩) := by
  obtain ⟨k1, k2, k3, -⟩ := kind_ok hk
  have ht : TokR (qFlt kind c x d) 0 _ := TokR.word k1 k2 (fun c hc => by cases hc; decide) (TokR.mark (by decide) (TokR.all (TokR.two hc (TokR.str hx (TokR.tail hd _)))))
  rw [ht.parse]
  rcases hc with rfl | rfl
  · exact meas_of (j := 9) (e := 13) rfl k3 rfl rfl rfl rfl hd.val hd.lo (by have := hd.hi; omega) rfl rfl rfl rfl
  · exact meas_of (j := 9) (e := 13) rfl k3 rfl rfl rfl rfl hd.val hd.lo (by have := hd.hi; omega) rfl rfl rfl rfl

theorem p_fltB {kind x d : List UInt8} {n : Nat} {c : UInt8} (hk : kind ∈ kinds) (hd : Dig d n) (hc : c = 33 ∨ c = 124) (hx : ∀ y ∈ x, y ≠ 34) : (parseL (qFltB kind c x d)).2 = (true, ⟨[evM], [⟨x, c == 33⟩], kind, n, []⟩) := by
  obtain ⟨k1, k2, k3, -⟩ := kind_ok hk
  have ht : TokR (qFltB kind c x d) 0 _ := TokR.word k1 k2 (fun c hc => by cases hc; decide) (TokR.mark (by decide) (TokR.all (TokR.blank (TokR.two hc (TokR.blank (TokR.str hx (TokR.tail hd _)))))))
  rw [ht.parse]
  rcases hc with rfl | rfl
  · exact meas_of (j := 9) (e := 13) rfl k3 rfl rfl rfl rfl hd.val hd.lo (by have := hd.hi; omega) rfl rfl rfl rfl
  · exact meas_of (j := 9) (e := 13) rfl k3 rfl rfl rfl rfl hd.val hd.lo (by have := hd.hi; omega) rfl rfl rfl rfl

theorem p_two {kind x d : List UInt8} {n : Nat} (hk : kind ∈ kinds) (hd : Dig d n) (hx : ∀ y ∈ x, y ≠ 34) : (parseL (qTwo kind x d)).2 = (true, ⟨[evM], [⟨x, false⟩, ⟨x, true⟩], kind, n, []⟩) := by
  obtain ⟨k1, k2, k3, -⟩ := kind_ok hk
  have ht : TokR (qTwo kind x d) 0 _ := TokR.word k1 k2 (fun c hc => by cases hc; decide) (TokR.mark (by decide) (TokR.all (TokR.blank (TokR.two (.inr rfl) (TokR.blank (TokR.str hx (TokR.blank (TokR.two (.inl rfl) (TokR.blank (TokR.str hx (TokR.tail hd _)))))))))))
  rw [ht.parse]
  exact meas_of (j := 11) (e := 15) rfl k3 rfl rfl rfl rfl hd.val hd.lo (by have := hd.hi; omega) rfl rfl rfl rfl

def names4 : List (List UInt8) := [[97, 112, 112], [122, 111, 110, 101], [107, 105, 110, 100], noneT]
def vals5 : List (List UInt8) := [[119, 101, 98], [97], [120], [100, 98], [98]]

theorem names_ok {m : List UInt8} (h : m ∈ names4) : m ≠ [] ∧ m.all isL = true ∧ m.length ≤ 4 := by
  simp only [names4, List.mem_cons, List.not_mem_nil, or_false] at h
  rcases h with rfl | rfl | rfl | rfl <;> decide
theorem vals_ok {v : List UInt8} (h : v ∈ vals5) : (∀ y ∈ v, y ≠ 34) ∧ v.length ≤ 3 := by
  simp only [vals5, List.mem_cons, List.not_mem_nil, or_false] at h
  rcases h with rfl | rfl | rfl | rfl | rfl <;> decide

set_option maxHeartbeats 4000000 in
theorem p_eq {m v d : List UInt8} {n : Nat} (hm : m ∈ names4) (hv : v ∈ vals5) (hd : Dig d n) : (parseL (qEq m v d)).2 = (true, ⟨[⟨m, v, false⟩], [], countT, n, []⟩) := by
  obtain ⟨m1, m2, -⟩ := names_ok hm
  have ht : TokR (qEq m v d) 0 _ := TokR.word (by decide) (by decide) (fun c hc => by cases hc; decide) (TokR.mark (by decide) (TokR.mark (by decide) (TokR.word m1 m2 (fun c hc => by cases hc; decide) (TokR.mark (by decide) (TokR.str (vals_ok hv).1 (TokR.mark (by decide) (TokR.tail hd _)))))))
  rw [ht.parse]
  simp only [names4, List.mem_cons, List.not_mem_nil, or_false] at hm
  simp only [vals5, List.mem_cons, List.not_mem_nil, or_false] at hv
  rcases hm with rfl | rfl | rfl | rfl <;> rcases hv with rfl | rfl | rfl | rfl | rfl <;>
    exact meas_of (j := 7) (e := 11) rfl rfl rfl rfl rfl rfl hd.val hd.lo (by have := hd.hi; omega) rfl rfl rfl rfl

set_option maxHeartbeats 4000000 in
theorem p_ne {m v d : List UInt8} {n : Nat} (hm : m ∈ names4) (hv : v ∈ vals5) (hd : Dig d n) : (parseL (qNe m v d)).2 = (true, ⟨[⟨m, v, true⟩], [], countT, n, []⟩) := by
  obtain ⟨m1, m2, -⟩ := names_ok hm
  have ht : TokR (qNe m v d) 0 _ := TokR.word (by decide) (by decide) (fun c hc => by cases hc; decide) (TokR.mark (by decide) (TokR.mark (by decide) (TokR.word m1 m2 (fun c hc => by cases hc; decide) (TokR.two (.inl rfl) (TokR.str (vals_ok hv).1 (TokR.mark (by decide) (TokR.tail hd _)))))))
  rw [ht.parse]
  simp only [names4, List.mem_cons, List.not_mem_nil, or_false] at hm
  simp only [vals5, List.mem_cons, List.not_mem_nil, or_false] at hv
  rcases hm with rfl | rfl | rfl | rfl <;> rcases hv with rfl | rfl | rfl | rfl | rfl <;>
    exact meas_of (j := 7) (e := 11) rfl rfl rfl rfl rfl rfl hd.val hd.lo (by have := hd.hi; omega) rfl rfl rfl rfl

set_option maxHeartbeats 4000000 in
theorem p_both {m v d : List UInt8} {n : Nat} (hm : m ∈ names4) (hv : v ∈ vals5) (hd : Dig d n) : (parseL (qBoth m v d)).2 = (true, ⟨[⟨m, v, true⟩, ⟨m, v, false⟩], [], countT, n, []⟩) := by
  obtain ⟨m1, m2, -⟩ := names_ok hm
  have hq := (vals_ok hv).1
  have ht : TokR (qBoth m v d) 0 _ := TokR.word (by decide) (by decide) (fun c hc => by cases hc; decide) (TokR.mark (by decide) (TokR.mark (by decide) (TokR.word m1 m2 (fun c hc => by cases hc; decide) (TokR.two (.inl rfl) (TokR.str hq (TokR.mark (by decide) (TokR.word m1 m2 (fun c hc => by cases hc; decide) (TokR.mark (by decide) (TokR.str hq (TokR.mark (by decide) (TokR.tail hd _)))))))))))
  rw [ht.parse]
  simp only [names4, List.mem_cons, List.not_mem_nil, or_false] at hm
  simp only [vals5, List.mem_cons, List.not_mem_nil, or_false] at hv
  rcases hm with rfl | rfl | rfl | rfl <;> rcases hv with rfl | rfl | rfl | rfl | rfl <;>
    exact meas_of (j := 11) (e := 15) rfl rfl rfl rfl rfl rfl hd.val hd.lo (by have := hd.hi; omega) rfl rfl rfl rfl

end Go.Proofs.YtbljamcdaoofbaaGreatDoor

/- What the queries of Parted come to. -/
namespace Go.Proofs.YtbljamcdaoofbaaGreatDoor
open Go.RowKit

/-- a query that one answers -/
structure OneQ (l : List UInt8) (at_ : Int) (L : List Rw) (v : Nat) : Prop where
  err : measE l at_ = (0, 0)
  len : l.length ≤ 200
  ans : OneA (measA l at_ L) v

theorem ask_w (ms : List Mch) (fs : List Flt) (kind by_ : List UInt8) (n : Nat) (at_ : Int) (L : List Rw) : (askQ ⟨ms, fs, kind, n, by_⟩ at_ L).Perm ((L.filter (inW (at_ - n + 1) (at_ + 1))).filter (fun r => asksB ms fs r.1 r.2.2)) := by
  have h := asked_perm ms fs (at_ - n + 1) (at_ + 1) L
  have e : L.filter (wantB ms fs (at_ - n + 1) (at_ + 1)) = (L.filter (inW (at_ - n + 1) (at_ + 1))).filter (fun r => asksB ms fs r.1 r.2.2) := by
    rw [List.filter_filter]
    refine List.filter_congr fun r _ => ?_
    unfold wantB inW
    rw [Bool.and_assoc]
    congr 1
    have e1 : (!decide (r.2.1 < at_ - (n : Int) + 1)) = decide (at_ - (n : Int) + 1 ≤ r.2.1) := by
      by_cases h : r.2.1 < at_ - (n : Int) + 1
      · rw [decide_eq_true h, decide_eq_false (by omega)]; rfl
      · rw [decide_eq_false h, decide_eq_true (by omega)]; rfl
    have e2 : (!decide (at_ + 1 ≤ r.2.1)) = decide (r.2.1 < at_ + 1) := by
      by_cases h : at_ + 1 ≤ r.2.1
      · rw [decide_eq_true h, decide_eq_false (by omega)]; rfl
      · rw [decide_eq_false h, decide_eq_true (by omega)]; rfl
    rw [e1, e2]
  rw [e] at h
  exact h

theorem cnt_q {l : List UInt8} {ms : List Mch} {fs : List Flt} {n : Nat} {at_ : Int} {L W : List Rw} (hl : l.length ≤ 200) (hp : (parseL l).2 = (true, ⟨ms, fs, countT, n, []⟩)) (h1 : 0 ≤ at_) (h2 : at_ ≤ 1000000) (hL : L.length ≤ 300) (hW : (L.filter (inW (at_ - n + 1) (at_ + 1))).filter (fun r => asksB ms fs r.1 r.2.2) = W) : OneQ l at_ L W.length := by
  have hE := measE_ok (q := ⟨ms, fs, countT, n, []⟩) hl hp (show countT ≠ [] by decide) h1 h2
  have hpm := ask_w ms fs countT [] n at_ L
  rw [hW] at hpm
  refine ⟨hE, hl, ?_⟩
  rw [measA_ask hE, hp, ← hpm.length_eq]
  refine one_count rfl rfl ?_
  rw [hpm.length_eq, ← hW]
  exact Nat.le_trans (List.length_filter_le _ _) (Nat.le_trans (List.length_filter_le _ _) hL)

theorem byt_q {l : List UInt8} {ms : List Mch} {fs : List Flt} {n : Nat} {at_ : Int} {L W : List Rw} (hl : l.length ≤ 200) (hp : (parseL l).2 = (true, ⟨ms, fs, bytesT, n, []⟩)) (h1 : 0 ≤ at_) (h2 : at_ ≤ 1000000) (hL : L.length ≤ 300) (hs : ∀ r ∈ L, r.2.2.length ≤ 40) (hW : (L.filter (inW (at_ - n + 1) (at_ + 1))).filter (fun r => asksB ms fs r.1 r.2.2) = W) : OneQ l at_ L (bytesL W) := by
  have hE := measE_ok (q := ⟨ms, fs, bytesT, n, []⟩) hl hp (show bytesT ≠ [] by decide) h1 h2
  have hpm := ask_w ms fs bytesT [] n at_ L
  rw [hW] at hpm
  refine ⟨hE, hl, ?_⟩
  rw [measA_ask hE, hp, ← bytes_perm hpm]
  refine one_bytes rfl rfl ?_ ?_
  · rw [hpm.length_eq, ← hW]
    exact Nat.le_trans (List.length_filter_le _ _) (Nat.le_trans (List.length_filter_le _ _) hL)
  · intro r hr
    have := hpm.mem_iff.1 hr
    rw [← hW] at this
    exact hs r (List.mem_filter.1 (List.mem_filter.1 this).1).1

theorem filter_both (P : Rw → Bool) (W : List Rw) : (W.filter P).length + (W.filter (fun r => !P r)).length = W.length := by
  have := (List.filter_append_perm P W).length_eq
  rwa [List.length_append] at this

theorem bytes_both (P : Rw → Bool) (W : List Rw) : bytesL (W.filter P) + bytesL (W.filter (fun r => !P r)) = bytesL W := by
  have := bytes_perm (List.filter_append_perm P W)
  unfold bytesL at this ⊢
  rwa [List.map_append, List.sum_append] at this

theorem ev_ok {lab : List UInt8} (h : lab ∈ five) : okM lab evM = true := ev_five lab h

/-- the values of Parted's queries -/
theorem parted_vals {L : List Rw} {x m v d : List UInt8} {n : Nat} {at_ : Int} (h5 : ∀ r ∈ L, r.1 ∈ five) (hs : ∀ r ∈ L, r.2.2.length ≤ 40) (hL : L.length ≤ 300) (hd : Dig d n) (h1 : 0 ≤ at_) (h2 : at_ ≤ 1000000) (hx : ∀ y ∈ x, y ≠ 34) (hxl : x.length ≤ 3) (hm : m ∈ names4) (hv : v ∈ vals5) :
    ∃ b c e f g h i : Nat, OneQ (qAll countT d) at_ L (L.filter (inW (at_ - n + 1) (at_ + 1))).length ∧ OneQ (qFltB countT 124 x d) at_ L b ∧ OneQ (qFltB countT 33 x d) at_ L c ∧ OneQ (qTwo countT x d) at_ L 0 ∧
      OneQ (qAll bytesT d) at_ L e ∧ OneQ (qFlt bytesT 124 x d) at_ L f ∧ OneQ (qFlt bytesT 33 x d) at_ L g ∧ OneQ (qEq m v d) at_ L h ∧ OneQ (qNe m v d) at_ L i ∧ OneQ (qBoth m v d) at_ L 0 ∧
      b + c = (L.filter (inW (at_ - n + 1) (at_ + 1))).length ∧ f + g = e ∧ h + i = (L.filter (inW (at_ - n + 1) (at_ + 1))).length ∧ e ≤ 12000 := by
  have hdl := hd.len
  have hml := (names_ok hm).2.2
  have hvl := (vals_ok hv).2
  have hW5 : ∀ r ∈ L.filter (inW (at_ - n + 1) (at_ + 1)), r.1 ∈ five := fun r hr => h5 r (List.mem_filter.1 hr).1
  have len : ∀ {kind : List UInt8}, kind ∈ kinds → (qAll kind d).length ≤ 200 ∧ (∀ c, (qFlt kind c x d).length ≤ 200) ∧ (∀ c, (qFltB kind c x d).length ≤ 200) ∧ (qTwo kind x d).length ≤ 200 := by
    intro kind hk
    have := (kind_ok hk).2.2.2
    refine ⟨?_, fun c => ?_, fun c => ?_, ?_⟩
    · simp [qAll, allQ, tailQ, noneT]; omega
    · simp [qFlt, allQ, tailQ, noneT]; omega
    · simp [qFltB, allQ, tailQ, noneT]; omega
    · simp [qTwo, allQ, tailQ, noneT]; omega
  have kc : countT ∈ kinds := by simp [kinds]
  have kb : bytesT ∈ kinds := by simp [kinds]
  have l1 : (qEq m v d).length ≤ 200 := by simp [qEq, tailQ, countT]; omega
  have l2 : (qNe m v d).length ≤ 200 := by simp [qNe, tailQ, countT]; omega
  have l3 : (qBoth m v d).length ≤ 200 := by simp [qBoth, tailQ, countT]; omega
  refine ⟨_, _, _, _, _, _, _, cnt_q (len kc).1 (p_all kc hd) h1 h2 hL ?_, cnt_q ((len kc).2.2.1 _) (p_fltB kc hd (.inr rfl) hx) h1 h2 hL rfl, cnt_q ((len kc).2.2.1 _) (p_fltB kc hd (.inl rfl) hx) h1 h2 hL rfl, ?_,
    byt_q (len kb).1 (p_all kb hd) h1 h2 hL hs rfl, byt_q ((len kb).2.1 _) (p_flt kb hd (.inr rfl) hx) h1 h2 hL hs rfl, byt_q ((len kb).2.1 _) (p_flt kb hd (.inl rfl) hx) h1 h2 hL hs rfl, cnt_q l1 (p_eq hm hv hd) h1 h2 hL rfl, cnt_q l2 (p_ne hm hv hd) h1 h2 hL rfl, ?_, ?_, ?_, ?_, ?_⟩
  · refine List.filter_eq_self.2 fun r hr => ?_
    simp [asksB, ev_ok (hW5 r hr)]
  · refine cnt_q (W := []) ((len kc).2.2.2) (p_two kc hd hx) h1 h2 hL ?_
    refine List.filter_eq_nil_iff.2 fun r hr => ?_
    cases hh : hasB r.2.2 x <;> simp [asksB, okF, hh]
  · refine cnt_q (W := []) l3 (p_both hm hv hd) h1 h2 hL ?_
    refine List.filter_eq_nil_iff.2 fun r hr => ?_
    cases hh : (valueL m (cutL 44 r.1) == v) <;> simp [asksB, okM, hh]
  · refine Eq.trans ?_ (filter_both (fun r => hasB r.2.2 x) _)
    congr 1
    · congr 1
      refine List.filter_congr fun r hr => ?_
      cases hh : hasB r.2.2 x <;> simp [asksB, okF, hh, ev_ok (hW5 r hr)]
    · congr 1
      refine List.filter_congr fun r hr => ?_
      cases hh : hasB r.2.2 x <;> simp [asksB, okF, hh, ev_ok (hW5 r hr)]
  · rw [show ((L.filter (inW (at_ - n + 1) (at_ + 1))).filter (fun r => asksB [evM] [] r.1 r.2.2)) = L.filter (inW (at_ - n + 1) (at_ + 1)) from List.filter_eq_self.2 fun r hr => by simp [asksB, ev_ok (hW5 r hr)]]
    refine Eq.trans ?_ (bytes_both (fun r => hasB r.2.2 x) _)
    congr 1
    · congr 1
      refine List.filter_congr fun r hr => ?_
      cases hh : hasB r.2.2 x <;> simp [asksB, okF, hh, ev_ok (hW5 r hr)]
    · congr 1
      refine List.filter_congr fun r hr => ?_
      cases hh : hasB r.2.2 x <;> simp [asksB, okF, hh, ev_ok (hW5 r hr)]
  · refine Eq.trans ?_ (filter_both (fun r => valueL m (cutL 44 r.1) == v) _)
    congr 1
    · congr 1
      refine List.filter_congr fun r hr => ?_
      cases hh : (valueL m (cutL 44 r.1) == v) <;> simp [asksB, okM, hh]
    · congr 1
      refine List.filter_congr fun r hr => ?_
      cases hh : (valueL m (cutL 44 r.1) == v) <;> simp [asksB, okM, hh]
  · have hb := bytesL_le ((L.filter (inW (at_ - n + 1) (at_ + 1))).filter (fun r => asksB [evM] [] r.1 r.2.2)) (fun r hr => hs r (List.mem_filter.1 (List.mem_filter.1 hr).1).1)
    have hl : ((L.filter (inW (at_ - n + 1) (at_ + 1))).filter (fun r => asksB [evM] [] r.1 r.2.2)).length ≤ 300 := Nat.le_trans (List.length_filter_le _ _) (Nat.le_trans (List.length_filter_le _ _) hL)
    omega

end Go.Proofs.YtbljamcdaoofbaaGreatDoor
