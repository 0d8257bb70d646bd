/- Texts KSmall, KPure, KParse, KFill, OwnRaw, joined. -/
import Derived.Test.YtbljamcdaoofbaaGreatDoorLawSmallToKOrd
import Derived.Test.YtbljamcdaoofbaaGreatDoorPLessOne
import Derived.Test.YtbljamcdaoofbaaGreatDoorGlobToOwnGlob
/- loamkeep's same and between. -/
namespace Go.Proofs.YtbljamcdaoofbaaGreatDoor
open Go.RowKit

def inW (fr tt : Int) (r : Rw) : Bool := decide (fr ≤ r.2.1) && decide (r.2.1 < tt)

set_option maxRecDepth 10000 in
set_option maxHeartbeats 2000000 in
theorem same_any {w : World} {va vb : Value} {A : List Rw} (ha : w.ownsRow 0 38 3 va A.length (A.flatMap cellsR)) (hb : w.ownsRow 0 38 3 vb A.length (A.flatMap cellsR)) (hA : A.length ≤ 300) :
    Calls Tryz.prog 18 #[va, vb] w fun e w' => e = .returned (.bool true) ∧ ∃ n, w' = w.drewN n := by
  obtain ⟨aa, capa, rfl, -, hcma, hnila, haoa, hcella, -⟩ := owns_form ha
  obtain ⟨ab, capb, rfl, -, hcmb, hnilb, haob, hcellb, -⟩ := owns_form hb
  have HA1 := hide hnila
  have HA2 := hide haoa
  have HA3 := hide hcella
  have HB1 := hide hnilb
  have HB2 := hide haob
  have HB3 := hide hcellb
  clear hnila haoa hcella hnilb haob hcellb ha hb
  go_enter Tryz.func18, Tryz.ntmps18
  go_wp2_with fail
  go_loopw [5] (fun i wr => ∃ j m : Nat, j ≤ A.length ∧ i = .int .i64 j ∧ wr = w.drewN m) (fun i _ => A.length - (intOf i).toNat)
  case atStart => exact ⟨0, 0, by omega, rfl, rfl⟩
  case round =>
    obtain ⟨j, m, hj, rfl, rfl⟩ := hrel
    by_cases hlt : j < A.length
    · obtain ⟨⟨ga, oa, sa⟩, rfl⟩ : ∃ a, aa = some a := by
        cases aa with
        | none => have := (unhide HA1 rfl).1; omega
        | some a => exact ⟨a, rfl⟩
      obtain ⟨⟨gb, ob, sb⟩, rfl⟩ : ∃ a, ab = some a := by
        cases ab with
        | none => have := (unhide HB1 rfl).1; omega
        | some a => exact ⟨a, rfl⟩
      obtain ⟨x1, x2, -, -⟩ := unhide HA2 _ rfl
      obtain ⟨y1, y2, -, -⟩ := unhide HB2 _ rfl
      simp only at x1 x2 y1 y2
      subst x1 x2 y1 y2
      obtain ⟨e0, e1, e2⟩ := cellsR_at A j hlt
      have ca0 := (unhide HA3 _ rfl (j * 3) (by omega)).trans e0
      have ca1 := (unhide HA3 _ rfl (j * 3 + 1) (by omega)).trans e1
      have ca2 := (unhide HA3 _ rfl (j * 3 + 2) (by omega)).trans e2
      have cb0 := (unhide HB3 _ rfl (j * 3) (by omega)).trans e0
      have cb1 := (unhide HB3 _ rfl (j * 3 + 1) (by omega)).trans e1
      have cb2 := (unhide HB3 _ rfl (j * 3 + 2) (by omega)).trans e2
      clear e0 e1 e2
      have hji : (j : Int) < (A.length : Int) := by omega
      simp only at ca0 ca1 ca2 cb0 cb1 cb2
      go_upto_region 6 with fail
      go_quiet (fail)
      go_wp2
      go_roundw
      case rel => exact ⟨j + 1, _, by omega, by go_num, rfl⟩
      case measure => simp [intOf]; omega
    · go_wp2
      go_ret
      exact ⟨rfl, _, rfl⟩

theorem filter_take_rw (f : Rw → Bool) (L : List Rw) (k : Nat) (h : k < L.length) : (L.take (k + 1)).filter f = (L.take k).filter f ++ (if f L[k] = true then [L[k]] else []) := by
  rw [List.take_succ_eq_append_getElem h, List.filter_append]
  congr 1
  simp only [List.filter_cons, List.filter_nil]

set_option maxRecDepth 10000 in
set_option maxHeartbeats 2000000 in
theorem between_any {w : World} {v : Value} {L : List Rw} (fr tt : Int) (h : w.ownsRow 0 38 3 v L.length (L.flatMap cellsR)) (hL : L.length ≤ 300) :
    Calls Tryz.prog 21 #[v, .int .i64 fr, .int .i64 tt] w (RowsP w (L.filter (inW fr tt))) := by
  obtain ⟨i0, hi, hz0, hz1, hz2⟩ := info_parts Tryz.info38
  obtain ⟨aL, capL, rfl, hncL, hcmL, nilL, aoL, cellL, -⟩ := owns_form h
  have HNL := hide nilL
  have HAL := hide aoL
  have HCL := hide cellL
  clear h nilL aoL cellL
  unfold maxLen at hcmL
  go_enter Tryz.func21, Tryz.ntmps21
  go_wp2_with fail
  go_loopw [7, 8] (fun v i wr => ∃ k : Nat, k ≤ L.length ∧ i = .int .i64 k ∧ wr.ownsRow w.heap.size 38 3 v ((L.take k).filter (inW fr tt)).length (((L.take k).filter (inW fr tt)).flatMap cellsR) ∧ Below w.heap.size w wr) (fun _ i _ => L.length - (intOf i).toNat)
  case atStart => exact ⟨0, Nat.zero_le _, rfl, World.ownsRow_nil _ _ _ _, Below.refl _ _⟩
  case round =>
    obtain ⟨k, hk, rfl, hown, hbr⟩ := hrel
    have hszr := hbr.size
    by_cases hlt : k < L.length
    · obtain ⟨⟨g, o, sp⟩, rfl⟩ : ∃ a, aL = some a := by
        cases aL with
        | none => have := (unhide HNL rfl).1; omega
        | some a => exact ⟨a, rfl⟩
      obtain ⟨ho, hsp, -, hgw⟩ := unhide HAL _ rfl
      simp only at ho hsp hgw
      subst ho hsp
      obtain ⟨e0, e1, e2⟩ := cellsR_at L k hlt
      have m0 := ((hbr.cell (p := ⟨g, k * 3, none⟩) hgw).trans (unhide HCL _ rfl _ (by omega))).trans e0
      have m1 := ((hbr.cell (p := ⟨g, k * 3 + 1, none⟩) hgw).trans (unhide HCL _ rfl _ (by omega))).trans e1
      have m2 := ((hbr.cell (p := ⟨g, k * 3 + 2, none⟩) hgw).trans (unhide HCL _ rfl _ (by omega))).trans e2
      clear e0 e1 e2
      have HS := hide (filter_take_rw (inW fr tt) L k hlt)
      have HW := hide (show inW fr tt L[k] = (decide (fr ≤ L[k].2.1) && decide (L[k].2.1 < tt)) from rfl)
      have hlen : ((L.take k).filter (inW fr tt)).length ≤ 300 := Nat.le_trans (List.length_filter_le _ _) (by simp; omega)
      have hki : (k : Int) < (L.length : Int) := by omega
      generalize (L.take k).filter (inW fr tt) = O at *
      generalize L[k] = r at *
      obtain ⟨lab, t, line⟩ := r
      simp only at m0 m1 m2 HS HW
      have HB := hide hbr
      obtain ⟨aO, cO, rfl, -, -, -, -, -, -⟩ := owns_form hown
      clear hbr
      by_cases h1 : fr ≤ t
      · by_cases h2 : t < tt
        · go_wp2_with (at_builtin; refine wpList_append_at _ rfl _ _ 28 rfl w.heap.size 38 i0 _ 3 40 Tryz.underlying28 hi hz0 hz1 hz2 rfl (by decide) _ _ _ rfl (hown.alloc _) (some ⟨_, 0, none⟩) 1 1 [SV lab, .int .i64 t, SV line] rfl rfl (by intro e; cases e) (cells_new _ _ _) (by intro u hu; simp at hu; rcases hu with rfl | rfl | rfl <;> rfl) (by unfold maxLen; omega) (by omega) (by simp; omega) ?_; intro v6 w6 hown6 hgrow6 hwh6)
          go_roundw
          case rel =>
            refine ⟨k + 1, by omega, by go_num, ?_, ((unhide HB).alloc hszr _).grown hgrow6 (by simp; omega) (fun k hk => (hown.lt k hk).1)⟩
            rw [unhide HS, if_pos (by rw [unhide HW]; simp [h1, h2]), List.flatMap_append, List.length_append]
            exact hown6
          case measure => simp [intOf]; omega
        · go_wp2_with fail
          go_roundw
          case rel =>
            refine ⟨k + 1, by omega, by go_num, ?_, unhide HB⟩
            rw [unhide HS, if_neg (by rw [unhide HW]; simp [h2]), List.append_nil]
            exact hown
          case measure => simp [intOf]; omega
      · go_wp2_with fail
        go_roundw
        case rel =>
          refine ⟨k + 1, by omega, by go_num, ?_, unhide HB⟩
          rw [unhide HS, if_neg (by rw [unhide HW]; simp [h1]), List.append_nil]
          exact hown
        case measure => simp [intOf]; omega
    · go_wp2
      go_ret
      refine ⟨_, rfl, ?_, hbr⟩
      rw [List.take_of_length_le (by omega)] at hown
      exact hown

end Go.Proofs.YtbljamcdaoofbaaGreatDoor

/- Rows in order: what is known of them, without a program. -/
namespace Go.Proofs.YtbljamcdaoofbaaGreatDoor

/-- Two lists of rows in order whose parts by streams are the same are the same. -/
theorem sort_ext : ∀ {A B : List Rw}, SortR A → SortR B → (∀ lab, A.filter (fun x => x.1 == lab) = B.filter (fun x => x.1 == lab)) → A = B
  | [], [], _, _, _ => rfl
  | [], b :: B, _, _, h => by have := h b.1; simp at this
  | a :: A, [], _, _, h => by have := h a.1; simp at this
  | a :: A, b :: B, ha, hb, h => by
    have ha' := List.pairwise_cons.1 ha
    have hb' := List.pairwise_cons.1 hb
    -- the first row of each is in the other one
    have hab : a ∈ b :: B := by
      have h1 : a ∈ (a :: A).filter (fun x => x.1 == a.1) := by simp
      rw [h] at h1
      exact (List.mem_filter.1 h1).1
    have hba : b ∈ a :: A := by
      have h1 : b ∈ (b :: B).filter (fun x => x.1 == b.1) := by simp
      rw [← h] at h1
      exact (List.mem_filter.1 h1).1
    have k1 : keyLess (kR a) (kR b) = false := by
      rcases List.mem_cons.1 hab with e | e
      · rw [e]; exact keyLess_irrefl _
      · exact hb'.1 a e
    have k2 : keyLess (kR b) (kR a) = false := by
      rcases List.mem_cons.1 hba with e | e
      · rw [e]; exact keyLess_irrefl _
      · exact ha'.1 b e
    have hkey : kR a = kR b := by
      rcases keyLess_total k1 with e | e
      · exact e
      · rw [k2] at e; cases e
    have hlab : a.1 = b.1 := congrArg Prod.snd hkey
    have heq : a = b := by
      have h1 := h a.1
      rw [List.filter_cons_of_pos (by simp), List.filter_cons_of_pos (by simp [hlab])] at h1
      exact (List.cons.inj h1).1
    subst heq
    rw [sort_ext ha'.2 hb'.2 (fun lab => ?_)]
    have h1 := h lab
    by_cases e : a.1 = lab
    · rw [List.filter_cons_of_pos (by simp [e]), List.filter_cons_of_pos (by simp [e])] at h1
      exact (List.cons.inj h1).2
    · rw [List.filter_cons_of_neg (by simp [e]), List.filter_cons_of_neg (by simp [e])] at h1
      exact h1

theorem SortR.sub {A B : List Rw} (h : SortR B) (hs : A.Sublist B) : SortR A := List.Pairwise.sublist hs h

/-- rows of a span of time, in order -/
def winL (fr tt : Int) (L : List Rw) : List Rw := askedL [] [] fr tt L

theorem wantB_win (fr tt : Int) (r : Rw) : wantB [] [] fr tt r = inW fr tt r := by
  unfold wantB inW asksB
  simp only [List.all_nil, Bool.true_and]
  have e1 : (!decide (r.2.1 < fr)) = decide (fr ≤ r.2.1) := by
    by_cases h : r.2.1 < fr
    · rw [decide_eq_true h, decide_eq_false (by omega)]; rfl
    · rw [decide_eq_false h, decide_eq_true (by omega)]; rfl
  have e2 : (!decide (tt ≤ r.2.1)) = decide (r.2.1 < tt) := by
    by_cases h : tt ≤ r.2.1
    · rw [decide_eq_true h, decide_eq_false (by omega)]; rfl
    · rw [decide_eq_false h, decide_eq_true (by omega)]; rfl
  rw [e1, e2]

theorem win_spec (fr tt : Int) {L : List Rw} (h : RiseL L) : SortR (winL fr tt L) ∧ (∀ lab, (winL fr tt L).filter (fun x => x.1 == lab) = (L.filter (inW fr tt)).filter (fun x => x.1 == lab)) ∧ (∀ x, x ∈ winL fr tt L ↔ x ∈ L ∧ inW fr tt x = true) := by
  obtain ⟨h1, h2, h3⟩ := askedL_spec [] [] fr tt h
  refine ⟨h1, fun lab => ?_, fun x => ?_⟩
  · rw [winL, h2]
    congr 1
    exact List.filter_congr fun r _ => wantB_win fr tt r
  · rw [winL, h3, wantB_win]

theorem asked_congr {M M' : List Mch} {Fs Fs' : List Flt} {fr tt fr' tt' : Int} {L : List Rw} (h : ∀ r ∈ L, wantB M Fs fr tt r = wantB M' Fs' fr' tt' r) : askedL M Fs fr tt L = askedL M' Fs' fr' tt' L := by
  unfold askedL
  have : ∀ (L : List Rw) (o : List Rw), (∀ r ∈ L, wantB M Fs fr tt r = wantB M' Fs' fr' tt' r) → L.foldl (fun out r => if wantB M Fs fr tt r = true then insR out r else out) o = L.foldl (fun out r => if wantB M' Fs' fr' tt' r = true then insR out r else out) o := by
    intro L
    induction L with
    | nil => intro o _; rfl
    | cons x L ih =>
      intro o hh
      rw [List.foldl_cons, List.foldl_cons, hh x (by simp)]
      exact ih _ (fun r hr => hh r (by simp [hr]))
  exact this L [] h

theorem ordLs_win {L : List Rw} {fr tt : Int} (h : ∀ r ∈ L, inW fr tt r = true) : ordLs L = winL fr tt L := by
  unfold ordLs winL askedL
  have : ∀ (L : List Rw) (o : List Rw), (∀ r ∈ L, inW fr tt r = true) → L.foldl insR o = L.foldl (fun out r => if wantB [] [] fr tt r = true then insR out r else out) o := by
    intro L
    induction L with
    | nil => intro o _; rfl
    | cons x L ih =>
      intro o hh
      rw [List.foldl_cons, List.foldl_cons, wantB_win, if_pos (hh x (by simp))]
      exact ih _ (fun r hr => hh r (by simp [hr]))
  exact this L [] h

/-- two spans that touch -/
theorem win_app {a b c : Int} (hab : a ≤ b) (hbc : b ≤ c) {L : List Rw} (h : RiseL L) : winL a b L ++ winL b c L = winL a c L := by
  obtain ⟨s1, p1, m1⟩ := win_spec a b h
  obtain ⟨s2, p2, m2⟩ := win_spec b c h
  obtain ⟨s3, p3, m3⟩ := win_spec a c h
  refine sort_ext ?_ s3 (fun lab => ?_)
  · refine List.pairwise_append.2 ⟨s1, s2, fun x hx y hy => ?_⟩
    have hx' := ((m1 x).1 hx).2
    have hy' := ((m2 y).1 hy).2
    unfold inW at hx' hy'
    simp only [Bool.and_eq_true, decide_eq_true_eq] at hx' hy'
    unfold keyLess kR
    simp only
    rw [if_neg (by omega)]
    simp
    omega
  · rw [List.filter_append, p1, p2, p3, List.filter_filter, List.filter_filter, List.filter_filter]
    -- the lines of one stream rise by their times
    have key : ∀ L : List Rw, RiseL L → L.filter (fun r => (r.1 == lab) && inW a b r) ++ L.filter (fun r => (r.1 == lab) && inW b c r) = L.filter (fun r => (r.1 == lab) && inW a c r) := by
      intro L
      induction L with
      | nil => intro _; rfl
      | cons x L ih =>
        intro hL
        have hL' := List.pairwise_cons.1 hL
        have ih' := ih hL'.2
        by_cases e : x.1 = lab
        · by_cases h1 : x.2.1 < a
          · rw [List.filter_cons_of_neg (by simp [inW]; omega), List.filter_cons_of_neg (by simp [inW]; omega), List.filter_cons_of_neg (by simp [inW]; omega)]
            exact ih'
          · by_cases h2 : x.2.1 < b
            · rw [List.filter_cons_of_pos (by simp [inW, e]; omega), List.filter_cons_of_neg (by simp [inW]; omega), List.filter_cons_of_pos (by simp [inW, e]; omega), List.cons_append, ih']
            · have hnil : L.filter (fun r => (r.1 == lab) && inW a b r) = [] := by
                rw [List.filter_eq_nil_iff]
                intro y hy
                by_cases e2 : y.1 = lab
                · have := hL'.1 y hy (by rw [e, e2])
                  simp [inW]
                  omega
                · simp [e2]
              by_cases h3 : x.2.1 < c
              · rw [List.filter_cons_of_neg (by simp [inW]; omega), List.filter_cons_of_pos (by simp [inW, e]; omega), List.filter_cons_of_pos (by simp [inW, e]; omega), hnil, List.nil_append]
                rw [hnil, List.nil_append] at ih'
                rw [ih']
              · rw [List.filter_cons_of_neg (by simp [inW]; omega), List.filter_cons_of_neg (by simp [inW]; omega), List.filter_cons_of_neg (by simp [inW]; omega)]
                exact ih'
        · rw [List.filter_cons_of_neg (by simp [e]), List.filter_cons_of_neg (by simp [e]), List.filter_cons_of_neg (by simp [e])]
          exact ih'
    exact key L h

/-- the rows of a span among all rows -/
theorem win_filter {a c fr tt : Int} {L : List Rw} (h : RiseL L) (hall : ∀ r ∈ L, inW fr tt r = true) : (winL fr tt L).filter (inW a c) = winL a c L := by
  obtain ⟨s1, p1, m1⟩ := win_spec fr tt h
  obtain ⟨s3, p3, m3⟩ := win_spec a c h
  refine sort_ext (s1.sub List.filter_sublist) s3 (fun lab => ?_)
  rw [List.filter_filter, p3]
  have e : ((winL fr tt L).filter (fun r => (r.1 == lab) && inW a c r)) = ((winL fr tt L).filter (fun x => x.1 == lab)).filter (inW a c) := by
    rw [List.filter_filter]
    exact List.filter_congr fun r _ => Bool.and_comm _ _
  rw [e, p1, List.filter_filter, List.filter_filter, List.filter_filter]
  refine List.filter_congr fun r hr => ?_
  rw [hall r hr, Bool.and_true, Bool.and_comm]

theorem win_len (fr tt : Int) (L : List Rw) : (winL fr tt L).length ≤ L.length := askedL_len _ _ _ _ _

end Go.Proofs.YtbljamcdaoofbaaGreatDoor

/- Tokens by a bound, so that a query that is written out can be reckoned; the query that asks for all lines. -/
namespace Go.Proofs.YtbljamcdaoofbaaGreatDoor
open Go.RowKit

def toksF : Nat → List UInt8 → Nat → List Tok
  | 0, _, _ => []
  | f + 1, s, p =>
    if (tok1 (s.drop (p + blanks (s.drop p)))).1 < 4 then
      ⟨(tok1 (s.drop (p + blanks (s.drop p)))).1, p + blanks (s.drop p), (tok1 (s.drop (p + blanks (s.drop p)))).2.1⟩ :: toksF f s (p + blanks (s.drop p) + (tok1 (s.drop (p + blanks (s.drop p)))).2.2)
    else [⟨(tok1 (s.drop (p + blanks (s.drop p)))).1, p + blanks (s.drop p), (tok1 (s.drop (p + blanks (s.drop p)))).2.1⟩]

theorem toksF_eq : ∀ (f : Nat) (s : List UInt8) (p : Nat), s.length - p < f → toksF f s p = toks s p
  | 0, s, p, h => by omega
  | f + 1, s, p, h => by
    rw [toksF, toks]
    split
    · rename_i hk
      have hg := tok1_go hk
      rw [List.length_drop] at hg
      rw [toksF_eq f s _ (by omega)]
    · rfl

def parseF (l : List UInt8) : Nat × Bool × Qry := ((tokAt (toksF (l.length + 1) l 0) (wholeI (toksF (l.length + 1) l 0)).1).pos, (wholeI (toksF (l.length + 1) l 0)).2.1, (wholeI (toksF (l.length + 1) l 0)).2.2)
theorem parseF_eq (l : List UInt8) : parseL l = parseF l := by
  unfold parseL parseF
  rw [toksF_eq _ _ _ (by omega)]

/-- the query that asks for all lines -/
def evQ : List UInt8 := [123, 110, 111, 110, 101, 32, 33, 61, 32, 34, 120, 34, 125]
theorem ev_parse : parseL evQ = (13, true, ⟨[⟨[110, 111, 110, 101], [120], true⟩], [], [], 0, []⟩) := by
  rw [parseF_eq]
  kernel_rfl

theorem ev_five : ∀ lab ∈ five, okM lab ⟨[110, 111, 110, 101], [120], true⟩ = true := by
  intro lab h
  simp only [five, List.mem_cons, List.not_mem_nil, or_false] at h
  rcases h with rfl | rfl | rfl | rfl | rfl <;> kernel_rfl

theorem ev_want {fr tt : Int} {r : Rw} (h : r.1 ∈ five) : wantB [⟨[110, 111, 110, 101], [120], true⟩] [] fr tt r = wantB [] [] fr tt r := by
  unfold wantB asksB
  rw [List.all_cons, ev_five _ h]
  rfl

/-- all lines of a span: as many as there may be -/
theorem ev_rows {fr tt lim : Int} {bw : Bool} {L : List Rw} (h5 : ∀ r ∈ L, r.1 ∈ five) (h1 : 0 ≤ fr) (h2 : fr ≤ tt) (h3 : tt ≤ 1000001) (h4 : 0 ≤ lim) (h6 : lim ≤ 50) :
    rowsE evQ fr tt lim = (0, 0) ∧ rowsA evQ fr tt lim bw L = (ordR bw (winL fr tt L)).take lim.toNat := by
  have hE : rowsE evQ fr tt lim = (0, 0) := by
    unfold rowsE
    rw [ev_parse, if_neg (by decide), if_neg (by decide), if_neg (by decide), if_neg (by omega), if_neg (by omega)]
  refine ⟨hE, ?_⟩
  unfold rowsA
  rw [hE, if_pos rfl, ev_parse]
  rw [show askedL [⟨[110, 111, 110, 101], [120], true⟩] [] fr tt L = winL fr tt L from asked_congr fun r hr => ev_want (h5 r hr)]

/-- what holds of a store that loamkeep has filled -/
structure Fill (S : List Strm) (L : List Rw) (t : Int) : Prop where
  labs : ∀ y ∈ S, y.1 ∈ five
  top : ∀ y ∈ S, y.2 ≤ t
  has : ∀ y ∈ S, ∃ r ∈ L, r.1 = y.1 ∧ r.2.1 = y.2
  back : ∀ r ∈ L, ∃ y ∈ S, y.1 = r.1 ∧ r.2.1 ≤ y.2
  uniq : (S.map (·.1)).Nodup
  times : ∀ r ∈ L, 0 ≤ r.2.1 ∧ r.2.1 ≤ t
  lab5 : ∀ r ∈ L, r.1 ∈ five
  short : ∀ r ∈ L, r.2.2.length ≤ 40
  sorted : L.Pairwise (fun a b => a.2.1 ≤ b.2.1)
  t0 : 0 ≤ t

theorem Fill.empty : Fill [] [] 0 := ⟨fun y h => (by cases h), fun y h => (by cases h), fun y h => (by cases h), fun y h => (by cases h), List.Pairwise.nil, fun y h => (by cases h), fun y h => (by cases h), fun y h => (by cases h), List.Pairwise.nil, Int.le_refl _⟩

theorem Fill.rise {S : List Strm} {L : List Rw} {t : Int} (h : Fill S L t) : RiseL L := by
  unfold RiseL
  refine List.Pairwise.imp ?_ h.sorted
  intro a b hh _
  exact hh

theorem five_ok : ∀ lab ∈ five, labelsB lab = true := by
  intro lab h
  simp only [five, List.mem_cons, List.not_mem_nil, or_false] at h
  rcases h with rfl | rfl | rfl | rfl | rfl <;> kernel_rfl
theorem five_len : ∀ lab ∈ five, lab.length ≤ 20 := by
  intro lab h
  simp only [five, List.mem_cons, List.not_mem_nil, or_false] at h
  rcases h with rfl | rfl | rfl | rfl | rfl <;> decide

theorem nodup_le : ∀ {l m : List (List UInt8)}, l.Nodup → (∀ x ∈ l, x ∈ m) → l.length ≤ m.length
  | [], m, _, _ => Nat.zero_le _
  | a :: l, m, h, hs => by
    have h' := List.nodup_cons.1 h
    have ha := hs a (by simp)
    have := nodup_le (m := m.erase a) h'.2 (fun x hx => (List.mem_erase_of_ne (show x ≠ a by rintro rfl; exact h'.1 hx)).2 (hs x (by simp [hx])))
    rw [List.length_erase_of_mem ha] at this
    have hm := List.length_pos_of_mem ha
    simp
    omega

theorem Fill.six {S : List Strm} {L : List Rw} {t : Int} (h : Fill S L t) : S.length ≤ 5 := by
  have := nodup_le (m := five) h.uniq (fun x hx => by
    obtain ⟨y, hy, rfl⟩ := List.mem_map.1 hx
    exact h.labs y hy)
  simpa [five] using this

/-- a line more -/
theorem Fill.push {S : List Strm} {L : List Rw} {t : Int} (h : Fill S L t) {l x : List UInt8} {t' : Int} (hl : l ∈ five) (ht : t ≤ t') (ht2 : t' ≤ 1000000) (hx : x.length ≤ 40) (hn : L.length < 300) :
    (pushR S L l t' x).1 = 0 ∧ (pushR S L l t' x).2.2 = L ++ [(l, t', x)] ∧ Fill (pushR S L l t' x).2.1 (L ++ [(l, t', x)]) t' := by
  have h0 := h.t0
  have e1 : ¬ labelsB l = false := by rw [five_ok l hl]; decide
  have e2 : ¬ timeB t' = false := by unfold timeB; simp; omega
  have e3 : ¬ 40 < x.length := by omega
  have h6 := h.six
  unfold pushR
  rw [if_neg e1, if_neg e2, if_neg e3]
  have hback : ∀ r ∈ L ++ [(l, t', x)], 0 ≤ r.2.1 ∧ r.2.1 ≤ t' := by
    intro r hr
    rcases List.mem_append.1 hr with hr | hr
    · have := h.times r hr; omega
    · rw [List.mem_singleton.1 hr]; exact ⟨by show 0 ≤ t'; omega, Int.le_refl _⟩
  have hlab5 : ∀ r ∈ L ++ [(l, t', x)], r.1 ∈ five := by
    intro r hr
    rcases List.mem_append.1 hr with hr | hr
    · exact h.lab5 r hr
    · rw [List.mem_singleton.1 hr]; exact hl
  have hshort : ∀ r ∈ L ++ [(l, t', x)], r.2.2.length ≤ 40 := by
    intro r hr
    rcases List.mem_append.1 hr with hr | hr
    · exact h.short r hr
    · rw [List.mem_singleton.1 hr]; exact hx
  have hsorted : (L ++ [(l, t', x)]).Pairwise (fun a b => a.2.1 ≤ b.2.1) := by
    rw [List.pairwise_append]
    refine ⟨h.sorted, List.pairwise_singleton _ _, fun a ha b hb => ?_⟩
    rw [List.mem_singleton.1 hb]
    have := h.times a ha
    show a.2.1 ≤ t'
    omega
  by_cases hk : at_ S l < S.length
  · rw [dif_pos hk]
    have htop := h.top _ (List.getElem_mem hk)
    rw [if_neg (by omega), if_neg (by omega)]
    have hlab : S[at_ S l].1 = l := by
      have := List.findIdx_getElem (w := hk)
      change S[List.findIdx (fun y : Strm => y.1 == l) S].1 = l
      simpa using this
    refine ⟨rfl, rfl, ⟨?_, ?_, ?_, ?_, ?_, hback, hlab5, hshort, hsorted, by omega⟩⟩
    · intro y hy
      rcases List.mem_or_eq_of_mem_set hy with hy | rfl
      · exact h.labs y hy
      · exact h.labs (S[at_ S l]) (List.getElem_mem hk)
    · intro y hy
      rcases List.mem_or_eq_of_mem_set hy with hy | rfl
      · have := h.top y hy; omega
      · exact Int.le_refl _
    · intro y hy
      rcases List.mem_or_eq_of_mem_set hy with hy | rfl
      · obtain ⟨r, hr, e⟩ := h.has y hy
        exact ⟨r, by simp [hr], e⟩
      · exact ⟨(l, t', x), by simp, hlab.symm, rfl⟩
    · intro r hr
      have hset : (S[at_ S l].1, t') ∈ S.set (at_ S l) (S[at_ S l].1, t') := List.mem_set hk _
      rcases List.mem_append.1 hr with hr | hr
      · obtain ⟨y, hy, e, hle⟩ := h.back r hr
        by_cases e2 : y.1 = l
        · refine ⟨_, hset, by rw [hlab, ← e2, e], ?_⟩
          have := h.times r hr
          show r.2.1 ≤ t'
          omega
        · refine ⟨y, ?_, e, hle⟩
          obtain ⟨j, hj, rfl⟩ := List.getElem_of_mem hy
          have hne : at_ S l ≠ j := by
            rintro rfl
            exact e2 hlab
          have : (S.set (at_ S l) (S[at_ S l].1, t'))[j]'(by simpa using hj) = S[j] := by
            rw [List.getElem_set, if_neg hne]
          rw [← this]
          exact List.getElem_mem _
      · rw [List.mem_singleton.1 hr]
        exact ⟨_, hset, hlab, Int.le_refl _⟩
    · rw [List.map_set]
      have : (S.map (·.1)).set (at_ S l) S[at_ S l].1 = S.map (·.1) := by
        have e : S[at_ S l].1 = (S.map (·.1))[at_ S l]'(by simpa using hk) := by simp
        rw [e, List.set_getElem_self]
      rw [this]
      exact h.uniq
  · rw [dif_neg hk, if_neg (by omega), if_neg (by omega)]
    have hno : ∀ y ∈ S, y.1 ≠ l := by
      intro y hy e
      have : at_ S l < S.length := by
        unfold at_
        rw [List.findIdx_lt_length]
        exact ⟨y, hy, by simp [e]⟩
      exact hk this
    refine ⟨rfl, rfl, ⟨?_, ?_, ?_, ?_, ?_, hback, hlab5, hshort, hsorted, by omega⟩⟩
    · intro y hy
      rcases List.mem_append.1 hy with hy | hy
      · exact h.labs y hy
      · rw [List.mem_singleton.1 hy]; exact hl
    · intro y hy
      rcases List.mem_append.1 hy with hy | hy
      · have := h.top y hy; omega
      · rw [List.mem_singleton.1 hy]; exact Int.le_refl _
    · intro y hy
      rcases List.mem_append.1 hy with hy | hy
      · obtain ⟨r, hr, e⟩ := h.has y hy
        exact ⟨r, by simp [hr], e⟩
      · rw [List.mem_singleton.1 hy]; exact ⟨(l, t', x), by simp, rfl, rfl⟩
    · intro r hr
      rcases List.mem_append.1 hr with hr | hr
      · obtain ⟨y, hy, e, hle⟩ := h.back r hr
        exact ⟨y, by simp [hy], e, hle⟩
      · rw [List.mem_singleton.1 hr]; exact ⟨(l, t'), by simp, rfl, Int.le_refl _⟩
    · rw [List.map_append]
      refine List.nodup_append.2 ⟨h.uniq, by simp, ?_⟩
      intro a ha b hb
      obtain ⟨y, hy, rfl⟩ := List.mem_map.1 ha
      rw [List.map_cons, List.map_nil, List.mem_singleton] at hb
      subst hb
      exact hno y hy

end Go.Proofs.YtbljamcdaoofbaaGreatDoor

/- loamkeep's filled: a store with lines. -/
namespace Go.Proofs.YtbljamcdaoofbaaGreatDoor
open Go.RowKit

/-- raw lines that can be read -/
def RawAt (w : World) (ao : Option Addr) (n : Nat) : Prop :=
  ∀ i, i < n → ∃ sb so, ao = some ⟨sb, so, none⟩ ∧ sb < w.heap.size ∧ ∃ a b c : Int, w.cell? ⟨sb, so + i * 3, none⟩ = some (.int .i64 a) ∧ w.cell? ⟨sb, so + i * 3 + 1, none⟩ = some (.int .i64 b) ∧ w.cell? ⟨sb, so + i * 3 + 2, none⟩ = some (.int .i64 c) ∧
    (-9223372036854775808 ≤ a ∧ a ≤ 9223372036854775807) ∧ (-9223372036854775808 ≤ b ∧ b ≤ 9223372036854775807) ∧ (-9223372036854775808 ≤ c ∧ c ≤ 9223372036854775807)

/-- a store with lines, and the lines -/
structure FilledAt (w wr : World) (p : Nat) (F : Nat → Prop) (S : List Strm) (L : List Rw) (t : Int) (v : Value) (k : Nat) : Prop where
  keep : KeepAt w wr F p S L
  fill : Fill S L t
  late : t ≤ 3 * (k : Int)
  len : L.length = k
  row : wr.ownsRow w.heap.size 38 3 v L.length (L.flatMap cellsR)
  apart : ∀ g, v.ownBlock = some g → ¬ F g

def FillP (w : World) (most : Nat) (e : Ending) (w' : World) : Prop :=
  ∃ p F S L t v k, e = .returned (.tuple #[.pointer (some ⟨p, 0, none⟩), v, .bool true]) ∧ k ≤ most ∧ FilledAt w w' p F S L t v k

theorem FilledAt.pushed {w wr wx w4 : World} {p k : Nat} {F : Nat → Prop} {S : List Strm} {L : List Rw} {t t' : Int} {v : Value} {l x : List UInt8} {e : Ending} (h : FilledAt w wr p F S L t v k) (hb : Below wr.heap.size wr wx) (hl : l ∈ five) (ht : t ≤ t') (ht2 : t' ≤ t + 3) (hx : x.length ≤ 40) (hk : k < 40)
    (hp : PushP w wx F p S L l t' x e w4) :
    e = .returned (.int .i64 0) ∧ ∃ F' S', KeepAt w w4 F' p S' (L ++ [(l, t', x)]) ∧ Fill S' (L ++ [(l, t', x)]) t' ∧ t' ≤ 3 * ((k + 1 : Nat) : Int) ∧ w4.ownsRow w.heap.size 38 3 v L.length (L.flatMap cellsR) ∧ (∀ g, v.ownBlock = some g → ¬ F' g) ∧ (∀ b, wr.heap.size ≤ b → b < wx.heap.size → w4.heap[b]? = wx.heap[b]? ∧ ¬ F' b) ∧ (∀ b, F' b → b < w4.heap.size) := by
  obtain ⟨rfl, F', hk', hm, hF'⟩ := hp
  have hlate := h.late
  have hpu := h.fill.push (l := l) (x := x) (t' := t') hl ht (by omega) hx (by rw [h.len]; omega)
  obtain ⟨e1, e2, e3⟩ := hpu
  rw [e1]
  rw [e2] at hk'
  refine ⟨rfl, F', _, hk', e3, by omega, ?_, ?_, ?_, fun b hb => (hk'.high b hb).2⟩
  · refine ownsRow_same h.row fun g hg => ?_
    have hgl := (ownsRow_type h.row hg).1
    rw [hm.block g (Nat.lt_of_lt_of_le hgl hb.size) (h.apart g hg), hb.block g hgl]
  · intro g hg hf
    have hgl := (ownsRow_type h.row hg).1
    rcases hF' g hf with h1 | h1
    · exact h.apart g hg h1
    · have := hb.size; omega
  · intro b hb1 hb2
    have hnF : ¬ F b := fun hf => by have := (h.keep.high b hf).2; omega
    refine ⟨hm.block b hb2 hnF, fun hf => ?_⟩
    rcases hF' b hf with h1 | h1
    · exact hnF h1
    · omega

theorem FilledAt.more {w w4 w6 : World} {p k : Nat} {F' : Nat → Prop} {S' : List Strm} {L : List Rw} {t' : Int} {v v6 : Value} {l x : List UInt8} {o : Obj} (hk : KeepAt w w4 F' p S' (L ++ [(l, t', x)])) (hf : Fill S' (L ++ [(l, t', x)]) t') (ht : t' ≤ 3 * ((k + 1 : Nat) : Int)) (hlen : L.length = k) (hrow : w4.ownsRow w.heap.size 38 3 v L.length (L.flatMap cellsR)) (ha : ∀ g, v.ownBlock = some g → ¬ F' g) (hlt : ∀ b, F' b → b < w4.heap.size)
    (hg : (w4.alloc o).grownBy w6 v.ownBlock) (ho : w6.ownsRow w.heap.size 38 3 v6 (L.length + 1) (L.flatMap cellsR ++ [SV l, .int .i64 t', SV x])) (hwh : v6.ownBlock = v.ownBlock ∨ v6.ownBlock = some (w4.alloc o).heap.size) :
    FilledAt w w6 p F' S' (L ++ [(l, t', x)]) t' v6 (k + 1) := by
  have hm6 : Moved (fun b => v.ownBlock = some b) w4 w6 := ((Moved.refl _ w4).alloc o).grown hg (fun k hk => .inl hk)
  refine ⟨hk.moved hm6 (fun b hb e => ha b e hb) (fun b hb e => ?_), hf, ht, by simp [hlen], ?_, ?_⟩
  · have := (hrow.lt b e).1; omega
  · simpa [cellsR] using ho
  · intro g hg' hF
    rcases hwh with e | e
    · exact ha g (e ▸ hg') hF
    · rw [hg'] at e
      simp at e
      have := hlt g hF
      omega

set_option maxRecDepth 10000 in
set_option maxHeartbeats 8000000 in
theorem filled_any {w : World} {ao : Option Addr} {n cap : Nat} (hr : RawAt w ao n) :
    Calls Tryz.prog 14 #[.slice ao n cap, .int .i64 40] w (FillP w 40) := by
  obtain ⟨i0, hi, hz0, hz1, hz2⟩ := info_parts Tryz.info38
  have HR := hide hr
  clear hr
  go_enter Tryz.func14, Tryz.ntmps14
  go_wp2_with fail
  refine (knew_any w).mono ?_
  rintro e w1 ⟨rfl, hk1⟩
  have HF0 := hide (show FilledAt w w1 w.heap.size (fun b => b = w.heap.size) [] [] 0 (.slice none 0 0) 0 from ⟨hk1, Fill.empty, by omega, rfl, World.ownsRow_nil _ _ _ _, fun g hg => (by cases hg)⟩)
  clear hk1
  go_wp2_with fail
  go_loopw [8, 9, 10] (fun v tv i wr => ∃ (k : Nat) (F : Nat → Prop) (S : List Strm) (L : List Rw) (t : Int), k ≤ n ∧ k ≤ 40 ∧ i = .int .i64 k ∧ tv = .int .i64 t ∧ Hid (FilledAt w wr w.heap.size F S L t v k)) (fun _ _ i _ => n - (intOf i).toNat)
  case atStart => exact ⟨0, _, [], [], 0, Nat.zero_le _, Nat.zero_le _, rfl, rfl, HF0⟩
  case round =>
    clear HF0
    obtain ⟨k, F, S, L, t, hk, hk40, rfl, rfl, HF⟩ := hrel
    by_cases hlt : k < n
    · by_cases hl40 : k < 40
      · obtain ⟨sb, so, rfl, hsb, a, b, c, r0, r1, r2, ⟨ra1, ra2⟩, ⟨rb1, rb2⟩, ⟨rc1, rc2⟩⟩ := unhide HR k hlt
        have hbel := (unhide HF).keep.bel
        have hszr := hbel.size
        have m0 := (hbel.cell (p := ⟨sb, so + k * 3, none⟩) hsb).trans r0
        have m1 := (hbel.cell (p := ⟨sb, so + k * 3 + 1, none⟩) hsb).trans r1
        have m2 := (hbel.cell (p := ⟨sb, so + k * 3 + 2, none⟩) hsb).trans r2
        clear r0 r1 r2
        have ht0 := (unhide HF).fill.t0
        have htl := (unhide HF).late
        have hpk := kpick_any b 4 wr rb1 rb2 (by omega) (by omega)
        have hpl := pickN_lt b (n := 4) (by omega)
        generalize pickN b 4 = d at *
        have hsw : sb < wr.heap.size := by omega
        have hki : (k : Int) < (n : Int) := by omega
        have hk4i : (k : Int) < 40 := by omega
        have HB0 := hide hbel
        clear hbel
        go_wp2_with fail
        refine hpk.mono ?_
        rintro e w2 ⟨rfl, hww⟩
        rw [hww]
        clear hww w2 hpk
        go_upto_region 10 with fail
        have hn1 : ∀ W, Below wr.heap.size wr W → Calls Tryz.prog 36 #[.int .i64 a] W fun e w' => e = .returned (SV (labK a)) ∧ Below wr.heap.size wr w' ∧ Hid (Below W.heap.size W w') :=
          fun W hW => (labels_any a W ra1 ra2).mono fun e w' hh => ⟨hh.1, callB hW hh.2, hh.2⟩
        have hn2 : ∀ W, Below wr.heap.size wr W → Calls Tryz.prog 37 #[.int .i64 c] W fun e w' => e = .returned (SV (saysK c)) ∧ Below wr.heap.size wr w' ∧ Hid (Below W.heap.size W w') :=
          fun W hW => (says_any c W rc1 rc2).mono fun e w' hh => ⟨hh.1, callB hW hh.2, hh.2⟩
        have HLM := hide (labK_mem a)
        have HSL := hide (saysK_len c)
        generalize labK a = lab at *
        generalize saysK c = line at *
        go_cut [11] from 35 to 48 (fun s wx => ∃ bx, s = .pointer (some ⟨bx, 0, none⟩) ∧ wr.heap.size ≤ bx ∧ bx < wx.heap.size ∧ (wx.cell? ⟨bx, 0, none⟩ = some (SV lab) ∧ wx.cell? ⟨bx, 1, none⟩ = some (.int .i64 (t + d)) ∧ wx.cell? ⟨bx, 2, none⟩ = some (SV line)) ∧ Below wr.heap.size wr wx)
        case first =>
          have HS := hide (And.intro m0 m2)
          have HB : ∀ W, Below wr.heap.size wr W → Hid (W.cell? ⟨sb, so + k * 3, none⟩ = some (.int .i64 a) ∧ W.cell? ⟨sb, so + k * 3 + 2, none⟩ = some (.int .i64 c)) :=
            fun W hW => ⟨(hW.cell (p := ⟨sb, so + k * 3, none⟩) hsw).trans m0, (hW.cell (p := ⟨sb, so + k * 3 + 2, none⟩) hsw).trans m2⟩
          clear m0 m1 m2
          go_region_held3 (fun W => W.cell? ⟨sb, so + k * 3, none⟩ = some (.int .i64 a) ∧ W.cell? ⟨sb, so + k * 3 + 2, none⟩ = some (.int .i64 c))
            (first | (with_reducible exact unhide HS) | exact unhide (HB _ (by repeat (first | with_reducible assumption | with_reducible exact Below.refl _ _ | with_reducible apply allocB | with_reducible apply drewB | (with_reducible refine setB ?_ _ _ (by dsimp only; omega))))))
            (first
              | (go_at_call 36; refine (hn1 _ (by repeat (first | with_reducible assumption | with_reducible exact Below.refl _ _ | with_reducible apply allocB | with_reducible apply drewB))).mono ?_; clear hn1; rintro e w5 ⟨rfl, hbw5, hb5⟩; have hz5 := hbw5.size; (try ((first | have z1 : Zr w5 wr.heap.size := zn1d hb5 | have z1 : Zr w5 wr.heap.size := zn1 hb5); obtain ⟨z1a, z1b, z1c, z1d, z1e, z1f, z1g⟩ := id z1; have z1' := hide z1; clear z1)))
              | (go_at_call 37; refine (hn2 _ (by repeat (first | with_reducible assumption | with_reducible exact Below.refl _ _ | with_reducible apply allocB | with_reducible apply drewB))).mono ?_; clear hn2; rintro e w6 ⟨rfl, hbw6, hb6⟩; have hz6 := hbw6.size; (try (have z5 : Zr w6 w5.heap.size := zn1 hb6; obtain ⟨z5a, z5b, z5c, z5d, z5e, z5f, z5g⟩ := id z5; have z5' := hide z5; clear z5)); (try (have z3 := zo0 z1' hb6; obtain ⟨z3a, z3b, z3c, z3d, z3e, z3f, z3g⟩ := id z3; have z3' := hide z3; clear z3))))
          all_goals (go_wp2_with fail; go_meet)
          all_goals refine ⟨_, rfl, by omega, ?_, ⟨?_, ?_, ?_⟩, ?_⟩
          all_goals try (go_cell)
          all_goals try (simp [World.setCell]; omega)
          all_goals try (repeat (first | with_reducible assumption | with_reducible exact Below.refl _ _ | with_reducible apply allocB | with_reducible apply drewB | (with_reducible refine setB ?_ _ _ (by dsimp only; omega))))
        case rest =>
          obtain ⟨bx, rfl, hbx1, hbx2, ⟨x0, x1, x2⟩, hbx⟩ := hcut
          have hfl := five_len lab (unhide HLM)
          have hpu := kpush_any lab line (t + d) ((unhide HF).keep.below hbx) (by omega) (by have := unhide HSL; omega)
          have HBX := hide hbx
          clear hn1 hn2 m0 m1 m2 hbx
          go_wp2_with fail
          refine hpu.mono ?_
          intro e w4 hP
          obtain ⟨rfl, F', S', q1, q2, q3, q4, q5, q6, q7⟩ := (unhide HF).pushed (unhide HBX) (unhide HLM) (by omega) (by omega) (unhide HSL) hl40 hP
          have qb := (q6 bx hbx1 hbx2).1
          have y0 := (World.cell?_of_block (a := ⟨bx, 0, none⟩) qb).trans x0
          have y1 := (World.cell?_of_block (a := ⟨bx, 1, none⟩) qb).trans x1
          have y2 := (World.cell?_of_block (a := ⟨bx, 2, none⟩) qb).trans x2
          have hln := (unhide HF).len
          have hsz4 := q1.bel.size
          have Q1 := hide q1
          have Q2 := hide q2
          have Q3 := hide q3
          have Q5 := hide q5
          have Q7 := hide q7
          have HLN := hide hln
          have hL40 : L.length < 40 := by omega
          obtain ⟨al, cl, rfl, -, -, -, -, -, -⟩ := owns_form q4
          clear hpu hP q1 q2 q3 q5 q6 q7 qb x0 x1 x2 hln HR
          go_wp2_with (at_builtin; refine wpList_append_at _ rfl _ _ 28 rfl w.heap.size 38 i0 _ 3 40 Tryz.underlying28 hi hz0 hz1 hz2 rfl (by decide) _ _ _ rfl (q4.alloc _) (some ⟨_, 0, none⟩) 1 1 [SV lab, .int .i64 (t + d), SV line] rfl rfl (by intro e; cases e) (cells_new _ _ _) (by intro u hu; simp at hu; rcases hu with rfl | rfl | rfl <;> rfl) (by unfold maxLen; omega) (by omega) (by simp; omega) ?_; intro v6 w6 hown6 hgrow6 hwh6; have HF6 := hide (FilledAt.more (unhide Q1) (unhide Q2) (unhide Q3) (unhide HLN) q4 (unhide Q5) (unhide Q7) hgrow6 hown6 hwh6); clear hgrow6 hown6 hwh6)
          go_roundw
          case rel => exact ⟨k + 1, F', S', _, t + d, by omega, by omega, by go_num, rfl, HF6⟩
          case measure => simp [intOf]; omega
      · have hk4i : ¬ (k : Int) < 40 := by omega
        have HFF := hide (show FillP w 40 (.returned (.tuple #[.pointer (some ⟨w.heap.size, 0, none⟩), u8, .bool true])) wr from ⟨_, F, S, L, t, u8, k, rfl, hk40, unhide HF⟩)
        clear HR
        go_wp2_with fail
        go_ret3
        exact unhide HFF
    · have HFF := hide (show FillP w 40 (.returned (.tuple #[.pointer (some ⟨w.heap.size, 0, none⟩), u8, .bool true])) wr from ⟨_, F, S, L, t, u8, k, rfl, hk40, unhide HF⟩)
      clear HR
      go_wp2_with fail
      go_ret3
      exact unhide HFF

end Go.Proofs.YtbljamcdaoofbaaGreatDoor

/- What every row of loamkeep needs: how raw lines read. -/
namespace Go.Proofs.YtbljamcdaoofbaaGreatDoor
open Go.ChangeShapes Go.WideShapes Go.ChangeAt Go.RowKit Go.Deep
namespace Own

theorem cellsRaw : Tryz.prog.cellsOf 75 = 3 := by kernel_rfl

set_option maxRecDepth 10000 in
theorem rawFit {H : Type} {enc : TypeId × Value → H} {W : World} {base n : Nat} {spare : Nat → Bool} {held : Bool} {sb so : Nat} {cs' : List Value} {y : DataW H × List MemPlace}
    (hc : W.cells? base ⟨sb, so, none⟩ 3 = some cs') (ht : DataW.trod enc Tryz.prog W base spare held n 75 cs' = some y) :
    ∃ a b c : Int, W.cell? ⟨sb, so, none⟩ = some (.int .i64 a) ∧ W.cell? ⟨sb, so + 1, none⟩ = some (.int .i64 b) ∧ W.cell? ⟨sb, so + 2, none⟩ = some (.int .i64 c) ∧
      (-9223372036854775808 ≤ a ∧ a ≤ 9223372036854775807) ∧ (-9223372036854775808 ≤ b ∧ b ≤ 9223372036854775807) ∧ (-9223372036854775808 ≤ c ∧ c ≤ 9223372036854775807) := by
  obtain ⟨_, hlen, hcell⟩ := World.cells?_some hc
  obtain ⟨xs, m, -, hy, -, hxl, hall⟩ := DataW.trod_struct Tryz.underlying75 ht
  match cs', hlen with
  | [v0, v1, v2], _ =>
  match xs, hxl with
  | [x0, x1, x2], _ =>
  have u0 : DataW.trod enc Tryz.prog W base spare held m 3 (List.take (Tryz.prog.cellsOf 3) (List.drop 0 [v0, v1, v2])) = some x0 := hall 0 _ rfl
  have u1 : DataW.trod enc Tryz.prog W base spare held m 3 (List.take (Tryz.prog.cellsOf 3) (List.drop 1 [v0, v1, v2])) = some x1 := hall 1 _ rfl
  have u2 : DataW.trod enc Tryz.prog W base spare held m 3 (List.take (Tryz.prog.cellsOf 3) (List.drop 2 [v0, v1, v2])) = some x2 := hall 2 _ rfl
  simp only [cellsInt, List.drop, List.take] at u0 u1 u2
  obtain ⟨a, e0, -, w0⟩ := DataW.trod_int Tryz.underlying3 u0
  obtain ⟨b, e1, -, w1⟩ := DataW.trod_int Tryz.underlying3 u1
  obtain ⟨c, e2, -, w2⟩ := DataW.trod_int Tryz.underlying3 u2
  simp only [List.cons.injEq, and_true] at e0 e1 e2
  subst e0 e1 e2
  have c0 := hcell 0 (by omega)
  have c1 := hcell 1 (by omega)
  have c2 := hcell 2 (by omega)
  rw [add_plain] at c0 c1 c2
  exact ⟨a, b, c, c0, c1, c2, wf_range w0, wf_range w1, wf_range w2⟩

set_option maxRecDepth 10000 in
theorem rawAt {H : Type} {enc : TypeId × Value → H} {W : World} {fuel : Nat} {a0 : Option Addr} {len cap : Nat} {y : DataW H × List MemPlace}
    (hf : DataW.trod enc Tryz.prog W 0 (fun _ => true) true fuel 25 (Value.slice a0 len cap).cells.toList = some y) : RawAt W a0 len := by
  rcases open_slice Tryz.underlying25 hf with ⟨hcs, hx⟩ | ⟨a, len', cap', m, n, D, Pl, hcs, _, hl, hm, hmm, hx, hel⟩
  · simp [Value.cells] at hcs
    obtain ⟨rfl, rfl, rfl⟩ := hcs
    exact fun i hi => by omega
  · simp [Value.cells] at hcs
    obtain ⟨rfl, rfl, rfl⟩ := hcs
    simp only [if_true] at hmm
    subst hmm
    intro i hi
    obtain ⟨cs', hc, htr⟩ := hel i (by omega)
    rw [cellsRaw] at hc
    obtain ⟨sb, so, spot⟩ := a
    have hspot : spot = none := by
      obtain ⟨cz, hz, -⟩ := hel 0 (by omega)
      rw [cellsRaw] at hz
      obtain ⟨_, hz8, hzc⟩ := World.cells?_some hz
      have hz0 := hzc 0 (by omega)
      rw [List.getElem?_eq_getElem (by omega)] at hz0
      simpa [Addr.add] using World.cell?_spot hz0
    subst hspot
    obtain ⟨_, hlen8, hcell⟩ := World.cells?_some hc
    have h00 := hcell 0 (by omega)
    rw [List.getElem?_eq_getElem (by omega)] at h00
    rw [add_plain] at hc h00
    rw [add_plain] at h00
    exact ⟨sb, so, rfl, World.block_lt_of_cell? W _ h00, rawFit hc htr⟩

end Own
end Go.Proofs.YtbljamcdaoofbaaGreatDoor
