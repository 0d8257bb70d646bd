/- Texts LabelEq, RefDrop, PStore, RAsks, joined. -/
import Derived.Test.YtbljamcdaoofbaaGreatDoorRParseToLabel
import Derived.Test.YtbljamcdaoofbaaGreatDoorParseToRefRest
import Derived.Deep.CutRange
import Derived.Deep.RegionLaw
/- The program's look at labels and the reference's come to one. -/
namespace Go.Proofs.YtbljamcdaoofbaaGreatDoor

theorem foldl_cut (c : UInt8) (l : List UInt8) : ∀ (d : List (List UInt8)) (cur : List UInt8),
    l.foldl (fun st x => if x = c then (st.1 ++ [st.2], []) else (st.1, st.2 ++ [x])) (d, cur) =
      (d ++ (match cutSt c l with | ([], _) => ([] : List (List UInt8)) | (x :: xs, _) => (cur ++ x) :: xs), match cutSt c l with | ([], y) => cur ++ y | (_ :: _, y) => y) := by
  induction l with
  | nil => intro d cur; simp [cutSt]
  | cons x l ih =>
    intro d cur
    rw [List.foldl_cons]
    by_cases h : x = c
    · rw [if_pos h, ih]
      have h2 : cutSt c (x :: l) = ([] :: (match cutSt c l with | ([], _) => ([] : List (List UInt8)) | (x :: xs, _) => ([] ++ x) :: xs), match cutSt c l with | ([], y) => [] ++ y | (_ :: _, y) => y) := by
        rw [cutSt, List.foldl_cons, if_pos h, ih]; simp
      rw [h2]
      simp
    · rw [if_neg h, ih]
      have h2 : cutSt c (x :: l) = ((match cutSt c l with | ([], _) => ([] : List (List UInt8)) | (z :: xs, _) => ([x] ++ z) :: xs), match cutSt c l with | ([], y) => [x] ++ y | (_ :: _, y) => y) := by
        rw [cutSt, List.foldl_cons, if_neg h, ih]; simp
      rw [h2]
      rcases cutSt c l with ⟨_ | ⟨z, xs⟩, y⟩ <;> simp

/-- the pieces of a text: the first one, and those of what is behind it -/
theorem cutL_cons_hit (c : UInt8) (l : List UInt8) : cutL c (c :: l) = [] :: cutL c l := by
  have h2 : cutSt c (c :: l) = ([] :: (match cutSt c l with | ([], _) => ([] : List (List UInt8)) | (x :: xs, _) => ([] ++ x) :: xs), match cutSt c l with | ([], y) => [] ++ y | (_ :: _, y) => y) := by
    rw [cutSt, List.foldl_cons, if_pos rfl, foldl_cut]; simp
  rw [cutL, cutL, h2]
  rcases cutSt c l with ⟨_ | ⟨z, xs⟩, y⟩ <;> simp
theorem cutL_cons_miss (c x : UInt8) (l : List UInt8) (h : x ≠ c) : cutL c (x :: l) = match cutL c l with | [] => [] | y :: ys => (x :: y) :: ys := by
  have h2 : cutSt c (x :: l) = ((match cutSt c l with | ([], _) => ([] : List (List UInt8)) | (z :: xs, _) => ([x] ++ z) :: xs), match cutSt c l with | ([], y) => [x] ++ y | (_ :: _, y) => y) := by
    rw [cutSt, List.foldl_cons, if_neg h, foldl_cut]; simp
  rw [cutL, cutL, h2]
  rcases cutSt c l with ⟨_ | ⟨z, xs⟩, y⟩ <;> simp

theorem cutL_cut1 (c : UInt8) (l : List UInt8) : cutL c l = (cut1 c l).1 :: (if (cut1 c l).2.2 then cutL c (cut1 c l).2.1 else []) := by
  induction l with
  | nil => simp [cut1, cutL, cutSt]
  | cons x l ih =>
    by_cases h : x = c
    · subst h
      rw [cutL_cons_hit]
      simp [cut1]
    · rw [cutL_cons_miss c x l h, ih]
      simp [cut1, h]

/-- what stands behind a sign that may not be in a value: it is none, if that sign stands there again -/
theorem cut1_not_word (c : UInt8) (l : List UInt8) (hc : wordC true c = false) (h : (cut1 c l).2.2 = true) : wordB true l = false := by
  have hm : ∀ l : List UInt8, (cut1 c l).2.2 = true → c ∈ l := by
    intro l
    induction l with
    | nil => simp [cut1]
    | cons x l ih =>
      intro h
      by_cases e : x = c
      · simp [e]
      · simp [cut1, e] at h
        exact List.mem_cons_of_mem _ (ih h)
  have : l.all (wordC true) = false := by
    rw [Bool.eq_false_iff]
    intro hh
    rw [List.all_eq_true] at hh
    have := hh _ (hm l h)
    rw [hc] at this; cases this
  simp [wordB, this]

theorem pairL_eq (p : List UInt8) : (pairL p).2.2 = ((cut1 61 p).2.2 && wordB false (cut1 61 p).1 && wordB true (cut1 61 p).2.1) ∧ ((pairL p).2.2 = true → (pairL p).1 = (cut1 61 p).1) := by
  unfold pairL
  rw [cutL_cut1]
  generalize hq : cut1 61 p = q
  obtain ⟨q1, q2, q3⟩ := q
  cases q3
  · simp
  · simp only [if_true]
    rw [cutL_cut1]
    cases h : (cut1 61 q2).2.2
    · have hr : (cut1 61 q2).1 = q2 := by
        rcases cut1_index 61 q2 with ⟨_, h2⟩ | ⟨i, _, _, h3⟩
        · rw [h2]
        · rw [h3] at h; cases h
      simp [hr]
    · have hn := cut1_not_word 61 q2 (by decide) h
      have hne : ∃ z zs, cutL 61 (cut1 61 q2).2.1 = z :: zs := ⟨_, _, cutL_cut1 _ _⟩
      obtain ⟨z, zs, hz⟩ := hne
      simp [hz, hn]

theorem less_nil (a : List UInt8) : Op.bytesLess a [] = false := by cases a <;> rfl

theorem wordB_ne {dg : Bool} {a : List UInt8} (h : wordB dg a = true) : (a == ([] : List UInt8)) = false := by
  cases a with
  | nil => simp [wordB] at h
  | cons x a => rfl

/-- with n pairs yet: the program's look is the reference's, and that there are not more -/
theorem valid_eq (n : Nat) : ∀ (first : Bool) (prev text : List UInt8), (first = true → prev = []) →
    validGo n prev text = (labelsGo first prev (cutL 44 text) && decide ((cutL 44 text).length ≤ n)) := by
  induction n with
  | zero =>
    intro first prev text _
    have : ¬ (cutL 44 text).length ≤ 0 := by simp [cutL]
    simp [validGo, this]
  | succ n ih =>
    intro first prev text hf
    rw [validGo_succ, cutL_cut1 44 text]
    generalize cut1 44 text = P
    obtain ⟨p1, p2, p3⟩ := P
    obtain ⟨e1, e2⟩ := pairL_eq p1
    simp only [labelsGo]
    generalize cut1 61 p1 = Q at *
    obtain ⟨q1, q2, q3⟩ := Q
    simp only at e1 e2
    cases hok : (pairL p1).2.2
    · rw [hok] at e1
      have : validStep n prev (p1, p2, p3) (q1, q2, q3) = false := by
        unfold validStep
        rw [if_pos]
        revert e1
        cases q3 <;> cases wordB false q1 <;> cases wordB true q2 <;> simp
      rw [this]
      simp
    · rw [hok] at e1
      have hn := e2 hok
      have h3 : q3 = true := by revert e1; cases q3 <;> simp
      have h1 : wordB false q1 = true := by revert e1; cases wordB false q1 <;> simp
      have h2 : wordB true q2 = true := by revert e1; cases wordB true q2 <;> simp
      subst h3
      rw [hn]
      by_cases hb : (Op.bytesLess q1 prev || (q1 == prev)) = true
      · have hff : first = false := by
          cases first with
          | false => rfl
          | true =>
            rw [hf rfl, less_nil, wordB_ne h1] at hb
            cases hb
        rw [validStep_bad h1 h2 (by simpa using hb), if_pos (by rw [hff]; simp [hb])]
        simp
      · have hb' : Op.bytesLess q1 prev = false ∧ (q1 == prev) = false := by
          revert hb
          cases Op.bytesLess q1 prev <;> cases (q1 == prev) <;> simp
        rw [if_neg (by rw [hb'.1, hb'.2]; simp)]
        cases p3
        · rw [validStep_end h1 h2 hb']
          simp [labelsGo]
        · rw [validStep_more h1 h2 hb', ih false q1 p2 (by simp)]
          simp

theorem valid_labels (l : List UInt8) : validGo 4 [] l = labelsB l := valid_eq 4 true [] l (fun _ => rfl)

end Go.Proofs.YtbljamcdaoofbaaGreatDoor

/- The reference's Streams and Drop. -/
namespace Go.Proofs.YtbljamcdaoofbaaGreatDoor
open Go.RowKit

def streamsR (S : List Strm) : List (List UInt8) := S.foldl (fun l x => putL l x.1) []

theorem putL_len (l : List (List UInt8)) (s : List UInt8) : (putL l s).length ≤ l.length + 1 := by
  unfold putL
  split
  · omega
  · simp; omega

theorem streamsR_snoc (S : List Strm) (k : Nat) (h : k < S.length) : streamsR (S.take (k + 1)) = putL (streamsR (S.take k)) S[k].1 := by
  rw [List.take_succ_eq_append_getElem h, streamsR, List.foldl_append]
  rfl
theorem streamsR_len (S : List Strm) : (streamsR S).length ≤ S.length := by
  suffices ∀ l : List (List UInt8), (S.foldl (fun l x => putL l x.1) l).length ≤ l.length + S.length by simpa [streamsR] using this []
  induction S with
  | nil => intro l; simp
  | cons x S ih =>
    intro l
    rw [List.foldl_cons]
    have := ih (putL l x.1)
    have := putL_len l x.1
    simp only [List.length_cons]
    omega

set_option maxRecDepth 10000 in
set_option maxHeartbeats 2000000 in
theorem refStreams_any {F : Nat → Prop} {p : Nat} {S : List Strm} {L : List Rw} {vS vL : Value} (w : World) (hr : RefAt w F p S L vS vL) (hS : S.length ≤ 6) :
    Calls Tryz.prog 91 #[.pointer (some ⟨p, 0, none⟩)] w fun e w' => ∃ v, e = .returned v ∧ w'.ownsRow w.heap.size 9 1 v (streamsR S).length ((streamsR S).map SV) ∧ Below w.heap.size w w' := by
  have hpl : p < w.heap.size := (Array.getElem?_eq_some_iff.1 hr.block).1
  obtain ⟨ao, cap, rfl, hnc, hcm, hnil, hao, hcell, hfz⟩ := owns_form hr.rowS
  obtain ⟨c0, -, -⟩ := cell_of_block2 hr.block
  have HN := hide hnil
  have HA := hide hao
  have HC := hide hcell
  have HC0 := hide c0
  clear hr hfz hnil hao hcell c0
  go_enter Tryz.func91, Tryz.ntmps91
  go_wp2
  go_loopw [3, 4] (fun v i wr => ∃ k : Nat, k ≤ S.length ∧ i = .int .i64 k ∧ wr.ownsRow w.heap.size 9 1 v (streamsR (S.take k)).length ((streamsR (S.take k)).map SV) ∧ Below w.heap.size w wr) (fun _ i _ => S.length - (intOf i).toNat)
  case atStart => exact ⟨0, Nat.zero_le _, rfl, World.ownsRow_nil _ _ _ _, Below.refl _ _⟩
  case round =>
    obtain ⟨k, hk, rfl, hown, hbel⟩ := hrel
    have cr : wr.cell? ⟨p, 0, none⟩ = some (.slice ao S.length cap) := (hbel.cell (by exact hpl)).trans (unhide HC0)
    by_cases hlt : k < S.length
    · obtain ⟨⟨g, o, sp⟩, rfl⟩ : ∃ a, ao = some a := by
        cases ao with
        | none => have := (unhide HN rfl).1; omega
        | some a => exact ⟨a, rfl⟩
      obtain ⟨ho, hsp, -, hgw⟩ := unhide HA _ rfl
      simp only at ho hsp hgw
      subst ho hsp
      have hc : wr.cell? ⟨g, k * 2, none⟩ = some (SV S[k].1) := by
        rw [hbel.cell (by exact hgw), unhide HC _ rfl (k * 2) (by omega), (cellsS_at S k hlt).1]
      have hlen := streamsR_len (S.take k)
      rw [List.length_take] at hlen
      have HS := hide (streamsR_snoc S k hlt)
      generalize streamsR (S.take k) = R at *
      have hsz := hbel.size
      obtain ⟨ar, capr, rfl, -, -, -, -, -, -⟩ := owns_form hown
      go_wp2_with fail
      refine (put_l R _ S[k].1 _ w.heap.size hsz hown (by omega)).mono ?_
      rintro e w1 ⟨v', rfl, hown1, hb1⟩
      go_wp2
      go_roundw
      case rel => exact ⟨k + 1, by omega, by go_num, by rw [unhide HS]; exact hown1, hbel.trans (hb1.mono hsz)⟩
      case measure => simp [intOf]; omega
    · go_wp2
      go_ret
      refine ⟨_, rfl, ?_, hbel⟩
      rw [List.take_of_length_le (by omega)] at hown
      exact hown

def dropR (L : List Rw) (b : Int) : Int × Int × List Rw :=
  if timeB b = false then (0, 2, L) else ((L.length : Int) - (L.filter (fun x => decide (b ≤ x.2.1))).length, 0, L.filter (fun x => decide (b ≤ x.2.1)))

theorem filter_snoc (L : List Rw) (b : Int) (k : Nat) (h : k < L.length) : (L.take (k + 1)).filter (fun x => decide (b ≤ x.2.1)) = (L.take k).filter (fun x => decide (b ≤ x.2.1)) ++ if b ≤ L[k].2.1 then [L[k]] else [] := by
  rw [List.take_succ_eq_append_getElem h, List.filter_append]
  congr 1
  by_cases hb : b ≤ L[k].2.1 <;> simp [hb]

theorem RefAt.setL {w w0 : World} {F : Nat → Prop} {p : Nat} {S : List Strm} {L L' : List Rw} {vS vL v' : Value} (h : RefAt w F p S L vS vL) (hb : Below w.heap.size w w0)
    (ho : w0.ownsRow w.heap.size 38 3 v' L'.length (L'.flatMap cellsR)) :
    RefAt (w0.setCell ⟨p, 1, none⟩ v') (Plus F w) p S L' vS v' ∧ Moved F w (w0.setCell ⟨p, 1, none⟩ v') := by
  have hpl := (Array.getElem?_eq_some_iff.1 h.block).1
  have hp2 : w0.heap[p]? = some (.cells #[vS, vL] 114 (0, 0)) := by rw [hb.block p hpl]; exact h.block
  refine ⟨⟨block2_set1 hp2 v', ?_, ?_, .inl h.inF, fun g hg => .inl (h.inS g hg), fun g hg => .inr (ho.lt g hg).1⟩, (Moved.of_below hb).setCell (.inl h.inF) _⟩
  · refine ownsRow_same h.rowS fun g hgo => ?_
    obtain ⟨hgl, cur, hc⟩ := ownsRow_type h.rowS hgo
    rw [Go.RowKit.Below.heap_setCell _ _ _ _ (ne_of_type hc h.block (by decide)), hb.block g hgl]
  · refine ownsRow_same (ownsRow_base ho (Nat.zero_le _)) fun g hgo => Go.RowKit.Below.heap_setCell _ _ _ _ ?_
    have := (ho.lt g hgo).1
    show g ≠ p
    omega

set_option maxRecDepth 10000 in
set_option maxHeartbeats 4000000 in
theorem refDrop_any {F : Nat → Prop} {p : Nat} {S : List Strm} {L : List Rw} {vS vL : Value} (b : Int) (w : World) (hr : RefAt w F p S L vS vL) (hL : L.length ≤ 300) :
    Calls Tryz.prog 59 #[.pointer (some ⟨p, 0, none⟩), .int .i64 b] w fun e w' => e = .returned (.tuple #[.int .i64 (dropR L b).1, .int .i64 (dropR L b).2.1]) ∧ (∃ vS' vL', RefAt w' (Plus F w) p S (dropR L b).2.2 vS' vL') ∧ Moved F w w' := by
  have hpl : p < w.heap.size := (Array.getElem?_eq_some_iff.1 hr.block).1
  obtain ⟨i1, hi1, hz1, hs1, hb1⟩ := info_parts Tryz.info38
  generalize hres : dropR L b = res
  have HR := hide hres
  clear hres
  have hr0 := hr
  obtain ⟨ao, cap, rfl, hnc, hcm, hnil, hao, hcell, hfz⟩ := owns_form hr.rowL
  obtain ⟨-, c1, fp⟩ := cell_of_block2 hr.block
  have HN := hide hnil
  have HA := hide hao
  have HC := hide hcell
  have HC1 := hide c1
  have HF := hide fp
  clear hr hfz hnil hao hcell c1 fp
  go_enter Tryz.func59, Tryz.ntmps59
  go_wp2_with fail
  refine (times_any b _).mono ?_
  rintro e w1 ⟨rfl, rfl⟩
  cases h2 : timeB b with
  | false =>
    go_wp2
    go_ret2
    rw [← unhide HR, dropR, if_pos h2]
    exact ⟨rfl, ⟨_, _, hr0.weaken (fun _ h => .inl h)⟩, Moved.refl _ _⟩
  | true =>
    have hd : dropR L b = ((L.length : Int) - (L.filter (fun x => decide (b ≤ x.2.1))).length, 0, L.filter (fun x => decide (b ≤ x.2.1))) := by rw [dropR, if_neg (by simp [h2])]
    have HD := hide (hd.symm.trans (unhide HR))
    clear hd HR h2
    go_wp2
    go_loopw [7, 8] (fun v i wr => ∃ k : Nat, k ≤ L.length ∧ i = .int .i64 k ∧ wr.ownsRow w1.heap.size 38 3 v ((L.take k).filter (fun x => decide (b ≤ x.2.1))).length (((L.take k).filter (fun x => decide (b ≤ x.2.1))).flatMap cellsR) ∧ Below w1.heap.size w1 wr) (fun _ i _ => L.length - (intOf i).toNat)
    case atStart => exact ⟨0, Nat.zero_le _, rfl, World.ownsRow_nil _ _ _ _, Below.refl _ _⟩
    case round =>
      obtain ⟨k, hk, rfl, hown, hbel⟩ := hrel
      have cr : wr.cell? ⟨p, 1, none⟩ = some (.slice ao L.length cap) := (hbel.cell (by exact hpl)).trans (unhide HC1)
      have hsz := hbel.size
      by_cases hlt : k < L.length
      · obtain ⟨⟨g, o, sp⟩, rfl⟩ : ∃ a, ao = some a := by
          cases ao with
          | none => have := (unhide HN rfl).1; omega
          | some a => exact ⟨a, rfl⟩
        obtain ⟨ho, hsp, -, hgw⟩ := unhide HA _ rfl
        simp only at ho hsp hgw
        subst ho hsp
        obtain ⟨e0, e1, e2⟩ := cellsR_at L k hlt
        have hc0 : wr.cell? ⟨g, k * 3, none⟩ = some (SV L[k].1) := by
          rw [hbel.cell (by exact hgw), unhide HC _ rfl (k * 3) (by omega), e0]
        have hc1 : wr.cell? ⟨g, k * 3 + 1, none⟩ = some (.int .i64 L[k].2.1) := by
          rw [hbel.cell (by exact hgw), unhide HC _ rfl (k * 3 + 1) (by omega), e1]
        have hc2 : wr.cell? ⟨g, k * 3 + 2, none⟩ = some (SV L[k].2.2) := by
          rw [hbel.cell (by exact hgw), unhide HC _ rfl (k * 3 + 2) (by omega), e2]
        clear e0 e1 e2
        have HS := hide (filter_snoc L b k hlt)
        have hfl := List.length_filter_le (fun x : Rw => decide (b ≤ x.2.1)) (L.take k)
        rw [List.length_take] at hfl
        generalize (L.take k).filter (fun x => decide (b ≤ x.2.1)) = R at *
        by_cases hb : b ≤ L[k].2.1
        · go_wp2_with (at_builtin; refine wpList_append_at _ rfl (.tmp 33) (.tmp 41) 28 rfl w1.heap.size 38 i1 (.agg #[.string ByteArray.empty, .int .i64 0, .string ByteArray.empty]) 3 40 Tryz.underlying28 hi1 hz1 hs1 hb1 rfl (by decide) _ _ _ rfl (hown.alloc _) (some ⟨wr.heap.size, 0, none⟩) 1 1 (cellsR L[k]) rfl rfl (by intro e; cases e) (cells_new wr _ _) (by intro u hu; simp [cellsR] at hu; rcases hu with rfl | rfl | rfl <;> rfl) (by unfold maxLen; omega) (by omega) (by simp; omega) ?_; intro v2 w4 hown4 hgrow4 hwh4; have hb4 := (hbel.alloc hsz (.cells (cellsR L[k]).toArray 38)).grown hgrow4 (by simp; omega) (fun k hk => (hown.lt k hk).1); clear hgrow4 hwh4)
          go_roundw
          case rel =>
            refine ⟨k + 1, by omega, by go_num, ?_, hb4⟩
            rw [unhide HS, if_pos hb, List.length_append, List.flatMap_append]
            simpa using hown4
          case measure => simp [intOf]; omega
        · go_wp2
          go_roundw
          case rel =>
            refine ⟨k + 1, by omega, by go_num, ?_, hbel⟩
            rw [unhide HS, if_neg (by omega), List.append_nil]
            exact hown
          case measure => simp [intOf]; omega
      · rw [List.take_of_length_le (by omega)] at hown
        have hfl := List.length_filter_le (fun x : Rw => decide (b ≤ x.2.1)) L
        obtain ⟨hrf, hmf⟩ := hr0.setL hbel hown
        have HRF := hide hrf
        have HMF := hide hmf
        have hf : wr.frozen? ⟨p, 1, none⟩ = false := (hbel.frozen (by exact hpl)).trans (unhide HF 1)
        generalize L.filter (fun x => decide (b ≤ x.2.1)) = R at *
        obtain ⟨ar, capr, rfl, -, -, -, -, -, -⟩ := owns_form hown
        clear hrf hmf hown
        go_wp2
        go_ret2
        rw [← unhide HD]
        exact ⟨rfl, ⟨_, _, unhide HRF⟩, unhide HMF⟩

end Go.Proofs.YtbljamcdaoofbaaGreatDoor

/- The program's store in memory; its small calls. -/
namespace Go.Proofs.YtbljamcdaoofbaaGreatDoor
open Go.RowKit

abbrev Ln := Int × List UInt8
def cellsN (x : Ln) : List Value := [.int .i64 x.1, SV x.2]

/-- a stream of the program: its block, its labels, the greatest time, its lines, the slice that holds them -/
structure Node where
  blk : Nat
  lab : List UInt8
  latest : Int
  lines : List Ln
  vl : Value

structure NodeAt (w : World) (n : Node) : Prop where
  block : w.heap[n.blk]? = some (.cells #[SV n.lab, .int .i64 n.latest, n.vl] 118 (0, 0))
  row : w.ownsRow 0 108 2 n.vl n.lines.length (n.lines.flatMap cellsN)

def ptr (n : Node) : Value := .pointer (some ⟨n.blk, 0, none⟩)

def apart (a b : Node) : Prop := a.blk ≠ b.blk ∧ ∀ g, a.vl.ownBlock = some g → b.vl.ownBlock ≠ some g

/-- The program's store lies at block p, with its streams ns; all its blocks are among F. -/
structure StoreAt (w : World) (F : Nat → Prop) (p : Nat) (ns : List Node) (va : Value) : Prop where
  block : w.heap[p]? = some (.cells #[va] 78 (0, 0))
  row : w.ownsRow 0 79 1 va ns.length (ns.map ptr)
  nodes : ∀ n ∈ ns, NodeAt w n
  apart : ns.Pairwise apart
  inF : F p
  inA : ∀ g, va.ownBlock = some g → F g
  inN : ∀ n ∈ ns, F n.blk ∧ ∀ g, n.vl.ownBlock = some g → F g

theorem NodeAt.lt {w : World} {n : Node} (h : NodeAt w n) : n.blk < w.heap.size := (Array.getElem?_eq_some_iff.1 h.block).1

theorem NodeAt.keep {w w' : World} {n : Node} (h : NodeAt w n) (hb : w'.heap[n.blk]? = w.heap[n.blk]?) (hr : ∀ g, n.vl.ownBlock = some g → w'.heap[g]? = w.heap[g]?) : NodeAt w' n :=
  ⟨by rw [hb]; exact h.block, ownsRow_same h.row hr⟩

theorem StoreAt.lt {w : World} {F : Nat → Prop} {p : Nat} {ns : List Node} {va : Value} (h : StoreAt w F p ns va) : p < w.heap.size := (Array.getElem?_eq_some_iff.1 h.block).1

theorem StoreAt.keep {w w' : World} {F : Nat → Prop} {p : Nat} {ns : List Node} {va : Value} (h : StoreAt w F p ns va)
    (hk : ∀ b, b < w.heap.size → F b → w'.heap[b]? = w.heap[b]?) : StoreAt w' F p ns va := by
  refine ⟨?_, ?_, ?_, h.apart, h.inF, h.inA, h.inN⟩
  · rw [hk p h.lt h.inF]; exact h.block
  · exact ownsRow_same h.row fun g hg => hk g (ownsRow_type h.row hg).1 (h.inA g hg)
  · intro n hn
    exact (h.nodes n hn).keep (hk _ (h.nodes n hn).lt (h.inN n hn).1) fun g hg => hk g (ownsRow_type (h.nodes n hn).row hg).1 ((h.inN n hn).2 g hg)

theorem StoreAt.weaken {w : World} {F G : Nat → Prop} {p : Nat} {ns : List Node} {va : Value} (h : StoreAt w F p ns va) (hFG : ∀ b, F b → G b) : StoreAt w G p ns va :=
  ⟨h.block, h.row, h.nodes, h.apart, hFG _ h.inF, fun g hg => hFG _ (h.inA g hg), fun n hn => ⟨hFG _ (h.inN n hn).1, fun g hg => hFG _ ((h.inN n hn).2 g hg)⟩⟩

theorem cell_of_block1 {w : World} {p : Nat} {v0 : Value} {t : TypeId} (h : w.heap[p]? = some (.cells #[v0] t (0, 0))) :
    w.cell? ⟨p, 0, none⟩ = some v0 ∧ (∀ j, w.frozen? ⟨p, j, none⟩ = false) :=
  ⟨by simp [World.cell?, h], fun j => by simp [World.frozen?, h]⟩
theorem cell_of_block3 {w : World} {p : Nat} {v0 v1 v2 : Value} {t : TypeId} (h : w.heap[p]? = some (.cells #[v0, v1, v2] t (0, 0))) :
    w.cell? ⟨p, 0, none⟩ = some v0 ∧ w.cell? ⟨p, 1, none⟩ = some v1 ∧ w.cell? ⟨p, 2, none⟩ = some v2 ∧ (∀ j, w.frozen? ⟨p, j, none⟩ = false) :=
  ⟨by simp [World.cell?, h], by simp [World.cell?, h], by simp [World.cell?, h], fun j => by simp [World.frozen?, h]⟩

theorem ptr_at {ns : List Node} {k : Nat} (h : k < ns.length) : (ns.map ptr)[k]? = some (.pointer (some ⟨ns[k].blk, 0, none⟩)) := by simp [h, ptr]

set_option maxHeartbeats 400000 in
theorem sLabels_any {w : World} {n : Node} (h : NodeAt w n) :
    Calls Tryz.prog 38 #[.pointer (some ⟨n.blk, 0, none⟩)] w fun e w' => e = .returned (.string ⟨n.lab.toArray⟩) ∧ w' = w := by
  obtain ⟨c0, c1, c2, fz⟩ := cell_of_block3 h.block
  go_enter Tryz.func38, Tryz.ntmps38
  go_wp2
  go_ret
  exact ⟨rfl, rfl⟩

set_option maxHeartbeats 400000 in
theorem sLen_any {w : World} {n : Node} (h : NodeAt w n) :
    Calls Tryz.prog 107 #[.pointer (some ⟨n.blk, 0, none⟩)] w fun e w' => e = .returned (.int .i64 n.lines.length) ∧ w' = w := by
  obtain ⟨c0, c1, c2, fz⟩ := cell_of_block3 h.block
  obtain ⟨ao, cap, hv, -, -, -, -, -, -⟩ := owns_form h.row
  rw [hv] at c2
  clear hv
  go_enter Tryz.func107, Tryz.ntmps107
  go_wp2
  go_ret
  exact ⟨rfl, rfl⟩

set_option maxHeartbeats 400000 in
theorem sTakes_any {w : World} {n : Node} (t : Int) (h : NodeAt w n) :
    Calls Tryz.prog 77 #[.pointer (some ⟨n.blk, 0, none⟩), .int .i64 t] w fun e w' => e = .returned (.bool (decide (n.latest ≤ t))) ∧ w' = w := by
  obtain ⟨c0, c1, c2, fz⟩ := cell_of_block3 h.block
  go_enter Tryz.func77, Tryz.ntmps77
  go_wp2
  go_ret
  exact ⟨rfl, rfl⟩

set_option maxHeartbeats 400000 in
theorem find1_any {w : World} {n : Node} (l : List UInt8) (h : NodeAt w n) :
    Calls Tryz.prog 75 #[.pointer (some ⟨n.blk, 0, none⟩), .string ⟨l.toArray⟩] w fun e w' => e = .returned (.int .i64 (Lib.compareBytes n.lab l)) ∧ w' = w := by
  go_enter Tryz.func75, Tryz.ntmps75
  go_wp2_with fail
  refine (sLabels_any h).mono ?_
  rintro e w1 ⟨rfl, rfl⟩
  go_wp2_with fail
  refine (compare_any n.lab l _).mono ?_
  rintro e w2 ⟨rfl, rfl⟩
  go_wp2
  go_ret
  exact ⟨rfl, rfl⟩

set_option maxRecDepth 10000 in
set_option maxHeartbeats 400000 in
theorem isTime_any (t : Int) (w : World) :
    Calls Tryz.prog 43 #[.int .i64 t] w fun e w' => e = .returned (.bool (timeB t)) ∧ w' = w := by
  by_cases h : 0 ≤ t
  all_goals
    go_enter Tryz.func43, Tryz.ntmps43
    go_wp2
    go_ret
    exact ⟨by simp [timeB, h]; try omega, rfl⟩

def checkL (l : List UInt8) (t : Int) (x : List UInt8) : Int :=
  if labelsB l = false then 1 else if timeB t = false then 2 else if 40 < x.length then 3 else 0

set_option maxRecDepth 10000 in
set_option maxHeartbeats 400000 in
theorem checkLine_any (l x : List UInt8) (t : Int) (w : World) (hl : l.length ≤ 1048576) (hx : x.length ≤ 1048576) :
    Calls Tryz.prog 45 #[.string ⟨l.toArray⟩, .int .i64 t, .string ⟨x.toArray⟩] w fun e w' => e = .returned (.int .i64 (checkL l t x)) ∧ ∃ n, w' = w.drewN n := by
  go_enter Tryz.func45, Tryz.ntmps45
  go_wp2_with fail
  refine (pValid_any l _ hl).mono ?_
  rintro e w1 ⟨rfl, n, rfl⟩
  rw [valid_labels]
  cases h1 : labelsB l with
  | false =>
    go_wp2
    go_ret
    exact ⟨ret_int (by rw [checkL, if_pos h1]), n, rfl⟩
  | true =>
    go_wp2_with fail
    refine (isTime_any t _).mono ?_
    rintro e w2 ⟨rfl, rfl⟩
    cases h2 : timeB t with
    | false =>
      go_wp2
      go_ret
      exact ⟨ret_int (by rw [checkL, if_neg (by simp [h1]), if_pos h2]), n, rfl⟩
    | true =>
      by_cases h3 : (40 : Int) < x.length
      · go_wp2
        go_ret
        exact ⟨ret_int (by rw [checkL, if_neg (by simp [h1]), if_neg (by simp [h2]), if_pos (by omega)]), n, rfl⟩
      · go_wp2
        go_ret
        exact ⟨ret_int (by rw [checkL, if_neg (by simp [h1]), if_neg (by simp [h2]), if_neg (by omega)]), n, rfl⟩

end Go.Proofs.YtbljamcdaoofbaaGreatDoor

/- The reference's asks. -/
namespace Go.Proofs.YtbljamcdaoofbaaGreatDoor
open Go.RowKit

def okM (lab : List UInt8) (m : Mch) : Bool := !((valueL m.name (cutL 44 lab) == m.value) == m.neg)
def okF (line : List UInt8) (f : Flt) : Bool := !(hasB line f.text == f.neg)
def asksB (M : List Mch) (Fs : List Flt) (lab line : List UInt8) : Bool := M.all (okM lab) && Fs.all (okF line)

theorem cellsRM_at (L : List Mch) (k : Nat) (h : k < L.length) : (L.flatMap cellsRM)[k * 3]? = some (SV L[k].name) ∧ (L.flatMap cellsRM)[k * 3 + 1]? = some (SV L[k].value) ∧ (L.flatMap cellsRM)[k * 3 + 2]? = some (.bool L[k].neg) := by
  induction L generalizing k with
  | nil => simp at h
  | cons x S ih =>
    rw [List.flatMap_cons]
    cases k with
    | zero => simp [cellsRM]
    | succ k =>
      have := ih k (by simpa using h)
      simp only [cellsRM, List.cons_append, List.nil_append, Nat.add_mul, Nat.one_mul, List.getElem?_cons_succ, List.getElem_cons_succ] at this ⊢
      exact this
theorem cellsRF_at (L : List Flt) (k : Nat) (h : k < L.length) : (L.flatMap cellsRF)[k * 3 + 1]? = some (SV L[k].text) ∧ (L.flatMap cellsRF)[k * 3 + 2]? = some (.bool L[k].neg) := by
  induction L generalizing k with
  | nil => simp at h
  | cons x S ih =>
    rw [List.flatMap_cons]
    cases k with
    | zero => simp [cellsRF]
    | succ k =>
      have := ih k (by simpa using h)
      simp only [cellsRF, List.cons_append, List.nil_append, Nat.add_mul, Nat.one_mul, List.getElem?_cons_succ, List.getElem_cons_succ] at this ⊢
      exact this

theorem all_take_succ {α : Type} (f : α → Bool) (l : List α) (k : Nat) (h : k < l.length) : (l.take (k + 1)).all f = ((l.take k).all f && f l[k]) := by
  rw [List.take_succ_eq_append_getElem h, List.all_append]
  simp
theorem all_get_bad {α : Type} {f : α → Bool} {l : List α} {k : Nat} (h : k < l.length) (hf : f l[k] = false) : l.all f = false := by
  rw [Bool.eq_false_iff]
  intro hh
  rw [List.all_eq_true] at hh
  have := hh _ (List.getElem_mem h)
  rw [hf] at this
  cases this

set_option maxRecDepth 10000 in
set_option maxHeartbeats 4000000 in
theorem asks_any {w : World} {base qb : Nat} {vM vF : Value} {meas by_ : List UInt8} {span bad t : Int} {M : List Mch} {Fs : List Flt} (lab line : List UInt8) (h : RQAt w base qb vM vF meas span by_ bad M Fs) (hM : M.length ≤ 201) (hF : Fs.length ≤ 201) (hl : lab.length ≤ 1048576) (hx : line.length ≤ 1048576) (hv : ∀ f ∈ Fs, f.text.length ≤ 200) :
    Calls Tryz.prog 147 #[.pointer (some ⟨qb, 0, none⟩), .agg #[SV lab, .int .i64 t, SV line]] w fun e w' => e = .returned (.bool (asksB M Fs lab line)) ∧ Below w.heap.size w w' := by
  obtain ⟨c0, c1, -, -, -, -, -⟩ := rcell6 h.block
  have hqbl : qb < w.heap.size := (Array.getElem?_eq_some_iff.1 h.block).1
  obtain ⟨aM, capM, rfl, -, -, nilM, aoM, cellM, -⟩ := owns_form h.rowM
  obtain ⟨aF, capF, rfl, -, -, nilF, aoF, cellF, -⟩ := owns_form h.rowF
  have HNM := hide nilM
  have HAM := hide aoM
  have HCM := hide cellM
  have HNF := hide nilF
  have HAF := hide aoF
  have HCF := hide cellF
  have HV := hide hv
  generalize hres : asksB M Fs lab line = res
  have HS := hide hres
  clear h nilM aoM cellM nilF aoF cellF hres hv
  go_enter Tryz.func147, Tryz.ntmps147
  go_wp2_with fail
  generalize hX : w.alloc (.cells #[SV lab, .int .i64 t, SV line] 38) = X
  have hbx : w.heap.size < X.heap.size := by rw [← hX]; simp
  have x0 : X.cell? ⟨qb, 0, none⟩ = some (.slice aM M.length capM) := by rw [← hX]; exact (((Below.refl _ w).alloc (Nat.le_refl _) _).cell (p := ⟨qb, 0, none⟩) hqbl).trans c0
  have x1 : X.cell? ⟨qb, 1, none⟩ = some (.slice aF Fs.length capF) := by rw [← hX]; exact (((Below.refl _ w).alloc (Nat.le_refl _) _).cell (p := ⟨qb, 1, none⟩) hqbl).trans c1
  have hbox : X.heap[w.heap.size]? = some (.cells #[SV lab, .int .i64 t, SV line] 38 (0, 0)) := by rw [← hX]; exact heap_alloc_new _ _
  obtain ⟨r0, -, r2, -⟩ := cell_of_block3 hbox
  have hXw : Below w.heap.size w X := by rw [← hX]; exact (Below.refl _ w).alloc (Nat.le_refl _) _
  have HXW := hide hXw
  clear hX hbox hXw c0 c1
  go_loopw [5] (fun i wr => ∃ k : Nat, k ≤ M.length ∧ i = .int .i64 k ∧ (M.take k).all (okM lab) = true ∧ Below X.heap.size X wr) (fun i _ => M.length - (intOf i).toNat)
  case atStart => exact ⟨0, Nat.zero_le _, rfl, rfl, Below.refl _ _⟩
  case round =>
    obtain ⟨k, hk, rfl, hall, hbr⟩ := hrel
    have HA := hide hall
    clear hall
    have hszr := hbr.size
    have y0 : wr.cell? ⟨qb, 0, none⟩ = some (.slice aM M.length capM) := (hbr.cell (p := ⟨qb, 0, none⟩) (by show qb < _; omega)).trans x0
    have y1 : wr.cell? ⟨qb, 1, none⟩ = some (.slice aF Fs.length capF) := (hbr.cell (p := ⟨qb, 1, none⟩) (by show qb < _; omega)).trans x1
    have s0 : wr.cell? ⟨w.heap.size, 0, none⟩ = some (SV lab) := (hbr.cell (p := ⟨w.heap.size, 0, none⟩) hbx).trans r0
    have s2 : wr.cell? ⟨w.heap.size, 2, none⟩ = some (SV line) := (hbr.cell (p := ⟨w.heap.size, 2, none⟩) hbx).trans r2
    by_cases hlt : k < M.length
    · obtain ⟨⟨g, o, sp⟩, rfl⟩ : ∃ a, aM = some a := by
        cases aM with
        | none => have := (unhide HNM rfl).1; omega
        | some a => exact ⟨a, rfl⟩
      obtain ⟨ho, hsp, -, hgw⟩ := unhide HAM _ rfl
      simp only at ho hsp hgw
      subst ho hsp
      obtain ⟨e0, e1, e2⟩ := cellsRM_at M k hlt
      have cc : ∀ j, j < M.length * 3 → wr.cell? ⟨g, j, none⟩ = (M.flatMap cellsRM)[j]? := fun j hj => (hbr.cell (p := ⟨g, j, none⟩) (by show g < _; omega)).trans ((((unhide HXW).cell (p := ⟨g, j, none⟩) hgw)).trans (unhide HCM _ rfl j hj))
      have m0 := (cc (k * 3) (by omega)).trans e0
      have m1 := (cc (k * 3 + 1) (by omega)).trans e1
      have m2 := (cc (k * 3 + 2) (by omega)).trans e2
      clear cc e0 e1 e2
      go_upto_region 4 with fail
      have hva := fun W => value_any lab M[k].name W hl
      go_cut [6] from 18 to 28 (fun s wx => s = SV (valueL M[k].name (cutL 44 lab)) ∧ Below wr.heap.size wr wx)
      case first =>
        go_region_law (go_simp; go_at_call 148; refine (hva _).mono ?_; rintro e w5 ⟨rfl, hb5⟩)
        all_goals (go_wp2_with fail; go_meet)
        all_goals exact ⟨rfl, by repeat (first | exact ⟨hb5.os, hb5.tape, hb5.output, hb5.size, hb5.block⟩ | apply Below.drew | apply Below.drawn)⟩
      case rest =>
        obtain ⟨rfl, hb5⟩ := hcut
        have z0 : wc.cell? ⟨qb, 0, none⟩ = some (.slice (some ⟨g, 0, none⟩) M.length capM) := (hb5.cell (p := ⟨qb, 0, none⟩) (by show qb < _; omega)).trans y0
        have n1 := (hb5.cell (p := ⟨g, k * 3 + 1, none⟩) (by show g < _; omega)).trans m1
        have n2 := (hb5.cell (p := ⟨g, k * 3 + 2, none⟩) (by show g < _; omega)).trans m2
        have hki : (k : Int) < M.length := by omega
        have hB : okM lab M[k] = !((valueL M[k].name (cutL 44 lab) == M[k].value) == M[k].neg) := rfl
        have HBk := hide hB
        have HBl := hide (hbr.trans (hb5.mono hszr))
        have HT := hide (all_take_succ (okM lab) M k hlt)
        clear hB y0 y1 s0 s2 m0 m1 m2 hb5 hva
        generalize valueL M[k].name (cutL 44 lab) = v at *
        go_wp2
        go_quiet (fail)
        go_wp2
        · have hc : ((v == M[k].value) == M[k].neg) = true := by first | assumption | (simp_all; done)
          go_ret
          refine ⟨ret_bool ?_, Go.Proofs.YtbljamcdaoofbaaGreatDoor.Below.drawn ((unhide HXW).trans ((unhide HBl).mono (by omega))) _⟩
          have hk0 : okM lab M[k] = false := by rw [unhide HBk, hc]; rfl
          rw [← unhide HS, asksB, all_get_bad hlt hk0]
          rfl
        · have hc : ((v == M[k].value) == M[k].neg) = false := by first | assumption | (simp_all; done)
          go_roundw
          case rel =>
            refine ⟨k + 1, by omega, by go_num, ?_, Go.Proofs.YtbljamcdaoofbaaGreatDoor.Below.drawn (unhide HBl) _⟩
            rw [unhide HT, unhide HA, unhide HBk, hc]
            rfl
          case measure => simp [intOf]; omega
    · have hkM : k = M.length := by omega
      have hallM : M.all (okM lab) = true := by have := unhide HA; rwa [List.take_of_length_le (by omega)] at this
      have HAM2 := hide hallM
      clear hallM
      go_wp2_with fail
      go_loopw [7] (fun i wr => ∃ j : Nat, j ≤ Fs.length ∧ i = .int .i64 j ∧ (Fs.take j).all (okF line) = true ∧ Below X.heap.size X wr) (fun i _ => Fs.length - (intOf i).toNat)
      case atStart => exact ⟨0, Nat.zero_le _, rfl, rfl, hbr⟩
      case round =>
        obtain ⟨j, hj, rfl, hallF, hbq⟩ := hrel
        have HA2 := hide hallF
        clear hallF y0 y1 s0 s2
        have hszq := hbq.size
        have y1 : wr.cell? ⟨qb, 1, none⟩ = some (.slice aF Fs.length capF) := (hbq.cell (p := ⟨qb, 1, none⟩) (by show qb < _; omega)).trans x1
        have s2 : wr.cell? ⟨w.heap.size, 2, none⟩ = some (SV line) := (hbq.cell (p := ⟨w.heap.size, 2, none⟩) hbx).trans r2
        by_cases hlf : j < Fs.length
        · obtain ⟨⟨g, o, sp⟩, rfl⟩ : ∃ a, aF = some a := by
            cases aF with
            | none => have := (unhide HNF rfl).1; omega
            | some a => exact ⟨a, rfl⟩
          obtain ⟨ho, hsp, -, hgw⟩ := unhide HAF _ rfl
          simp only at ho hsp hgw
          subst ho hsp
          obtain ⟨e1, e2⟩ := cellsRF_at Fs j hlf
          have cc : ∀ i, i < Fs.length * 3 → wr.cell? ⟨g, i, none⟩ = (Fs.flatMap cellsRF)[i]? := fun i hi => (hbq.cell (p := ⟨g, i, none⟩) (by show g < _; omega)).trans ((((unhide HXW).cell (p := ⟨g, i, none⟩) hgw)).trans (unhide HCF _ rfl i hi))
          have m1 := (cc (j * 3 + 1) (by omega)).trans e1
          have m2 := (cc (j * 3 + 2) (by omega)).trans e2
          have hft := unhide HV _ (List.getElem_mem hlf)
          have hha := fun W => has_any line Fs[j].text W hx (by omega)
          have hB : okF line Fs[j] = !(hasB line Fs[j].text == Fs[j].neg) := rfl
          have HBk := hide hB
          have HT := hide (all_take_succ (okF line) Fs j hlf)
          have HBQ := hide hbq
          clear cc e1 e2 hB
          have hji : (j : Int) < Fs.length := by omega
          generalize hasB line Fs[j].text = b at *
          go_wp2_with fail
          go_quiet (first | (go_at_call 176; refine Calls.quiet_of_same (hha _)))
          go_wp2
          · have hc : (b == Fs[j].neg) = true := by first | assumption | (simp_all; done)
            go_ret
            refine ⟨ret_bool ?_, by repeat (first | exact (unhide HXW).trans ((unhide HBQ).mono (by omega)) | apply Go.Proofs.YtbljamcdaoofbaaGreatDoor.Below.drawn)⟩
            have hk0 : okF line Fs[j] = false := by rw [unhide HBk, hc]; rfl
            rw [← unhide HS, asksB, all_get_bad hlf hk0, Bool.and_false]
          · have hc : (b == Fs[j].neg) = false := by first | assumption | (simp_all; done)
            go_roundw
            case rel =>
              refine ⟨j + 1, by omega, by go_num, ?_, by repeat (first | exact unhide HBQ | apply Go.Proofs.YtbljamcdaoofbaaGreatDoor.Below.drawn)⟩
              rw [unhide HT, unhide HA2, unhide HBk, hc]
              rfl
            case measure => simp [intOf]; omega
        · go_wp2
          go_ret
          refine ⟨ret_bool ?_, (unhide HXW).trans (hbq.mono (by omega))⟩
          have hallF : Fs.all (okF line) = true := by have := unhide HA2; rwa [List.take_of_length_le (by omega)] at this
          rw [← unhide HS, asksB, unhide HAM2, hallF]
          rfl

end Go.Proofs.YtbljamcdaoofbaaGreatDoor
