/- The reference's Streams and Drop. -/
import Derived.Test.YtbljamcdaoofbaaGreatDoorRefRest
namespace Go.Proofs.YtbljamcdaoofbaaGreatDoor
open Go.RowKit

def streamsR (S : List Strm) : List (List UInt8) := S.foldl (fun l x => putL l x.1) []

theorem putL_len (l : List (List UInt8)) (s : List UInt8) : (putL l s).length ≤ l.length + 1 := by
  unfold putL
  split
  · omega
  · simp; omega

theorem streamsR_snoc (S : List Strm) (k : Nat) (h : k < S.length) : streamsR (S.take (k + 1)) = putL (streamsR (S.take k)) S[k].1 := by
  rw [List.take_succ_eq_append_getElem h, streamsR, List.foldl_append]
  rfl
theorem streamsR_len (S : List Strm) : (streamsR S).length ≤ S.length := by
  suffices ∀ l : List (List UInt8), (S.foldl (fun l x => putL l x.1) l).length ≤ l.length + S.length by simpa [streamsR] using this []
  induction S with
  | nil => intro l; simp
  | cons x S ih =>
    intro l
    rw [List.foldl_cons]
    have := ih (putL l x.1)
    have := putL_len l x.1
    simp only [List.length_cons]
    omega

set_option maxRecDepth 10000 in
set_option maxHeartbeats 2000000 in
theorem refStreams_any {F : Nat → Prop} {p : Nat} {S : List Strm} {L : List Rw} {vS vL : Value} (w : World) (hr : RefAt w F p S L vS vL) (hS : S.length ≤ 6) :
    Calls Tryz.prog 91 #[.pointer (some ⟨p, 0, none⟩)] w fun e w' => ∃ v, e = .returned v ∧ w'.ownsRow w.heap.size 9 1 v (streamsR S).length ((streamsR S).map SV) ∧ Below w.heap.size w w' := by
  have hpl : p < w.heap.size := (Array.getElem?_eq_some_iff.1 hr.block).1
  obtain ⟨ao, cap, rfl, hnc, hcm, hnil, hao, hcell, hfz⟩ := owns_form hr.rowS
  obtain ⟨c0, -, -⟩ := cell_of_block2 hr.block
  have HN := hide hnil
  have HA := hide hao
  have HC := hide hcell
  have HC0 := hide c0
  clear hr hfz hnil hao hcell c0
  go_enter Tryz.func91, Tryz.ntmps91
  go_wp2
  go_loopw [3, 4] (fun v i wr => ∃ k : Nat, k ≤ S.length ∧ i = .int .i64 k ∧ wr.ownsRow w.heap.size 9 1 v (streamsR (S.take k)).length ((streamsR (S.take k)).map SV) ∧ Below w.heap.size w wr) (fun _ i _ => S.length - (intOf i).toNat)
  case atStart => exact ⟨0, Nat.zero_le _, rfl, World.ownsRow_nil _ _ _ _, Below.refl _ _⟩
  case round =>
    obtain ⟨k, hk, rfl, hown, hbel⟩ := hrel
    have cr : wr.cell? ⟨p, 0, none⟩ = some (.slice ao S.length cap) := (hbel.cell (by exact hpl)).trans (unhide HC0)
    by_cases hlt : k < S.length
    · obtain ⟨⟨g, o, sp⟩, rfl⟩ : ∃ a, ao = some a := by
        cases ao with
        | none => have := (unhide HN rfl).1; omega
        | some a => exact ⟨a, rfl⟩
      obtain ⟨ho, hsp, -, hgw⟩ := unhide HA _ rfl
      simp only at ho hsp hgw
      subst ho hsp
      have hc : wr.cell? ⟨g, k * 2, none⟩ = some (SV S[k].1) := by
        rw [hbel.cell (by exact hgw), unhide HC _ rfl (k * 2) (by omega), (cellsS_at S k hlt).1]
      have hlen := streamsR_len (S.take k)
      rw [List.length_take] at hlen
      have HS := hide (streamsR_snoc S k hlt)
      generalize streamsR (S.take k) = R at *
      have hsz := hbel.size
      obtain ⟨ar, capr, rfl, -, -, -, -, -, -⟩ := owns_form hown
      go_wp2_with fail
      refine (put_l R _ S[k].1 _ w.heap.size hsz hown (by omega)).mono ?_
      rintro e w1 ⟨v', rfl, hown1, hb1⟩
      go_wp2
      go_roundw
      case rel => exact ⟨k + 1, by omega, by go_num, by rw [unhide HS]; exact hown1, hbel.trans (hb1.mono hsz)⟩
      case measure => simp [intOf]; omega
    · go_wp2
      go_ret
      refine ⟨_, rfl, ?_, hbel⟩
      rw [List.take_of_length_le (by omega)] at hown
      exact hown

def dropR (L : List Rw) (b : Int) : Int × Int × List Rw :=
  if timeB b = false then (0, 2, L) else ((L.length : Int) - (L.filter (fun x => decide (b ≤ x.2.1))).length, 0, L.filter (fun x => decide (b ≤ x.2.1)))

theorem filter_snoc (L : List Rw) (b : Int) (k : Nat) (h : k < L.length) : (L.take (k + 1)).filter (fun x => decide (b ≤ x.2.1)) = (L.take k).filter (fun x => decide (b ≤ x.2.1)) ++ if b ≤ L[k].2.1 then [L[k]] else [] := by
  rw [List.take_succ_eq_append_getElem h, List.filter_append]
  congr 1
  by_cases hb : b ≤ L[k].2.1 <;> simp [hb]

theorem RefAt.setL {w w0 : World} {F : Nat → Prop} {p : Nat} {S : List Strm} {L L' : List Rw} {vS vL v' : Value} (h : RefAt w F p S L vS vL) (hb : Below w.heap.size w w0)
    (ho : w0.ownsRow w.heap.size 38 3 v' L'.length (L'.flatMap cellsR)) :
    RefAt (w0.setCell ⟨p, 1, none⟩ v') (Plus F w) p S L' vS v' ∧ Moved F w (w0.setCell ⟨p, 1, none⟩ v') := by
  have hpl := (Array.getElem?_eq_some_iff.1 h.block).1
  have hp2 : w0.heap[p]? = some (.cells #[vS, vL] 114 (0, 0)) := by rw [hb.block p hpl]; exact h.block
  refine ⟨⟨block2_set1 hp2 v', ?_, ?_, .inl h.inF, fun g hg => .inl (h.inS g hg), fun g hg => .inr (ho.lt g hg).1⟩, (Moved.of_below hb).setCell (.inl h.inF) _⟩
  · refine ownsRow_same h.rowS fun g hgo => ?_
    obtain ⟨hgl, cur, hc⟩ := ownsRow_type h.rowS hgo
    rw [Go.RowKit.Below.heap_setCell _ _ _ _ (ne_of_type hc h.block (by decide)), hb.block g hgl]
  · refine ownsRow_same (ownsRow_base ho (Nat.zero_le _)) fun g hgo => Go.RowKit.Below.heap_setCell _ _ _ _ ?_
    have := (ho.lt g hgo).1
    show g ≠ p
    omega

set_option maxRecDepth 10000 in
set_option maxHeartbeats 4000000 in
theorem refDrop_any {F : Nat → Prop} {p : Nat} {S : List Strm} {L : List Rw} {vS vL : Value} (b : Int) (w : World) (hr : RefAt w F p S L vS vL) (hL : L.length ≤ 300) :
    Calls Tryz.prog 59 #[.pointer (some ⟨p, 0, none⟩), .int .i64 b] w fun e w' => e = .returned (.tuple #[.int .i64 (dropR L b).1, .int .i64 (dropR L b).2.1]) ∧ (∃ vS' vL', RefAt w' (Plus F w) p S (dropR L b).2.2 vS' vL') ∧ Moved F w w' := by
  have hpl : p < w.heap.size := (Array.getElem?_eq_some_iff.1 hr.block).1
  obtain ⟨i1, hi1, hz1, hs1, hb1⟩ := info_parts Tryz.info38
  generalize hres : dropR L b = res
  have HR := hide hres
  clear hres
  have hr0 := hr
  obtain ⟨ao, cap, rfl, hnc, hcm, hnil, hao, hcell, hfz⟩ := owns_form hr.rowL
  obtain ⟨-, c1, fp⟩ := cell_of_block2 hr.block
  have HN := hide hnil
  have HA := hide hao
  have HC := hide hcell
  have HC1 := hide c1
  have HF := hide fp
  clear hr hfz hnil hao hcell c1 fp
  go_enter Tryz.func59, Tryz.ntmps59
  go_wp2_with fail
  refine (times_any b _).mono ?_
  rintro e w1 ⟨rfl, rfl⟩
  cases h2 : timeB b with
  | false =>
    go_wp2
    go_ret2
    rw [← unhide HR, dropR, if_pos h2]
    exact ⟨rfl, ⟨_, _, hr0.weaken (fun _ h => .inl h)⟩, Moved.refl _ _⟩
  | true =>
    have hd : dropR L b = ((L.length : Int) - (L.filter (fun x => decide (b ≤ x.2.1))).length, 0, L.filter (fun x => decide (b ≤ x.2.1))) := by rw [dropR, if_neg (by simp [h2])]
    have HD := hide (hd.symm.trans (unhide HR))
    clear hd HR h2
    go_wp2
    go_loopw [7, 8] (fun v i wr => ∃ k : Nat, k ≤ L.length ∧ i = .int .i64 k ∧ wr.ownsRow w1.heap.size 38 3 v ((L.take k).filter (fun x => decide (b ≤ x.2.1))).length (((L.take k).filter (fun x => decide (b ≤ x.2.1))).flatMap cellsR) ∧ Below w1.heap.size w1 wr) (fun _ i _ => L.length - (intOf i).toNat)
    case atStart => exact ⟨0, Nat.zero_le _, rfl, World.ownsRow_nil _ _ _ _, Below.refl _ _⟩
    case round =>
      obtain ⟨k, hk, rfl, hown, hbel⟩ := hrel
      have cr : wr.cell? ⟨p, 1, none⟩ = some (.slice ao L.length cap) := (hbel.cell (by exact hpl)).trans (unhide HC1)
      have hsz := hbel.size
      by_cases hlt : k < L.length
      · obtain ⟨⟨g, o, sp⟩, rfl⟩ : ∃ a, ao = some a := by
          cases ao with
          | none => have := (unhide HN rfl).1; omega
          | some a => exact ⟨a, rfl⟩
        obtain ⟨ho, hsp, -, hgw⟩ := unhide HA _ rfl
        simp only at ho hsp hgw
        subst ho hsp
        obtain ⟨e0, e1, e2⟩ := cellsR_at L k hlt
        have hc0 : wr.cell? ⟨g, k * 3, none⟩ = some (SV L[k].1) := by
          rw [hbel.cell (by exact hgw), unhide HC _ rfl (k * 3) (by omega), e0]
        have hc1 : wr.cell? ⟨g, k * 3 + 1, none⟩ = some (.int .i64 L[k].2.1) := by
          rw [hbel.cell (by exact hgw), unhide HC _ rfl (k * 3 + 1) (by omega), e1]
        have hc2 : wr.cell? ⟨g, k * 3 + 2, none⟩ = some (SV L[k].2.2) := by
          rw [hbel.cell (by exact hgw), unhide HC _ rfl (k * 3 + 2) (by omega), e2]
        clear e0 e1 e2
        have HS := hide (filter_snoc L b k hlt)
        have hfl := List.length_filter_le (fun x : Rw => decide (b ≤ x.2.1)) (L.take k)
        rw [List.length_take] at hfl
        generalize (L.take k).filter (fun x => decide (b ≤ x.2.1)) = R at *
        by_cases hb : b ≤ L[k].2.1
        · go_wp2_with (at_builtin; refine wpList_append_at _ rfl (.tmp 33) (.tmp 41) 28 rfl w1.heap.size 38 i1 (.agg #[.string ByteArray.empty, .int .i64 0, .string ByteArray.empty]) 3 40 Tryz.underlying28 hi1 hz1 hs1 hb1 rfl (by decide) _ _ _ rfl (hown.alloc _) (some ⟨wr.heap.size, 0, none⟩) 1 1 (cellsR L[k]) rfl rfl (by intro e; cases e) (cells_new wr _ _) (by intro u hu; simp [cellsR] at hu; rcases hu with rfl | rfl | rfl <;> rfl) (by unfold maxLen; omega) (by omega) (by simp; omega) ?_; intro v2 w4 hown4 hgrow4 hwh4; have hb4 := (hbel.alloc hsz (.cells (cellsR L[k]).toArray 38)).grown hgrow4 (by simp; omega) (fun k hk => (hown.lt k hk).1); clear hgrow4 hwh4)
          go_roundw
          case rel =>
            refine ⟨k + 1, by omega, by go_num, ?_, hb4⟩
            rw [unhide HS, if_pos hb, List.length_append, List.flatMap_append]
            simpa using hown4
          case measure => simp [intOf]; omega
        · go_wp2
          go_roundw
          case rel =>
            refine ⟨k + 1, by omega, by go_num, ?_, hbel⟩
            rw [unhide HS, if_neg (by omega), List.append_nil]
            exact hown
          case measure => simp [intOf]; omega
      · rw [List.take_of_length_le (by omega)] at hown
        have hfl := List.length_filter_le (fun x : Rw => decide (b ≤ x.2.1)) L
        obtain ⟨hrf, hmf⟩ := hr0.setL hbel hown
        have HRF := hide hrf
        have HMF := hide hmf
        have hf : wr.frozen? ⟨p, 1, none⟩ = false := (hbel.frozen (by exact hpl)).trans (unhide HF 1)
        generalize L.filter (fun x => decide (b ≤ x.2.1)) = R at *
        obtain ⟨ar, capr, rfl, -, -, -, -, -, -⟩ := owns_form hown
        clear hrf hmf hown
        go_wp2
        go_ret2
        rw [← unhide HD]
        exact ⟨rfl, ⟨_, _, unhide HRF⟩, unhide HMF⟩

end Go.Proofs.YtbljamcdaoofbaaGreatDoor
