/- Texts PMatch, PLines, PSrcs, joined. -/
import Derived.Test.YtbljamcdaoofbaaGreatDoorPMRowsToPVal
import Derived.Test.YtbljamcdaoofbaaGreatDoorPWholeToPSwap
import Derived.Test.YtbljamcdaoofbaaGreatDoorLabelEqToRAsks
import Derived.Test.YtbljamcdaoofbaaGreatDoorShelfOne
import Derived.Test.YtbljamcdaoofbaaGreatDoorRelPushToAsked
/- The program's Matches and Asks. -/
namespace Go.Proofs.YtbljamcdaoofbaaGreatDoor
open Go.RowKit

theorem pairL_value {p : List UInt8} (h : (pairL p).2.2 = true) : (cut1 61 p).1 = (pairL p).1 ∧ (cut1 61 p).2.1 = (pairL p).2.1 := by
  refine ⟨((pairL_eq p).2 h).symm, ?_⟩
  revert h
  unfold pairL
  rw [cutL_cut1]
  generalize hq : cut1 61 p = q
  obtain ⟨q1, q2, q3⟩ := q
  cases q3
  · simp
  · simp only [if_true]
    rw [cutL_cut1]
    cases h : (cut1 61 q2).2.2
    · have hr : (cut1 61 q2).1 = q2 := by
        rcases cut1_index 61 q2 with ⟨_, h2⟩ | ⟨i, _, _, h3⟩
        · rw [h2]
        · rw [h3] at h; cases h
      simp [hr]
    · have hne : ∃ z zs, cutL 61 (cut1 61 q2).2.1 = z :: zs := ⟨_, _, cutL_cut1 _ _⟩
      obtain ⟨z, zs, hz⟩ := hne
      simp [hz]

theorem labelsGo_pairs (L : List (List UInt8)) : ∀ (f : Bool) (was : List UInt8), labelsGo f was L = true → ∀ p ∈ L, (pairL p).2.2 = true := by
  induction L with
  | nil => intro f was _ p hp; cases hp
  | cons x L ih =>
    intro f was h p hp
    rw [labelsGo] at h
    split at h
    · cases h
    · rename_i hn
      rcases List.mem_cons.1 hp with rfl | hp
      · revert hn; cases (pairL p).2.2 <;> simp
      · exact ih _ _ h p hp

theorem valueP_eq (name : List UInt8) (L : List (List UInt8)) (h : ∀ p ∈ L, (pairL p).2.2 = true) : valueP name L = valueL name L := by
  induction L with
  | nil => rfl
  | cons x L ih =>
    obtain ⟨e1, e2⟩ := pairL_value (h x (by simp))
    rw [valueP, valueL, e1, e2, ih (fun p hp => h p (by simp [hp]))]

theorem valueP_labels {lab : List UInt8} (h : labelsB lab = true) (name : List UInt8) : valueP name (cutL 44 lab) = valueL name (cutL 44 lab) := by
  refine valueP_eq name _ (labelsGo_pairs _ true [] ?_)
  unfold labelsB at h
  revert h
  cases labelsGo true [] (cutL 44 lab) <;> simp

theorem cellsM_at (L : List Mch) (k : Nat) (h : k < L.length) : (L.flatMap cellsM)[k * 3]? = some (.bool L[k].neg) ∧ (L.flatMap cellsM)[k * 3 + 1]? = some (SV L[k].name) ∧ (L.flatMap cellsM)[k * 3 + 2]? = some (SV L[k].value) := by
  induction L generalizing k with
  | nil => simp at h
  | cons x S ih =>
    rw [List.flatMap_cons]
    cases k with
    | zero => simp [cellsM]
    | succ k =>
      have := ih k (by simpa using h)
      simp only [cellsM, List.cons_append, List.nil_append, Nat.add_mul, Nat.one_mul, List.getElem?_cons_succ, List.getElem_cons_succ] at this ⊢
      exact this
theorem cellsF_at (L : List Flt) (k : Nat) (h : k < L.length) : (L.flatMap cellsF)[k * 2]? = some (.bool L[k].neg) ∧ (L.flatMap cellsF)[k * 2 + 1]? = some (SV L[k].text) := by
  induction L generalizing k with
  | nil => simp at h
  | cons x S ih =>
    rw [List.flatMap_cons]
    cases k with
    | zero => simp [cellsF]
    | succ k =>
      have := ih k (by simpa using h)
      simp only [cellsF, List.cons_append, List.nil_append, Nat.add_mul, Nat.one_mul, List.getElem?_cons_succ, List.getElem_cons_succ] at this ⊢
      exact this

set_option maxRecDepth 10000 in
set_option maxHeartbeats 4000000 in
theorem matches_any {w : World} {base rb : Nat} {q : Qry} {vm vf : Value} (lab : List UInt8) (h : QueryAt w base rb q vm vf) (hlab : labelsB lab = true) (hl : lab.length ≤ 1048576) :
    Calls Tryz.prog 67 #[.pointer (some ⟨rb, 1, none⟩), .string ⟨lab.toArray⟩] w fun e w' => e = .returned (.bool (q.ms.all (okM lab))) ∧ Below w.heap.size w w' := by
  obtain ⟨v0, hblk⟩ := h.block
  obtain ⟨-, -, -, -, c4, -, -⟩ := cell_of_block6 hblk
  have hrbl : rb < w.heap.size := (Array.getElem?_eq_some_iff.1 hblk).1
  obtain ⟨aM, capM, rfl, -, -, nilM, aoM, cellM, -⟩ := owns_form h.rowM
  have hM := h.many.1
  have HNM := hide nilM
  have HAM := hide aoM
  have HCM := hide cellM
  generalize q.ms = M at *
  have HEQ := hide (fun name => valueP_labels hlab name)
  clear h nilM aoM cellM hblk hlab
  go_enter Tryz.func67, Tryz.ntmps67
  go_wp2_with fail
  go_loopw [13] (fun i wr => ∃ k : Nat, k ≤ M.length ∧ i = .int .i64 k ∧ (M.take k).all (okM lab) = true ∧ Below w.heap.size w wr) (fun i _ => M.length - (intOf i).toNat)
  case atStart => exact ⟨0, Nat.zero_le _, rfl, rfl, Below.refl _ _⟩
  case round =>
    obtain ⟨k, hk, rfl, hall, hbr⟩ := hrel
    have HA := hide hall
    clear hall
    have hszr := hbr.size
    by_cases hlt : k < M.length
    · obtain ⟨⟨g, o, sp⟩, rfl⟩ : ∃ a, aM = some a := by
        cases aM with
        | none => have := (unhide HNM rfl).1; omega
        | some a => exact ⟨a, rfl⟩
      obtain ⟨ho, hsp, -, hgw⟩ := unhide HAM _ rfl
      simp only at ho hsp hgw
      subst ho hsp
      obtain ⟨e0, e1, e2⟩ := cellsM_at M k hlt
      have cc : ∀ j, j < M.length * 3 → wr.cell? ⟨g, j, none⟩ = (M.flatMap cellsM)[j]? := fun j hj => (hbr.cell (p := ⟨g, j, none⟩) hgw).trans (unhide HCM _ rfl j hj)
      have m0 := (cc (k * 3) (by omega)).trans e0
      have m1 := (cc (k * 3 + 1) (by omega)).trans e1
      have m2 := (cc (k * 3 + 2) (by omega)).trans e2
      clear cc e0 e1 e2
      go_upto_region 4 with fail
      have hva := fun W => pvalue_in lab M[k].name W hl
      generalize hX : wr.alloc (.cells #[.bool M[k].neg, .string ⟨M[k].name.toArray⟩, .string ⟨M[k].value.toArray⟩] 171) = X
      have hbx : wr.heap.size < X.heap.size := by rw [← hX]; simp
      have hbox : X.heap[wr.heap.size]? = some (.cells #[.bool M[k].neg, SV M[k].name, SV M[k].value] 171 (0, 0)) := by rw [← hX]; exact heap_alloc_new _ _
      obtain ⟨x0, x1, x2, -⟩ := cell_of_block3 hbox
      have hXw : Below w.heap.size w X := by rw [← hX]; exact hbr.alloc hszr _
      have HXW := hide hXw
      clear hX hbox hXw m0 m1 m2
      go_cut [7] from 17 to 23 (fun s wx => s = .bool (valueP M[k].name (cutL 44 lab) == M[k].value) ∧ Below X.heap.size X wx)
      case first =>
        go_region_law (first | (go_simp; go_at_call 53; refine (hva _).mono ?_; rintro e w5 ⟨rfl, hb5⟩; have y2 := (hb5.cell (p := ⟨wr.heap.size, 2, none⟩) hbx).trans x2))
        all_goals (go_wp2_with fail; go_meet)
        all_goals exact ⟨rfl, by repeat (first | exact ⟨hb5.os, hb5.tape, hb5.output, hb5.size, hb5.block⟩ | apply Below.drew | apply Below.drawn)⟩
      case rest =>
        obtain ⟨rfl, hb5⟩ := hcut
        have n0 := (hb5.cell (p := ⟨wr.heap.size, 0, none⟩) hbx).trans x0
        have HBl := hide ((unhide HXW).trans (hb5.mono (by omega)))
        have HT := hide (all_take_succ (okM lab) M k hlt)
        have HB := hide (show okM lab M[k] = !((valueP M[k].name (cutL 44 lab) == M[k].value) == M[k].neg) by rw [okM, unhide HEQ])
        clear hb5 hva x0 x1 x2
        generalize (valueP M[k].name (cutL 44 lab) == M[k].value) = b at *
        cases hc : (b == M[k].neg) with
        | true =>
          have HC := hide hc
          go_wp2
          go_ret
          refine ⟨ret_bool ?_, unhide HBl⟩
          rw [all_get_bad hlt (by rw [unhide HB, unhide HC]; rfl)]
        | false =>
          have HC := hide hc
          go_wp2
          go_roundw
          case rel =>
            refine ⟨k + 1, by omega, by go_num, ?_, unhide HBl⟩
            rw [unhide HT, unhide HA, unhide HB, unhide HC]
            rfl
          case measure => simp [intOf]; omega
    · go_wp2
      go_ret
      refine ⟨ret_bool ?_, hbr⟩
      have := unhide HA
      rw [List.take_of_length_le (by omega)] at this
      exact this.symm

/-- the one variable that strings.Index looks at -/
def MaxAt (w : World) : Prop := ∃ m, w.cell? ⟨1, 0, none⟩ = some (.int .i64 m)
theorem MaxAt.below {w w' : World} {B : Nat} (h : MaxAt w) (h8 : 8 ≤ B) (hb : Below B w w') : MaxAt w' := by
  obtain ⟨m, hm⟩ := h
  exact ⟨m, (hb.cell (p := ⟨1, 0, none⟩) (by show 1 < _; omega)).trans hm⟩

theorem contains_any (s part : List UInt8) (w : World) (hs : s.length ≤ 1048576) (hG : MaxAt w) :
    Calls Tryz.prog 103 #[.string ⟨s.toArray⟩, .string ⟨part.toArray⟩] w fun e w' => e = .returned (.bool (hasB s part)) ∧ w' = w := by
  obtain ⟨m, hm⟩ := hG
  have := Tryz.strings_Contains ⟨s.toArray⟩ ⟨part.toArray⟩ m w (by simp [ByteArray.size]; omega) hm
  simpa [hasB] using this

set_option maxRecDepth 10000 in
set_option maxHeartbeats 4000000 in
theorem pasks_any {w : World} {base rb : Nat} {q : Qry} {vm vf : Value} (line : List UInt8) (h : QueryAt w base rb q vm vf) (hl : line.length ≤ 1048576) (hv : ∀ f ∈ q.fs, f.text.length ≤ 200) (hG : MaxAt w) (h8 : 8 ≤ w.heap.size) :
    Calls Tryz.prog 69 #[.pointer (some ⟨rb, 1, none⟩), .string ⟨line.toArray⟩] w fun e w' => e = .returned (.bool (q.fs.all (okF line))) ∧ Below w.heap.size w w' := by
  obtain ⟨v0, hblk⟩ := h.block
  obtain ⟨-, -, -, -, -, c5, -⟩ := cell_of_block6 hblk
  have hrbl : rb < w.heap.size := (Array.getElem?_eq_some_iff.1 hblk).1
  obtain ⟨aM, capM, rfl, -, -, nilM, aoM, cellM, -⟩ := owns_form h.rowF
  have hM := h.many.2
  have HNM := hide nilM
  have HAM := hide aoM
  have HCM := hide cellM
  have HV := hide hv
  generalize q.fs = M at *
  clear h nilM aoM cellM hblk hv
  go_enter Tryz.func69, Tryz.ntmps69
  go_wp2_with fail
  go_loopw [13] (fun i wr => ∃ k : Nat, k ≤ M.length ∧ i = .int .i64 k ∧ (M.take k).all (okF line) = true ∧ Below w.heap.size w wr) (fun i _ => M.length - (intOf i).toNat)
  case atStart => exact ⟨0, Nat.zero_le _, rfl, rfl, Below.refl _ _⟩
  case round =>
    obtain ⟨k, hk, rfl, hall, hbr⟩ := hrel
    have HA := hide hall
    clear hall
    have hszr := hbr.size
    by_cases hlt : k < M.length
    · obtain ⟨⟨g, o, sp⟩, rfl⟩ : ∃ a, aM = some a := by
        cases aM with
        | none => have := (unhide HNM rfl).1; omega
        | some a => exact ⟨a, rfl⟩
      obtain ⟨ho, hsp, -, hgw⟩ := unhide HAM _ rfl
      simp only at ho hsp hgw
      subst ho hsp
      obtain ⟨e0, e1⟩ := cellsF_at M k hlt
      have cc : ∀ j, j < M.length * 2 → wr.cell? ⟨g, j, none⟩ = (M.flatMap cellsF)[j]? := fun j hj => (hbr.cell (p := ⟨g, j, none⟩) hgw).trans (unhide HCM _ rfl j hj)
      have m0 := (cc (k * 2) (by omega)).trans e0
      have m1 := (cc (k * 2 + 1) (by omega)).trans e1
      clear cc e0 e1
      have hft := unhide HV _ (List.getElem_mem hlt)
      have hG2 := hG.below h8 hbr
      have HBl := hide (hbr.alloc hszr (.cells #[.bool M[k].neg, .string ⟨M[k].text.toArray⟩] 173))
      have hG3 := hG2.below (Nat.le_trans h8 hszr) ((Below.refl wr.heap.size wr).alloc (Nat.le_refl _) (.cells #[.bool M[k].neg, .string ⟨M[k].text.toArray⟩] 173))
      have hco := contains_any line M[k].text _ hl hG3
      clear hG2 hG3
      have HT := hide (all_take_succ (okF line) M k hlt)
      have HB := hide (show okF line M[k] = !(hasB line M[k].text == M[k].neg) from rfl)
      go_wp2_with fail
      refine hco.mono ?_
      rintro e w5 ⟨rfl, rfl⟩
      clear hco
      generalize hasB line M[k].text = b at *
      cases hc : (b == M[k].neg) with
      | true =>
        have HC := hide hc
        go_wp2
        go_ret
        refine ⟨ret_bool ?_, unhide HBl⟩
        rw [all_get_bad hlt (by rw [unhide HB, unhide HC]; rfl)]
      | false =>
        have HC := hide hc
        go_wp2
        go_roundw
        case rel =>
          refine ⟨k + 1, by omega, by go_num, ?_, unhide HBl⟩
          rw [unhide HT, unhide HA, unhide HB, unhide HC]
          rfl
        case measure => simp [intOf]; omega
    · go_wp2
      go_ret
      refine ⟨ret_bool ?_, hbr⟩
      have := unhide HA
      rw [List.take_of_length_le (by omega)] at this
      exact this.symm

end Go.Proofs.YtbljamcdaoofbaaGreatDoor

/- The program's Find: the lines of a stream that a query asks for. -/
namespace Go.Proofs.YtbljamcdaoofbaaGreatDoor
open Go.RowKit

theorem QueryAt.below {w w' : World} {base rb : Nat} {q : Qry} {vm vf : Value} (h : QueryAt w base rb q vm vf) (hb : Below w.heap.size w w') : QueryAt w' base rb q vm vf := by
  obtain ⟨v0, hblk⟩ := h.block
  refine ⟨⟨v0, ?_⟩, ?_, ?_, h.brb, h.many⟩
  · rw [hb.block rb (Array.getElem?_eq_some_iff.1 hblk).1]; exact hblk
  · exact ownsRow_same h.rowM fun b hb' => hb.block b (ownsRow_type h.rowM hb').1
  · exact ownsRow_same h.rowF fun b hb' => hb.block b (ownsRow_type h.rowF hb').1


theorem filter_take_snoc {α : Type} (f : α → Bool) (l : List α) (k : Nat) (h : k < l.length) : (l.take (k + 1)).filter f = (l.take k).filter f ++ (if f l[k] = true then [l[k]] else []) := by
  rw [List.take_succ_eq_append_getElem h, List.filter_append]
  congr 1
  simp only [List.filter_cons, List.filter_nil]
theorem filter_take_le {α : Type} (f : α → Bool) (l : List α) (k : Nat) : ((l.take k).filter f).length ≤ l.length := by
  refine Nat.le_trans (List.length_filter_le _ _) ?_
  simp
  omega

set_option maxRecDepth 10000 in
set_option maxHeartbeats 4000000 in
theorem sFind_any {w : World} {n : Node} {base rb : Nat} {q : Qry} {vm vf : Value} (fr tt : Int) (h : NodeAt w n) (hn : n.lines.length ≤ 300) (hx : ∀ y ∈ n.lines, y.2.length ≤ 1048576)
    (hq : QueryAt w base rb q vm vf) (hv : ∀ f ∈ q.fs, f.text.length ≤ 200) (hG : MaxAt w) (h8 : 8 ≤ w.heap.size) :
    Calls Tryz.prog 68 #[.pointer (some ⟨n.blk, 0, none⟩), .int .i64 fr, .int .i64 tt, .func (.func 69) #[.pointer (some ⟨rb, 1, none⟩)] #[]] w fun e w' => ∃ v, e = .returned v ∧ w'.ownsRow w.heap.size 108 2 v (n.lines.filter (lineB q fr tt)).length ((n.lines.filter (lineB q fr tt)).flatMap cellsN) ∧ Below w.heap.size w w' := by
  obtain ⟨i0, hi, hz0, hz1, hz2⟩ := info_parts Tryz.info108
  obtain ⟨-, -, c2, -⟩ := cell_of_block3 h.block
  have hbl := h.lt
  obtain ⟨ao, cap, hvl, -, -, hnil, hao, hcell, -⟩ := owns_form h.row
  rw [hvl] at c2
  have HN := hide hnil
  have HA := hide hao
  have HC := hide hcell
  have HX := hide hx
  have HQ := hide hq
  have HV := hide hv
  have HGM := hide hG
  generalize n.lines = L at *
  clear h hnil hao hcell hvl hx hq hv hG
  go_enter Tryz.func68, Tryz.ntmps68
  go_wp2_with fail
  go_loopw [9, 17] (fun v i wr => ∃ k : Nat, k ≤ L.length ∧ i = .int .i64 k ∧ wr.ownsRow w.heap.size 108 2 v ((L.take k).filter (lineB q fr tt)).length (((L.take k).filter (lineB q fr tt)).flatMap cellsN) ∧ Below w.heap.size w wr) (fun _ i _ => L.length - (intOf i).toNat)
  case atStart => exact ⟨0, Nat.zero_le _, rfl, World.ownsRow_nil _ _ _ _, Below.refl _ _⟩
  case round =>
    obtain ⟨k, hk, rfl, hown, hbr⟩ := hrel
    have hszr := hbr.size
    by_cases hlt : k < L.length
    · obtain ⟨⟨g, o, sp⟩, rfl⟩ : ∃ a, ao = some a := by
        cases ao with
        | none => have := (unhide HN rfl).1; omega
        | some a => exact ⟨a, rfl⟩
      obtain ⟨ho, hsp, -, hgw⟩ := unhide HA _ rfl
      simp only at ho hsp hgw
      subst ho hsp
      obtain ⟨e0, e1⟩ := cellsN_at L k hlt
      have m0 := ((hbr.cell (p := ⟨g, k * 2, none⟩) hgw).trans (unhide HC _ rfl _ (by omega))).trans e0
      have m1 := ((hbr.cell (p := ⟨g, k * 2 + 1, none⟩) hgw).trans (unhide HC _ rfl _ (by omega))).trans e1
      clear e0 e1
      have hlen := filter_take_le (lineB q fr tt) L k
      have HS := hide (filter_take_snoc (lineB q fr tt) L k hlt)
      have hxl := unhide HX _ (List.getElem_mem hlt)
      have HB := hide (show lineB q fr tt L[k] = (decide (fr ≤ L[k].1) && decide (L[k].1 < tt) && q.fs.all (okF L[k].2)) from rfl)
      have hb1 := (Below.refl wr.heap.size wr).alloc (Nat.le_refl _) (.cells #[.int .i64 L[k].1, .string ⟨L[k].2.toArray⟩] 108)
      have HBX := hide (hbr.alloc hszr (.cells #[.int .i64 L[k].1, .string ⟨L[k].2.toArray⟩] 108))
      have has := pasks_any L[k].2 (((unhide HQ).below hbr).below hb1) hxl (unhide HV) (((unhide HGM).below h8 hbr).below (Nat.le_trans h8 hszr) hb1) (by simp; omega)
      clear hb1
      by_cases h1 : fr ≤ L[k].1
      · by_cases h2 : L[k].1 < tt
        · have hbox := heap_alloc_new wr (.cells #[.int .i64 L[k].1, .string ⟨L[k].2.toArray⟩] 108)
          obtain ⟨x0, x1, -⟩ := cell_of_block2 hbox
          have hbx : wr.heap.size < (wr.alloc (.cells #[.int .i64 L[k].1, .string ⟨L[k].2.toArray⟩] 108)).heap.size := by simp
          have HOX := hide (hown.alloc (.cells #[.int .i64 L[k].1, .string ⟨L[k].2.toArray⟩] 108))
          go_wp2_with fail
          refine has.mono ?_
          rintro e w5 ⟨rfl, hb5⟩
          have y0 := (hb5.cell (p := ⟨wr.heap.size, 0, none⟩) hbx).trans x0
          have y1 := (hb5.cell (p := ⟨wr.heap.size, 1, none⟩) hbx).trans x1
          have hown5 : w5.ownsRow w.heap.size 108 2 u9 _ _ := ownsRow_same (unhide HOX) fun b hb' => hb5.block b (ownsRow_type (unhide HOX) hb').1
          have hbw5 := (unhide HBX).trans (hb5.mono (by simp; omega))
          have hsz5 := hbw5.size
          obtain ⟨ar, capr, rfl, -, -, -, -, -, -⟩ := owns_form hown5
          clear hb5 has x0 x1 hbx hbox hown HOX
          cases hb : q.fs.all (okF L[k].2) with
          | true =>
            have HBB := hide hb
            go_wp2_with (first
              | (at_builtin; refine wpList_append_at _ rfl (.tmp 37) (.tmp 39) 103 rfl w.heap.size 108 i0 _ 2 24 Tryz.underlying103 hi hz0 hz1 hz2 rfl (by decide) _ _ _ rfl (hown5.alloc _) (some ⟨_, 0, none⟩) 1 1 [.int .i64 L[k].1, SV L[k].2] rfl rfl (by intro e; cases e) (cells_new _ _ _) (by intro u hu; simp at hu; rcases hu with rfl | rfl <;> rfl) (by unfold maxLen; omega) (by omega) (by simp; omega) ?_; intro v4 w4 hown4 hgrow4 hwh4; have hb4 := (hbw5.alloc hsz5 (.cells #[.int .i64 L[k].1, SV L[k].2] 108)).grown hgrow4 (by simp; omega) (fun k hk => (hown5.lt k hk).1); clear hgrow4 hwh4))
            go_roundw
            case rel =>
              refine ⟨k + 1, by omega, by go_num, ?_, hb4⟩
              rw [unhide HS, if_pos (by rw [unhide HB, unhide HBB]; simp [h1, h2]), List.flatMap_append, List.length_append]
              exact hown4
            case measure => simp [intOf]; omega
          | false =>
            have HBB := hide hb
            go_wp2
            go_roundw
            case rel =>
              refine ⟨k + 1, by omega, by go_num, ?_, hbw5⟩
              rw [unhide HS, if_neg (by rw [unhide HB, unhide HBB]; simp), List.append_nil]
              exact hown5
            case measure => simp [intOf]; omega
        · clear has
          go_wp2
          go_roundw
          case rel =>
            refine ⟨k + 1, by omega, by go_num, ?_, unhide HBX⟩
            rw [unhide HS, if_neg (by rw [unhide HB]; simp [h2]), List.append_nil]
            exact hown.alloc _
          case measure => simp [intOf]; omega
      · clear has
        go_wp2
        go_roundw
        case rel =>
          refine ⟨k + 1, by omega, by go_num, ?_, unhide HBX⟩
          rw [unhide HS, if_neg (by rw [unhide HB]; simp [h1]), List.append_nil]
          exact hown.alloc _
        case measure => simp [intOf]; omega
    · go_wp2
      go_ret
      refine ⟨_, rfl, ?_, hbr⟩
      rw [List.take_of_length_le (by omega)] at hown
      exact hown

end Go.Proofs.YtbljamcdaoofbaaGreatDoor

/- The program's sources: the lines that a query asks for, by their streams. -/
namespace Go.Proofs.YtbljamcdaoofbaaGreatDoor
open Go.RowKit

theorem LinesAt.move {w w' : World} {base base' : Nat} {s : Src} (h : LinesAt w base s) (hle : base ≤ base') (hk : ∀ g, s.vl.ownBlock = some g → w'.heap[g]? = w.heap[g]?) : LinesAt w' base' s := by
  obtain ⟨g, o, cap, h1, h2, hlm, h3, h5, h6⟩ := h
  exact ⟨g, o, cap, h1, h2, hlm, h3, by omega, fun j hj => (World.cell?_of_block (a := ⟨g, o + j, none⟩) (hk g (by rw [h1]; rfl))).trans (h6 j hj)⟩

/-- so far so many sources -/
structure SrcI (w wr : World) (v : Value) (srcs : List Src) : Prop where
  row : wr.ownsRow w.heap.size 105 2 v srcs.length (srcs.flatMap cellsQ)
  oks : ∀ s ∈ srcs, OkSrc wr wr.heap.size s
  apart : ∀ s ∈ srcs, s.lines ≠ [] → ∀ g, s.vl.ownBlock = some g → v.ownBlock ≠ some g
  bel : Below w.heap.size w wr

theorem SrcI.below {w wr w' : World} {v : Value} {srcs : List Src} (h : SrcI w wr v srcs) (hb : Below wr.heap.size wr w') : SrcI w w' v srcs :=
  ⟨ownsRow_same h.row fun b hb' => hb.block b (ownsRow_type h.row hb').1, fun s hs => ⟨(h.oks s hs).1, fun hn => by
    have hl := (h.oks s hs).2 hn
    refine hl.move hb.size fun g hg => hb.block g ?_
    obtain ⟨g', o, cap, h1, -, -, -, h5, -⟩ := hl
    rw [h1] at hg
    cases hg
    exact h5⟩, h.apart, h.bel.trans (hb.mono h.bel.size)⟩

theorem SrcI.more {w w2 w3 : World} {v v3 : Value} {srcs : List Src} {s : Src} {o : Obj} (h : SrcI w w2 v srcs) (hs : OkSrc w2 w2.heap.size s) (ha : s.lines ≠ [] → ∀ g, s.vl.ownBlock = some g → v.ownBlock ≠ some g)
    (hg : (w2.alloc o).grownBy w3 v.ownBlock) (ho : w3.ownsRow w.heap.size 105 2 v3 (srcs.length + 1) (srcs.flatMap cellsQ ++ cellsQ s)) (hwh : v3.ownBlock = v.ownBlock ∨ v3.ownBlock = some (w2.alloc o).heap.size) : SrcI w w3 v3 (srcs ++ [s]) := by
  have hsz : w2.heap.size ≤ w3.heap.size := Nat.le_trans (by simp) hg.size
  have hkeep : ∀ g, g < w2.heap.size → v.ownBlock ≠ some g → w3.heap[g]? = w2.heap[g]? := fun g hgl hne => (hg.block g (by simp; omega) (fun e => hne e.symm)).trans (Go.RowKit.Below.heap_alloc _ _ _ hgl)
  have hall : ∀ x ∈ srcs ++ [s], OkSrc w2 w2.heap.size x ∧ (x.lines ≠ [] → ∀ g, x.vl.ownBlock = some g → v.ownBlock ≠ some g) := by
    intro x hx
    rcases List.mem_append.1 hx with hx | hx
    · exact ⟨h.oks x hx, h.apart x hx⟩
    · rw [List.mem_singleton.1 hx]; exact ⟨hs, ha⟩
  have hlt : ∀ x ∈ srcs ++ [s], x.lines ≠ [] → ∀ g, x.vl.ownBlock = some g → g < w2.heap.size := by
    intro x hx hn g hg'
    obtain ⟨g', o, cap, h1, -, -, -, h5, -⟩ := (hall x hx).1.2 hn
    rw [h1] at hg'
    cases hg'
    exact h5
  refine ⟨?_, fun x hx => ⟨(hall x hx).1.1, fun hn => ?_⟩, fun x hx hn g hg' => ?_, ?_⟩
  · simpa [List.flatMap_append] using ho
  · exact ((hall x hx).1.2 hn).move hsz fun g hg' => hkeep g (hlt x hx hn g hg') ((hall x hx).2 hn g hg')
  · rcases hwh with e | e
    · rw [e]; exact (hall x hx).2 hn g hg'
    · rw [e]
      have := hlt x hx hn g hg'
      simp
      omega
  · exact (h.bel.alloc h.bel.size o).grown hg (by simp; have := h.bel.size; omega) (fun k hk => (h.row.lt k hk).1)

theorem srcL_take (q : Qry) (fr tt : Int) (ps : List PA) (k : Nat) (h : k < ps.length) : srcL q fr tt (ps.take (k + 1)) = srcL q fr tt (ps.take k) ++ (if q.ms.all (okM ps[k].1) = true then [(ps[k].1, ps[k].2.2.filter (lineB q fr tt))] else []) := by
  rw [List.take_succ_eq_append_getElem h]
  unfold srcL
  rw [List.filter_append, List.map_append]
  congr 1
  rw [List.filter_cons]
  split <;> simp

/-- what is known of a store's streams -/
structure NodesFine (ns : List Node) : Prop where
  labs : ∀ n ∈ ns, labelsB n.lab = true ∧ n.lab.length ≤ 1048576
  lines : ∀ n ∈ ns, n.lines.length ≤ 300 ∧ ∀ y ∈ n.lines, y.2.length ≤ 1048576
  six : ns.length ≤ 6

theorem NodesFine.of {ns : List Node} {S : List Strm} {L : List Rw} (h : RelA (ns.map absN) S L) (hf : Fine S L) : NodesFine ns := by
  refine ⟨fun n hn => ?_, fun n hn => ?_, by rw [h.len']; exact h.six⟩
  · exact hf.labs (n.lab, n.latest) (h.node.2 ⟨n, hn, rfl⟩)
  · rw [h.lines' hn]
    refine ⟨?_, fun y hy => ?_⟩
    · rw [List.length_map]
      exact Nat.le_trans (List.length_filter_le _ _) h.many
    · obtain ⟨r, hr, rfl⟩ := List.mem_map.1 hy
      exact Nat.le_trans (hf.lines r (List.mem_filter.1 hr).1).1 (by omega)

def SrcsP (w : World) (q : Qry) (fr tt : Int) (ps : List PA) (e : Ending) (w' : World) : Prop :=
  ∃ v srcs, e = .returned v ∧ SrcI w w' v srcs ∧ srcs.map (fun s => (s.lab, s.lines)) = srcL q fr tt ps

set_option maxRecDepth 10000 in
set_option maxHeartbeats 4000000 in
theorem sources_any {w : World} {F : Nat → Prop} {p base rb : Nat} {ns : List Node} {va vm vf : Value} {q : Qry} (fr tt : Int) (h : StoreAt w F p ns va) (hn : NodesFine ns) (hq : QueryAt w base rb q vm vf) (hv : ∀ f ∈ q.fs, f.text.length ≤ 200) (hG : MaxAt w) (h8 : 8 ≤ w.heap.size) :
    Calls Tryz.prog 42 #[.pointer (some ⟨p, 0, none⟩), .pointer (some ⟨rb, 1, none⟩), .int .i64 fr, .int .i64 tt] w (SrcsP w q fr tt (ns.map absN)) := by
  obtain ⟨i0, hi0, hz0, hs0, hb0⟩ := info_parts srcInfo
  obtain ⟨ao, cap, rfl, hnc, hcm, hnil, hao, hcell, -⟩ := owns_form h.row
  obtain ⟨c0, -⟩ := cell_of_block1 h.block
  have hplt := h.lt
  have HH := hide h
  have HN := hide hnil
  have HA := hide hao
  have HC := hide hcell
  have HNF := hide hn
  have HQ := hide hq
  have HV := hide hv
  have HG := hide hG
  have h6 := hn.six
  unfold maxLen at hcm
  clear h hnil hao hcell hn hq hv hG
  go_enter Tryz.func42, Tryz.ntmps42
  go_wp2_with fail
  go_loopw [9, 17] (fun v i wr => ∃ (k : Nat) (srcs : List Src), k ≤ ns.length ∧ i = .int .i64 k ∧ Hid (SrcI w wr v srcs ∧ srcs.map (fun s => (s.lab, s.lines)) = srcL q fr tt ((ns.map absN).take k)) ∧ srcs.length ≤ k) (fun _ i _ => ns.length - (intOf i).toNat)
  case atStart => exact ⟨0, [], Nat.zero_le _, rfl, hide ⟨⟨World.ownsRow_nil _ _ _ _, fun s hs => (by cases hs), fun s hs => (by cases hs), Below.refl _ _⟩, rfl⟩, Nat.le_refl _⟩
  case round =>
    obtain ⟨k, srcs, hk, rfl, HI, hsl⟩ := hrel
    by_cases hlt : k < ns.length
    · obtain ⟨⟨g, o, sp⟩, rfl⟩ : ∃ a, ao = some a := by
        cases ao with
        | none => have := (unhide HN rfl).1; omega
        | some a => exact ⟨a, rfl⟩
      obtain ⟨ho, hsp, -, hgw⟩ := unhide HA _ rfl
      simp only at ho hsp hgw
      subst ho hsp
      have hbr := (unhide HI).1.bel
      have hszr := hbr.size
      have hnd := ((unhide HH).nodes _ (List.getElem_mem hlt)).keep (w' := wr) (hbr.block _ ((unhide HH).nodes _ (List.getElem_mem hlt)).lt) (fun b hb' => hbr.block _ (ownsRow_type ((unhide HH).nodes _ (List.getElem_mem hlt)).row hb').1)
      have m0 : wr.cell? ⟨g, k, none⟩ = some (.pointer (some ⟨ns[k].blk, 0, none⟩)) := by
        rw [hbr.cell (p := ⟨g, k, none⟩) hgw, unhide HC _ rfl k (by omega), List.getElem?_map, List.getElem?_eq_getElem hlt]
        rfl
      have hfk := unhide HNF
      have hlab := hfk.labs _ (List.getElem_mem hlt)
      have hlin := hfk.lines _ (List.getElem_mem hlt)
      clear hfk
      have hqr := (unhide HQ).below hbr
      have hla := sLabels_any hnd
      have hma := matches_any ns[k].lab hqr hlab.1 hlab.2
      have hak : (ns.map absN)[k]'(by simpa using hlt) = absN ns[k] := by simp
      have HST := hide (show srcL q fr tt ((ns.map absN).take (k + 1)) = srcL q fr tt ((ns.map absN).take k) ++ (if q.ms.all (okM ns[k].lab) = true then [(ns[k].lab, ns[k].lines.filter (lineB q fr tt))] else []) from by
        have := srcL_take q fr tt (ns.map absN) k (by simpa using hlt)
        rw [hak] at this
        exact this)
      clear hak
      have HND := hide hnd
      have HQR := hide hqr
      clear hbr hnd hqr
      go_wp2_with fail
      refine hla.mono ?_
      rintro e w0 ⟨rfl, rfl⟩
      clear hla
      go_wp2_with fail
      refine hma.mono ?_
      rintro e w1 ⟨rfl, hb1⟩
      clear hma
      have hI1 := (unhide HI).1.below hb1
      have HSL := hide (unhide HI).2
      cases hm : q.ms.all (okM ns[k].lab) with
      | false =>
        have HF2 := hide (show SrcI w w1 u9 srcs ∧ srcs.map (fun s => (s.lab, s.lines)) = srcL q fr tt ((ns.map absN).take (k + 1)) from ⟨hI1, by rw [unhide HST, if_neg (show ¬ q.ms.all (okM ns[k].lab) = true by simp [hm]), List.append_nil]; exact unhide HSL⟩)
        clear hI1 hb1
        go_wp2_with fail
        go_roundw
        case rel => exact ⟨k + 1, srcs, by omega, by go_num, HF2, by omega⟩
        case measure => simp [intOf]; omega
      | true =>
        have hnd1 := (unhide HND).keep (w' := w1) (hb1.block _ (unhide HND).lt) (fun b hb' => hb1.block _ (ownsRow_type (unhide HND).row hb').1)
        have hla := sLabels_any hnd1
        have hs1 := hb1.size
        have hbw1 := hI1.bel
        have hfi := sFind_any fr tt hnd1 hlin.1 hlin.2 ((unhide HQR).below hb1) (unhide HV) ((unhide HG).below h8 hbw1) (by omega)
        have HI1 := hide hI1
        clear hnd1 hI1 hb1 hbw1 HI HND
        go_wp2_with fail
        refine hla.mono ?_
        rintro e w0 ⟨rfl, rfl⟩
        clear hla
        go_wp2_with fail
        refine hfi.mono ?_
        rintro e w2 ⟨vl, rfl, hown2, hb2⟩
        clear hfi
        have hI2 := (unhide HI1).below hb2
        have hs2 := hb2.size
        obtain ⟨al, cl, rfl, hncl, hcml, hnill, haol, hcl, -⟩ := owns_form hown2
        have hfl : (ns[k].lines.filter (lineB q fr tt)).length ≤ 300 := Nat.le_trans (List.length_filter_le _ _) hlin.1
        have hok : OkSrc w2 w2.heap.size ⟨ns[k].lab, ns[k].lines.filter (lineB q fr tt), .slice al (ns[k].lines.filter (lineB q fr tt)).length cl⟩ := by
          refine ⟨⟨_, _, rfl⟩, fun hne => ?_⟩
          cases al with
          | none => exact absurd (List.eq_nil_of_length_eq_zero (hnill rfl).1) hne
          | some a =>
            obtain ⟨ga, oa, sa⟩ := a
            obtain ⟨e1, e2, -, e4⟩ := haol _ rfl
            simp only at e1 e2 e4
            subst e1 e2
            exact ⟨ga, 0, cl, rfl, hncl, hfl, hcml, e4, fun j hj => by rw [Nat.zero_add]; exact hcl _ rfl j hj⟩
        have hap : (ns[k].lines.filter (lineB q fr tt)) ≠ [] → ∀ g, (Value.slice al (ns[k].lines.filter (lineB q fr tt)).length cl).ownBlock = some g → u9.ownBlock ≠ some g := by
          intro _ g hg e
          have h1 := (unhide HI1).row.lt g e
          cases al with
          | none => cases hg
          | some a =>
            cases hg
            have h2 := (haol _ rfl).2.2.1
            omega
        have HOK := hide hok
        have HAP := hide hap
        have HI2 := hide hI2
        have hrow2 := hI2.row
        have hsz2 := hI2.bel.size
        obtain ⟨ar, cr, hvr, -, -, -, -, -, -⟩ := owns_form hrow2
        subst hvr
        have HFE := hide (show (srcs ++ [(⟨ns[k].lab, ns[k].lines.filter (lineB q fr tt), .slice al (ns[k].lines.filter (lineB q fr tt)).length cl⟩ : Src)]).map (fun s => (s.lab, s.lines)) = srcL q fr tt ((ns.map absN).take (k + 1)) from by
          rw [unhide HST, if_pos (show q.ms.all (okM ns[k].lab) = true from hm), List.map_append, unhide HSL]
          rfl)
        clear hb2 hown2 hnill haol hcl hok hap hI2 HI1 hncl hcml
        generalize (ns[k].lines.filter (lineB q fr tt)) = FL at *
        go_wp2_with (at_builtin; refine wpList_append_at _ rfl _ _ 86 rfl w.heap.size 105 i0 _ 2 40 Tryz.underlying86 hi0 hz0 hs0 hb0 rfl (by decide) _ _ _ rfl (hrow2.alloc _) (some ⟨_, 0, none⟩) 1 1 [SV ns[k].lab, .slice al FL.length cl] rfl rfl (by intro e; cases e) (cells_new _ _ _) (by intro u hu; simp at hu; rcases hu with rfl | rfl <;> rfl) (by unfold maxLen; omega) (by omega) (by simp; omega) ?_; intro v6 w6 hown6 hgrow6 hwh6; have HI6 := hide (SrcI.more (unhide HI2) (unhide HOK) (unhide HAP) hgrow6 hown6 hwh6); clear hgrow6 hown6 hwh6)
        go_roundw
        case rel => exact ⟨k + 1, _, by omega, by go_num, hide ⟨unhide HI6, unhide HFE⟩, by simp; omega⟩
        case measure => simp [intOf]; omega
    · have hkn : k = ns.length := by omega
      have HF2 := hide (show SrcsP w q fr tt (ns.map absN) (.returned u9) wr from ⟨_, srcs, rfl, (unhide HI).1, by rw [(unhide HI).2, List.take_of_length_le (by simp; omega)]⟩)
      go_wp2_with fail
      go_ret
      exact unhide HF2

end Go.Proofs.YtbljamcdaoofbaaGreatDoor
