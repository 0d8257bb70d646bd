/- Texts Sources, PTok, joined. -/
import Derived.Test.YtbljamcdaoofbaaGreatDoorRelPushToAsked
import Derived.Test.YtbljamcdaoofbaaGreatDoorBaseToTok
import Derived.Test.YtbljamcdaoofbaaGreatDoorLabelEqToRAsks
/- The sources that a query asks for, and the rows that the reference tells: one list. -/
namespace Go.Proofs.YtbljamcdaoofbaaGreatDoor
open Go.RowKit

/-- the program's sources, of streams ps -/
def srcL (q : Qry) (fr tt : Int) (ps : List PA) : List (List UInt8 × List Ln) := (ps.filter (fun a => q.ms.all (okM a.1))).map (fun a => (a.1, a.2.2.filter (lineB q fr tt)))
def ordR (bw : Bool) (T : List Rw) : List Rw := if bw = true then T.reverse else T

theorem RelA.rise {ps : List PA} {S : List Strm} {L : List Rw} (h : RelA ps S L) : RiseL L := by
  unfold RiseL
  rw [List.pairwise_iff_forall_sublist]
  intro x y hxy e
  obtain ⟨a, ha, hax⟩ := h.all x (hxy.subset (by simp))
  have h1 := hxy.filter (fun r => r.1 == a.1)
  rw [List.filter_cons, if_pos (by simp [hax]), List.filter_cons, if_pos (by simp [hax, e]), List.filter_nil] at h1
  have h2 := h1.map (fun r => (r.2.1, r.2.2))
  rw [← h.lines a ha] at h2
  have h3 := h.order a ha
  unfold InOrder at h3
  exact List.pairwise_iff_forall_sublist.1 h3 h2

theorem lineB_want {q : Qry} {fr tt : Int} {lab : List UInt8} (hm : q.ms.all (okM lab) = true) (r : Rw) (hr : r.1 = lab) : wantB q.ms q.fs fr tt r = lineB q fr tt (r.2.1, r.2.2) := by
  subst hr
  unfold wantB lineB asksB
  rw [hm]
  have e1 : (!decide (r.2.1 < fr)) = decide (fr ≤ r.2.1) := by
    by_cases h : r.2.1 < fr
    · rw [decide_eq_true h, decide_eq_false (by omega)]; rfl
    · rw [decide_eq_false h, decide_eq_true (by omega)]; rfl
  have e2 : (!decide (tt ≤ r.2.1)) = decide (r.2.1 < tt) := by
    by_cases h : tt ≤ r.2.1
    · rw [decide_eq_true h, decide_eq_false (by omega)]; rfl
    · rw [decide_eq_false h, decide_eq_true (by omega)]; rfl
  rw [e1, e2, Bool.true_and, Bool.and_comm (q.fs.all _), Bool.and_assoc, Bool.and_assoc, Bool.and_comm (q.fs.all _)]

theorem asked_part {ps : List PA} {S : List Strm} {L : List Rw} (h : RelA ps S L) (q : Qry) (fr tt : Int) {a : PA} (ha : a ∈ ps) (hm : q.ms.all (okM a.1) = true) :
    (askedL q.ms q.fs fr tt L).filter (fun r => r.1 == a.1) = (a.2.2.filter (lineB q fr tt)).map (rowR a.1) := by
  rw [(askedL_spec q.ms q.fs fr tt h.rise).2.1, h.lines a ha, List.filter_map, List.map_map]
  rw [List.filter_filter, List.filter_filter]
  have e1 : L.filter (fun r => (r.1 == a.1) && wantB q.ms q.fs fr tt r) = L.filter (fun r => ((lineB q fr tt) ∘ (fun r : Rw => (r.2.1, r.2.2))) r && (r.1 == a.1)) := by
    refine List.filter_congr fun r hr => ?_
    by_cases e : r.1 = a.1
    · rw [lineB_want hm r e]
      simp [e]
    · have : (r.1 == a.1) = false := by simpa using e
      rw [this]; simp
  rw [e1]
  refine Eq.symm ?_
  conv => rhs; rw [← List.map_id (L.filter _)]
  refine List.map_congr_left fun r hr => ?_
  have hr1 := (List.mem_filter.1 hr).2
  simp only [Bool.and_eq_true, beq_iff_eq] at hr1
  show rowR a.1 (r.2.1, r.2.2) = r
  rw [← hr1.2]
  rfl

theorem MInv.of_asked (bw : Bool) {ps : List PA} {S : List Strm} {L : List Rw} (h : RelA ps S L) (q : Qry) (fr tt : Int) (ss : List Src) (hss : ss.map (fun s => (s.lab, s.lines)) = srcL q fr tt ps) :
    MInv bw (ordR bw (askedL q.ms q.fs fr tt L)) ss := by
  obtain ⟨h1, -, h3⟩ := askedL_spec q.ms q.fs fr tt h.rise
  have hmem : ∀ s ∈ ss, ∃ a ∈ ps, q.ms.all (okM a.1) = true ∧ s.lab = a.1 ∧ s.lines = a.2.2.filter (lineB q fr tt) := by
    intro s hs
    have : (s.lab, s.lines) ∈ srcL q fr tt ps := by rw [← hss]; exact List.mem_map.2 ⟨s, hs, rfl⟩
    obtain ⟨a, ha, e⟩ := List.mem_map.1 this
    have ha' := List.mem_filter.1 ha
    simp only [Prod.mk.injEq] at e
    exact ⟨a, ha'.1, ha'.2, e.1.symm, e.2.symm⟩
  have hpart : ∀ s ∈ ss, (askedL q.ms q.fs fr tt L).filter (fun r => r.1 == s.lab) = s.lines.map (rowR s.lab) := by
    intro s hs
    obtain ⟨a, ha, hm, e1, e2⟩ := hmem s hs
    rw [e1, e2]
    exact asked_part h q fr tt ha hm
  have hall : ∀ r ∈ askedL q.ms q.fs fr tt L, ∃ s ∈ ss, s.lab = r.1 := by
    intro r hr
    obtain ⟨hL, hw⟩ := (h3 r).1 hr
    obtain ⟨a, ha, e⟩ := h.all r hL
    have hm : q.ms.all (okM a.1) = true := by
      rw [e]
      unfold wantB asksB at hw
      simp only [Bool.and_eq_true] at hw
      exact hw.1.1.1
    have : (a.1, a.2.2.filter (lineB q fr tt)) ∈ ss.map (fun s => (s.lab, s.lines)) := by
      rw [hss]
      exact List.mem_map.2 ⟨a, List.mem_filter.2 ⟨ha, hm⟩, rfl⟩
    obtain ⟨s, hs, e2⟩ := List.mem_map.1 this
    simp only [Prod.mk.injEq] at e2
    exact ⟨s, hs, e2.1.trans e⟩
  have hnd : (ss.map (·.lab)).Nodup := by
    have e : ss.map (·.lab) = ((ps.filter (fun a => q.ms.all (okM a.1))).map (·.1)) := by
      have := congrArg (List.map Prod.fst) hss
      rw [srcL, List.map_map, List.map_map] at this
      exact this
    rw [e]
    exact (ris_nodup h.ris).sublist (List.filter_sublist.map _)
  cases bw with
  | false => exact ⟨h1, hpart, hall, hnd⟩
  | true =>
    refine ⟨?_, ?_, ?_, hnd⟩
    · show (askedL q.ms q.fs fr tt L).reverse.Pairwise _
      rw [List.pairwise_reverse]
      exact h1
    · intro s hs
      show (askedL q.ms q.fs fr tt L).reverse.filter _ = (s.lines.reverse).map (rowR s.lab)
      rw [List.filter_reverse, hpart s hs, List.map_reverse]
    · intro r hr
      exact hall r (List.mem_reverse.1 hr)

/-- a source without lines tells nothing -/
theorem MInv.full {bw : Bool} {T : List Rw} {ss : List Src} (h : MInv bw T ss) : MInv bw T (ss.filter (fun s => !s.lines.isEmpty)) := by
  refine ⟨h.sorted, fun s hs => h.part s (List.mem_filter.1 hs).1, ?_, h.nodup.sublist (List.filter_sublist.map _)⟩
  intro r hr
  obtain ⟨s, hs, e⟩ := h.all r hr
  refine ⟨s, List.mem_filter.2 ⟨hs, ?_⟩, e⟩
  cases hl : s.lines with
  | nil =>
    have h1 := h.part s hs
    have h2 : r ∈ T.filter (fun r => r.1 == s.lab) := List.mem_filter.2 ⟨hr, by simp [e]⟩
    rw [h1, rowsO, hl] at h2
    cases bw <;> simp [ordL] at h2
  | cons x l => rfl

end Go.Proofs.YtbljamcdaoofbaaGreatDoor

/- The program's tokens: look, step and cut of the cutter. -/
namespace Go.Proofs.YtbljamcdaoofbaaGreatDoor
open Go.RowKit

/-- the cutter lies at block c: its text, where the token begins, where it is -/
def CutAt (w : World) (c : Nat) (l : List UInt8) (b a : Nat) : Prop := w.heap[c]? = some (.cells #[SV l, .int .i64 b, .int .i64 a] 196 (0, 0))

/-- the class of a byte -/
def classI (x : Int) : Int :=
  if x = 32 then 1 else if 97 ≤ x ∧ x ≤ 122 then 2 else if 48 ≤ x ∧ x ≤ 57 then 3 else if x = 34 then 4 else if x = 61 then 5
  else if x = 33 ∨ x = 124 then 6 else if x = 123 ∨ x = 125 ∨ x = 40 ∨ x = 41 ∨ x = 91 ∨ x = 93 ∨ x = 44 then 7 else 8
def lookN (l : List UInt8) (a : Nat) : Int := match l[a]? with | none => 0 | some c => classI c.toNat

theorem beq_t {a b : Int} (h : (a == b) = true) : a = b := by simpa using h
theorem beq_f {a b : Int} (h : (a == b) = false) : a ≠ b := by simpa using h

set_option maxRecDepth 10000 in
set_option maxHeartbeats 4000000 in
theorem look_any (c : Nat) (l : List UInt8) (b a : Nat) (w : World) (h : CutAt w c l b a) :
    Calls Tryz.prog 152 #[.pointer (some ⟨c, 0, none⟩)] w fun e w' => e = .returned (.int .i64 (lookN l a)) ∧ ∃ n, w' = w.drewN n := by
  obtain ⟨c0, c1, c2, fz⟩ := cell_of_block3 h
  clear h c1 fz
  by_cases hlt : a < l.length
  · have HN := hide (show lookN l a = classI l[a].toNat by simp [lookN, hlt])
    go_enter Tryz.func152, Tryz.ntmps152
    go_wp2
    go_quiet (fail)
    go_wp2
    go_quiet (fail)
    go_wp2
    all_goals
      go_ret
      refine ⟨ret_int ?_, _, rfl⟩
      rw [unhide HN]
      clear HN
      show _ = classI (((⟨l.toArray⟩ : ByteArray)[a]'(by simpa [ByteArray.size] using hlt)).toNat : Int)
      generalize (((⟨l.toArray⟩ : ByteArray)[a]'(by simpa [ByteArray.size] using hlt)).toNat : Int) = x at *
      simp only [beq_iff_eq, beq_eq_false_iff_ne] at *
      unfold classI
      repeat' split
      all_goals omega
  · have HN := hide (show lookN l a = 0 by simp [lookN, List.getElem?_eq_none (Nat.le_of_not_lt hlt)])
    go_enter Tryz.func152, Tryz.ntmps152
    go_wp2
    go_quiet (fail)
    go_wp2
    go_ret
    exact ⟨ret_int (unhide HN).symm, _, rfl⟩

theorem CutAt.lt {w : World} {c : Nat} {l : List UInt8} {b a : Nat} (h : CutAt w c l b a) : c < w.heap.size := (Array.getElem?_eq_some_iff.1 h).1
theorem CutAt.drawn {w : World} {c : Nat} {l : List UInt8} {b a : Nat} (h : CutAt w c l b a) (n : Nat) : CutAt (w.drewN n) c l b a := h
theorem CutAt.alloc {w : World} {c : Nat} {l : List UInt8} {b a : Nat} (h : CutAt w c l b a) (o : Obj) : CutAt (w.alloc o) c l b a := by
  unfold CutAt
  rw [Go.RowKit.Below.heap_alloc w o c h.lt]
  exact h
theorem CutAt.setAt {w : World} {c : Nat} {l : List UInt8} {b a : Nat} (h : CutAt w c l b a) (a' : Nat) : CutAt (w.setCell ⟨c, 2, none⟩ (.int .i64 a')) c l b a' := by
  unfold CutAt at h ⊢
  simp [World.setCell, Array.getElem?_modify, h]
theorem CutAt.setBegin {w : World} {c : Nat} {l : List UInt8} {b a : Nat} (h : CutAt w c l b a) (b' : Nat) : CutAt (w.setCell ⟨c, 1, none⟩ (.int .i64 b')) c l b' a := by
  unfold CutAt at h ⊢
  simp [World.setCell, Array.getElem?_modify, h]
theorem CutAt.other {w : World} {c : Nat} {l : List UInt8} {b a : Nat} (h : CutAt w c l b a) {p : Addr} (hp : c ≠ p.block) (u : Value) : CutAt (w.setCell p u) c l b a := by
  unfold CutAt
  rw [Go.RowKit.Below.heap_setCell _ _ _ _ hp]
  exact h

set_option maxRecDepth 10000 in
set_option maxHeartbeats 4000000 in
theorem step_any (c : Nat) (l : List UInt8) (b a : Nat) (w : World) (h : CutAt w c l b a) (ha : a ≤ 1048576) :
    Calls Tryz.prog 153 #[.pointer (some ⟨c, 0, none⟩)] w fun e w' => e = .returned (.int .i64 (lookN l (a + 1))) ∧ ∃ n, w' = (w.setCell ⟨c, 2, none⟩ (.int .i64 ((a + 1 : Nat) : Int))).drewN n := by
  have h2 := h.setAt (a + 1)
  obtain ⟨c0, c1, c2, fz⟩ := cell_of_block3 h
  have hf := fz 2
  clear h c1 fz c0
  go_enter Tryz.func153, Tryz.ntmps153
  go_wp2_with fail
  rw [show ((a : Int) + 1) = ((a + 1 : Nat) : Int) by omega]
  refine (look_any c l b (a + 1) _ h2).mono ?_
  rintro e w1 ⟨rfl, n, rfl⟩
  go_wp2
  go_ret
  exact ⟨rfl, n, rfl⟩

theorem box3 {w : World} {g : Nat} {t : TypeId} {x y z : Value} (h : w.heap[g]? = some (.cells #[x, y, z] t (0, 0))) (u0 u1 u2 : Value) :
    (((w.setCell ⟨g, 0, none⟩ u0).setCell ⟨g, 1, none⟩ u1).setCell ⟨g, 2, none⟩ u2).heap[g]? = some (.cells #[u0, u1, u2] t (0, 0)) := by
  simp [World.setCell, Array.getElem?_modify, h]

theorem tokSize : (Tryz.prog.info? 165).map (·.size) = some 3 := by kernel_rfl

set_option maxRecDepth 10000 in
set_option maxHeartbeats 4000000 in
theorem pcut_any (c : Nat) (l : List UInt8) (b a k : Nat) (w : World) (h : CutAt w c l b a) (hba : b ≤ a) (ha : a ≤ l.length) (hk : k ≠ 4) :
    Calls Tryz.prog 154 #[.pointer (some ⟨c, 0, none⟩), .int .i64 k] w fun e w' => e = .returned (.agg #[.int .i64 k, .int .i64 b, SV ((l.take a).drop b)]) ∧ Below w.heap.size w w' := by
  have hkb : ((k : Int) == 4) = false := by simp; omega
  have hlt := h.lt
  have HS := hide (show Value.string ((⟨l.toArray⟩ : ByteArray).extract b a) = SV ((l.take a).drop b) by rw [SV_extract])
  obtain ⟨c0, c1, c2, fz⟩ := cell_of_block3 h
  clear h fz
  go_enter Tryz.func154, Tryz.ntmps154
  go_wp2
  go_quiet (fail)
  go_wp2
  refine bodyPost_ret (results_cell_row (p := 4) (ty := 165) rfl _ _ w.heap.size _ _ _ _ rfl (box3 (heap_alloc_new _ _) _ _ _) Tryz.underlying165 rfl tokSize) rfl ⟨?_, ?_⟩
  · rw [unhide HS]
  · exact ((((Go.Proofs.YtbljamcdaoofbaaGreatDoor.Below.drawn ((Below.refl _ w).alloc (Nat.le_refl _) _) _).setCell (p := ⟨w.heap.size, 0, none⟩) (Nat.le_refl _) _).setCell (p := ⟨w.heap.size, 1, none⟩) (Nat.le_refl _) _).setCell (p := ⟨w.heap.size, 2, none⟩) (Nat.le_refl _) _)

theorem inner_text (l : List UInt8) (b a : Nat) (hba : b + 2 ≤ a) :
    Value.string (((⟨l.toArray⟩ : ByteArray).extract b a).extract 1 (a - b - 1)) = SV ((l.take (a - 1)).drop (b + 1)) := by
  have h1 : (⟨l.toArray⟩ : ByteArray).extract b a = ⟨((l.take a).drop b).toArray⟩ := extract_list _ _ _
  rw [h1, SV_extract]
  refine congrArg SV ?_
  show ((((l.take a).drop b).toArray.toList.take (a - b - 1))).drop 1 = _
  rw [List.toList_toArray, List.take_drop, List.take_take, List.drop_drop, show min (b + (a - b - 1)) a = a - 1 by omega]

set_option maxRecDepth 10000 in
set_option maxHeartbeats 4000000 in
theorem pcutS_any (c : Nat) (l : List UInt8) (b a : Nat) (w : World) (h : CutAt w c l b a) (hl : l.length ≤ 1048576) (hba : b + 2 ≤ a) (ha : a ≤ l.length) :
    Calls Tryz.prog 154 #[.pointer (some ⟨c, 0, none⟩), .int .i64 4] w fun e w' => e = .returned (.agg #[.int .i64 4, .int .i64 b, SV ((l.take (a - 1)).drop (b + 1))]) ∧ Below w.heap.size w w' := by
  have hlt := h.lt
  have HS := hide (inner_text l b a hba)
  obtain ⟨c0, c1, c2, fz⟩ := cell_of_block3 h
  clear h fz
  go_enter Tryz.func154, Tryz.ntmps154
  go_wp2
  go_quiet (fail)
  go_wp2
  refine bodyPost_ret (results_cell_row (p := 4) (ty := 165) rfl _ _ w.heap.size _ _ _ _ rfl (box3 (heap_alloc_new _ _) _ _ _) Tryz.underlying165 rfl tokSize) rfl ⟨?_, ?_⟩
  · rw [unhide HS]
  · exact ((((Go.Proofs.YtbljamcdaoofbaaGreatDoor.Below.drawn ((Below.refl _ w).alloc (Nat.le_refl _) _) _).setCell (p := ⟨w.heap.size, 0, none⟩) (Nat.le_refl _) _).setCell (p := ⟨w.heap.size, 1, none⟩) (Nat.le_refl _) _).setCell (p := ⟨w.heap.size, 2, none⟩) (Nat.le_refl _) _)

end Go.Proofs.YtbljamcdaoofbaaGreatDoor
