/- Texts MeasAll, PSamples, PGroup, PNum, PGAdd, PGFold, joined. -/
import Derived.Test.YtbljamcdaoofbaaGreatDoorPGInsertToRSample
import Derived.Test.YtbljamcdaoofbaaGreatDoorRAskedOne
import Derived.Test.YtbljamcdaoofbaaGreatDoorRFloatToPGFind
import Derived.Deep.RegionLaw
import Derived.Deep.CutRange
/- What Measure answers, as a plain function. -/
namespace Go.Proofs.YtbljamcdaoofbaaGreatDoor
open Go.RowKit

abbrev Smp := List UInt8 × Nat
def cellsMs (s : Smp) : List Value := [SV s.1, .int .i64 s.2]

/-- the keys of rows, rising -/
def keysL (by_ : List UInt8) (T : List Rw) : List (List UInt8) := T.foldl (fun ks r => putL ks (keyL by_ r)) []
/-- the rows of a group -/
def grpL (by_ : List UInt8) (T : List Rw) (k : List UInt8) : List Rw := T.filter (fun r => keyL by_ r == k)
noncomputable def grpS (q : Qry) (G : List Rw) : Option Nat := smpS q.meas q.span G.length (bytesL G) (manyL G) (sumL G)
/-- the samples -/
noncomputable def smpsL (q : Qry) (T : List Rw) (ks : List (List UInt8)) : List Smp := ks.filterMap (fun k => (grpS q (grpL q.by_ T k)).map (fun b => (k, b)))

def measE (l : List UInt8) (at_ : Int) : Int × Int :=
  if 200 < l.length then (7, 0)
  else if (parseL l).2.1 = false then (8, (parseL l).1)
  else if ((parseL l).2.2.meas == []) = true then (9, 0)
  else if timeB at_ = false then (10, 0)
  else (0, 0)

noncomputable def measA (l : List UInt8) (at_ : Int) (L : List Rw) : List Smp :=
  if (measE l at_).1 = 0 then smpsL (parseL l).2.2 (askedL (parseL l).2.2.ms (parseL l).2.2.fs (at_ - (parseL l).2.2.span + 1) (at_ + 1) L) (keysL (parseL l).2.2.by_ (askedL (parseL l).2.2.ms (parseL l).2.2.fs (at_ - (parseL l).2.2.span + 1) (at_ + 1) L)) else []

/-- samples, an error and a place came out -/
def MeasP3 (w : World) (R : List Smp) (er pl : Int) (e : Ending) (w' : World) : Prop :=
  ∃ v, e = .returned (.tuple #[v, .int .i64 er, .int .i64 pl]) ∧ w'.ownsRow w.heap.size 57 2 v R.length (R.flatMap cellsMs) ∧ Below w.heap.size w w'

theorem MeasP3.ers {w w' : World} {l : List UInt8} {at_ : Int} {L : List Rw} {er pl : Int} (h : measE l at_ = (er, pl)) (h0 : er ≠ 0) (hb : Below w.heap.size w w') : MeasP3 w (measA l at_ L) (measE l at_).1 (measE l at_).2 (.returned (.tuple #[.slice none 0 0, .int .i64 er, .int .i64 pl])) w' := by
  have : measA l at_ L = [] := by unfold measA; rw [h, if_neg h0]
  rw [this, h]
  exact ⟨_, rfl, World.ownsRow_nil _ _ _ _, hb⟩

theorem keysL_snoc (by_ : List UInt8) (T : List Rw) (k : Nat) (h : k < T.length) : keysL by_ (T.take (k + 1)) = putL (keysL by_ (T.take k)) (keyL by_ T[k]) := by
  rw [List.take_succ_eq_append_getElem h, keysL, List.foldl_append]
  rfl

theorem putL_len1 (l : List (List UInt8)) (s : List UInt8) : (putL l s).length ≤ l.length + 1 := by
  unfold putL
  split
  · omega
  · simp
    omega

theorem keysL_len (by_ : List UInt8) (T : List Rw) : ∀ k, k ≤ T.length → (keysL by_ (T.take k)).length ≤ k := by
  intro k
  induction k with
  | zero => intro _; simp [keysL]
  | succ k ih =>
    intro h
    rw [keysL_snoc by_ T k (by omega)]
    have := putL_len1 (keysL by_ (T.take k)) (keyL by_ T[k])
    have := ih (by omega)
    omega

theorem grpL_snoc (by_ : List UInt8) (T : List Rw) (key : List UInt8) (k : Nat) (h : k < T.length) : grpL by_ (T.take (k + 1)) key = grpL by_ (T.take k) key ++ (if (keyL by_ T[k] == key) = true then [T[k]] else []) := by
  unfold grpL
  rw [List.take_succ_eq_append_getElem h, List.filter_append]
  congr 1
  by_cases e : (keyL by_ T[k] == key) = true
  · rw [if_pos e]; simpa using e
  · rw [if_neg e]; simpa using e

theorem smpsL_snoc (q : Qry) (T : List Rw) (ks : List (List UInt8)) (k : Nat) (h : k < ks.length) : smpsL q T (ks.take (k + 1)) = smpsL q T (ks.take k) ++ (match grpS q (grpL q.by_ T ks[k]) with | some b => [(ks[k], b)] | none => []) := by
  unfold smpsL
  rw [List.take_succ_eq_append_getElem h, List.filterMap_append]
  congr 1
  cases e : grpS q (grpL q.by_ T ks[k]) with
  | none => rw [List.filterMap_cons_none (by rw [e]; rfl), List.filterMap_nil]
  | some b => rw [List.filterMap_cons_some (b := (ks[k], b)) (by rw [e]; rfl), List.filterMap_nil]

theorem smpsL_len (q : Qry) (T : List Rw) (ks : List (List UInt8)) : (smpsL q T ks).length ≤ ks.length := List.length_filterMap_le _ _

theorem spanI_ok {ts : List Tok} {i : Nat} (h : (spanI ts i).2.1 = true) : 1 ≤ (spanI ts i).2.2 ∧ (spanI ts i).2.2 ≤ 1000000 := by
  by_cases h1 : markB ts i [91] = false
  · unfold spanI at h; rw [if_pos h1] at h; simp at h
  · by_cases h2 : spanAt ts (i + 1) = false
    · unfold spanI at h; rw [if_neg h1, if_pos h2] at h; simp at h
    · by_cases h3 : markB ts (i + 2) [93] = false
      · unfold spanI at h; rw [if_neg h1, if_neg h2, if_pos h3] at h; simp at h
      · have h4 : spanAt ts (i + 1) = true := by simpa using h2
        unfold spanAt at h4
        simp only [Bool.and_eq_true, decide_eq_true_eq] at h4
        unfold spanI
        rw [if_neg h1, if_neg h2, if_neg h3]
        exact ⟨h4.1.2, h4.2⟩

/-- a measure has a span -/
theorem meas_span (l : List UInt8) (h : ((parseL l).2.2.meas == []) = false) : 1 ≤ (parseL l).2.2.span ∧ (parseL l).2.2.span ≤ 1000000 := by
  have e : (parseL l).2.2 = (anyI (toks l 0)).2.2 := rfl
  rw [e] at h ⊢
  generalize toks l 0 = ts at *
  by_cases h0 : ((tokAt ts 0).k == 0) = true
  · have e0 : anyI ts = measI ts := by unfold anyI; rw [if_pos h0]
    rw [e0] at h ⊢
    by_cases h1 : ((tokAt ts 0).k == 0 && measB (tokAt ts 0).text) = false
    · unfold measI at h; rw [if_pos h1] at h; simp [emptyQ] at h
    · by_cases h2 : markB ts 1 [40] = false
      · unfold measI at h; rw [if_neg h1, if_pos h2] at h; simp [emptyQ] at h
      · by_cases h3 : (rowsI ts 2).2.1 = false
        · unfold measI at h; rw [if_neg h1, if_neg h2, if_pos h3] at h; simp [emptyQ] at h
        · by_cases h4 : (spanI ts (rowsI ts 2).1).2.1 = false
          · unfold measI at h; rw [if_neg h1, if_neg h2, if_neg h3, if_pos h4] at h; simp [emptyQ] at h
          · by_cases h5 : markB ts (spanI ts (rowsI ts 2).1).1 [41] = false
            · unfold measI at h; rw [if_neg h1, if_neg h2, if_neg h3, if_neg h4, if_pos h5] at h; simp [emptyQ] at h
            · unfold measI
              rw [if_neg h1, if_neg h2, if_neg h3, if_neg h4, if_neg h5]
              exact spanI_ok (by simpa using h4)
  · unfold anyI at h
    rw [if_neg h0] at h
    simp at h

end Go.Proofs.YtbljamcdaoofbaaGreatDoor

/- The program's Samples. -/
namespace Go.Proofs.YtbljamcdaoofbaaGreatDoor
open Go.RowKit

theorem infoSp : (Tryz.prog.info? 57).map (fun i => (i.zero, i.size, i.bytes)) = some (some (.agg #[.string ByteArray.empty, .int .i64 0]), 2, 24) := by kernel_rfl

/-- groups -/
structure GroupsAt (w : World) (base gb : Nat) (kind : List UInt8) (span : Nat) (vg : Value) (gs : List Grp) : Prop where
  block : w.heap[gb]? = some (.cells #[SV kind, .int .i64 span, vg] 139 (0, 0))
  row : w.ownsRow base 148 4 vg gs.length (gs.flatMap cellsG)

/-- a group that is not empty nor too great -/
def GFit (g : Grp) : Prop := 0 < g.n ∧ g.n ≤ 300 ∧ g.b ≤ 12000 ∧ -300000300 ≤ g.s ∧ g.s ≤ 300000300

noncomputable def smpG (kind : List UInt8) (span : Nat) (g : Grp) : Smp := (g.key, valS kind span g.n g.b g.s)

theorem valS_lt {kind : List UInt8} {span n b : Nat} {s : Int} (hs : 0 < span) (hs2 : span ≤ 1000000) (hn : 0 < n) (hn2 : n ≤ 300) (hb : b ≤ 12000) (s1 : -300000300 ≤ s) (s2 : s ≤ 300000300) : valS kind span n b s < 6442450944 := by
  have h60 : (300000300 : Nat) < 2 ^ 60 := by decide
  have k1 : ∀ A D, A < 16777216 → 0 < D → D < 16777216 → fB A D < 4294967296 := fun A D hA h0 h1 => by
    have := fB_whole_lt (A := A) (D := D) (Nat.lt_trans hA (by decide)) h0 h1
    rwa [whole_small hA] at this
  unfold valS
  split
  · have := k1 n span (by omega) hs (by omega); omega
  · split
    · have := k1 b 1 (by omega) (by omega) (by omega); omega
    · split
      · split
        · have := fB_whole_lt (A := (-s).toNat) (D := n) (by omega) hn (by omega); omega
        · have := fB_whole_lt (A := s.toNat) (D := n) (by omega) hn (by omega); omega
      · have := k1 n 1 (by omega) (by omega) (by omega); omega

set_option maxRecDepth 10000 in
set_option maxHeartbeats 1000000 in
theorem samples_any {w : World} {base gb : Nat} {kind : List UInt8} {span : Nat} {vg : Value} {gs : List Grp} (h : GroupsAt w base gb kind span vg gs) (hs : 0 < span) (hs2 : span ≤ 1000000) (hn : gs.length ≤ 300) (hf : ∀ g ∈ gs, GFit g) :
    Calls Tryz.prog 55 #[.pointer (some ⟨gb, 0, none⟩)] w fun e w' => ∃ v, e = .returned v ∧ w'.ownsRow w.heap.size 57 2 v gs.length ((gs.map (smpG kind span)).flatMap cellsMs) ∧ Below w.heap.size w w' := by
  obtain ⟨i0, hi0, hz0, hs0, hb0⟩ := info_parts infoSp
  obtain ⟨ao, cap, rfl, hnc, hcm, hnil, hao, hcell, hfz⟩ := owns_form h.row
  obtain ⟨c0, c1, c2, -⟩ := cell_of_block3 h.block
  have hplt := (Array.getElem?_eq_some_iff.1 h.block).1
  have HN := hide hnil
  have HA := hide hao
  have HC := hide hcell
  have HH := hide h.block
  have HF := hide hf
  clear hnil hao hcell hfz h hf c0 c1
  go_enter Tryz.func55, Tryz.ntmps55
  go_upto_region 2 with (at_make; refine wpList_make_own _ rfl (.const (.int .i64 0)) (.tmp 10) 52 rfl w.heap.size 57 i0 (.agg #[.string ByteArray.empty, .int .i64 0]) 2 Tryz.underlying52 hi0 hz0 hs0 .i64 .i64 _ gs.length rfl rfl rfl (by rw [hb0]; omega) (by unfold maxLen; omega) (Nat.le_refl _) ?_; intro w1 hown1 hgr1)
  have hb1 : Below w.heap.size w w1 := (Below.refl _ w).grown hgr1 (Nat.le_refl _) (fun k hk => by cases hk)
  have c3 : w1.cell? ⟨gb, 2, none⟩ = some (.slice ao gs.length cap) := (hb1.cell (by exact hplt)).trans c2
  clear hgr1 c2
  go_wp2
  go_loopw [3, 5, 17] (fun v _ i wr => ∃ k : Nat, k ≤ gs.length ∧ i = .int .i64 k ∧ wr.ownsRow w.heap.size 57 2 v k (((gs.take k).map (smpG kind span)).flatMap cellsMs) ∧ Hid (Below w.heap.size w wr)) (fun _ _ i _ => gs.length - (intOf i).toNat)
  case atStart => exact ⟨0, by omega, rfl, by simpa using hown1, hide hb1⟩
  case round =>
    obtain ⟨k, hk, rfl, hown, HB⟩ := hrel
    have hsz := (unhide HB).size
    by_cases hlt : k < gs.length
    · obtain ⟨⟨g, o, sp⟩, rfl⟩ : ∃ a, ao = some a := by
        cases ao with
        | none => have := (unhide HN rfl).1; omega
        | some a => exact ⟨a, rfl⟩
      obtain ⟨ho, hsp, -, hgw⟩ := unhide HA _ rfl
      simp only at ho hsp hgw
      subst ho hsp
      obtain ⟨e0, e1, e2, e3⟩ := cellsG_at gs k hlt
      have m0 := (((unhide HB).cell (p := ⟨g, k * 4, none⟩) hgw).trans (unhide HC _ rfl _ (by omega))).trans e0
      have m1 := (((unhide HB).cell (p := ⟨g, k * 4 + 1, none⟩) hgw).trans (unhide HC _ rfl _ (by omega))).trans e1
      have m2 := (((unhide HB).cell (p := ⟨g, k * 4 + 2, none⟩) hgw).trans (unhide HC _ rfl _ (by omega))).trans e2
      have m3 := (((unhide HB).cell (p := ⟨g, k * 4 + 3, none⟩) hgw).trans (unhide HC _ rfl _ (by omega))).trans e3
      clear e0 e1 e2 e3
      go_upto_region 5 with fail
      have HSN := hide (show ((gs.take (k + 1)).map (smpG kind span)).flatMap cellsMs = ((gs.take k).map (smpG kind span)).flatMap cellsMs ++ [SV gs[k].key, .int .i64 (valS kind span gs[k].n gs[k].b gs[k].s)] by rw [List.take_succ_eq_append_getElem hlt, List.map_append, List.flatMap_append]; rfl)
      obtain ⟨t1, t2, t3, t4, t5⟩ := unhide HF gs[k] (List.getElem_mem _)
      have hvl := valS_lt (kind := kind) hs hs2 t1 t2 t3 t4 t5
      have hgbr : wr.heap[gb]? = some (.cells #[SV kind, .int .i64 span, .slice (some ⟨g, 0, none⟩) gs.length cap] 139 (0, 0)) := ((unhide HB).block gb hplt).trans (unhide HH)
      generalize gs[k] = gr at *
      obtain ⟨key, n, b, su⟩ := gr
      simp only at m0 m1 m2 m3 HSN t1 t2 t3 t4 t5 hvl
      have hgw2 : gb < wr.heap.size := by omega
      have hbox := heap_alloc_new wr (.cells #[SV key, .int .i64 n, .int .i64 b, .int .i64 su] 148)
      have hgb2 : (wr.alloc (.cells #[SV key, .int .i64 n, .int .i64 b, .int .i64 su] 148)).heap[gb]? = _ := (Go.RowKit.Below.heap_alloc wr _ gb hgw2).trans hgbr
      have hb2 : Below w.heap.size w (wr.alloc (.cells #[SV key, .int .i64 n, .int .i64 b, .int .i64 su] 148)) := (unhide HB).alloc hsz _
      have hown2 := hown.alloc (.cells #[SV key, .int .i64 n, .int .i64 b, .int .i64 su] 148)
      have hszW : wr.heap.size < (wr.alloc (.cells #[SV key, .int .i64 n, .int .i64 b, .int .i64 su] 148)).heap.size := by simp
      clear m0 m1 m2 m3 hgbr hown HB
      generalize wr.alloc (.cells #[SV key, .int .i64 n, .int .i64 b, .int .i64 su] 148) = W at *
      generalize wr.heap.size = bx at *
      have HGB := hide hgb2
      have HBX := hide hbox
      have HB2 := hide hb2
      have hbc : ∀ j v, (#[SV key, Value.int .i64 n, .int .i64 b, .int .i64 su] : Array Value)[j]? = some v → W.cell? ⟨bx, j, none⟩ = some v := fun j v hj => by rw [cell_of_row W bx j _ _ (0, 0) hbox]; exact hj
      have x0 := hbc 0 _ rfl
      have x1 := hbc 1 _ rfl
      have x2 := hbc 2 _ rfl
      have x3 := hbc 3 _ rfl
      have hbr := bits_run
      obtain ⟨ar, capr, rfl, -, -, -, -, -, -⟩ := owns_form hown2
      clear hbc hgb2 hbox hb2
      have hval := value_any' (w := W.drew) (key := key) (show W.drew.heap[gb]? = _ from unhide HGB) t1 t2 t3 hs hs2 t4 t5
      generalize valS kind span n b su = z at *
      have hwz : IntKind.i64.wrap (z : Int) = (z : Int) := by rw [IntKind.wrap_i64]; omega
      go_region_law (first
        | (refine step_append_at rfl (.tmp 21) (.tmp 30) 52 rfl w.heap.size 57 i0 (.agg #[.string ByteArray.empty, .int .i64 0]) 2 24 Tryz.underlying52 hi0 hz0 hs0 hb0 rfl (by decide) (.slice ar k capr) k _ (by simp [Act.eval]) (hown3.alloc _) (some ⟨w3.heap.size, 0, none⟩) 1 1 [SV key, .int .i64 z] (by simp [Act.eval]) rfl (by intro e; cases e) (cells_new w3 _ _) (by intro u hu; simp at hu; rcases hu with rfl | rfl <;> rfl) (by unfold maxLen; omega) (by omega) (by simp; omega) ?_; intro v4 w4 hown4 hgrow4 hwh4)
        | (go_simp; go_at_call 87; refine hval.mono ?_; rintro e w3 ⟨rfl, hb3⟩; have y0 := (hb3.cell (p := ⟨bx, 0, none⟩) hszW).trans x0; have hown3 := ownsRow_same hown2 (fun g hg => hb3.block g (ownsRow_type hown2 hg).1); have hsz3 : W.heap.size ≤ w3.heap.size := hb3.size; dsimp only))
      all_goals
        have hb3' : Below W.heap.size W w3 := ⟨hb3.os, hb3.tape, hb3.output, hb3.size, hb3.block⟩
        have hw3 : Below w.heap.size w w3 := (unhide HB2).trans (hb3'.mono (unhide HB2).size)
        have HW4 := hide ((hw3.alloc hw3.size _).grown hgrow4 (by have := hw3.size; simp; omega) (fun k hk => (hown3.lt k hk).1))
        clear hb3 hb3' hw3 hgrow4 hwh4 hown3 y0 hval
        go_wp2_with fail
        go_roundw
        case rel =>
          refine ⟨k + 1, by omega, by go_num, ?_, HW4⟩
          rw [unhide HSN]
          exact hown4
        case measure => simp [intOf]; omega
    · go_wp2
      go_ret
      have hkn : k = gs.length := by omega
      subst hkn
      refine ⟨_, rfl, ?_, unhide HB⟩
      rw [List.take_of_length_le (by omega)] at hown
      exact hown

end Go.Proofs.YtbljamcdaoofbaaGreatDoor

/- The program's group: found, or made. -/
namespace Go.Proofs.YtbljamcdaoofbaaGreatDoor
open Go.RowKit

def newG (key : List UInt8) : Grp := ⟨key, 0, 0, 0⟩
/-- groups with one of this key -/
def putG (gs : List Grp) (key : List UInt8) : List Grp := if (∃ g ∈ gs, g.key = key) then gs else gs.take (gplace gs key) ++ [newG key] ++ gs.drop (gplace gs key)

theorem gplace_le (gs : List Grp) (l : List UInt8) : gplace gs l ≤ gs.length := List.length_filter_le _ _

theorem gplace_lt {gs : List Grp} {l : List UInt8} (h : ∃ g ∈ gs, g.key = l) : gplace gs l < gs.length := by
  obtain ⟨g, hg, rfl⟩ := h
  exact List.length_filter_lt_length_iff_exists.2 ⟨g, hg, by simp [less_irrefl]⟩

theorem ownsRow_raise {w : World} {B e size n : Nat} {v : Value} {xs : List Value} (h : w.ownsRow 0 e size v n xs) (hb : ∀ g, v.ownBlock = some g → B ≤ g) : w.ownsRow B e size v n xs := by
  refine ⟨h.1, ?_⟩
  rcases h.2 with h2 | ⟨g, cap, cur, hv, hg, r⟩
  · exact .inl h2
  · exact .inr ⟨g, cap, cur, hv, hb g (by rw [hv]; rfl), r⟩

theorem grp_one (gs : List Grp) : ∀ u ∈ gs.flatMap cellsG, u.oneCell' = true := by
  intro u hu
  obtain ⟨g, -, hg⟩ := List.mem_flatMap.1 hu
  simp [cellsG] at hg
  rcases hg with rfl | rfl | rfl | rfl <;> rfl

theorem grp_take (gs : List Grp) (k : Nat) : (gs.flatMap cellsG).take (k * 4) = (gs.take k).flatMap cellsG := by
  induction gs generalizing k with
  | nil => simp
  | cons x S ih =>
    cases k with
    | zero => simp
    | succ k =>
      rw [List.flatMap_cons, List.take_succ_cons, List.flatMap_cons, ← ih k]
      rw [show (k + 1) * 4 = (cellsG x).length + k * 4 by simp [cellsG]; omega, List.take_length_add_append]

theorem grp_drop (gs : List Grp) (k : Nat) : (gs.flatMap cellsG).drop (k * 4) = (gs.drop k).flatMap cellsG := by
  induction gs generalizing k with
  | nil => simp
  | cons x S ih =>
    cases k with
    | zero => simp
    | succ k =>
      rw [List.flatMap_cons, List.drop_succ_cons, ← ih k]
      rw [show (k + 1) * 4 = (cellsG x).length + k * 4 by simp [cellsG]; omega, List.drop_length_add_append]

theorem GroupsAt.below {w w' : World} {base gb : Nat} {kind : List UInt8} {span : Nat} {vg : Value} {gs : List Grp} (h : GroupsAt w base gb kind span vg gs) (hb : Below w.heap.size w w') : GroupsAt w' base gb kind span vg gs :=
  ⟨(hb.block gb (Array.getElem?_eq_some_iff.1 h.block).1).trans h.block, ownsRow_same h.row fun _ hg => hb.block _ (ownsRow_type h.row hg).1⟩

def GroupP (w : World) (B gb : Nat) (kind : List UInt8) (span : Nat) (gs : List Grp) (key : List UInt8) (e : Ending) (w' : World) : Prop :=
  ∃ g c, e = .returned (.pointer (some ⟨g, gplace gs key * 4, none⟩)) ∧ GroupsAt w' B gb kind span (.slice (some ⟨g, 0, none⟩) (putG gs key).length c) (putG gs key) ∧ Moved (fun b => b = gb ∨ B ≤ b) w w'

set_option maxRecDepth 10000 in
set_option maxHeartbeats 1000000 in
theorem group_any {w : World} {B gb : Nat} {kind : List UInt8} {span : Nat} {vg : Value} {gs : List Grp} (key : List UInt8) (h : GroupsAt w B gb kind span vg gs) (hB : B ≤ w.heap.size) (hn : gs.length ≤ 300) (hr : GRise gs) :
    Calls Tryz.prog 85 #[.pointer (some ⟨gb, 0, none⟩), .string ⟨key.toArray⟩] w (GroupP w B gb kind span gs key) := by
  obtain ⟨c0, c1, c2, fz⟩ := cell_of_block3 h.block
  have hgw := (Array.getElem?_eq_some_iff.1 h.block).1
  have hse := gsearch_any key h.row hn hr
  have hpl := gplace_le gs key
  have HH := hide h
  clear h c0 c1 hr
  go_enter Tryz.func85, Tryz.ntmps85
  go_wp2_with fail
  refine hse.mono ?_
  rintro e w1 ⟨rfl, hb1⟩
  clear hse
  have h1 := (unhide HH).below hb1
  obtain ⟨d0, d1, d2, fz1⟩ := cell_of_block3 h1.block
  have H1 := hide h1
  have HB1 := hide hb1
  have hsz1 := hb1.size
  clear h1 hb1 d0 d1 HH c2 fz
  by_cases hex : ∃ g ∈ gs, g.key = key
  · have hdec : decide (∃ g ∈ gs, g.key = key) = true := by simpa using hex
    have HP := hide (show putG gs key = gs by unfold putG; rw [if_pos hex])
    rw [hdec]
    have hlt := gplace_lt hex
    obtain ⟨g, c, rfl, -⟩ := owns_open (unhide H1).row (by omega)
    have hli : ((gplace gs key : Nat) : Int) < (gs.length : Int) := by omega
    clear hex hdec
    go_wp2_with fail
    go_ret
    refine ⟨g, c, rfl, ?_, Moved.of_below (unhide HB1)⟩
    rw [unhide HP]
    exact unhide H1
  · have hdec : decide (∃ g ∈ gs, g.key = key) = false := by simpa using hex
    have HP := hide (show putG gs key = gs.take (gplace gs key) ++ [newG key] ++ gs.drop (gplace gs key) by unfold putG; rw [if_neg hex])
    rw [hdec]
    clear hex hdec
    have hgv := heap_alloc_new w1 (.cells #[SV key, .int .i64 0, .int .i64 0, .int .i64 0] 148)
    have hrow0 := (ownsRow_base (unhide H1).row (Nat.zero_le _)).alloc (.cells #[SV key, .int .i64 0, .int .i64 0, .int .i64 0] 148)
    have hne : vg.ownBlock ≠ some w1.heap.size := fun e => by have := (ownsRow_type (unhide H1).row e).1; omega
    have hgv' : (w1.alloc (.cells #[SV key, .int .i64 0, .int .i64 0, .int .i64 0] 148)).heap[w1.heap.size]? = some (.cells (cellsG (newG key)).toArray 148 (0, 0)) := hgv
    have hins := ginsert_any (k := gplace gs key) (ys := cellsG (newG key)) hrow0 hgv' rfl hne (by intro u hu; simp [cellsG] at hu; rcases hu with rfl | rfl | rfl | rfl <;> rfl) (grp_one gs) hn hpl
    have hgbn : vg.ownBlock ≠ some gb := fun e => by
      obtain ⟨_, cur, hc⟩ := ownsRow_type (unhide H1).row e
      exact ne_of_type hc (unhide H1).block (by decide) rfl
    have hblk : (w1.alloc (.cells #[SV key, .int .i64 0, .int .i64 0, .int .i64 0] 148)).heap[gb]? = some (.cells #[SV kind, .int .i64 span, vg] 139 (0, 0)) := (Go.RowKit.Below.heap_alloc w1 _ gb (by omega)).trans (unhide H1).block
    have HBK := hide hblk
    have HR1 := hide (unhide H1).row
    clear hgv hgv' hrow0 hblk H1
    go_wp2_with fail
    refine hins.mono ?_
    rintro e w2 ⟨v2, rfl, hown2, hgr2, hwh2⟩
    clear hins
    have hszA : w1.heap.size < (w1.alloc (.cells #[SV key, .int .i64 0, .int .i64 0, .int .i64 0] 148)).heap.size := by simp
    have hb2 : w2.heap[gb]? = some (.cells #[SV kind, .int .i64 span, vg] 139 (0, 0)) := (hgr2.block gb (by omega) (fun e => hgbn e.symm)).trans (unhide HBK)
    have hrise : ∀ g, v2.ownBlock = some g → B ≤ g := fun g hg => by
      rcases hwh2 g hg with e | e
      · exact ((unhide HR1).lt g e).1
      · omega
    have hrow2 := ownsRow_raise hown2 hrise
    have HBW : Hid (Moved (fun b => b = gb ∨ B ≤ b) w w2) := by
      have hbA : Below w.heap.size w (w1.alloc (.cells #[SV key, .int .i64 0, .int .i64 0, .int .i64 0] 148)) := (unhide HB1).alloc hsz1 _
      exact (Moved.of_below hbA).grown hgr2 (fun k hk => .inl (.inr ((unhide HR1).lt k hk).1))
    have hlenE : (putG gs key).length = gs.length + 1 := by rw [unhide HP]; simp; omega
    have hflat : (gs.flatMap cellsG).take (gplace gs key * 4) ++ cellsG (newG key) ++ (gs.flatMap cellsG).drop (gplace gs key * 4) = (putG gs key).flatMap cellsG := by
      rw [unhide HP, grp_take, grp_drop, List.flatMap_append, List.flatMap_append]
      simp
    rw [hflat] at hrow2
    obtain ⟨g2, c2, rfl, -⟩ := owns_open hrow2 (by omega)
    have hne2 : g2 ≠ gb := fun e => by
      obtain ⟨_, cur, hc⟩ := ownsRow_type hrow2 (g := g2) rfl
      exact ne_of_type hc hb2 (by decide) e
    obtain ⟨y0, y1, y2, fz2⟩ := cell_of_block3 hb2
    have HFIN := hide (show GroupsAt (w2.setCell ⟨gb, 2, none⟩ (.slice (some ⟨g2, 0, none⟩) (gs.length + 1) c2)) B gb kind span (.slice (some ⟨g2, 0, none⟩) (gs.length + 1) c2) (putG gs key) from ⟨block3_set2 hb2 _, by
      rw [hlenE]
      exact ownsRow_same hrow2 fun g hg => Go.RowKit.Below.heap_setCell _ _ _ _ (fun e => hne2 (by
        have : some g2 = some g := hg
        exact (Option.some.inj this).trans e))⟩)
    have HB3 := hide (show Moved (fun b => b = gb ∨ B ≤ b) w (w2.setCell ⟨gb, 2, none⟩ (.slice (some ⟨g2, 0, none⟩) (gs.length + 1) c2)) from (unhide HBW).setCell (.inl (.inl rfl)) _)
    have hli : ((gplace gs key : Nat) : Int) < (gs.length : Int) + 1 := by omega
    clear hown2 hgr2 hwh2 hrise hrow2 hflat HBK HR1 HBW hb2
    go_wp2_with fail
    go_ret
    refine ⟨g2, c2, rfl, ?_, unhide HB3⟩
    rw [hlenE]
    exact unhide HFIN

end Go.Proofs.YtbljamcdaoofbaaGreatDoor

/- The program's number of a line. -/
namespace Go.Proofs.YtbljamcdaoofbaaGreatDoor
open Go.RowKit

def dashB (l : List UInt8) : Bool := l.take 1 == [45]
theorem dashB_head (l : List UInt8) : (l.head? = some 45) = (dashB l = true) := by
  unfold dashB
  cases l with
  | nil => simp
  | cons c r => simp
theorem numS_dash (l : List UInt8) : numS l = if dashB l = true then l.drop 1 else l := by
  unfold numS
  simp only [dashB_head]

theorem hasDash_any (l : List UInt8) (w : World) (hl : l.length ≤ 1048576) :
    Calls Tryz.prog 167 #[SV l, SV [45]] w fun e w' => e = .returned (.bool (dashB l)) ∧ w' = w := by
  have hex : Value.string ((⟨l.toArray⟩ : ByteArray).extract 0 1) = SV (l.take 1) := by rw [SV_extract_l]; simp
  have HD := hide (show dashB l = (l.take 1 == [45]) from rfl)
  go_enter Tryz.func167, Tryz.ntmps167
  by_cases h : 1 ≤ l.length
  · have hi : (1 : Int) ≤ (l.length : Int) := by omega
    go_wp2
    go_ret
    refine ⟨?_, rfl⟩
    rw [unhide HD]
    rfl
  · have h0 : l = [] := List.eq_nil_of_length_eq_zero (by omega)
    subst h0
    go_wp2
    go_ret
    exact ⟨rfl, rfl⟩

def CutP (l : List UInt8) (w : World) (e : Ending) (w' : World) : Prop := e = .returned (.tuple #[SV (numS l), .bool (dashB l)]) ∧ w' = w

theorem cutDash0_any (l : List UInt8) (w : World) (hl : l.length ≤ 1048576) :
    Calls Tryz.prog 139 #[SV l, SV [45]] w (CutP l w) := by
  have hex : Value.string ((⟨l.toArray⟩ : ByteArray).extract 1 l.length) = SV (l.drop 1) := by rw [SV_extract_l, List.take_length]
  have hh := hasDash_any l w hl
  have HS := hide (numS_dash l)
  go_enter Tryz.func139, Tryz.ntmps139
  cases hd : dashB l with
  | false =>
    rw [hd] at hh HS
    go_wp2_with fail
    refine hh.mono ?_
    rintro e w' ⟨rfl, hww⟩
    rw [hww]
    clear hww w' hh
    go_wp2_with fail
    go_ret2
    refine ⟨?_, rfl⟩
    rw [unhide HS, hd]
    rfl
  | true =>
    have h1 : 1 ≤ l.length := by
      cases l with
      | nil => simp [dashB] at hd
      | cons c r => simp
    rw [hd] at hh HS
    go_wp2_with fail
    refine hh.mono ?_
    rintro e w' ⟨rfl, hww⟩
    rw [hww]
    clear hww w' hh
    go_wp2_with fail
    go_ret2
    refine ⟨?_, rfl⟩
    rw [unhide HS, hd, if_pos trivial, List.drop_one]
    rfl

theorem cutDash_any (l : List UInt8) (w : World) (hl : l.length ≤ 1048576) :
    Calls Tryz.prog 112 #[SV l, SV [45]] w (CutP l w) := by
  have hh := cutDash0_any l w hl
  unfold CutP at hh
  go_enter Tryz.func112, Tryz.ntmps112
  go_wp2_with fail
  refine hh.mono ?_
  rintro e w' ⟨rfl, hww⟩
  rw [hww]
  clear hww w' hh
  go_wp2_with fail
  go_ret2
  exact ⟨rfl, rfl⟩

/-- the number of digits -/
def decN (s : List UInt8) : Nat := s.foldl (fun n c => 10 * n + (c.toNat - 48)) 0
theorem decN_snoc (s : List UInt8) (k : Nat) (h : k < s.length) : decN (s.take (k + 1)) = 10 * decN (s.take k) + (s[k].toNat - 48) := by
  rw [List.take_succ_eq_append_getElem h, decN, List.foldl_append]
  rfl
theorem spanL_snoc (s : List UInt8) (k : Nat) (h : k < s.length) : spanL (s.take (k + 1)) = min (10 * spanL (s.take k) + (s[k].toNat - 48)) 1000001 := by
  rw [List.take_succ_eq_append_getElem h, spanL, List.foldl_append]
  rfl
theorem dec_span (s : List UInt8) : ∀ k, k ≤ s.length → k ≤ 6 → (∀ j (h : j < s.length), j < k → isD s[j] = true) → decN (s.take k) = spanL (s.take k) ∧ decN (s.take k) < 10 ^ k := by
  intro k
  induction k with
  | zero => intro _ _ _; exact ⟨rfl, by simp [decN]⟩
  | succ k ih =>
    intro h1 h2 h3
    obtain ⟨e, hlt⟩ := ih (by omega) (by omega) (fun j hj hk => h3 j hj (by omega))
    have hd := h3 k (by omega) (by omega)
    simp only [isD, digitB, Bool.and_eq_true, decide_eq_true_eq] at hd
    have hp : 10 ^ (k + 1) ≤ 10 ^ 6 := Nat.pow_le_pow_right (by decide) h2
    have h6 : (10 : Nat) ^ 6 = 1000000 := by decide
    rw [decN_snoc s k (by omega), spanL_snoc s k (by omega), ← e]
    rw [Nat.pow_succ] at hp ⊢
    generalize 10 ^ k = z at *
    generalize decN (s.take k) = d at *
    generalize s[k].toNat = c at *
    omega

set_option maxRecDepth 10000 in
set_option maxHeartbeats 1000000 in
theorem pnumber_any (l : List UInt8) (w : World) (hl : l.length ≤ 1048576) :
    Calls Tryz.prog 84 #[SV l] w (NumP l w) := by
  have hc := cutDash_any l w hl
  unfold CutP at hc
  have HV := hide (show numB l = false → numV l = 0 from numV_zero)
  have HT := hide (fun hb => numV_of (l := l) (s := numS l) rfl (dashB l) (dashB_head l) hb)
  have HBd := hide (show numB l = ((numS l).all isD && decide (1 ≤ (numS l).length) && decide ((numS l).length ≤ 6)) from rfl)
  go_enter Tryz.func84, Tryz.ntmps84
  generalize numS l = s at *
  generalize dashB l = neg at *
  go_wp2_with fail
  refine hc.mono ?_
  rintro e w' ⟨rfl, hww⟩
  rw [hww]
  clear hww w' hc
  by_cases h1 : s.length < 1
  · have h1i : (s.length : Int) < 1 := by omega
    have hb : numB l = false := by rw [unhide HBd]; simp; omega
    have HN := hide (unhide HV hb)
    have HB := hide hb
    clear HV HT HBd hb
    go_wp2_with fail
    go_ret2
    refine ⟨?_, rfl⟩
    rw [unhide HN, unhide HB]
    rfl
  · have h1i : ¬ (s.length : Int) < 1 := by omega
    by_cases h6 : 6 < s.length
    · have h6i : (6 : Int) < (s.length : Int) := by omega
      have hb : numB l = false := by rw [unhide HBd]; simp; omega
      have HN := hide (unhide HV hb)
      have HB := hide hb
      clear HV HT HBd hb
      go_wp2_with fail
      go_ret2
      refine ⟨?_, rfl⟩
      rw [unhide HN, unhide HB]
      rfl
    · have h6i : ¬ (6 : Int) < (s.length : Int) := by omega
      go_wp2_with fail
      go_loopw [6, 7, 23] (fun n _ i wr => wr = w ∧ ∃ k : Nat, k ≤ s.length ∧ i = .int .i64 k ∧ n = .int .i64 (decN (s.take k)) ∧ Hid (∀ j (h : j < s.length), j < k → isD s[j] = true)) (fun _ _ i _ => s.length - (intOf i).toNat)
      case atStart => exact ⟨rfl, 0, Nat.zero_le _, rfl, rfl, hide (fun j _ h => by omega)⟩
      case round =>
        obtain ⟨rfl, k, hk, rfl, rfl, HD⟩ := hrel
        by_cases hlt : k < s.length
        · have hki : (k : Int) < (s.length : Int) := by omega
          obtain ⟨dd1, dd2⟩ := dec_span s k hk (by omega) (unhide HD)
          have hp : 10 ^ k ≤ 10 ^ 6 := Nat.pow_le_pow_right (by decide) (by omega)
          have hp6 : (10 : Nat) ^ 6 = 1000000 := by decide
          have hd6 : decN (s.take k) < 1000000 := by omega
          have HSN := hide (decN_snoc s k hlt)
          clear dd1 dd2 hp hp6
          generalize decN (s.take k) = d at *
          have hc255 : s[k].toNat < 256 := s[k].toNat_lt
          cases hdg : isD s[k] with
          | false =>
            have hb : numB l = false := by
              rw [unhide HBd]
              have : s.all isD = false := by
                rw [Bool.eq_false_iff]
                intro h
                have := List.all_eq_true.1 h s[k] (List.getElem_mem _)
                rw [hdg] at this
                cases this
              rw [this]
              rfl
            have HN := hide (unhide HV hb)
            have HB := hide hb
            simp only [isD, digitB, Bool.and_eq_false_iff, decide_eq_false_iff_not] at hdg
            clear HV HT HBd hb HD HSN
            by_cases c1 : s[k].toNat < 48
            · have c1i : (((⟨s.toArray⟩ : ByteArray)[k]'hlt).toNat : Int) < 48 := by
                show ((s[k].toNat : Nat) : Int) < 48
                omega
              go_wp2_with fail
              go_ret2
              refine ⟨?_, rfl⟩
              rw [unhide HN, unhide HB]
              rfl
            · have c1i : ¬ (((⟨s.toArray⟩ : ByteArray)[k]'hlt).toNat : Int) < 48 := by
                show ¬ ((s[k].toNat : Nat) : Int) < 48
                omega
              have c2i : (57 : Int) < (((⟨s.toArray⟩ : ByteArray)[k]'hlt).toNat : Int) := by
                show (57 : Int) < ((s[k].toNat : Nat) : Int)
                omega
              go_wp2_with fail
              go_ret2
              refine ⟨?_, rfl⟩
              rw [unhide HN, unhide HB]
              rfl
          | true =>
            have hdg2 := hdg
            simp only [isD, digitB, Bool.and_eq_true, decide_eq_true_eq] at hdg2
            have HD2 := hide (show ∀ j (h : j < s.length), j < k + 1 → isD s[j] = true from fun j hj hjk => by
              by_cases e : j = k
              · subst e; exact hdg
              · exact unhide HD j hj (by omega))
            have c1i : ¬ (((⟨s.toArray⟩ : ByteArray)[k]'hlt).toNat : Int) < 48 := by
              show ¬ ((s[k].toNat : Nat) : Int) < 48
              omega
            have c2i : ¬ (57 : Int) < (((⟨s.toArray⟩ : ByteArray)[k]'hlt).toNat : Int) := by
              show ¬ (57 : Int) < ((s[k].toNat : Nat) : Int)
              omega
            clear HD hdg
            go_wp2_with fail
            go_roundw
            case rel =>
              refine ⟨trivial, k + 1, by omega, by go_num, ?_, HD2⟩
              rw [unhide HSN]
              show Value.int .i64 ((d : Int) * 10 + (((s[k].toNat : Nat) : Int) - 48)) = _
              generalize s[k].toNat = c at *
              congr 1
              omega
            case measure => simp [intOf]; omega
        · have hkl : k = s.length := by omega
          subst hkl
          obtain ⟨dd1, dd2⟩ := dec_span s s.length (Nat.le_refl _) (by omega) (unhide HD)
          rw [List.take_length] at dd1 dd2 ⊢
          have hall : s.all isD = true := by
            rw [List.all_eq_true]
            intro x hx
            obtain ⟨j, hj, rfl⟩ := List.getElem_of_mem hx
            exact unhide HD j hj hj
          have hb : numB l = true := by rw [unhide HBd, hall]; simp; omega
          have HN := hide (unhide HT hb)
          have HB := hide hb
          have hsp := spanW_le s
          rw [spanW_digits s hall] at hsp
          rw [dd1]
          clear HD dd1 dd2 hall hb HV HT HBd hk hlt
          generalize spanL s = d at *
          cases neg with
          | true =>
            go_wp2_with fail
            go_ret2
            refine ⟨?_, rfl⟩
            rw [unhide HN, unhide HB]
            rfl
          | false =>
            go_wp2_with fail
            go_ret2
            refine ⟨?_, rfl⟩
            rw [unhide HN, unhide HB]
            rfl

end Go.Proofs.YtbljamcdaoofbaaGreatDoor

/- The program's Add: a line comes into its group. -/
namespace Go.Proofs.YtbljamcdaoofbaaGreatDoor
open Go.RowKit

theorem ownsRow_put {w : World} {B e size g n c j : Nat} {xs : List Value} {u : Value} (h : w.ownsRow B e size (.slice (some ⟨g, 0, none⟩) n c) n xs) : (w.setCell ⟨g, j, none⟩ u).ownsRow B e size (.slice (some ⟨g, 0, none⟩) n c) n (xs.set j u) := by
  refine ⟨by rw [List.length_set]; exact h.1, ?_⟩
  rcases h.2 with ⟨h', _⟩ | ⟨g', c', cur, h', hB, hg, hnc, hcm, hcs, ht⟩
  · simp at h'
  · simp only [Value.slice.injEq, Option.some.injEq, Addr.mk.injEq, and_true, true_and] at h'
    obtain ⟨rfl, rfl⟩ := h'
    refine .inr ⟨g, c, cur.setIfInBounds j u, rfl, hB, ?_, hnc, hcm, by rw [Array.size_setIfInBounds]; exact hcs, ?_⟩
    · simp [World.setCell, Array.getElem?_modify, hg]
    · rw [Array.toList_setIfInBounds, ← ht, List.take_set]

/-- a line comes in -/
def updG (line : List UInt8) (g : Grp) : Grp := ⟨g.key, g.n + 1, g.b + line.length, g.s + numV line⟩
def addG (kind : List UInt8) (gs : List Grp) (key line : List UInt8) : List Grp := if kind = meanT ∧ numB line = false then gs else (putG gs key).modify (gplace gs key) (updG line)

theorem upd_cells (gs : List Grp) (line : List UInt8) (p : Nat) (h : p < gs.length) :
    ((((gs.flatMap cellsG).set (p * 4 + 1) (.int .i64 ((gs[p].n + 1 : Nat) : Int))).set (p * 4 + 2) (.int .i64 ((gs[p].b + line.length : Nat) : Int))).set (p * 4 + 3) (.int .i64 (gs[p].s + numV line))) = (gs.modify p (updG line)).flatMap cellsG := by
  induction gs generalizing p with
  | nil => simp at h
  | cons x S ih =>
    cases p with
    | zero => simp [cellsG, updG]
    | succ p =>
      have := ih p (by simpa using h)
      rw [List.flatMap_cons, List.modify_succ_cons, List.flatMap_cons, ← this]
      rw [show (p + 1) * 4 + 1 = p * 4 + 1 + 4 by omega, show (p + 1) * 4 + 2 = p * 4 + 2 + 4 by omega, show (p + 1) * 4 + 3 = p * 4 + 3 + 4 by omega]
      simp [cellsG]

def AddP (w : World) (B gb : Nat) (kind : List UInt8) (span : Nat) (gs : List Grp) (key line : List UInt8) (e : Ending) (w' : World) : Prop :=
  e = .returned (.tuple #[]) ∧ ∃ vg', GroupsAt w' B gb kind span vg' (addG kind gs key line) ∧ Moved (fun b => b = gb ∨ B ≤ b) w w'

theorem putG_place (gs : List Grp) (key : List UInt8) : gplace gs key < (putG gs key).length := by
  unfold putG
  split
  · rename_i h; exact gplace_lt h
  · have := gplace_le gs key
    simp
    omega

set_option maxRecDepth 10000 in
set_option maxHeartbeats 1000000 in
theorem gadd_any {w : World} {B gb : Nat} {kind : List UInt8} {span : Nat} {vg : Value} {gs : List Grp} (key line : List UInt8) (h : GroupsAt w B gb kind span vg gs) (hB : B ≤ w.heap.size) (hn : gs.length ≤ 299) (hr : GRise gs) (hl : line.length ≤ 40) (hfit : ∀ g ∈ putG gs key, g.n ≤ 300 ∧ g.b ≤ 12000 ∧ -300000300 ≤ g.s ∧ g.s ≤ 300000300) :
    Calls Tryz.prog 54 #[.pointer (some ⟨gb, 0, none⟩), .string ⟨key.toArray⟩, .string ⟨line.toArray⟩] w (AddP w B gb kind span gs key line) := by
  obtain ⟨c0, c1, c2, fz⟩ := cell_of_block3 h.block
  have hnum := pnumber_any line w (by omega)
  unfold NumP at hnum
  have hgr := group_any key h hB (by omega) hr
  have HH := hide h
  have HFT := hide hfit
  have hnv := numV_abs line
  clear h c1 c2 hr hfit
  go_enter Tryz.func54, Tryz.ntmps54
  go_wp2_with fail
  refine hnum.mono ?_
  rintro e w' ⟨rfl, hww⟩
  rw [hww]
  clear hww w' hnum
  by_cases hm : kind = meanT ∧ numB line = false
  · have HA := hide (show addG kind gs key line = gs by unfold addG; rw [if_pos hm])
    obtain ⟨hm1, hm2⟩ := hm
    rw [hm2]
    have hk : (kind == [109, 101, 97, 110]) = true := by simpa [meanT] using hm1
    go_wp2_with fail
    go_end0
    refine ⟨rfl, vg, ?_, Moved.refl _ _⟩
    rw [unhide HA]
    exact unhide HH
  · have HA := hide (show addG kind gs key line = (putG gs key).modify (gplace gs key) (updG line) by unfold addG; rw [if_neg hm])
    have hgo : (kind == [109, 101, 97, 110]) = false ∨ ((kind == [109, 101, 97, 110]) = true ∧ numB line = true) := by
      by_cases e : kind = meanT
      · right
        refine ⟨by simpa [meanT] using e, ?_⟩
        cases hb : numB line with
        | true => rfl
        | false => exact absurd ⟨e, hb⟩ hm
      · left
        simpa [meanT] using e
    clear hm
    have hpl := putG_place gs key
    have hnb : ∃ nb, nb = numB line := ⟨_, rfl⟩
    obtain ⟨nb, hnb⟩ := hnb
    rw [← hnb] at hgo ⊢
    clear hnb
    rcases hgo with hk | ⟨hk, rfl⟩
    all_goals
      go_wp2_with fail
      refine hgr.mono ?_
      rintro e w1 ⟨g, c, rfl, hG, hb1⟩
      clear hgr
      obtain ⟨gg, cc, ef, -, hgw, -, -, hcell, hfzz⟩ := owns_open hG.row (by omega)
      simp only [Value.slice.injEq, Option.some.injEq, Addr.mk.injEq, and_true, true_and] at ef
      obtain ⟨rfl, rfl⟩ := ef
      obtain ⟨e0, e1, e2, e3⟩ := cellsG_at (putG gs key) (gplace gs key) hpl
      have m1 := (hcell (gplace gs key * 4 + 1) (by omega)).trans e1
      have m2 := (hcell (gplace gs key * 4 + 2) (by omega)).trans e2
      have m3 := (hcell (gplace gs key * 4 + 3) (by omega)).trans e3
      obtain ⟨f1, f2, f3, f4⟩ := unhide HFT _ (List.getElem_mem hpl)
      have HUC := hide (upd_cells (putG gs key) line (gplace gs key) hpl)
      have hgbB := ((hG.row).lt g rfl).1
      have hneg : g ≠ gb := fun e => by
        obtain ⟨_, cur, hc⟩ := ownsRow_type hG.row (g := g) rfl
        exact ne_of_type hc hG.block (by decide) e
      have HG := hide hG
      have HB1 := hide hb1
      clear e0 e1 e2 e3 hcell hG hb1 HFT HH c0 fz
      generalize hPP : putG gs key = P at *
      generalize gplace gs key = p at *
      generalize P[p] = x at *
      obtain ⟨xk, xn, xb, xs⟩ := x
      simp only at m1 m2 m3 f1 f2 f3 f4 HUC
      go_wp2_with fail
      go_end0
      refine ⟨rfl, .slice (some ⟨g, 0, none⟩) P.length c, ?_, ?_⟩
      · rw [unhide HA]
        refine ⟨?_, ?_⟩
        · rw [Go.RowKit.Below.heap_setCell _ _ _ _ hneg.symm, Go.RowKit.Below.heap_setCell _ _ _ _ hneg.symm, Go.RowKit.Below.heap_setCell _ _ _ _ hneg.symm]
          exact (unhide HG).block
        · rw [List.length_modify, ← unhide HUC]
          exact ownsRow_put (ownsRow_put (ownsRow_put (unhide HG).row))
      · exact (((unhide HB1).setCell (.inl (.inr hgbB)) _).setCell (.inl (.inr hgbB)) _).setCell (.inl (.inr hgbB)) _

end Go.Proofs.YtbljamcdaoofbaaGreatDoor

/- What the groups come to: lists alone. -/
namespace Go.Proofs.YtbljamcdaoofbaaGreatDoor
open Go.RowKit

/-- below the place the keys are less, from it on they are not -/
theorem gplace_parts {gs : List Grp} (h : GRise gs) (l : List UInt8) : (∀ j (hj : j < gs.length), j < gplace gs l → Op.bytesLess gs[j].key l = true) ∧ (∀ j (hj : j < gs.length), gplace gs l ≤ j → Op.bytesLess gs[j].key l = false) := by
  induction gs with
  | nil => exact ⟨fun j hj => by simp at hj, fun j hj => by simp at hj⟩
  | cons x S ih =>
    have hS : GRise S := (List.pairwise_cons.1 h).2
    have hx := (List.pairwise_cons.1 h).1
    obtain ⟨i1, i2⟩ := ih hS
    cases hl : Op.bytesLess x.key l with
    | true =>
      have e : gplace (x :: S) l = gplace S l + 1 := by
        unfold gplace
        simp [hl]
      rw [e]
      refine ⟨fun j hj hjp => ?_, fun j hj hjp => ?_⟩
      · cases j with
        | zero => exact hl
        | succ j => exact i1 j (by simpa using hj) (by omega)
      · cases j with
        | zero => omega
        | succ j => exact i2 j (by simpa using hj) (by omega)
    | false =>
      have hall : ∀ y ∈ S, Op.bytesLess y.key l = false := fun y hy => by
        rw [Bool.eq_false_iff]
        intro hy2
        have := less_trans (hx y hy) hy2
        rw [hl] at this
        cases this
      have e : gplace (x :: S) l = 0 := by
        unfold gplace
        rw [List.length_eq_zero_iff, List.filter_eq_nil_iff]
        intro y hy
        rcases List.mem_cons.1 hy with rfl | hy
        · simp [hl]
        · simp [hall y hy]
      rw [e]
      refine ⟨fun j hj hjp => by omega, fun j hj _ => ?_⟩
      cases j with
      | zero => exact hl
      | succ j => exact hall _ (List.getElem_mem _)

theorem putG_at {gs : List Grp} (h : GRise gs) (key : List UInt8) : ((putG gs key)[gplace gs key]'(putG_place gs key)).key = key := by
  obtain ⟨p1, p2⟩ := gplace_parts h key
  by_cases hex : ∃ g ∈ gs, g.key = key
  · have hlt := gplace_lt hex
    have e : putG gs key = gs := by unfold putG; rw [if_pos hex]
    simp only [e]
    obtain ⟨g, hg, rfl⟩ := hex
    obtain ⟨j, hj, rfl⟩ := List.getElem_of_mem hg
    rcases Nat.lt_trichotomy j (gplace gs gs[j].key) with hl | hl | hl
    · have := p1 j hj hl
      rw [less_irrefl] at this
      cases this
    · simp only [← hl]
    · have h1 := List.pairwise_iff_getElem.1 h _ j hlt hj hl
      rw [p2 _ hlt (Nat.le_refl _)] at h1
      cases h1
  · have e : putG gs key = gs.take (gplace gs key) ++ [newG key] ++ gs.drop (gplace gs key) := by unfold putG; rw [if_neg hex]
    have hle := gplace_le gs key
    simp only [e]
    rw [List.getElem_append_left (by simp; omega), List.getElem_append_right (by simp; omega)]
    simp [newG]

theorem putG_rise {gs : List Grp} (h : GRise gs) (key : List UInt8) : GRise (putG gs key) := by
  obtain ⟨p1, p2⟩ := gplace_parts h key
  by_cases hex : ∃ g ∈ gs, g.key = key
  · have e : putG gs key = gs := by unfold putG; rw [if_pos hex]
    rw [e]; exact h
  · have e : putG gs key = gs.take (gplace gs key) ++ [newG key] ++ gs.drop (gplace gs key) := by unfold putG; rw [if_neg hex]
    rw [e]
    have ht : ∀ a ∈ gs.take (gplace gs key), Op.bytesLess a.key key = true := fun a ha => by
      obtain ⟨j, hj, rfl⟩ := List.getElem_of_mem ha
      simp only [List.length_take] at hj
      rw [List.getElem_take]
      exact p1 j (by omega) (by omega)
    have hd : ∀ a ∈ gs.drop (gplace gs key), Op.bytesLess key a.key = true := fun a ha => by
      obtain ⟨j, hj, rfl⟩ := List.getElem_of_mem ha
      simp only [List.length_drop] at hj
      rw [List.getElem_drop]
      rcases less_total _ _ (p2 (gplace gs key + j) (by omega) (by omega)) with e' | e'
      · exact absurd ⟨_, List.getElem_mem _, e'⟩ hex
      · exact e'
    unfold GRise
    rw [List.append_assoc, List.pairwise_append]
    refine ⟨List.Pairwise.sublist (List.take_sublist _ _) h, ?_, ?_⟩
    · rw [List.singleton_append, List.pairwise_cons]
      exact ⟨fun a ha => hd a ha, List.Pairwise.sublist (List.drop_sublist _ _) h⟩
    · intro a ha b hb
      rcases List.mem_cons.1 (by simpa using hb) with rfl | hb
      · exact ht a ha
      · exact less_trans (ht a ha) (hd b hb)

end Go.Proofs.YtbljamcdaoofbaaGreatDoor
