/- The queue's Less. -/
import Derived.Test.YtbljamcdaoofbaaGreatDoorRelPushToAsked
import Derived.Deep.CutRange
import Derived.Deep.RegionLaw
import Derived.Deep.RegionHeld3
import Derived.OpenShut
namespace Go.Proofs.YtbljamcdaoofbaaGreatDoor
open Go.RowKit

theorem allocB {w W : World} (h : Below w.heap.size w W) (o : Obj) : Below w.heap.size w (W.alloc o) := h.alloc h.size o
theorem callB {w W W' : World} (h : Below w.heap.size w W) (h' : Below W.heap.size W W') : Below w.heap.size w W' := h.trans (h'.mono h.size)
theorem setB {w W : World} (h : Below w.heap.size w W) (p : Addr) (u : Value) (hp : w.heap.size ≤ p.block) : Below w.heap.size w (W.setCell p u) := h.setCell hp u
theorem drewB {w W : World} (h : Below w.heap.size w W) : Below w.heap.size w W.drew := ⟨h.os, h.tape, h.output, h.size, h.block⟩

/-- a row's box that is new -/
def Zr (W : World) (b : Nat) : Prop :=
  W.cell? ⟨b, 0, none⟩ = some (.string ⟨#[]⟩) ∧ W.cell? ⟨b, 1, none⟩ = some (.int .i64 0) ∧ W.cell? ⟨b, 2, none⟩ = some (.string ⟨#[]⟩) ∧ W.frozen? ⟨b, 0, none⟩ = false ∧ W.frozen? ⟨b, 1, none⟩ = false ∧ W.frozen? ⟨b, 2, none⟩ = false ∧ b < W.heap.size
theorem Zr.new {X : World} {b : Nat} (hb : b = X.heap.size) : Zr (X.alloc (.cells #[.string ⟨#[]⟩, .int .i64 0, .string ⟨#[]⟩] 38)) b := by
  subst hb
  have h := heap_alloc_new X (.cells #[.string ⟨#[]⟩, .int .i64 0, .string ⟨#[]⟩] 38)
  obtain ⟨c0, c1, c2, f⟩ := cell_of_block3 h
  exact ⟨c0, c1, c2, f 0, f 1, f 2, by simp⟩
theorem Zr.keep {W W' : World} {b : Nat} (h : Zr W b) (hb : Hid (Below W.heap.size W W')) : Zr W' b := by
  obtain ⟨c0, c1, c2, f0, f1, f2, hl⟩ := h
  have hb := unhide hb
  exact ⟨(hb.cell (p := ⟨b, 0, none⟩) hl).trans c0, (hb.cell (p := ⟨b, 1, none⟩) hl).trans c1, (hb.cell (p := ⟨b, 2, none⟩) hl).trans c2, (hb.frozen (p := ⟨b, 0, none⟩) hl).trans f0, (hb.frozen (p := ⟨b, 1, none⟩) hl).trans f1, (hb.frozen (p := ⟨b, 2, none⟩) hl).trans f2, Nat.lt_of_lt_of_le hl hb.size⟩
theorem Zr.alloc {W : World} {b : Nat} (h : Zr W b) (o : Obj) : Zr (W.alloc o) b := h.keep ((Below.refl _ W).alloc (Nat.le_refl _) o)

theorem zn1 {X W' : World} (hb : Hid (Below (X.alloc (.cells #[.string ⟨#[]⟩, .int .i64 0, .string ⟨#[]⟩] 38)).heap.size (X.alloc (.cells #[.string ⟨#[]⟩, .int .i64 0, .string ⟨#[]⟩] 38)) W')) : Zr W' X.heap.size := (Zr.new rfl).keep hb
theorem zn2 {X W' : World} (hb : Hid (Below ((X.alloc (.cells #[.string ⟨#[]⟩, .int .i64 0, .string ⟨#[]⟩] 38)).alloc (.cells #[.string ⟨#[]⟩, .int .i64 0, .string ⟨#[]⟩] 38)).heap.size ((X.alloc (.cells #[.string ⟨#[]⟩, .int .i64 0, .string ⟨#[]⟩] 38)).alloc (.cells #[.string ⟨#[]⟩, .int .i64 0, .string ⟨#[]⟩] 38)) W')) : Zr W' X.heap.size ∧ Zr W' (X.heap.size + 1) :=
  ⟨((Zr.new rfl).alloc _).keep hb, (Zr.new (by simp)).keep hb⟩
theorem zn1d {X W' : World} (hb : Hid (Below (X.alloc (.cells #[.string ⟨#[]⟩, .int .i64 0, .string ⟨#[]⟩] 38)).drew.heap.size (X.alloc (.cells #[.string ⟨#[]⟩, .int .i64 0, .string ⟨#[]⟩] 38)).drew W')) : Zr W' X.heap.size := Zr.keep (W := (X.alloc (.cells #[.string ⟨#[]⟩, .int .i64 0, .string ⟨#[]⟩] 38)).drew) (show Zr (X.alloc _) _ from Zr.new rfl) hb
theorem zn2d {X W' : World} (hb : Hid (Below ((X.alloc (.cells #[.string ⟨#[]⟩, .int .i64 0, .string ⟨#[]⟩] 38)).alloc (.cells #[.string ⟨#[]⟩, .int .i64 0, .string ⟨#[]⟩] 38)).drew.heap.size ((X.alloc (.cells #[.string ⟨#[]⟩, .int .i64 0, .string ⟨#[]⟩] 38)).alloc (.cells #[.string ⟨#[]⟩, .int .i64 0, .string ⟨#[]⟩] 38)).drew W')) : Zr W' X.heap.size ∧ Zr W' (X.heap.size + 1) :=
  ⟨Zr.keep (W := ((X.alloc _).alloc _).drew) (show Zr ((X.alloc _).alloc _) _ from (Zr.new rfl).alloc _) hb, Zr.keep (W := ((X.alloc _).alloc _).drew) (show Zr ((X.alloc _).alloc _) _ from Zr.new (by simp)) hb⟩
theorem zo0 {X W' : World} {b : Nat} (h : Hid (Zr X b)) (hb : Hid (Below X.heap.size X W')) : Zr W' b := (unhide h).keep hb
theorem zo1 {X W' : World} {o : Obj} {b : Nat} (h : Hid (Zr X b)) (hb : Hid (Below (X.alloc o).heap.size (X.alloc o) W')) : Zr W' b := ((unhide h).alloc o).keep hb
theorem zo2 {X W' : World} {o o' : Obj} {b : Nat} (h : Hid (Zr X b)) (hb : Hid (Below ((X.alloc o).alloc o').heap.size ((X.alloc o).alloc o') W')) : Zr W' b := (((unhide h).alloc o).alloc o').keep hb

set_option maxRecDepth 10000 in
set_option maxHeartbeats 4000000 in
theorem qLess_any {w : World} {base qp : Nat} {bw : Bool} {vS : Value} {ss : List Src} (i j : Nat) (h : QAt w base qp bw vS ss) (hi : i < ss.length) (hj : j < ss.length) :
    Calls Tryz.prog 229 #[.pointer (some ⟨qp, 0, none⟩), .int .i64 i, .int .i64 j] w fun e w' => e = .returned (.bool (lessS bw ss[i] ss[j])) ∧ Below w.heap.size w w' := by
  obtain ⟨c0, c1, fz⟩ := cell_of_block2 h.block
  have hqp := (Array.getElem?_eq_some_iff.1 h.block).1
  obtain ⟨g, cap, rfl, -, hgw, hnc, hcm, hcell, -⟩ := owns_open h.row (by omega)
  have hfew := h.few
  have hn1 : ∀ W, Below w.heap.size w W → Calls Tryz.prog 101 #[.pointer (some ⟨qp, 0, none⟩), .agg #[SV ss[i].lab, ss[i].vl]] W fun e w' => e = .returned (.agg #[SV ss[i].lab, .int .i64 (nextLn bw ss[i].lines).1, SV (nextLn bw ss[i].lines).2]) ∧ Below w.heap.size w w' ∧ Hid (Below W.heap.size W w') :=
    fun W hW => (qNext_any ss[i] (h.below hW).block ((h.below hW).lines _ (List.getElem_mem hi)) (h.full _ (List.getElem_mem hi)) (h.below hW).base_le).mono fun e w' hh => ⟨hh.1, callB hW hh.2, hh.2⟩
  have hn2 : ∀ W, Below w.heap.size w W → Calls Tryz.prog 101 #[.pointer (some ⟨qp, 0, none⟩), .agg #[SV ss[j].lab, ss[j].vl]] W fun e w' => e = .returned (.agg #[SV ss[j].lab, .int .i64 (nextLn bw ss[j].lines).1, SV (nextLn bw ss[j].lines).2]) ∧ Below w.heap.size w w' ∧ Hid (Below W.heap.size W w') :=
    fun W hW => (qNext_any ss[j] (h.below hW).block ((h.below hW).lines _ (List.getElem_mem hj)) (h.full _ (List.getElem_mem hj)) (h.below hW).base_le).mono fun e w' hh => ⟨hh.1, callB hW hh.2, hh.2⟩
  obtain ⟨a0, a1⟩ := cellsQ_at ss i hi
  obtain ⟨b0, b1⟩ := cellsQ_at ss j hj
  have m0 := (hcell (i * 2) (by omega)).trans a0
  have m1 := (hcell (i * 2 + 1) (by omega)).trans a1
  have l0 := (hcell (j * 2) (by omega)).trans b0
  have l1 := (hcell (j * 2 + 1) (by omega)).trans b1
  clear h hcell a0 a1 b0 b1 fz
  generalize ss[i] = A at *
  generalize ss[j] = B at *
  have hil : (i : Int) < ss.length := by omega
  have hjl : (j : Int) < ss.length := by omega
  generalize ss.length = N at *
  have HL := hide (show lessS bw A B = kl bw ((nextLn bw A.lines).1, A.lab) ((nextLn bw B.lines).1, B.lab) from rfl)
  generalize lessS bw A B = res at *
  generalize nextLn bw A.lines = xa at *
  generalize nextLn bw B.lines = xb at *
  obtain ⟨ta, la⟩ := xa
  obtain ⟨tb, lb⟩ := xb
  simp only at hn1 hn2 HL
  obtain ⟨labA, linesA, vA⟩ := A
  obtain ⟨labB, linesB, vB⟩ := B
  simp only at hn1 hn2 HL m0 m1 l0 l1
  clear linesA linesB
  go_enter Tryz.func229, Tryz.ntmps229
  go_upto_region 1 with fail
  go_cut [7, 8] from 9 to 26 (fun s r wx => ∃ p q, s = .pointer (some ⟨p, 0, none⟩) ∧ r = .pointer (some ⟨q, 0, none⟩) ∧ p ≠ q ∧ w.heap.size ≤ p ∧ w.heap.size ≤ q ∧ (wx.cell? ⟨p, 0, none⟩ = some (SV labA) ∧ wx.cell? ⟨p, 1, none⟩ = some (.int .i64 ta) ∧ wx.cell? ⟨p, 2, none⟩ = some (SV la)) ∧ (wx.cell? ⟨q, 0, none⟩ = some (SV labB) ∧ wx.cell? ⟨q, 1, none⟩ = some (.int .i64 tb) ∧ wx.cell? ⟨q, 2, none⟩ = some (SV lb)) ∧ (wx.frozen? ⟨p, 0, none⟩ = false ∧ wx.frozen? ⟨p, 1, none⟩ = false ∧ wx.frozen? ⟨p, 2, none⟩ = false) ∧ (wx.frozen? ⟨q, 0, none⟩ = false ∧ wx.frozen? ⟨q, 1, none⟩ = false ∧ wx.frozen? ⟨q, 2, none⟩ = false) ∧ Below w.heap.size w wx)
  case first =>
    have hS : w.cell? ⟨qp, 0, none⟩ = some (.slice (some ⟨g, 0, none⟩) N cap) ∧ w.cell? ⟨g, i * 2, none⟩ = some (SV labA) ∧ w.cell? ⟨g, i * 2 + 1, none⟩ = some vA ∧ w.cell? ⟨g, j * 2, none⟩ = some (SV labB) ∧ w.cell? ⟨g, j * 2 + 1, none⟩ = some vB := ⟨c0, m0, m1, l0, l1⟩
    have HS := hide hS
    have HB : ∀ W, Below w.heap.size w W → Hid (W.cell? ⟨qp, 0, none⟩ = some (.slice (some ⟨g, 0, none⟩) N cap) ∧ W.cell? ⟨g, i * 2, none⟩ = some (SV labA) ∧ W.cell? ⟨g, i * 2 + 1, none⟩ = some vA ∧ W.cell? ⟨g, j * 2, none⟩ = some (SV labB) ∧ W.cell? ⟨g, j * 2 + 1, none⟩ = some vB) :=
      fun W hW => ⟨(hW.cell (p := ⟨qp, 0, none⟩) hqp).trans c0, (hW.cell (p := ⟨g, i * 2, none⟩) hgw).trans m0, (hW.cell (p := ⟨g, i * 2 + 1, none⟩) hgw).trans m1, (hW.cell (p := ⟨g, j * 2, none⟩) hgw).trans l0, (hW.cell (p := ⟨g, j * 2 + 1, none⟩) hgw).trans l1⟩
    have hi0 : (0 : Int) ≤ (i : Int) := by omega
    have hj0 : (0 : Int) ≤ (j : Int) := by omega
    clear hS c0 m0 m1 l0 l1
    go_region_held3 (fun W => W.cell? ⟨qp, 0, none⟩ = some (.slice (some ⟨g, 0, none⟩) N cap) ∧ W.cell? ⟨g, i * 2, none⟩ = some (SV labA) ∧ W.cell? ⟨g, i * 2 + 1, none⟩ = some vA ∧ W.cell? ⟨g, j * 2, none⟩ = some (SV labB) ∧ W.cell? ⟨g, j * 2 + 1, none⟩ = some vB)
      (first | (with_reducible exact unhide HS) | exact unhide (HB _ (by repeat (first | with_reducible assumption | with_reducible exact Below.refl _ _ | with_reducible apply allocB | with_reducible apply drewB | (with_reducible refine setB ?_ _ _ (by dsimp only; omega))))))
      (first
        | (go_at_call 101; refine (hn1 _ (by repeat (first | with_reducible assumption | with_reducible exact Below.refl _ _ | with_reducible apply allocB | with_reducible apply drewB))).mono ?_; clear hn1; rintro e w5 ⟨rfl, hbw5, hb5⟩; have hz5 := hbw5.size; (try ((first | have z1 : Zr w5 w.heap.size := zn1d hb5 | have z1 : Zr w5 w.heap.size := zn1 hb5); obtain ⟨z1a, z1b, z1c, z1d, z1e, z1f, z1g⟩ := id z1; have z1' := hide z1; clear z1)); (try ((first | have zz : Zr w5 w.heap.size ∧ Zr w5 (w.heap.size + 1) := zn2d hb5 | have zz : Zr w5 w.heap.size ∧ Zr w5 (w.heap.size + 1) := zn2 hb5); obtain ⟨z1, z2⟩ := zz; obtain ⟨z1a, z1b, z1c, z1d, z1e, z1f, z1g⟩ := id z1; have z1' := hide z1; clear z1; obtain ⟨z2a, z2b, z2c, z2d, z2e, z2f, z2g⟩ := id z2; have z2' := hide z2; clear z2)))
        | (go_at_call 101; refine (hn2 _ (by repeat (first | with_reducible assumption | with_reducible exact Below.refl _ _ | with_reducible apply allocB | with_reducible apply drewB))).mono ?_; clear hn2; rintro e w6 ⟨rfl, hbw6, hb6⟩; have hz6 := hbw6.size; (try (have z5 : Zr w6 w5.heap.size := zn1 hb6; obtain ⟨z5a, z5b, z5c, z5d, z5e, z5f, z5g⟩ := id z5; have z5' := hide z5; clear z5)); (try (have zz : Zr w6 w5.heap.size ∧ Zr w6 (w5.heap.size + 1) := zn2 hb6; obtain ⟨z5, z6⟩ := zz; obtain ⟨z5a, z5b, z5c, z5d, z5e, z5f, z5g⟩ := id z5; have z5' := hide z5; clear z5; obtain ⟨z6a, z6b, z6c, z6d, z6e, z6f, z6g⟩ := id z6; have z6' := hide z6; clear z6)); (try (first | have z3 := zo0 z1' hb6 | have z3 := zo1 z1' hb6 | have z3 := zo2 z1' hb6; skip)); (try (obtain ⟨z3a, z3b, z3c, z3d, z3e, z3f, z3g⟩ := id z3; have z3' := hide z3; clear z3)); (try (first | have z4 := zo0 z2' hb6 | have z4 := zo1 z2' hb6 | have z4 := zo2 z2' hb6; skip)); (try (obtain ⟨z4a, z4b, z4c, z4d, z4e, z4f, z4g⟩ := id z4; have z4' := hide z4; clear z4))))
    all_goals (go_wp2_with fail; go_meet)
    all_goals refine ⟨_, _, rfl, rfl, by omega, by omega, by omega, ⟨?_, ?_, ?_⟩, ⟨?_, ?_, ?_⟩, ⟨?_, ?_, ?_⟩, ⟨?_, ?_, ?_⟩, ?_⟩
    all_goals try (go_cell)
    all_goals try (repeat (first | with_reducible assumption | with_reducible exact Below.refl _ _ | with_reducible apply allocB | with_reducible apply drewB | (with_reducible refine setB ?_ _ _ (by dsimp only; omega))))
  case rest =>
    obtain ⟨p, q, rfl, rfl, hpq, hp, hq, ⟨p0, p1, p2⟩, ⟨q0, q1, q2⟩, ⟨fp0, fp1, fp2⟩, ⟨fq0, fq1, fq2⟩, hbx⟩ := hcut
    have c1' := (hbx.cell (p := ⟨qp, 1, none⟩) hqp).trans c1
    have hqp' : q ≠ p := fun e => hpq e.symm
    clear hn1 hn2 m0 m1 l0 l1 c0 c1
    have hl : Hid (res = kl bw (ta, labA) (tb, labB)) := HL
    clear HL
    cases bw with
    | false =>
      have h2 : Hid (res = if ta = tb then Op.bytesLess labA labB else decide (ta < tb)) := hl
      clear hl
      by_cases e : ta = tb
      · subst e
        have h3 : Hid (res = Op.bytesLess labA labB) := by have := unhide h2; rw [if_pos rfl] at this; exact this
        clear h2
        go_wp2
        go_ret
        exact ⟨ret_bool (by rw [unhide h3]), hbx⟩
      · have e2 : (ta == tb) = false := by simpa using e
        have h3 : Hid (res = decide (ta < tb)) := by have := unhide h2; rw [if_neg e] at this; exact this
        clear h2
        go_wp2
        go_ret
        exact ⟨ret_bool (by rw [unhide h3]), hbx⟩
    | true =>
      have h2 : Hid (res = if tb = ta then Op.bytesLess labB labA else decide (tb < ta)) := hl
      clear hl
      by_cases e : tb = ta
      · subst e
        have h3 : Hid (res = Op.bytesLess labB labA) := by have := unhide h2; rw [if_pos rfl] at this; exact this
        clear h2
        go_wp2
        go_ret
        exact ⟨ret_bool (by rw [unhide h3]), (by repeat (first | with_reducible assumption | (with_reducible refine setB ?_ _ _ (by dsimp only; omega))))⟩
      · have e2 : (tb == ta) = false := by simpa using e
        have h3 : Hid (res = decide (tb < ta)) := by have := unhide h2; rw [if_neg e] at this; exact this
        clear h2
        go_wp2
        go_ret
        exact ⟨ret_bool (by rw [unhide h3]), (by repeat (first | with_reducible assumption | (with_reducible refine setB ?_ _ _ (by dsimp only; omega))))⟩

end Go.Proofs.YtbljamcdaoofbaaGreatDoor
