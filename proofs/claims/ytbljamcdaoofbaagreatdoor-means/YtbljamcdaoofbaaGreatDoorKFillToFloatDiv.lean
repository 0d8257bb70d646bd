/- Texts KFill, OwnRaw, KTok, FloatPure, FloatDiv, joined. -/
import Derived.Test.YtbljamcdaoofbaaGreatDoorKOrdToKParse
import Derived.Test.YtbljamcdaoofbaaGreatDoorPLessOne
import Derived.Test.YtbljamcdaoofbaaGreatDoorOwnBaseToKStore
import Derived.Laws.FloatArith
/- loamkeep's filled: a store with lines. -/
namespace Go.Proofs.YtbljamcdaoofbaaGreatDoor
open Go.RowKit

/-- raw lines that can be read -/
def RawAt (w : World) (ao : Option Addr) (n : Nat) : Prop :=
  ∀ i, i < n → ∃ sb so, ao = some ⟨sb, so, none⟩ ∧ sb < w.heap.size ∧ ∃ a b c : Int, w.cell? ⟨sb, so + i * 3, none⟩ = some (.int .i64 a) ∧ w.cell? ⟨sb, so + i * 3 + 1, none⟩ = some (.int .i64 b) ∧ w.cell? ⟨sb, so + i * 3 + 2, none⟩ = some (.int .i64 c) ∧
    (-9223372036854775808 ≤ a ∧ a ≤ 9223372036854775807) ∧ (-9223372036854775808 ≤ b ∧ b ≤ 9223372036854775807) ∧ (-9223372036854775808 ≤ c ∧ c ≤ 9223372036854775807)

/-- a store with lines, and the lines -/
structure FilledAt (w wr : World) (p : Nat) (F : Nat → Prop) (S : List Strm) (L : List Rw) (t : Int) (v : Value) (k : Nat) : Prop where
  keep : KeepAt w wr F p S L
  fill : Fill S L t
  late : t ≤ 3 * (k : Int)
  len : L.length = k
  row : wr.ownsRow w.heap.size 38 3 v L.length (L.flatMap cellsR)
  apart : ∀ g, v.ownBlock = some g → ¬ F g

def FillP (w : World) (most : Nat) (e : Ending) (w' : World) : Prop :=
  ∃ p F S L t v k, e = .returned (.tuple #[.pointer (some ⟨p, 0, none⟩), v, .bool true]) ∧ k ≤ most ∧ FilledAt w w' p F S L t v k

theorem FilledAt.pushed {w wr wx w4 : World} {p k : Nat} {F : Nat → Prop} {S : List Strm} {L : List Rw} {t t' : Int} {v : Value} {l x : List UInt8} {e : Ending} (h : FilledAt w wr p F S L t v k) (hb : Below wr.heap.size wr wx) (hl : l ∈ five) (ht : t ≤ t') (ht2 : t' ≤ t + 3) (hx : x.length ≤ 40) (hk : k < 40)
    (hp : PushP w wx F p S L l t' x e w4) :
    e = .returned (.int .i64 0) ∧ ∃ F' S', KeepAt w w4 F' p S' (L ++ [(l, t', x)]) ∧ Fill S' (L ++ [(l, t', x)]) t' ∧ t' ≤ 3 * ((k + 1 : Nat) : Int) ∧ w4.ownsRow w.heap.size 38 3 v L.length (L.flatMap cellsR) ∧ (∀ g, v.ownBlock = some g → ¬ F' g) ∧ (∀ b, wr.heap.size ≤ b → b < wx.heap.size → w4.heap[b]? = wx.heap[b]? ∧ ¬ F' b) ∧ (∀ b, F' b → b < w4.heap.size) := by
  obtain ⟨rfl, F', hk', hm, hF'⟩ := hp
  have hlate := h.late
  have hpu := h.fill.push (l := l) (x := x) (t' := t') hl ht (by omega) hx (by rw [h.len]; omega)
  obtain ⟨e1, e2, e3⟩ := hpu
  rw [e1]
  rw [e2] at hk'
  refine ⟨rfl, F', _, hk', e3, by omega, ?_, ?_, ?_, fun b hb => (hk'.high b hb).2⟩
  · refine ownsRow_same h.row fun g hg => ?_
    have hgl := (ownsRow_type h.row hg).1
    rw [hm.block g (Nat.lt_of_lt_of_le hgl hb.size) (h.apart g hg), hb.block g hgl]
  · intro g hg hf
    have hgl := (ownsRow_type h.row hg).1
    rcases hF' g hf with h1 | h1
    · exact h.apart g hg h1
    · have := hb.size; omega
  · intro b hb1 hb2
    have hnF : ¬ F b := fun hf => by have := (h.keep.high b hf).2; omega
    refine ⟨hm.block b hb2 hnF, fun hf => ?_⟩
    rcases hF' b hf with h1 | h1
    · exact hnF h1
    · omega

theorem FilledAt.more {w w4 w6 : World} {p k : Nat} {F' : Nat → Prop} {S' : List Strm} {L : List Rw} {t' : Int} {v v6 : Value} {l x : List UInt8} {o : Obj} (hk : KeepAt w w4 F' p S' (L ++ [(l, t', x)])) (hf : Fill S' (L ++ [(l, t', x)]) t') (ht : t' ≤ 3 * ((k + 1 : Nat) : Int)) (hlen : L.length = k) (hrow : w4.ownsRow w.heap.size 38 3 v L.length (L.flatMap cellsR)) (ha : ∀ g, v.ownBlock = some g → ¬ F' g) (hlt : ∀ b, F' b → b < w4.heap.size)
    (hg : (w4.alloc o).grownBy w6 v.ownBlock) (ho : w6.ownsRow w.heap.size 38 3 v6 (L.length + 1) (L.flatMap cellsR ++ [SV l, .int .i64 t', SV x])) (hwh : v6.ownBlock = v.ownBlock ∨ v6.ownBlock = some (w4.alloc o).heap.size) :
    FilledAt w w6 p F' S' (L ++ [(l, t', x)]) t' v6 (k + 1) := by
  have hm6 : Moved (fun b => v.ownBlock = some b) w4 w6 := ((Moved.refl _ w4).alloc o).grown hg (fun k hk => .inl hk)
  refine ⟨hk.moved hm6 (fun b hb e => ha b e hb) (fun b hb e => ?_), hf, ht, by simp [hlen], ?_, ?_⟩
  · have := (hrow.lt b e).1; omega
  · simpa [cellsR] using ho
  · intro g hg' hF
    rcases hwh with e | e
    · exact ha g (e ▸ hg') hF
    · rw [hg'] at e
      simp at e
      have := hlt g hF
      omega

set_option maxRecDepth 10000 in
set_option maxHeartbeats 8000000 in
theorem filled_any {w : World} {ao : Option Addr} {n cap : Nat} (hr : RawAt w ao n) :
    Calls Tryz.prog 14 #[.slice ao n cap, .int .i64 40] w (FillP w 40) := by
  obtain ⟨i0, hi, hz0, hz1, hz2⟩ := info_parts Tryz.info38
  have HR := hide hr
  clear hr
  go_enter Tryz.func14, Tryz.ntmps14
  go_wp2_with fail
  refine (knew_any w).mono ?_
  rintro e w1 ⟨rfl, hk1⟩
  have HF0 := hide (show FilledAt w w1 w.heap.size (fun b => b = w.heap.size) [] [] 0 (.slice none 0 0) 0 from ⟨hk1, Fill.empty, by omega, rfl, World.ownsRow_nil _ _ _ _, fun g hg => (by cases hg)⟩)
  clear hk1
  go_wp2_with fail
  go_loopw [8, 9, 10] (fun v tv i wr => ∃ (k : Nat) (F : Nat → Prop) (S : List Strm) (L : List Rw) (t : Int), k ≤ n ∧ k ≤ 40 ∧ i = .int .i64 k ∧ tv = .int .i64 t ∧ Hid (FilledAt w wr w.heap.size F S L t v k)) (fun _ _ i _ => n - (intOf i).toNat)
  case atStart => exact ⟨0, _, [], [], 0, Nat.zero_le _, Nat.zero_le _, rfl, rfl, HF0⟩
  case round =>
    clear HF0
    obtain ⟨k, F, S, L, t, hk, hk40, rfl, rfl, HF⟩ := hrel
    by_cases hlt : k < n
    · by_cases hl40 : k < 40
      · obtain ⟨sb, so, rfl, hsb, a, b, c, r0, r1, r2, ⟨ra1, ra2⟩, ⟨rb1, rb2⟩, ⟨rc1, rc2⟩⟩ := unhide HR k hlt
        have hbel := (unhide HF).keep.bel
        have hszr := hbel.size
        have m0 := (hbel.cell (p := ⟨sb, so + k * 3, none⟩) hsb).trans r0
        have m1 := (hbel.cell (p := ⟨sb, so + k * 3 + 1, none⟩) hsb).trans r1
        have m2 := (hbel.cell (p := ⟨sb, so + k * 3 + 2, none⟩) hsb).trans r2
        clear r0 r1 r2
        have ht0 := (unhide HF).fill.t0
        have htl := (unhide HF).late
        have hpk := kpick_any b 4 wr rb1 rb2 (by omega) (by omega)
        have hpl := pickN_lt b (n := 4) (by omega)
        generalize pickN b 4 = d at *
        have hsw : sb < wr.heap.size := by omega
        have hki : (k : Int) < (n : Int) := by omega
        have hk4i : (k : Int) < 40 := by omega
        have HB0 := hide hbel
        clear hbel
        go_wp2_with fail
        refine hpk.mono ?_
        rintro e w2 ⟨rfl, hww⟩
        rw [hww]
        clear hww w2 hpk
        go_upto_region 10 with fail
        have hn1 : ∀ W, Below wr.heap.size wr W → Calls Tryz.prog 36 #[.int .i64 a] W fun e w' => e = .returned (SV (labK a)) ∧ Below wr.heap.size wr w' ∧ Hid (Below W.heap.size W w') :=
          fun W hW => (labels_any a W ra1 ra2).mono fun e w' hh => ⟨hh.1, callB hW hh.2, hh.2⟩
        have hn2 : ∀ W, Below wr.heap.size wr W → Calls Tryz.prog 37 #[.int .i64 c] W fun e w' => e = .returned (SV (saysK c)) ∧ Below wr.heap.size wr w' ∧ Hid (Below W.heap.size W w') :=
          fun W hW => (says_any c W rc1 rc2).mono fun e w' hh => ⟨hh.1, callB hW hh.2, hh.2⟩
        have HLM := hide (labK_mem a)
        have HSL := hide (saysK_len c)
        generalize labK a = lab at *
        generalize saysK c = line at *
        go_cut [11] from 35 to 48 (fun s wx => ∃ bx, s = .pointer (some ⟨bx, 0, none⟩) ∧ wr.heap.size ≤ bx ∧ bx < wx.heap.size ∧ (wx.cell? ⟨bx, 0, none⟩ = some (SV lab) ∧ wx.cell? ⟨bx, 1, none⟩ = some (.int .i64 (t + d)) ∧ wx.cell? ⟨bx, 2, none⟩ = some (SV line)) ∧ Below wr.heap.size wr wx)
        case first =>
          have HS := hide (And.intro m0 m2)
          have HB : ∀ W, Below wr.heap.size wr W → Hid (W.cell? ⟨sb, so + k * 3, none⟩ = some (.int .i64 a) ∧ W.cell? ⟨sb, so + k * 3 + 2, none⟩ = some (.int .i64 c)) :=
            fun W hW => ⟨(hW.cell (p := ⟨sb, so + k * 3, none⟩) hsw).trans m0, (hW.cell (p := ⟨sb, so + k * 3 + 2, none⟩) hsw).trans m2⟩
          clear m0 m1 m2
          go_region_held3 (fun W => W.cell? ⟨sb, so + k * 3, none⟩ = some (.int .i64 a) ∧ W.cell? ⟨sb, so + k * 3 + 2, none⟩ = some (.int .i64 c))
            (first | (with_reducible exact unhide HS) | exact unhide (HB _ (by repeat (first | with_reducible assumption | with_reducible exact Below.refl _ _ | with_reducible apply allocB | with_reducible apply drewB | (with_reducible refine setB ?_ _ _ (by dsimp only; omega))))))
            (first
              | (go_at_call 36; refine (hn1 _ (by repeat (first | with_reducible assumption | with_reducible exact Below.refl _ _ | with_reducible apply allocB | with_reducible apply drewB))).mono ?_; clear hn1; rintro e w5 ⟨rfl, hbw5, hb5⟩; have hz5 := hbw5.size; (try ((first | have z1 : Zr w5 wr.heap.size := zn1d hb5 | have z1 : Zr w5 wr.heap.size := zn1 hb5); obtain ⟨z1a, z1b, z1c, z1d, z1e, z1f, z1g⟩ := id z1; have z1' := hide z1; clear z1)))
              | (go_at_call 37; refine (hn2 _ (by repeat (first | with_reducible assumption | with_reducible exact Below.refl _ _ | with_reducible apply allocB | with_reducible apply drewB))).mono ?_; clear hn2; rintro e w6 ⟨rfl, hbw6, hb6⟩; have hz6 := hbw6.size; (try (have z5 : Zr w6 w5.heap.size := zn1 hb6; obtain ⟨z5a, z5b, z5c, z5d, z5e, z5f, z5g⟩ := id z5; have z5' := hide z5; clear z5)); (try (have z3 := zo0 z1' hb6; obtain ⟨z3a, z3b, z3c, z3d, z3e, z3f, z3g⟩ := id z3; have z3' := hide z3; clear z3))))
          all_goals (go_wp2_with fail; go_meet)
          all_goals refine ⟨_, rfl, by omega, ?_, ⟨?_, ?_, ?_⟩, ?_⟩
          all_goals try (go_cell)
          all_goals try (simp [World.setCell]; omega)
          all_goals try (repeat (first | with_reducible assumption | with_reducible exact Below.refl _ _ | with_reducible apply allocB | with_reducible apply drewB | (with_reducible refine setB ?_ _ _ (by dsimp only; omega))))
        case rest =>
          obtain ⟨bx, rfl, hbx1, hbx2, ⟨x0, x1, x2⟩, hbx⟩ := hcut
          have hfl := five_len lab (unhide HLM)
          have hpu := kpush_any lab line (t + d) ((unhide HF).keep.below hbx) (by omega) (by have := unhide HSL; omega)
          have HBX := hide hbx
          clear hn1 hn2 m0 m1 m2 hbx
          go_wp2_with fail
          refine hpu.mono ?_
          intro e w4 hP
          obtain ⟨rfl, F', S', q1, q2, q3, q4, q5, q6, q7⟩ := (unhide HF).pushed (unhide HBX) (unhide HLM) (by omega) (by omega) (unhide HSL) hl40 hP
          have qb := (q6 bx hbx1 hbx2).1
          have y0 := (World.cell?_of_block (a := ⟨bx, 0, none⟩) qb).trans x0
          have y1 := (World.cell?_of_block (a := ⟨bx, 1, none⟩) qb).trans x1
          have y2 := (World.cell?_of_block (a := ⟨bx, 2, none⟩) qb).trans x2
          have hln := (unhide HF).len
          have hsz4 := q1.bel.size
          have Q1 := hide q1
          have Q2 := hide q2
          have Q3 := hide q3
          have Q5 := hide q5
          have Q7 := hide q7
          have HLN := hide hln
          have hL40 : L.length < 40 := by omega
          obtain ⟨al, cl, rfl, -, -, -, -, -, -⟩ := owns_form q4
          clear hpu hP q1 q2 q3 q5 q6 q7 qb x0 x1 x2 hln HR
          go_wp2_with (at_builtin; refine wpList_append_at _ rfl _ _ 28 rfl w.heap.size 38 i0 _ 3 40 Tryz.underlying28 hi hz0 hz1 hz2 rfl (by decide) _ _ _ rfl (q4.alloc _) (some ⟨_, 0, none⟩) 1 1 [SV lab, .int .i64 (t + d), SV line] rfl rfl (by intro e; cases e) (cells_new _ _ _) (by intro u hu; simp at hu; rcases hu with rfl | rfl | rfl <;> rfl) (by unfold maxLen; omega) (by omega) (by simp; omega) ?_; intro v6 w6 hown6 hgrow6 hwh6; have HF6 := hide (FilledAt.more (unhide Q1) (unhide Q2) (unhide Q3) (unhide HLN) q4 (unhide Q5) (unhide Q7) hgrow6 hown6 hwh6); clear hgrow6 hown6 hwh6)
          go_roundw
          case rel => exact ⟨k + 1, F', S', _, t + d, by omega, by omega, by go_num, rfl, HF6⟩
          case measure => simp [intOf]; omega
      · have hk4i : ¬ (k : Int) < 40 := by omega
        have HFF := hide (show FillP w 40 (.returned (.tuple #[.pointer (some ⟨w.heap.size, 0, none⟩), u8, .bool true])) wr from ⟨_, F, S, L, t, u8, k, rfl, hk40, unhide HF⟩)
        clear HR
        go_wp2_with fail
        go_ret3
        exact unhide HFF
    · have HFF := hide (show FillP w 40 (.returned (.tuple #[.pointer (some ⟨w.heap.size, 0, none⟩), u8, .bool true])) wr from ⟨_, F, S, L, t, u8, k, rfl, hk40, unhide HF⟩)
      clear HR
      go_wp2_with fail
      go_ret3
      exact unhide HFF

end Go.Proofs.YtbljamcdaoofbaaGreatDoor

/- What every row of loamkeep needs: how raw lines read. -/
namespace Go.Proofs.YtbljamcdaoofbaaGreatDoor
open Go.ChangeShapes Go.WideShapes Go.ChangeAt Go.RowKit Go.Deep
namespace Own

theorem cellsRaw : Tryz.prog.cellsOf 75 = 3 := by kernel_rfl

set_option maxRecDepth 10000 in
theorem rawFit {H : Type} {enc : TypeId × Value → H} {W : World} {base n : Nat} {spare : Nat → Bool} {held : Bool} {sb so : Nat} {cs' : List Value} {y : DataW H × List MemPlace}
    (hc : W.cells? base ⟨sb, so, none⟩ 3 = some cs') (ht : DataW.trod enc Tryz.prog W base spare held n 75 cs' = some y) :
    ∃ a b c : Int, W.cell? ⟨sb, so, none⟩ = some (.int .i64 a) ∧ W.cell? ⟨sb, so + 1, none⟩ = some (.int .i64 b) ∧ W.cell? ⟨sb, so + 2, none⟩ = some (.int .i64 c) ∧
      (-9223372036854775808 ≤ a ∧ a ≤ 9223372036854775807) ∧ (-9223372036854775808 ≤ b ∧ b ≤ 9223372036854775807) ∧ (-9223372036854775808 ≤ c ∧ c ≤ 9223372036854775807) := by
  obtain ⟨_, hlen, hcell⟩ := World.cells?_some hc
  obtain ⟨xs, m, -, hy, -, hxl, hall⟩ := DataW.trod_struct Tryz.underlying75 ht
  match cs', hlen with
  | [v0, v1, v2], _ =>
  match xs, hxl with
  | [x0, x1, x2], _ =>
  have u0 : DataW.trod enc Tryz.prog W base spare held m 3 (List.take (Tryz.prog.cellsOf 3) (List.drop 0 [v0, v1, v2])) = some x0 := hall 0 _ rfl
  have u1 : DataW.trod enc Tryz.prog W base spare held m 3 (List.take (Tryz.prog.cellsOf 3) (List.drop 1 [v0, v1, v2])) = some x1 := hall 1 _ rfl
  have u2 : DataW.trod enc Tryz.prog W base spare held m 3 (List.take (Tryz.prog.cellsOf 3) (List.drop 2 [v0, v1, v2])) = some x2 := hall 2 _ rfl
  simp only [cellsInt, List.drop, List.take] at u0 u1 u2
  obtain ⟨a, e0, -, w0⟩ := DataW.trod_int Tryz.underlying3 u0
  obtain ⟨b, e1, -, w1⟩ := DataW.trod_int Tryz.underlying3 u1
  obtain ⟨c, e2, -, w2⟩ := DataW.trod_int Tryz.underlying3 u2
  simp only [List.cons.injEq, and_true] at e0 e1 e2
  subst e0 e1 e2
  have c0 := hcell 0 (by omega)
  have c1 := hcell 1 (by omega)
  have c2 := hcell 2 (by omega)
  rw [add_plain] at c0 c1 c2
  exact ⟨a, b, c, c0, c1, c2, wf_range w0, wf_range w1, wf_range w2⟩

set_option maxRecDepth 10000 in
theorem rawAt {H : Type} {enc : TypeId × Value → H} {W : World} {fuel : Nat} {a0 : Option Addr} {len cap : Nat} {y : DataW H × List MemPlace}
    (hf : DataW.trod enc Tryz.prog W 0 (fun _ => true) true fuel 25 (Value.slice a0 len cap).cells.toList = some y) : RawAt W a0 len := by
  rcases open_slice Tryz.underlying25 hf with ⟨hcs, hx⟩ | ⟨a, len', cap', m, n, D, Pl, hcs, _, hl, hm, hmm, hx, hel⟩
  · simp [Value.cells] at hcs
    obtain ⟨rfl, rfl, rfl⟩ := hcs
    exact fun i hi => by omega
  · simp [Value.cells] at hcs
    obtain ⟨rfl, rfl, rfl⟩ := hcs
    simp only [if_true] at hmm
    subst hmm
    intro i hi
    obtain ⟨cs', hc, htr⟩ := hel i (by omega)
    rw [cellsRaw] at hc
    obtain ⟨sb, so, spot⟩ := a
    have hspot : spot = none := by
      obtain ⟨cz, hz, -⟩ := hel 0 (by omega)
      rw [cellsRaw] at hz
      obtain ⟨_, hz8, hzc⟩ := World.cells?_some hz
      have hz0 := hzc 0 (by omega)
      rw [List.getElem?_eq_getElem (by omega)] at hz0
      simpa [Addr.add] using World.cell?_spot hz0
    subst hspot
    obtain ⟨_, hlen8, hcell⟩ := World.cells?_some hc
    have h00 := hcell 0 (by omega)
    rw [List.getElem?_eq_getElem (by omega)] at h00
    rw [add_plain] at hc h00
    rw [add_plain] at h00
    exact ⟨sb, so, rfl, World.block_lt_of_cell? W _ h00, rawFit hc htr⟩

end Own
end Go.Proofs.YtbljamcdaoofbaaGreatDoor

/- The tokens of a query that is written of pieces. -/
namespace Go.Proofs.YtbljamcdaoofbaaGreatDoor
open Go.RowKit

/-- the tokens of any text from a place on, behind which this rest stands -/
def TokR (r : List UInt8) (p : Nat) (ts : List Tok) : Prop := ∀ s : List UInt8, s.drop p = r → toks s p = ts

theorem toks_at {s r : List UInt8} {p : Nat} (h : s.drop p = r) (hb : blanks r = 0) : toks s p = if (tok1 r).1 < 4 then ⟨(tok1 r).1, p, (tok1 r).2.1⟩ :: toks s (p + (tok1 r).2.2) else [⟨(tok1 r).1, p, (tok1 r).2.1⟩] := by
  rw [toks, h, hb, Nat.add_zero, h]

theorem TokR.step {r r' : List UInt8} {p k n : Nat} {x : List UInt8} {ts : List Tok} (hb : blanks r = 0) (ht : tok1 r = (k, x, n)) (hk : k < 4) (hd : r.drop n = r') (h : TokR r' (p + n) ts) : TokR r p (⟨k, p, x⟩ :: ts) := by
  intro s hs
  rw [toks_at hs hb, ht, if_pos hk, h s (by rw [← List.drop_drop, hs, hd])]

theorem TokR.fin (p : Nat) : TokR [] p [⟨4, p, []⟩] := by
  intro s hs
  rw [toks_at hs rfl]
  rfl

theorem TokR.blank {r : List UInt8} {p : Nat} {ts : List Tok} (h : TokR r (p + 1) ts) : TokR (32 :: r) p ts := by
  intro s hs
  have h1 : s.drop (p + 1) = r := by rw [← List.drop_drop, hs]; rfl
  have e : blanks (32 :: r) = blanks r + 1 := by simp [blanks]
  rw [← h s h1, toks.eq_1 s p, toks.eq_1 s (p + 1), hs, h1, e, show p + (blanks r + 1) = p + 1 + blanks r by omega]

def mkB (c : UInt8) : Bool := !isL c && !isD c && c != 34 && c != 33 && c != 124 && isM c && c != 32

theorem TokR.mark {c : UInt8} {r : List UInt8} {p : Nat} {ts : List Tok} (hc : mkB c = true) (h : TokR r (p + 1) ts) : TokR (c :: r) p (⟨3, p, [c]⟩ :: ts) := by
  unfold mkB at hc
  simp only [Bool.and_eq_true, Bool.not_eq_true', bne_iff_ne, ne_eq] at hc
  obtain ⟨⟨⟨⟨⟨⟨c1, c2⟩, c3⟩, c4⟩, c5⟩, c6⟩, c7⟩ := hc
  refine TokR.step (n := 1) ?_ ?_ (by omega) rfl h
  · simp [blanks, c7]
  · rw [tok1_cons, if_neg (by simp [c1]), if_neg (by simp [c2]), if_neg c3, if_neg (by simp [c4, c5]), if_pos c6]

theorem TokR.two {c : UInt8} {r : List UInt8} {p : Nat} {ts : List Tok} (hc : c = 33 ∨ c = 124) (h : TokR r (p + 2) ts) : TokR (c :: 61 :: r) p (⟨3, p, [c, 61]⟩ :: ts) := by
  refine TokR.step (n := 2) ?_ ?_ (by omega) rfl h
  · rcases hc with rfl | rfl <;> rfl
  · rcases hc with rfl | rfl <;> rfl

theorem quote_app {t : List UInt8} (h : ∀ x ∈ t, x ≠ 34) (r : List UInt8) : quoteAt (t ++ 34 :: r) = some t.length := by
  induction t with
  | nil => rfl
  | cons c t ih =>
    rw [List.cons_append, quoteAt, if_neg (h c List.mem_cons_self), ih fun x hx => h x (List.mem_cons_of_mem _ hx)]
    rfl

theorem TokR.str {t r : List UInt8} {p : Nat} {ts : List Tok} (ht : ∀ x ∈ t, x ≠ 34) (h : TokR r (p + (t.length + 2)) ts) : TokR (34 :: (t ++ 34 :: r)) p (⟨2, p, t⟩ :: ts) := by
  refine TokR.step (n := t.length + 2) rfl ?_ (by omega) ?_ h
  · rw [tok1_cons, if_neg (by decide), if_neg (by decide), if_pos rfl, quote_app ht]
    simp
  · rw [show t.length + 2 = (t.length + 1) + 1 by omega, List.drop_succ_cons, List.drop_append, List.drop_of_length_le (by omega)]
    simp

theorem takeW_all {f : UInt8 → Bool} {w r : List UInt8} (hw : w.all f = true) (hr : ∀ c, r.head? = some c → f c = false) : (w ++ r).takeWhile f = w := by
  induction w with
  | nil =>
    cases r with
    | nil => rfl
    | cons c r => rw [List.nil_append, List.takeWhile_cons, hr c rfl]; rfl
  | cons c w ih =>
    rw [List.all_cons, Bool.and_eq_true] at hw
    rw [List.cons_append, List.takeWhile_cons, hw.1, if_pos rfl, ih hw.2]

theorem letter_not (c : UInt8) (h : isL c = true) : c ≠ 32 := by
  rintro rfl
  exact absurd h (by decide)

theorem digit_not (c : UInt8) (h : isD c = true) : c ≠ 32 ∧ isL c = false := by
  revert h
  unfold isD isL digitB letterB
  intro h
  refine ⟨?_, ?_⟩
  · rintro rfl; exact absurd h (by decide)
  · simp only [Bool.and_eq_true, decide_eq_true_eq] at h
    simp
    omega

theorem TokR.word {w r : List UInt8} {p : Nat} {ts : List Tok} (hn : w ≠ []) (hw : w.all isL = true) (hr : ∀ c, r.head? = some c → isL c = false) (h : TokR r (p + w.length) ts) : TokR (w ++ r) p (⟨0, p, w⟩ :: ts) := by
  have e := takeW_all hw hr
  cases w with
  | nil => exact absurd rfl hn
  | cons c w =>
    have hc : isL c = true := by rw [List.all_cons, Bool.and_eq_true] at hw; exact hw.1
    refine TokR.step (n := (c :: w).length) ?_ ?_ (by omega) (by simp) h
    · simp [blanks, letter_not c hc]
    · rw [List.cons_append, tok1_cons, if_pos hc, ← List.cons_append, e]

theorem TokR.num {w r : List UInt8} {p : Nat} {ts : List Tok} (hn : w ≠ []) (hw : w.all isD = true) (hr : ∀ c, r.head? = some c → isD c = false) (h : TokR r (p + w.length) ts) : TokR (w ++ r) p (⟨1, p, w⟩ :: ts) := by
  have e := takeW_all hw hr
  cases w with
  | nil => exact absurd rfl hn
  | cons c w =>
    have hc : isD c = true := by rw [List.all_cons, Bool.and_eq_true] at hw; exact hw.1
    obtain ⟨h1, h2⟩ := digit_not c hc
    refine TokR.step (n := (c :: w).length) ?_ ?_ (by omega) (by simp) h
    · simp [blanks, h1]
    · rw [List.cons_append, tok1_cons, if_neg (by simp [h2]), if_pos hc, ← List.cons_append, e]

theorem TokR.parse {l : List UInt8} {ts : List Tok} (h : TokR l 0 ts) : (parseL l).2 = (wholeI ts).2 := by
  unfold parseL
  rw [h l rfl]

/-- a measure, of its parts -/
theorem meas_of {ts : List Tok} {j e r : Nat} {ms : List Mch} {fs : List Flt} {by_ : List UInt8} (h0 : (tokAt ts 0).k = 0) (hm : measB (tokAt ts 0).text = true) (h1 : markB ts 1 [40] = true) (hr : rowsI ts 2 = (j, true, ms, fs)) (hb : markB ts j [91] = true) (hk : (tokAt ts (j + 1)).k = 1)
    (hs : spanL (tokAt ts (j + 1)).text = r) (hr1 : 1 ≤ r) (hr2 : r ≤ 1000000) (hc : markB ts (j + 2) [93] = true) (hp : markB ts (j + 3) [41] = true) (hby : byI ts (j + 4) = (e, true, by_)) (hend : (tokAt ts e).k = 4) : (wholeI ts).2 = (true, ⟨ms, fs, (tokAt ts 0).text, r, by_⟩) := by
  have hsp : spanI ts j = (j + 3, true, r) := by
    unfold spanI
    rw [if_neg (by simp [hb]), if_neg (by simp [spanAt, hk, hs, hr1, hr2]), if_neg (by simp [hc]), hs]
  have ha : anyI ts = (e, true, ⟨ms, fs, (tokAt ts 0).text, r, by_⟩) := by
    unfold anyI measI
    rw [if_pos (by simp [h0]), if_neg (by simp [h0, hm]), if_neg (by simp [h1]), hr, if_neg (by simp), hsp, if_neg (by simp), if_neg (by simp [hp]), show j + 3 + 1 = j + 4 from rfl, hby]
  unfold wholeI
  rw [ha]
  simp [hend]

/-- what is known of small numbers' digits -/
theorem dig_all : (List.range 151).all (fun n => (digL n).all isD && (spanL (digL n) == n) && decide (1 ≤ (digL n).length) && decide ((digL n).length ≤ 3)) = true := by kernel_rfl
theorem dig_small {n : Nat} (h : n ≤ 150) : (digL n).all isD = true ∧ spanL (digL n) = n ∧ digL n ≠ [] ∧ (digL n).length ≤ 3 := by
  have := List.all_eq_true.1 dig_all n (List.mem_range.2 (by omega))
  simp only [Bool.and_eq_true, beq_iff_eq, decide_eq_true_eq] at this
  obtain ⟨⟨⟨h1, h2⟩, h3⟩, h4⟩ := this
  exact ⟨h1, h2, fun e => by rw [e] at h3; simp at h3, h4⟩

end Go.Proofs.YtbljamcdaoofbaaGreatDoor

/- Floats of 32 bits as quotients of whole numbers: what the document's rounding is, and that the machine's is the same. -/
namespace Go.Proofs.YtbljamcdaoofbaaGreatDoor

/-- a / b to the nearest whole number, between two to the even one -/
def rne (a b : Nat) : Nat := a / b + (if b < 2 * (a % b) ∨ (2 * (a % b) = b ∧ a / b % 2 = 1) then 1 else 0)

theorem rne_mul (c a b : Nat) (hc : 0 < c) : rne (c * a) (c * b) = rne a b := by
  unfold rne
  rw [Nat.mul_div_mul_left _ _ hc, Nat.mul_mod_mul_left]
  have e1 : (c * b < 2 * (c * (a % b))) ↔ b < 2 * (a % b) := by
    rw [Nat.mul_left_comm]
    exact ⟨fun h => Nat.lt_of_mul_lt_mul_left h, fun h => Nat.mul_lt_mul_of_pos_left h hc⟩
  have e2 : (2 * (c * (a % b)) = c * b) ↔ 2 * (a % b) = b := by
    rw [Nat.mul_left_comm]
    exact ⟨fun h => Nat.eq_of_mul_eq_mul_left hc h, fun h => by rw [h]⟩
  simp only [e1, e2]

theorem rne_ratio {a b a' b' : Nat} (hb : 0 < b) (hb' : 0 < b') (h : a * b' = a' * b) : rne a b = rne a' b' := by
  rw [← rne_mul b' a b hb', ← rne_mul b a' b' hb, Nat.mul_comm b' a, h, Nat.mul_comm b' b, Nat.mul_comm a' b]

/-- a digit that tells whether anything is left over is enough -/
theorem rne_sticky (D n g : Nat) (hn : 0 < n) (hg : 0 < g) : rne (2 * (D / n) + (if D % n = 0 then 0 else 1)) (4 * g) = rne D (n * (2 * g)) := by
  have hf := Nat.div_add_mod D n
  have hr := Nat.mod_lt D hn
  generalize hF : D / n = f at *
  generalize D % n = r at *
  have hh := Nat.div_add_mod f (2 * g)
  have hl := Nat.mod_lt f (show 0 < 2 * g by omega)
  generalize hL : f / (2 * g) = l at *
  generalize f % (2 * g) = h at *
  have q1 : (2 * f + (if r = 0 then 0 else 1)) / (4 * g) = l := by
    rw [Nat.div_eq_iff (by omega)]
    have : l * (4 * g) = 2 * (2 * g * l) := by rw [show 4 * g = 2 * (2 * g) by omega]; ac_rfl
    rw [this]
    split <;> omega
  have q2 : (2 * f + (if r = 0 then 0 else 1)) % (4 * g) = 2 * h + (if r = 0 then 0 else 1) := by
    have e := Nat.div_add_mod (2 * f + (if r = 0 then 0 else 1)) (4 * g)
    rw [q1] at e
    have : 4 * g * l = 2 * (2 * g * l) := by rw [← Nat.mul_assoc]; congr 1; omega
    omega
  have d1 : D / (n * (2 * g)) = l := by rw [← Nat.div_div_eq_div_mul, hF, hL]
  have d2 : D % (n * (2 * g)) = n * h + r := by
    have e := Nat.div_add_mod D (n * (2 * g))
    rw [d1] at e
    have e2 : n * f = n * (2 * g) * l + n * h := by rw [← hh, Nat.mul_add, ← Nat.mul_assoc]
    omega
  have c1 : (4 * g < 2 * (2 * h + (if r = 0 then 0 else 1))) ↔ (n * (2 * g) < 2 * (n * h + r)) := by
    have e3 : n * (2 * g) = 2 * (n * g) := by rw [Nat.mul_left_comm]
    rw [e3]
    rcases Nat.lt_trichotomy h g with hlt | heq | hgt
    · have : n * (h + 1) ≤ n * g := Nat.mul_le_mul_left n (by omega)
      rw [Nat.mul_add, Nat.mul_one] at this
      constructor
      · intro hx; exfalso; split at hx <;> omega
      · intro hx; exfalso; omega
    · subst heq
      by_cases e : r = 0
      · rw [if_pos e]; omega
      · rw [if_neg e]; omega
    · have : n * (g + 1) ≤ n * h := Nat.mul_le_mul_left n (by omega)
      rw [Nat.mul_add, Nat.mul_one] at this
      constructor
      · intro _; omega
      · intro _; split <;> omega
  have c2 : (2 * (2 * h + (if r = 0 then 0 else 1)) = 4 * g) ↔ (2 * (n * h + r) = n * (2 * g)) := by
    have e3 : n * (2 * g) = 2 * (n * g) := by rw [Nat.mul_left_comm]
    rw [e3]
    rcases Nat.lt_trichotomy h g with hlt | heq | hgt
    · have : n * (h + 1) ≤ n * g := Nat.mul_le_mul_left n (by omega)
      rw [Nat.mul_add, Nat.mul_one] at this
      constructor
      · intro hx; exfalso; split at hx <;> omega
      · intro hx; exfalso; omega
    · subst heq
      by_cases e : r = 0
      · rw [if_pos e]; omega
      · rw [if_neg e]; omega
    · have : n * (g + 1) ≤ n * h := Nat.mul_le_mul_left n (by omega)
      rw [Nat.mul_add, Nat.mul_one] at this
      constructor
      · intro hx; exfalso; split at hx <;> omega
      · intro hx; exfalso; omega
  unfold rne
  rw [q1, q2, d1, d2]
  simp only [c1, c2]

/-- the bits of A / B as a float -/
def IsF (A B bits : Nat) : Prop := ∃ E a b : Nat, 0 < b ∧ 8388608 * b ≤ a ∧ a < 16777216 * b ∧ a * B * 2 ^ E = A * b * 2 ^ 149 ∧ bits = E * 8388608 + rne a b

theorem IsF.uniq {A B x y : Nat} (hB : 0 < B) (h : IsF A B x) (h' : IsF A B y) : x = y := by
  obtain ⟨E, a, b, hb, h1, h2, h3, rfl⟩ := h
  obtain ⟨E', a', b', hb', h1', h2', h3', rfl⟩ := h'
  have key : a * b' * 2 ^ E = a' * b * 2 ^ E' := by
    have k1 : a * B * 2 ^ E * b' = a' * B * 2 ^ E' * b := by
      rw [h3, h3']
      ac_rfl
    refine Nat.eq_of_mul_eq_mul_left hB ?_
    exact (show B * (a * b' * 2 ^ E) = a * B * 2 ^ E * b' by ac_rfl).trans (k1.trans (by ac_rfl))
  have lo : ∀ {E E' a a' b b' : Nat}, 0 < b → 0 < b' → 8388608 * b ≤ a → a' < 16777216 * b' → a * b' * 2 ^ E = a' * b * 2 ^ E' → ¬ E' < E := by
    intro E E' a a' b b' hb hb' h1 h2 hk hlt
    obtain ⟨k, rfl⟩ : ∃ k, E = E' + 1 + k := ⟨E - E' - 1, by omega⟩
    rw [Nat.pow_add, Nat.pow_add, Nat.pow_one] at hk
    have hp : 0 < 2 ^ E' := Nat.two_pow_pos _
    have hk' : a * b' * (2 * 2 ^ k) = a' * b := by
      refine Nat.eq_of_mul_eq_mul_right hp ?_
      rw [← hk]; ac_rfl
    have hk1 : 1 ≤ 2 ^ k := Nat.two_pow_pos _
    have u1 : 8388608 * b * b' ≤ a * b' := Nat.mul_le_mul_right _ h1
    have u2 : a' * b < 16777216 * b' * b := Nat.mul_lt_mul_of_pos_right h2 hb
    have u3 : a * b' * 2 ≤ a * b' * (2 * 2 ^ k) := Nat.mul_le_mul_left _ (by omega)
    have u4 : 16777216 * b' * b = 2 * (8388608 * b * b') := by
      rw [← Nat.mul_assoc, ← Nat.mul_assoc, Nat.mul_right_comm]
    omega
  have e : E = E' := by
    have x1 := lo hb hb' h1 h2' key
    have x2 := lo hb' hb h1' h2 key.symm
    omega
  subst e
  have hk : a * b' = a' * b := Nat.eq_of_mul_eq_mul_right (Nat.two_pow_pos E) key
  rw [rne_ratio hb hb' hk]

/-- what the machine keeps of a whole number of 2 to the -149 -/
theorem cut_rne (n s : Nat) (hs : s ≤ n.log2 + 2) : Ieee.Toward.even.cut false n s = rne n (2 ^ s) := by
  unfold Ieee.Toward.cut rne
  simp only [Nat.min_eq_left hs, Nat.one_shiftLeft]
  congr 1
  by_cases h1 : 2 ^ s < 2 * (n % 2 ^ s)
  · simp [h1]
  · by_cases h2 : 2 ^ s = 2 * (n % 2 ^ s) ∧ n / 2 ^ s % 2 = 1
    · simp [← h2.1, h2.2]
    · have h3 : ¬ (2 ^ s < 2 * (n % 2 ^ s) ∨ 2 * (n % 2 ^ s) = 2 ^ s ∧ n / 2 ^ s % 2 = 1) := by
        rintro (h | h)
        · exact h1 h
        · exact h2 ⟨h.1.symm, h.2⟩
      rw [if_neg h3]
      simp only [h1, decide_false, Bool.false_or]
      by_cases h4 : 2 ^ s = 2 * (n % 2 ^ s)
      · have h5 : ¬ n / 2 ^ s % 2 = 1 := fun h => h2 ⟨h4, h⟩
        simp [h5]
      · simp [h4]

theorem log2_eq {n k : Nat} (h1 : 2 ^ k ≤ n) (h2 : n < 2 ^ (k + 1)) : n.log2 = k := by
  have hn : n ≠ 0 := by have := Nat.two_pow_pos k; omega
  have a := (Nat.le_log2 hn).2 h1
  have b := (Nat.log2_lt hn).2 h2
  omega

theorem rne_le {a b k : Nat} (hb : 0 < b) (h : a < k * b) : rne a b ≤ k := by
  have : a / b < k := (Nat.div_lt_iff_lt_mul hb).2 h
  unfold rne
  split <;> omega

theorem rne_ge {a b k : Nat} (hb : 0 < b) (h : k * b ≤ a) : k ≤ rne a b := by
  have : k ≤ a / b := (Nat.le_div_iff_mul_le hb).2 h
  unfold rne
  split <;> omega

theorem rung_small {E r : Nat} (h1 : E < 250) (h2 : r ≤ 16777216) : min (E * 8388608 + r) 2139095040 = E * 8388608 + r := by
  refine Nat.min_eq_left ?_
  have h3 : E * 8388608 ≤ 249 * 8388608 := Nat.mul_le_mul_right _ (by omega)
  exact Nat.le_trans (Nat.add_le_add h3 h2) (by decide)

/-- float32(A) -/
theorem ofNat_form {A : Nat} (h1 : 0 < A) (h2 : A < 2 ^ 60) : A.log2 < 60 ∧ 2 ^ A.log2 ≤ A ∧ Ieee.single.nearest false A 0 = (A.log2 + 126) * 8388608 + rne (A * 2 ^ (23 - A.log2)) (2 ^ (A.log2 - 23)) ∧ 8388608 * 2 ^ (A.log2 - 23) ≤ A * 2 ^ (23 - A.log2) ∧ A * 2 ^ (23 - A.log2) < 16777216 * 2 ^ (A.log2 - 23) := by
  have hne : A ≠ 0 := by omega
  have l1 := Nat.log2_self_le hne
  have l2 : A < 2 ^ (A.log2 + 1) := Nat.lt_log2_self
  have l3 : A.log2 < 60 := (Nat.log2_lt hne).2 h2
  unfold Ieee.Format.nearest
  rw [if_neg hne]
  have ef : (Ieee.single.fractionBits : Int) = 23 := rfl
  have el : Ieee.single.leastPlace = -149 := by decide
  have eb : Ieee.single.binade = 8388608 := by decide
  have ei : Ieee.single.infRung = 2139095040 := by decide
  simp only [ef, el, eb, ei]
  generalize hk : A.log2 = k at *
  have em : max ((0 : Int) + (k : Int) - 23) (-149) = (k : Int) - 23 := by omega
  rw [em]
  have e1 : ((k : Int) - 23 - -149).toNat = k + 126 := by omega
  have e2 : ((0 : Int) - ((k : Int) - 23)).toNat = 23 - k := by omega
  have e3 : ((k : Int) - 23 - 0).toNat = k - 23 := by omega
  rw [e1, e2, e3]
  have hlog : (A <<< (23 - k)).log2 = k + (23 - k) := by
    rw [Nat.shiftLeft_eq]
    refine log2_eq ?_ ?_
    · rw [Nat.pow_add]; exact Nat.mul_le_mul_right _ l1
    · rw [show k + (23 - k) + 1 = (k + 1) + (23 - k) by omega, Nat.pow_add]
      exact Nat.mul_lt_mul_of_pos_right l2 (Nat.two_pow_pos _)
  rw [cut_rne _ _ (by rw [hlog]; omega), Nat.shiftLeft_eq]
  have hp : 0 < 2 ^ (k - 23) := Nat.two_pow_pos _
  have hlo : 8388608 * 2 ^ (k - 23) ≤ A * 2 ^ (23 - k) := by
    rw [show 8388608 * 2 ^ (k - 23) = 2 ^ k * 2 ^ (23 - k) by rw [show (8388608 : Nat) = 2 ^ 23 by decide, ← Nat.pow_add, ← Nat.pow_add]; congr 1; omega]
    exact Nat.mul_le_mul_right _ l1
  have hhi : A * 2 ^ (23 - k) < 16777216 * 2 ^ (k - 23) := by
    rw [show 16777216 * 2 ^ (k - 23) = 2 ^ (k + 1) * 2 ^ (23 - k) by rw [show (16777216 : Nat) = 2 ^ 24 by decide, ← Nat.pow_add, ← Nat.pow_add]; congr 1; omega]
    exact Nat.mul_lt_mul_of_pos_right l2 (Nat.two_pow_pos _)
  have hle := rne_le hp hhi
  refine ⟨l3, l1, ?_, hlo, hhi⟩
  · unfold Ieee.Format.word
    rw [if_neg (by decide)]
    exact rung_small (by omega) hle

theorem ofNat_isF {A : Nat} (h1 : 0 < A) (h2 : A < 2 ^ 60) : IsF A 1 (Ieee.single.nearest false A 0) := by
  obtain ⟨-, -, e, hlo, hhi⟩ := ofNat_form h1 h2
  refine ⟨_, _, _, Nat.two_pow_pos _, hlo, hhi, ?_, e⟩
  rw [Nat.mul_one, Nat.mul_assoc, ← Nat.pow_add, Nat.mul_assoc, ← Nat.pow_add]
  congr 2
  omega

end Go.Proofs.YtbljamcdaoofbaaGreatDoor

/- The machine's quotient of two floats is the document's. -/
namespace Go.Proofs.YtbljamcdaoofbaaGreatDoor

theorem IsF.ratio {A B A' B' x : Nat} (hB : 0 < B) (e : A * B' = A' * B) (h : IsF A B x) : IsF A' B' x := by
  obtain ⟨E, a, b, hb, h1, h2, h3, rfl⟩ := h
  refine ⟨E, a, b, hb, h1, h2, ?_, rfl⟩
  refine Nat.eq_of_mul_eq_mul_left hB ?_
  exact (show B * (a * B' * 2 ^ E) = a * B * 2 ^ E * B' by ac_rfl).trans ((congrArg (· * B') h3).trans ((show A * b * 2 ^ 149 * B' = (A * B') * (b * 2 ^ 149) by ac_rfl).trans ((congrArg (· * (b * 2 ^ 149)) e).trans (by ac_rfl))))

theorem word_false (x : Nat) : Ieee.single.word false x = x := by
  unfold Ieee.Format.word
  rw [if_neg (by decide)]

theorem cut_neg (neg : Bool) (n d : Nat) : Ieee.Toward.even.cut neg n d = Ieee.Toward.even.cut false n d := by
  unfold Ieee.Toward.cut
  simp only

theorem nearest_neg (neg : Bool) (mag : Nat) (place : Int) : Ieee.single.nearest neg mag place = Ieee.single.word neg (Ieee.single.nearest false mag place) := by
  unfold Ieee.Format.nearest
  by_cases h : mag = 0
  · rw [if_pos h, if_pos h, word_false]
  · rw [if_neg h, if_neg h]
    simp only [cut_neg neg, word_false]

theorem read_word {neg : Bool} {E m : Nat} (h1 : 8388608 ≤ m) (h2 : m < 16777216) (hE : E < 250) : Ieee.single.read (Ieee.single.word neg (E * 8388608 + m)) = .number neg m ((E : Int) - 149) := by
  have es : Ieee.single.signWeight = 2147483648 := by decide
  have el : Ieee.single.leastPlace = -149 := by decide
  have eb : Ieee.single.binade = 8388608 := by decide
  have ei : Ieee.single.infRung = 2139095040 := by decide
  have hr : E * 8388608 + m < 2139095040 := by
    have h3 : E * 8388608 ≤ 249 * 8388608 := Nat.mul_le_mul_right _ (by omega)
    exact Nat.lt_of_lt_of_le (Nat.add_lt_add_of_le_of_lt h3 h2) (by decide)
  have hr2 : E * 8388608 + m < 2147483648 := Nat.lt_trans hr (by decide)
  have q1 : (E * 8388608 + m) / 8388608 = E + 1 := by
    rw [Nat.add_comm, Nat.add_mul_div_right _ _ (by decide)]
    have : m / 8388608 = 1 := by rw [Nat.div_eq_iff (by decide)]; omega
    omega
  have q2 : (E * 8388608 + m) % 8388608 = m - 8388608 := by
    rw [Nat.add_comm, Nat.add_mul_mod_self_right]
    have e : m = (m - 8388608) + 8388608 := by omega
    rw [e, Nat.add_mod_right, Nat.add_sub_cancel]
    exact Nat.mod_eq_of_lt (by omega)
  have hlow : ¬ (E * 8388608 + m < 8388608) := by omega
  have key : ∀ s : Bool, (if E * 8388608 + m < 8388608 then Ieee.Datum.number s (E * 8388608 + m) (-149) else if E * 8388608 + m < 2139095040 then .number s (8388608 + (E * 8388608 + m) % 8388608) (-149 + (((E * 8388608 + m) / 8388608 - 1 : Nat) : Int)) else if E * 8388608 + m = 2139095040 then .infinity s else .nan s (E * 8388608 + m - 2139095040)) = .number s m ((E : Int) - 149) := by
    intro s
    rw [if_neg hlow, if_pos hr, q1, q2]
    rw [show 8388608 + (m - 8388608) = m by omega, show (-149 : Int) + ((E + 1 - 1 : Nat) : Int) = (E : Int) - 149 by omega]
  generalize E * 8388608 + m = R at *
  unfold Ieee.Format.read Ieee.Format.word
  simp only [es, el, eb, ei]
  cases neg with
  | false =>
    have d1 : R / 2147483648 = 0 := Nat.div_eq_of_lt hr2
    have d2 : R % 2147483648 = R := Nat.mod_eq_of_lt hr2
    simp only [Bool.false_eq_true, if_false, d1, d2]
    exact key false
  | true =>
    have d1 : (2147483648 + R) / 2147483648 = 1 := by rw [Nat.add_div_left _ (by decide), Nat.div_eq_of_lt hr2]
    have d2 : (2147483648 + R) % 2147483648 = R := by rw [Nat.add_mod_left, Nat.mod_eq_of_lt hr2]
    simp only [if_true, d1, d2]
    exact key true

theorem ne_toNat (r : Nat) : (r != 0).toNat = if r = 0 then 0 else 1 := by
  by_cases h : r = 0 <;> simp [h]

/-- the quotient's digits, rounded -/
theorem near_div {m n E1 E2 s : Nat} (hn : 0 < n) (hs2 : 2 ≤ s) (hs3 : s ≤ 3) (hlog : (2 * (m * 2 ^ 25 / n) + (if m * 2 ^ 25 % n = 0 then 0 else 1)).log2 = 23 + s)
    (hlo : 8388608 * (n * 2 ^ (s - 1)) ≤ m * 2 ^ 25) (hhi : m * 2 ^ 25 < 16777216 * (n * 2 ^ (s - 1))) (h1 : 126 ≤ E1) (h2 : E1 ≤ 190) (h3 : 126 ≤ E2) (h4 : E2 ≤ 190) :
    IsF (m * 2 ^ E1) (n * 2 ^ E2) (Ieee.single.nearest false (2 * (m * 2 ^ 25 / n) + (if m * 2 ^ 25 % n = 0 then 0 else 1)) ((E1 : Int) - 149 - ((E2 : Int) - 149) - 25 - 1)) := by
  have hq0 : 2 * (m * 2 ^ 25 / n) + (if m * 2 ^ 25 % n = 0 then 0 else 1) ≠ 0 := by
    intro h
    rw [h] at hlog
    simp at hlog
    omega
  have hst := rne_sticky (m * 2 ^ 25) n (2 ^ (s - 2)) hn (Nat.two_pow_pos _)
  have e4 : 4 * 2 ^ (s - 2) = 2 ^ s := by rw [show (4 : Nat) = 2 ^ 2 by decide, ← Nat.pow_add]; congr 1; omega
  have e2 : 2 * 2 ^ (s - 2) = 2 ^ (s - 1) := by rw [Nat.mul_comm, ← Nat.pow_succ]; congr 1; omega
  rw [e4, e2] at hst
  generalize 2 * (m * 2 ^ 25 / n) + (if m * 2 ^ 25 % n = 0 then 0 else 1) = q at *
  unfold Ieee.Format.nearest
  rw [if_neg hq0]
  have ef : (Ieee.single.fractionBits : Int) = 23 := rfl
  have el : Ieee.single.leastPlace = -149 := by decide
  have eb : Ieee.single.binade = 8388608 := by decide
  have ei : Ieee.single.infRung = 2139095040 := by decide
  simp only [ef, el, eb, ei, hlog]
  have em : max ((E1 : Int) - 149 - ((E2 : Int) - 149) - 25 - 1 + ((23 + s : Nat) : Int) - 23) (-149) = (E1 : Int) - (E2 : Int) - 26 + (s : Int) := by omega
  rw [em]
  have x1 : ((E1 : Int) - (E2 : Int) - 26 + (s : Int) - -149).toNat = E1 + 123 + s - E2 := by omega
  have x2 : ((E1 : Int) - 149 - ((E2 : Int) - 149) - 25 - 1 - ((E1 : Int) - (E2 : Int) - 26 + (s : Int))).toNat = 0 := by omega
  have x3 : ((E1 : Int) - (E2 : Int) - 26 + (s : Int) - ((E1 : Int) - 149 - ((E2 : Int) - 149) - 25 - 1)).toNat = s := by omega
  rw [x1, x2, x3, Nat.shiftLeft_zero, cut_rne _ _ (by rw [hlog]; omega), hst]
  have hb : 0 < n * 2 ^ (s - 1) := Nat.mul_pos hn (Nat.two_pow_pos _)
  have hle := rne_le hb hhi
  refine ⟨E1 + 123 + s - E2, m * 2 ^ 25, n * 2 ^ (s - 1), hb, hlo, hhi, ?_, ?_⟩
  · have u : 25 + E2 + (E1 + 123 + s - E2) = E1 + (s - 1) + 149 := by omega
    have v : 2 ^ 25 * 2 ^ E2 * 2 ^ (E1 + 123 + s - E2) = 2 ^ E1 * 2 ^ (s - 1) * 2 ^ 149 := by rw [← Nat.pow_add, ← Nat.pow_add, ← Nat.pow_add, ← Nat.pow_add, u]
    generalize 2 ^ 25 = p1 at *
    generalize 2 ^ E2 = p2 at *
    generalize 2 ^ (E1 + 123 + s - E2) = p3 at *
    generalize 2 ^ E1 = p4 at *
    generalize 2 ^ (s - 1) = p5 at *
    generalize 2 ^ 149 = p6 at *
    exact (show m * p1 * (n * p2) * p3 = m * n * (p1 * p2 * p3) by ac_rfl).trans ((congrArg (m * n * ·) v).trans (by ac_rfl))
  · unfold Ieee.Format.word
    rw [if_neg (by decide)]
    exact rung_small (by omega) hle

/-- the machine's quotient -/
theorem div_isF {neg : Bool} {m n E1 E2 : Nat} (a1 : 8388608 ≤ m) (a2 : m < 16777216) (b1 : 8388608 ≤ n) (b2 : n < 16777216) (h1 : 126 ≤ E1) (h2 : E1 ≤ 190) (h3 : 126 ≤ E2) (h4 : E2 ≤ 190) :
    ∃ bits, Ieee.single.div (Ieee.single.word neg (E1 * 8388608 + m)) (Ieee.single.word false (E2 * 8388608 + n)) = some (Ieee.single.word neg bits) ∧ IsF (m * 2 ^ E1) (n * 2 ^ E2) bits := by
  have lm : m.log2 = 23 := log2_eq (by simpa using a1) (by simpa using a2)
  have ln : n.log2 = 23 := log2_eq (by simpa using b1) (by simpa using b2)
  have hn : 0 < n := by omega
  refine ⟨Ieee.single.nearest false (2 * (m * 2 ^ 25 / n) + (if m * 2 ^ 25 % n = 0 then 0 else 1)) ((E1 : Int) - 149 - ((E2 : Int) - 149) - 25 - 1), ?_, ?_⟩
  · unfold Ieee.Format.div
    rw [read_word a1 a2 (by omega), read_word b1 b2 (by omega)]
    unfold Ieee.Datum.quotient
    have hn0 : ¬ n = 0 := by omega
    simp only [hn0, if_false, lm, ln, Nat.shiftLeft_eq, ne_toNat]
    have ef : Ieee.single.fractionBits = 23 := rfl
    simp only [ef, Option.map_some, Ieee.Format.write, Bool.xor_false]
    rw [nearest_neg]
    rfl
  · by_cases hmn : n ≤ m
    · have p1 : n * 2 ^ 25 ≤ m * 2 ^ 25 := Nat.mul_le_mul_right _ hmn
      have p2 : m * 2 ^ 25 < n * 2 ^ 26 := by
        rw [show (2 : Nat) ^ 26 = 2 * 2 ^ 25 by decide, ← Nat.mul_assoc]
        exact Nat.mul_lt_mul_of_pos_right (by omega) (by decide)
      have q1 : 2 ^ 25 ≤ m * 2 ^ 25 / n := (Nat.le_div_iff_mul_le hn).2 (by rw [Nat.mul_comm]; exact p1)
      have q2 : m * 2 ^ 25 / n < 2 ^ 26 := (Nat.div_lt_iff_lt_mul hn).2 (by rw [Nat.mul_comm (2 ^ 26) n]; exact p2)
      refine near_div (s := 3) hn (by omega) (by omega) (log2_eq ?_ ?_) ?_ ?_ h1 h2 h3 h4
      · generalize m * 2 ^ 25 / n = f at *
        split <;> omega
      · generalize m * 2 ^ 25 / n = f at *
        split <;> omega
      · omega
      · omega
    · have p1 : n * 2 ^ 24 ≤ m * 2 ^ 25 := by
        rw [show (2 : Nat) ^ 25 = 2 * 2 ^ 24 by decide, ← Nat.mul_assoc]
        exact Nat.mul_le_mul_right _ (by omega)
      have p2 : m * 2 ^ 25 < n * 2 ^ 25 := Nat.mul_lt_mul_of_pos_right (by omega) (by decide)
      have q1 : 2 ^ 24 ≤ m * 2 ^ 25 / n := (Nat.le_div_iff_mul_le hn).2 (by rw [Nat.mul_comm]; exact p1)
      have q2 : m * 2 ^ 25 / n < 2 ^ 25 := (Nat.div_lt_iff_lt_mul hn).2 (by rw [Nat.mul_comm (2 ^ 25) n]; exact p2)
      refine near_div (s := 2) hn (by omega) (by omega) (log2_eq ?_ ?_) ?_ ?_ h1 h2 h3 h4
      · generalize m * 2 ^ 25 / n = f at *
        split <;> omega
      · generalize m * 2 ^ 25 / n = f at *
        split <;> omega
      · omega
      · omega

end Go.Proofs.YtbljamcdaoofbaaGreatDoor
