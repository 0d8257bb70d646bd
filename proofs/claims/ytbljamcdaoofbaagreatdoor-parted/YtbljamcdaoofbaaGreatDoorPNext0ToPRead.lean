/- Texts PNext0, PCut, PRead, joined. -/
import Derived.Test.YtbljamcdaoofbaaGreatDoorPNextOne
import Derived.Deep.DeepCutAuto
import Derived.Test.YtbljamcdaoofbaaGreatDoorParseToRefRest
/- The program's automaton: the first label, and next whole. -/
namespace Go.Proofs.YtbljamcdaoofbaaGreatDoor
open Go.RowKit

theorem NextW.begin {w0 w1 : World} {c : Nat} {l : List UInt8} {b t : Nat} (h : NextW w0 c l w1 b t) (b' : Nat) : NextW w0 c l (w1.setCell ⟨c, 1, none⟩ (.int .i64 b')) b' t := by
  obtain ⟨hc, ⟨x, y, z, hx⟩, hm, hlt⟩ := h
  refine ⟨hc.setBegin b', ⟨x, y, z, ?_⟩, hm.setCell (p := ⟨c, 1, none⟩) (.inl rfl) _, hlt⟩
  rw [Go.RowKit.Below.heap_setCell _ _ _ _ (by show w0.heap.size ≠ c; omega)]
  exact hx
theorem NextW.draw {w0 w1 : World} {c : Nat} {l : List UInt8} {b t : Nat} (h : NextW w0 c l w1 b t) (n : Nat) : NextW w0 c l (w1.drewN n) b t :=
  ⟨h.cut, h.box, h.moved.drawn n, h.clt⟩

theorem next_post_q {w0 w' : World} {c : Nat} {l : List UInt8} {a0 q k n t : Nat} {x x0 : List UInt8} (hq : qOf l a0 = q) (hk : tok1 (l.drop q) = (k, x0, n)) (hx : k ≠ 5 → x = x0) (ht : k < 4 → t = q + n)
    (hc : CutAt w' c l q t) (hm : Moved (fun k => k = c) w0 w') : NextPost w0 c l a0 (.returned (.agg #[.int .i64 (pk k), .int .i64 q, SV x])) w' := by
  subst hq
  exact next_post hk hx ht hc hm

theorem mark_tok {l : List UInt8} {t : Nat} (h : t < l.length) (hM : isM l[t] = true) : tok1 (l.drop t) = (3, (l.take (t + 1)).drop t, t + 1 - t) := by
  have n1 : ¬ isL l[t] = true := by rcases isM_cases hM with e | e | e | e | e | e | e | e <;> rw [e] <;> decide
  have n2 : ¬ isD l[t] = true := by rcases isM_cases hM with e | e | e | e | e | e | e | e <;> rw [e] <;> decide
  have n3 : ¬ l[t] = 34 := by rcases isM_cases hM with e | e | e | e | e | e | e | e <;> rw [e] <;> decide
  have n4 : ¬ (l[t] = 33 ∨ l[t] = 124) := by rcases isM_cases hM with e | e | e | e | e | e | e | e <;> rw [e] <;> decide
  rw [tok1_M h n1 n2 n3 n4 hM, List.drop_take, show t + 1 - t = 1 by omega, List.drop_eq_getElem_cons h]
  rfl

/-- the code behind the first label -/
noncomputable def behind0 : Code := match nextCode with | .seq _ b => b | _ => .skip

set_option maxRecDepth 10000 in
set_option maxHeartbeats 8000000 in
theorem walk0 (w0 : World) (c : Nat) (l : List UInt8) (a0 : Nat) (hl : l.length ≤ 200) (a : Act) (w1 : World) (hJ : NextJ w0 c l a0 0 a w1) :
    behind0.wp Tryz.prog (jumps (fun l' a' w' => NextJ w0 c l a0 l' a' w' ∧ NextM c l l' a' w' < NextM c l 0 a w1) (bodyPost Tryz.prog Tryz.f123 (NextPost w0 c l a0))) a w1 := by
  obtain ⟨hF, b, t, hW, hat, htl, hall⟩ := hJ
  unfold NextF at hF
  obtain ⟨u3, hF⟩ := hF
  obtain ⟨u4, hF⟩ := hF
  obtain ⟨u5, hF⟩ := hF
  obtain ⟨u6, hF⟩ := hF
  obtain ⟨u7, hF⟩ := hF
  obtain ⟨u8, hF⟩ := hF
  obtain ⟨u9, hF⟩ := hF
  obtain ⟨u10, hF⟩ := hF
  obtain ⟨u11, hF⟩ := hF
  obtain ⟨u12, hF⟩ := hF
  obtain ⟨u13, hF⟩ := hF
  obtain ⟨u14, hF⟩ := hF
  obtain ⟨u15, hF⟩ := hF
  obtain ⟨u16, hF⟩ := hF
  obtain ⟨u17, hF⟩ := hF
  obtain ⟨u18, hF⟩ := hF
  obtain ⟨u19, hF⟩ := hF
  obtain ⟨u20, hF⟩ := hF
  obtain ⟨u21, hF⟩ := hF
  obtain ⟨u22, hF⟩ := hF
  obtain ⟨u23, hF⟩ := hF
  obtain ⟨u24, hF⟩ := hF
  obtain ⟨u25, hF⟩ := hF
  obtain ⟨u26, hF⟩ := hF
  obtain ⟨u27, hF⟩ := hF
  obtain ⟨u28, hF⟩ := hF
  obtain ⟨u29, hF⟩ := hF
  obtain ⟨u30, hF⟩ := hF
  obtain ⟨u31, hF⟩ := hF
  obtain ⟨u32, hF⟩ := hF
  obtain ⟨u33, hF⟩ := hF
  obtain ⟨u34, hF⟩ := hF
  obtain ⟨u35, hF⟩ := hF
  obtain ⟨u36, hF⟩ := hF
  obtain ⟨u37, hF⟩ := hF
  obtain ⟨u38, hF⟩ := hF
  obtain ⟨u39, hF⟩ := hF
  obtain ⟨u40, hF⟩ := hF
  obtain ⟨u41, hF⟩ := hF
  obtain ⟨u42, hF⟩ := hF
  obtain ⟨u43, hF⟩ := hF
  obtain ⟨u44, hF⟩ := hF
  obtain ⟨u45, hF⟩ := hF
  obtain ⟨u46, hF⟩ := hF
  obtain ⟨u47, hF⟩ := hF
  obtain ⟨u48, hF⟩ := hF
  obtain ⟨u49, hF⟩ := hF
  obtain ⟨u50, hF⟩ := hF
  obtain ⟨u51, hF⟩ := hF
  obtain ⟨u52, hF⟩ := hF
  obtain ⟨u53, hF⟩ := hF
  obtain ⟨u54, hF⟩ := hF
  obtain ⟨u55, hF⟩ := hF
  obtain ⟨u56, hF⟩ := hF
  obtain ⟨u57, hF⟩ := hF
  obtain ⟨u58, hF⟩ := hF
  obtain ⟨u59, hF⟩ := hF
  subst hF
  conv => arg 2; whnf
  obtain ⟨c0, c1, c2, fz⟩ := cell_of_block3 hW.cut
  have f1 := fz 1
  clear fz c0
  have hWb := hW.begin t
  have hlk := look_any c l t t _ hWb.cut
  have hst := fun n => step_any c l t t _ (hWb.draw n).cut (by omega)
  have HW := hide hWb
  clear hWb
  go_wp2_with fail
  refine hlk.mono ?_
  rintro e w2 ⟨rfl, n, rfl⟩
  have hW3 := (unhide HW).draw n
  clear c1 c2 f1 hlk
  by_cases h1 : t < l.length
  · rw [lookN_some h1]
    by_cases h32 : l[t] = 32
    · rw [classI_32 _ h32]
      have hs := hst n
      go_wp2_with fail
      refine hs.mono ?_
      rintro e w3 ⟨rfl, n2, rfl⟩
      have hW4 : NextW w0 c l (((w1.setCell ⟨c, 1, none⟩ (.int .i64 (t : Int))).drewN n).setCell ⟨c, 2, none⟩ (.int .i64 ((t : Int) + 1)) |>.drewN n2) t (t + 1) := by simpa using hW3.step (t + 1) n2
      generalize lookN l (t + 1) = z at *
      go_wp2_with fail
      refine wp_goto ?_
      show NextJ _ _ _ _ _ _ _ ∧ _ < _
      refine ⟨⟨nextF, _, _, hW4, by omega, by omega, ?_⟩, ?_⟩
      · intro j hj h2 h3
        by_cases e : j = t
        · subst e; exact h32
        · exact hall j hj h2 (by omega)
      · simp only [NextM]
        rw [atOf_cut hW4.cut, atOf_cut hW.cut]
        simp only [rank]
        omega
    · have hq : qOf l a0 = t := blanks_eq l a0 t hat htl hall (fun _ => h32)
      by_cases hL : isL l[t] = true
      · rw [classI_L _ hL]
        go_wp2_with fail
        refine wp_goto ?_
        show NextJ _ _ _ _ _ _ _ ∧ _ < _
        refine ⟨⟨nextF, _, _, hW3, hq.symm, Nat.le_refl _, h1, ?_⟩, ?_⟩
        · intro j hj h2 h3
          obtain rfl : j = t := by omega
          exact hL
        · simp only [NextM]
          rw [atOf_cut hW3.cut, atOf_cut hW.cut]
          simp only [rank]
          omega
      · by_cases hD : isD l[t] = true
        · rw [classI_D _ hD]
          go_wp2_with fail
          refine wp_goto ?_
          show NextJ _ _ _ _ _ _ _ ∧ _ < _
          refine ⟨⟨nextF, _, _, hW3, hq.symm, Nat.le_refl _, h1, ?_⟩, ?_⟩
          · intro j hj h2 h3
            obtain rfl : j = t := by omega
            exact hD
          · simp only [NextM]
            rw [atOf_cut hW3.cut, atOf_cut hW.cut]
            simp only [rank]
            omega
        · by_cases h34 : l[t] = 34
          · rw [classI_Q _ h34]
            go_wp2_with fail
            refine wp_goto ?_
            show NextJ _ _ _ _ _ _ _ ∧ _ < _
            refine ⟨⟨nextF, _, _, hW3, hq.symm, Nat.le_refl _, h1, by rw [List.getElem?_eq_getElem h1, h34], fun j hj h2 h3 => absurd h2 (by omega)⟩, ?_⟩
            · simp only [NextM]
              rw [atOf_cut hW3.cut, atOf_cut hW.cut]
              simp only [rank]
              omega
          · by_cases hH : l[t] = 33 ∨ l[t] = 124
            · rw [classI_H _ hH]
              go_wp2_with fail
              refine wp_goto ?_
              show NextJ _ _ _ _ _ _ _ ∧ _ < _
              refine ⟨⟨nextF, _, _, hW3, hq.symm, rfl, h1, by rw [List.getElem?_eq_getElem h1]; simpa using hH⟩, ?_⟩
              · simp only [NextM]
                rw [atOf_cut hW3.cut, atOf_cut hW.cut]
                simp only [rank]
                omega
            · by_cases hM : isM l[t] = true
              · have htok := mark_tok h1 hM
                by_cases h61 : l[t] = 61
                · rw [classI_E _ h61]
                  go_wp2_with fail
                  refine wp_goto ?_
                  show NextJ _ _ _ _ _ _ _ ∧ _ < _
                  refine ⟨⟨nextF, _, _, hW3, hq.symm, Nat.le_refl _, h1, htok⟩, ?_⟩
                  · simp only [NextM]
                    rw [atOf_cut hW3.cut, atOf_cut hW.cut]
                    simp only [rank]
                    omega
                · rw [classI_M _ hM h61]
                  go_wp2_with fail
                  refine wp_goto ?_
                  show NextJ _ _ _ _ _ _ _ ∧ _ < _
                  refine ⟨⟨nextF, _, _, hW3, hq.symm, Nat.le_refl _, h1, htok⟩, ?_⟩
                  · simp only [NextM]
                    rw [atOf_cut hW3.cut, atOf_cut hW.cut]
                    simp only [rank]
                    omega
              · rw [classI_X _ h32 hL hD h34 hH hM]
                go_wp2_with fail
                refine wp_goto ?_
                show NextJ _ _ _ _ _ _ _ ∧ _ < _
                refine ⟨⟨nextF, _, _, hW3, hq.symm, Nat.le_refl _, htl, tok1_X h1 hL hD h34 hH hM⟩, ?_⟩
                simp only [NextM]
                rw [atOf_cut hW3.cut, atOf_cut hW.cut]
                simp only [rank]
                omega
  · have hq : qOf l a0 = t := blanks_eq l a0 t hat htl hall (fun h => absurd h h1)
    rw [lookN_none h1]
    have htok : tok1 (l.drop t) = (4, [], 0) := by rw [List.drop_eq_nil_of_le (by omega)]; rfl
    have HT := hide htok
    have hcu := pcut_any c l t t 0 _ hW3.cut (Nat.le_refl _) htl (by omega)
    have HR := hide (fun w3 (hb : Below ((w1.setCell ⟨c, 1, none⟩ (.int .i64 (t : Int))).drewN n).heap.size ((w1.setCell ⟨c, 1, none⟩ (.int .i64 (t : Int))).drewN n) w3) => next_ret hW3 hb)
    have HB := hide (fun w3 (hb : Below ((w1.setCell ⟨c, 1, none⟩ (.int .i64 (t : Int))).drewN n).heap.size ((w1.setCell ⟨c, 1, none⟩ (.int .i64 (t : Int))).drewN n) w3) => box_facts hW3 hb)
    go_wp2_with fail
    refine hcu.mono ?_
    rintro e w3 ⟨rfl, hb⟩
    have hr3 := hide (unhide HR w3 hb)
    obtain ⟨⟨x0, f0⟩, ⟨x1, f1⟩, ⟨x2, f2⟩, fz⟩ := unhide HB w3 hb
    have g0 := fz 0
    have g1 := fz 1
    have g2 := fz 2
    clear fz
    go_wp2
    show bodyPost _ _ _ Exit.ret _ _
    refine bodyPost_ret (results_cell_row (p := 2) (ty := 165) rfl _ _ w0.heap.size _ _ _ _ rfl (unhide hr3 _ _ _).1 Tryz.underlying165 rfl tokSize) rfl ?_
    exact next_post_q hq (k := 4) (unhide HT) (fun _ => rfl) (fun h => absurd h (by omega)) (unhide hr3 _ _ _).2.1 (unhide hr3 _ _ _).2.2

theorem pass0 (w0 : World) (c : Nat) (l : List UInt8) (a0 : Nat) (hl : l.length ≤ 200) (a : Act) (w1 : World) (hJ : NextJ w0 c l a0 0 a w1) :
    ∃ rest, findLabel nextCode 0 = some rest ∧ rest.wp Tryz.prog (jumps (fun l' a' w' => NextJ w0 c l a0 l' a' w' ∧ NextM c l l' a' w' < NextM c l 0 a w1) (bodyPost Tryz.prog Tryz.f123 (NextPost w0 c l a0))) a w1 :=
  ⟨.seq .skip behind0, rfl, wp_seq (wp_skip (walk0 w0 c l a0 hl a w1 hJ))⟩

theorem first0 {w0 : World} {c : Nat} {l : List UInt8} {a0 : Nat} (hl : l.length ≤ 200) {a : Act} {w1 : World} (hJ : NextJ w0 c l a0 0 a w1) :
    behind0.wp Tryz.prog (jumps (NextJ w0 c l a0) (bodyPost Tryz.prog Tryz.f123 (NextPost w0 c l a0))) a w1 := by
  refine wp_mono (walk0 w0 c l a0 hl _ _ hJ) fun e a' w' hq => ?_
  cases e with
  | goto l' => exact hq.1
  | _ => exact hq

theorem next_any (c : Nat) (l : List UInt8) (b a : Nat) (w : World) (h : CutAt w c l b a) (ha : a ≤ l.length) (hl : l.length ≤ 200) :
    Calls Tryz.prog 123 #[.pointer (some ⟨c, 0, none⟩)] w (NextPost w c l a) := by
  go_enter Tryz.func123, Tryz.ntmps123
  go_wp2_with fail
  refine scope_many (NextJ w c l a) (NextM c l) ?_ ?_
  · refine wp_seq (wp_label ?_)
    exact first0 hl ⟨nextF, b, a, ⟨h.alloc _, ⟨_, _, _, heap_alloc_new _ _⟩, (Moved.refl _ _).alloc _, h.lt⟩, Nat.le_refl _, ha, fun j _ h1 h2 => absurd h1 (by omega)⟩
  · intro lab a' w' hJ
    match lab, hJ with
    | 0, hJ => exact pass0 w c l a hl a' w' hJ
    | 1, hJ => exact pass1 w c l a hl a' w' hJ
    | 2, hJ => exact pass2 w c l a hl a' w' hJ
    | 3, hJ => exact pass3 w c l a hl a' w' hJ
    | 4, hJ => exact pass4 w c l a hl a' w' hJ
    | 5, hJ => exact pass5 w c l a hl a' w' hJ
    | 6, hJ => exact pass6 w c l a hl a' w' hJ
    | 7, hJ => exact pass7 w c l a hl a' w' hJ
    | n + 8, hJ =>
      obtain ⟨-, _, _, -, hp⟩ := hJ
      exact hp.elim

end Go.Proofs.YtbljamcdaoofbaaGreatDoor

/- The program's tokens of a text: Cut. -/
namespace Go.Proofs.YtbljamcdaoofbaaGreatDoor
open Go.RowKit

theorem Tryz.info165 : (Tryz.prog.info? 165).map (fun i => (i.zero, i.size, i.bytes)) = some (some (.agg #[.int .i64 0, .int .i64 0, .string ByteArray.empty]), 3, 32) := by kernel_rfl

def cellsP (t : Tok) : List Value := [.int .i64 (pk t.k), .int .i64 t.pos, SV t.text]
/-- what stands in a token that is none is whatever -/
def fixT (x : List UInt8) (t : Tok) : Tok := if t.k = 5 then ⟨5, t.pos, x⟩ else t

/-- one more token was cut: where it lies -/
structure OneAt (l : List UInt8) (C p : Nat) (wr wx : World) (B : Nat) (x : List UInt8) (t : Nat) : Prop where
  box : wx.heap[B]? = some (.cells #[.int .i64 (pk (tok1 (l.drop (qOf l p))).1), .int .i64 (qOf l p), SV x] 165 (0, 0))
  text : (tok1 (l.drop (qOf l p))).1 ≠ 5 → x = (tok1 (l.drop (qOf l p))).2.1
  cut : CutAt wx C l (qOf l p) t
  next : (tok1 (l.drop (qOf l p))).1 < 4 → t = qOf l p + (tok1 (l.drop (qOf l p))).2.2
  moved : Moved (fun k => k = C) wr wx
  new : wr.heap.size ≤ B

theorem one_a {l : List UInt8} {C p : Nat} {wr w2 : World} {x : List UInt8} {t : Nat}
    (hx : (tok1 (l.drop (qOf l p))).1 ≠ 5 → x = (tok1 (l.drop (qOf l p))).2.1) (hc : CutAt w2 C l (qOf l p) t) (ht : (tok1 (l.drop (qOf l p))).1 < 4 → t = qOf l p + (tok1 (l.drop (qOf l p))).2.2) (hm : Moved (fun k => k = C) wr w2) :
    OneAt l C p wr (w2.alloc (.cells #[.int .i64 (pk (tok1 (l.drop (qOf l p))).1), .int .i64 (qOf l p), .string ⟨x.toArray⟩] 165)) w2.heap.size x t :=
  ⟨heap_alloc_new _ _, hx, hc.alloc _, ht, hm.alloc _, hm.size⟩

theorem row_moved {wr wx : World} {C n : Nat} {v : Value} {xs : List Value} (h : wr.ownsRow (C + 1) 165 3 v n xs) (hm : Moved (fun k => k = C) wr wx) : wx.ownsRow (C + 1) 165 3 v n xs := by
  refine ownsRow_same h fun g hg => hm.block g (ownsRow_type h hg).1 ?_
  have := (h.lt g hg).1
  show ¬ g = C
  omega

theorem one_grown {l : List UInt8} {C p B t n : Nat} {w wr wx w4 : World} {x : List UInt8} {v : Value} {xs : List Value} {o : Obj} (ho : OneAt l C p wr wx B x t) (hown : wr.ownsRow (C + 1) 165 3 v n xs)
    (hC : C < wr.heap.size) (hbel : Below C w wr) (hg : (wx.alloc o).grownBy w4 v.ownBlock) :
    w4.heap[B]? = some (.cells #[.int .i64 (pk (tok1 (l.drop (qOf l p))).1), .int .i64 (qOf l p), SV x] 165 (0, 0)) ∧ CutAt w4 C l (qOf l p) t ∧ Below C w w4 := by
  have hB : B < wx.heap.size := (Array.getElem?_eq_some_iff.1 ho.box).1
  have hCx := ho.cut.lt
  have hnew := ho.new
  have key : ∀ g, g < wx.heap.size → (∀ r, v.ownBlock = some r → g ≠ r) → w4.heap[g]? = wx.heap[g]? := fun g hg1 hg2 => by
    rw [hg.block g (by simp; omega) (fun e => hg2 g e.symm rfl), Go.RowKit.Below.heap_alloc _ _ _ hg1]
  refine ⟨?_, ?_, ?_⟩
  · rw [key B hB (fun r hr => by have := hown.lt r hr; omega)]
    exact ho.box
  · unfold CutAt
    rw [key C hCx (fun r hr => by have := hown.lt r hr; omega)]
    exact ho.cut
  · have hbx : Below C w wx := ⟨ho.moved.os.trans hbel.os, ho.moved.tape.trans hbel.tape, ho.moved.output.trans hbel.output, Nat.le_trans hbel.size ho.moved.size, fun k hk => (ho.moved.block k (by omega) (by show ¬ k = C; omega)).trans (hbel.block k hk)⟩
    exact (hbx.alloc (by omega) o).grown hg (by simp; omega) (fun k hk => by have := hown.lt k hk; omega)

theorem fixT_id {x : List UInt8} {t : Tok} (h : t.k < 4) : fixT x t = t := by
  unfold fixT
  rw [if_neg (by omega)]
theorem fixT_map {x : List UInt8} {ts : List Tok} (h : ∀ t ∈ ts, t.k < 4) : ts.map (fixT x) = ts := by
  induction ts with
  | nil => rfl
  | cons t r ih => rw [List.map_cons, fixT_id (h t (by simp)), ih (fun y hy => h y (List.mem_cons_of_mem _ hy))]

theorem pk_lt {k : Nat} (h : k < 4) : (pk k == 0) = false ∧ (pk k == 1) = false := by
  match k, h with
  | 0, _ => exact ⟨rfl, rfl⟩
  | 1, _ => exact ⟨rfl, rfl⟩
  | 2, _ => exact ⟨rfl, rfl⟩
  | 3, _ => exact ⟨rfl, rfl⟩

theorem pk_ge {k : Nat} (h : ¬ k < 4) (h5 : k ≤ 5) : (pk k == 0) = true ∨ (pk k == 1) = true := by
  match k, h, h5 with
  | 4, _, _ => exact .inl rfl
  | 5, _, _ => exact .inr rfl
  | n + 6, _, h5 => omega
  | 0, h, _ => omega
  | 1, h, _ => omega
  | 2, h, _ => omega
  | 3, h, _ => omega

theorem pcut_end {w4 : World} {l x : List UInt8} {p base : Nat} {done : List Tok} {v : Value} {T : Nat × List UInt8 × Nat} {q : Nat} (HT : toks l 0 = done ++ toks l p) (HS : toks l p = [⟨T.1, q, T.2.1⟩]) (HK : ∀ t ∈ done, t.k < 4)
    (hx : T.1 ≠ 5 → x = T.2.1) (hown : w4.ownsRow base 165 3 v (done.length + 1) (done.flatMap cellsP ++ [.int .i64 (pk T.1), .int .i64 q, SV x])) :
    w4.ownsRow base 165 3 v (toks l 0).length (((toks l 0).map (fixT x)).flatMap cellsP) := by
  rw [HT, HS, List.map_append, fixT_map HK, List.flatMap_append, List.length_append]
  have : fixT x ⟨T.1, q, T.2.1⟩ = ⟨T.1, q, x⟩ := by
    unfold fixT
    by_cases e : T.1 = 5
    · simp [e]
    · simp [e, hx e]
  simpa [this, cellsP] using hown

/-- the first token from a place on, and the rest -/
theorem toks_more {l : List UInt8} {p : Nat} (h : (tok1 (l.drop (qOf l p))).1 < 4) : toks l p = ⟨(tok1 (l.drop (qOf l p))).1, qOf l p, (tok1 (l.drop (qOf l p))).2.1⟩ :: toks l (qOf l p + (tok1 (l.drop (qOf l p))).2.2) := by
  rw [toks]
  exact if_pos h
theorem toks_done {l : List UInt8} {p : Nat} (h : ¬ (tok1 (l.drop (qOf l p))).1 < 4) : toks l p = [⟨(tok1 (l.drop (qOf l p))).1, qOf l p, (tok1 (l.drop (qOf l p))).2.1⟩] := by
  rw [toks]
  exact if_neg h
theorem q_le {l : List UInt8} {p : Nat} (hp : p ≤ l.length) : p ≤ qOf l p ∧ qOf l p ≤ l.length := by
  have := blanks_le (l.drop p)
  rw [List.length_drop] at this
  unfold qOf
  omega

set_option maxRecDepth 10000 in
set_option maxHeartbeats 4000000 in
theorem pCut_any (l : List UInt8) (w : World) (hl : l.length ≤ 200) :
    Calls Tryz.prog 97 #[.string ⟨l.toArray⟩] w fun e w' => ∃ v x, e = .returned v ∧ w'.ownsRow w.heap.size 165 3 v (toks l 0).length (((toks l 0).map (fixT x)).flatMap cellsP) ∧ Below w.heap.size w w' := by
  obtain ⟨i1, hi1, hz1, hs1, hb1⟩ := info_parts Tryz.info165
  go_enter Tryz.func97, Tryz.ntmps97
  go_wp2
  go_loopw [4] (fun v wr => ∃ (p b : Nat) (done : List Tok), p ≤ l.length ∧ CutAt wr w.heap.size l b p ∧ wr.ownsRow (w.heap.size + 1) 165 3 v done.length (done.flatMap cellsP) ∧ done.length ≤ p ∧ (∀ t ∈ done, t.k < 4) ∧ toks l 0 = done ++ toks l p ∧ Below w.heap.size w wr)
    (fun _ wr => l.length - atOf w.heap.size wr)
  case atStart => exact ⟨0, 0, [], Nat.zero_le _, heap_alloc_new _ _, World.ownsRow_nil _ _ _ _, Nat.le_refl _, (by simp), rfl, (Below.refl _ _).alloc (Nat.le_refl _) _⟩
  case round =>
    obtain ⟨p, b, done, hp, hcut, hown, hdl, hdk, htk, hbel⟩ := hrel
    have HT := hide htk
    have HK := hide hdk
    clear htk hdk
    have hC := hcut.lt
    generalize hCe : w.heap.size = C at *
    have HCe := hide hCe
    clear hCe
    obtain ⟨ao, cap, rfl, -, -, -, -, -, -⟩ := owns_form hown
    go_wp2_with fail
    refine (next_any C l b p _ hcut hp hl).mono ?_
    rintro e w2 ⟨x, t, rfl, hx, hc2, ht, hm2⟩
    have ho := one_a hx hc2 ht hm2
    clear hx hc2 ht hm2
    go_upto_region 4 with fail
    generalize w2.heap.size = B at *
    generalize (w2.alloc (.cells #[.int .i64 (pk (tok1 (l.drop (qOf l p))).1), .int .i64 (qOf l p), .string ⟨x.toArray⟩] 165)) = wx at *
    obtain ⟨k0, k1, k2, -⟩ := cell_of_block3 ho.box
    have hB : B < wx.heap.size := (Array.getElem?_eq_some_iff.1 ho.box).1
    have hownx := row_moved hown ho.moved
    have hszx := ho.moved.size
    have hqp := q_le hp
    have hnl := (tok1_len (l.drop (qOf l p))).1
    rw [List.length_drop] at hnl
    by_cases hk : (tok1 (l.drop (qOf l p))).1 < 4
    · have HS := hide (toks_more hk)
      obtain ⟨p0, p1⟩ := pk_lt hk
      have hpos := (tok1_go hk).1
      have htx := ho.text (by omega)
      have htt := ho.next hk
      have HX := hide htx
      have HN := hide htt
      clear htx htt
      go_wp2_with (at_builtin; refine wpList_append_at _ rfl _ _ 159 rfl (C + 1) 165 i1 (.agg #[.int .i64 0, .int .i64 0, .string ByteArray.empty]) 3 32 Tryz.underlying159 hi1 hz1 hs1 hb1 rfl (by decide) _ _ _ rfl (hownx.alloc _) (some ⟨wx.heap.size, 0, none⟩) 1 1 [.int .i64 (pk (tok1 (l.drop (qOf l p))).1), .int .i64 (qOf l p), SV x] rfl rfl (by intro e; cases e) (cells_new wx _ _) (by intro u hu; simp at hu; rcases hu with rfl | rfl | rfl <;> rfl) (by unfold maxLen; omega) (by omega) (by simp; omega) ?_; intro v2 w4 hown4 hgrow4 hwh4; obtain ⟨hb4, hc4, hbel4⟩ := one_grown ho hown hC hbel hgrow4; clear hgrow4 hwh4; obtain ⟨m0, m1, m2, -⟩ := cell_of_block3 hb4; obtain ⟨ao4, cap4, rfl, -, -, -, -, -, -⟩ := owns_form hown4)
      go_roundw
      case rel =>
        have htt := unhide HN
        have htx := unhide HX
        refine ⟨t, _, done ++ [⟨(tok1 (l.drop (qOf l p))).1, qOf l p, x⟩], by omega, hc4, ?_, ?_, ?_, ?_, hbel4⟩
        · rw [List.length_append, List.flatMap_append]
          simpa [cellsP] using hown4
        · simp; omega
        · intro y hy
          rcases List.mem_append.1 hy with hy | hy
          · exact unhide HK y hy
          · rw [List.mem_singleton.1 hy]; exact hk
        · rw [unhide HT, unhide HS, htx, htt]; simp
      case measure =>
        have htt := unhide HN
        rw [atOf_cut hc4, atOf_cut hcut]
        omega
    · have HS := hide (toks_done hk)
      have htx := ho.text
      have hle := tok1_le (l.drop (qOf l p))
      rcases pk_ge hk hle with hp0 | hp1
      · go_wp2_with (at_builtin; refine wpList_append_at _ rfl _ _ 159 rfl (C + 1) 165 i1 (.agg #[.int .i64 0, .int .i64 0, .string ByteArray.empty]) 3 32 Tryz.underlying159 hi1 hz1 hs1 hb1 rfl (by decide) _ _ _ rfl (hownx.alloc _) (some ⟨wx.heap.size, 0, none⟩) 1 1 [.int .i64 (pk (tok1 (l.drop (qOf l p))).1), .int .i64 (qOf l p), SV x] rfl rfl (by intro e; cases e) (cells_new wx _ _) (by intro u hu; simp at hu; rcases hu with rfl | rfl | rfl <;> rfl) (by unfold maxLen; omega) (by omega) (by simp; omega) ?_; intro v2 w4 hown4 hgrow4 hwh4; obtain ⟨hb4, hc4, hbel4⟩ := one_grown ho hown hC hbel hgrow4; clear hgrow4 hwh4; obtain ⟨m0, m1, m2, -⟩ := cell_of_block3 hb4; obtain ⟨ao4, cap4, rfl, -, -, -, -, -, -⟩ := owns_form hown4)
        go_ret
        obtain rfl := unhide HCe
        exact ⟨_, x, rfl, pcut_end (unhide HT) (unhide HS) (unhide HK) htx (ownsRow_base hown4 (by omega)), hbel4⟩
      · have hp0 : (pk (tok1 (l.drop (qOf l p))).1 == 0) = false := by rw [beq_eq_false_iff_ne, beq_iff_eq.1 hp1]; decide
        go_wp2_with (at_builtin; refine wpList_append_at _ rfl _ _ 159 rfl (C + 1) 165 i1 (.agg #[.int .i64 0, .int .i64 0, .string ByteArray.empty]) 3 32 Tryz.underlying159 hi1 hz1 hs1 hb1 rfl (by decide) _ _ _ rfl (hownx.alloc _) (some ⟨wx.heap.size, 0, none⟩) 1 1 [.int .i64 (pk (tok1 (l.drop (qOf l p))).1), .int .i64 (qOf l p), SV x] rfl rfl (by intro e; cases e) (cells_new wx _ _) (by intro u hu; simp at hu; rcases hu with rfl | rfl | rfl <;> rfl) (by unfold maxLen; omega) (by omega) (by simp; omega) ?_; intro v2 w4 hown4 hgrow4 hwh4; obtain ⟨hb4, hc4, hbel4⟩ := one_grown ho hown hC hbel hgrow4; clear hgrow4 hwh4; obtain ⟨m0, m1, m2, -⟩ := cell_of_block3 hb4; obtain ⟨ao4, cap4, rfl, -, -, -, -, -, -⟩ := owns_form hown4)
        go_ret
        obtain rfl := unhide HCe
        exact ⟨_, x, rfl, pcut_end (unhide HT) (unhide HS) (unhide HK) htx (ownsRow_base hown4 (by omega)), hbel4⟩

end Go.Proofs.YtbljamcdaoofbaaGreatDoor

/- The program's reader in memory; take. -/
namespace Go.Proofs.YtbljamcdaoofbaaGreatDoor
open Go.RowKit

def cellsM (m : Mch) : List Value := [.bool m.neg, SV m.name, SV m.value]
def cellsF (f : Flt) : List Value := [.bool f.neg, SV f.text]

/-- The reader lies at block rb; its tokens in block g, of which i are read. -/
structure ReaderAt (w : World) (base rb g cap : Nat) (ts : List Tok) (x : List UInt8) (i : Nat) (meas : List UInt8) (span : Int) (by_ : List UInt8) (vm vf : Value) (M : List Mch) (Fs : List Flt) : Prop where
  block : w.heap[rb]? = some (.cells #[.slice (some ⟨g, i * 3, none⟩) (ts.length - i) (cap - i), SV meas, .int .i64 span, SV by_, vm, vf] 162 (0, 0))
  toks : ∃ cur, w.heap[g]? = some (.cells cur 165 (0, 0)) ∧ ∀ j, j < ts.length * 3 → cur[j]? = ((ts.map (fixT x)).flatMap cellsP)[j]?
  rowM : w.ownsRow base 171 3 vm M.length (M.flatMap cellsM)
  rowF : w.ownsRow base 173 2 vf Fs.length (Fs.flatMap cellsF)
  brb : base ≤ rb
  bg : base ≤ g
  small : ts.length ≤ 201
  caps : ts.length ≤ cap
  ilt : i < ts.length
  whole : Whole ts
  fit : ∀ t ∈ ts, t.k ≤ 5 ∧ t.text.length ≤ 200 ∧ (t.k = 1 → t.text ≠ [] ∧ t.text.all isD = true)
  mlen : M.length ≤ i
  flen : Fs.length ≤ i

theorem cell_of_block6 {w : World} {p : Nat} {v0 v1 v2 v3 v4 v5 : Value} {t : TypeId} (h : w.heap[p]? = some (.cells #[v0, v1, v2, v3, v4, v5] t (0, 0))) :
    w.cell? ⟨p, 0, none⟩ = some v0 ∧ w.cell? ⟨p, 1, none⟩ = some v1 ∧ w.cell? ⟨p, 2, none⟩ = some v2 ∧ w.cell? ⟨p, 3, none⟩ = some v3 ∧ w.cell? ⟨p, 4, none⟩ = some v4 ∧ w.cell? ⟨p, 5, none⟩ = some v5 ∧ (∀ j, w.frozen? ⟨p, j, none⟩ = false) :=
  ⟨by simp [World.cell?, h], by simp [World.cell?, h], by simp [World.cell?, h], by simp [World.cell?, h], by simp [World.cell?, h], by simp [World.cell?, h], fun j => by simp [World.frozen?, h]⟩

theorem cellsP_at (L : List Tok) (k : Nat) (h : k < L.length) : (L.flatMap cellsP)[k * 3]? = some (.int .i64 (pk L[k].k)) ∧ (L.flatMap cellsP)[k * 3 + 1]? = some (.int .i64 L[k].pos) ∧ (L.flatMap cellsP)[k * 3 + 2]? = some (SV L[k].text) := by
  induction L generalizing k with
  | nil => simp at h
  | cons x S ih =>
    rw [List.flatMap_cons]
    cases k with
    | zero => simp [cellsP]
    | succ k =>
      have := ih k (by simpa using h)
      simp only [cellsP, List.cons_append, List.nil_append, Nat.add_mul, Nat.one_mul, List.getElem?_cons_succ, List.getElem_cons_succ] at this ⊢
      exact this

/-- the three cells of the token that is next -/
theorem ReaderAt.tok {w : World} {base rb g cap i : Nat} {ts : List Tok} {x meas by_ : List UInt8} {span : Int} {vm vf : Value} {M : List Mch} {Fs : List Flt} (h : ReaderAt w base rb g cap ts x i meas span by_ vm vf M Fs) {j : Nat} (hj : j < ts.length) :
    w.cell? ⟨g, j * 3, none⟩ = some (.int .i64 (pk (tokAt ts j).k)) ∧ w.cell? ⟨g, j * 3 + 1, none⟩ = some (.int .i64 (tokAt ts j).pos) ∧ w.cell? ⟨g, j * 3 + 2, none⟩ = some (SV (fixT x (tokAt ts j)).text) := by
  obtain ⟨cur, hc, hcur⟩ := h.toks
  have hlen : j < (ts.map (fixT x)).length := by simpa using hj
  obtain ⟨e0, e1, e2⟩ := cellsP_at (ts.map (fixT x)) j hlen
  have ht : tokAt ts j = ts[j] := by simp [tokAt, hj]
  have hk : ((ts.map (fixT x))[j]).k = (tokAt ts j).k ∧ ((ts.map (fixT x))[j]).pos = (tokAt ts j).pos ∧ ((ts.map (fixT x))[j]).text = (fixT x (tokAt ts j)).text := by
    rw [ht, List.getElem_map]
    refine ⟨?_, ?_, rfl⟩ <;> (unfold fixT; split) <;> simp_all
  refine ⟨?_, ?_, ?_⟩
  · rw [← hk.1, ← e0, ← hcur _ (by omega)]; simp [World.cell?, hc]
  · rw [← hk.2.1, ← e1, ← hcur _ (by omega)]; simp [World.cell?, hc]
  · rw [← hk.2.2, ← e2, ← hcur _ (by omega)]; simp [World.cell?, hc]

theorem whole_next {ts : List Tok} {i : Nat} (hw : Whole ts) (hi : i < ts.length) (hk : (tokAt ts i).k < 4) : i + 1 < ts.length := by
  induction ts generalizing i with
  | nil => simp at hi
  | cons t r ih =>
    cases r with
    | nil =>
      have hw : 4 ≤ t.k := hw
      simp at hi
      subst hi
      simp [tokAt] at hk
      omega
    | cons t2 r2 =>
      cases i with
      | zero => simp
      | succ i =>
        have := ih (i := i) hw.2 (by simpa using hi) (by simpa [tokAt] using hk)
        simpa using this

theorem ReaderAt.keep {w : World} {base rb g cap i : Nat} {ts : List Tok} {x meas by_ : List UInt8} {span : Int} {vm vf : Value} {M : List Mch} {Fs : List Flt} {w' : World} (h : ReaderAt w base rb g cap ts x i meas span by_ vm vf M Fs)
    (hk : ∀ b, b < w.heap.size → w'.heap[b]? = w.heap[b]?) : ReaderAt w' base rb g cap ts x i meas span by_ vm vf M Fs := by
  refine ⟨?_, ?_, ?_, ?_, h.brb, h.bg, h.small, h.caps, h.ilt, h.whole, h.fit, h.mlen, h.flen⟩
  · rw [hk rb (Array.getElem?_eq_some_iff.1 h.block).1]; exact h.block
  · obtain ⟨cur, hc, hcur⟩ := h.toks
    exact ⟨cur, by rw [hk g (Array.getElem?_eq_some_iff.1 hc).1]; exact hc, hcur⟩
  · exact ownsRow_same h.rowM fun b hb => hk b (ownsRow_type h.rowM hb).1
  · exact ownsRow_same h.rowF fun b hb => hk b (ownsRow_type h.rowF hb).1
theorem ReaderAt.below {w : World} {base rb g cap i : Nat} {ts : List Tok} {x meas by_ : List UInt8} {span : Int} {vm vf : Value} {M : List Mch} {Fs : List Flt} {w' : World} (h : ReaderAt w base rb g cap ts x i meas span by_ vm vf M Fs) (hb : Below w.heap.size w w') : ReaderAt w' base rb g cap ts x i meas span by_ vm vf M Fs :=
  h.keep fun b hb' => hb.block b hb'

/-- one cell of the reader's own block is written -/
theorem ReaderAt.set {w : World} {base rb g cap i : Nat} {ts : List Tok} {x meas by_ : List UInt8} {span : Int} {vm vf : Value} {M : List Mch} {Fs : List Flt} (h : ReaderAt w base rb g cap ts x i meas span by_ vm vf M Fs) (j : Nat) (u : Value) :
    (w.setCell ⟨rb, j, none⟩ u).heap[g]? = w.heap[g]? ∧ (∀ b, vm.ownBlock = some b → (w.setCell ⟨rb, j, none⟩ u).heap[b]? = w.heap[b]?) ∧ (∀ b, vf.ownBlock = some b → (w.setCell ⟨rb, j, none⟩ u).heap[b]? = w.heap[b]?) := by
  obtain ⟨cur, hc, hcur⟩ := h.toks
  refine ⟨Go.RowKit.Below.heap_setCell _ _ _ _ (ne_of_type hc h.block (by decide)), fun b hb => Go.RowKit.Below.heap_setCell _ _ _ _ ?_, fun b hb => Go.RowKit.Below.heap_setCell _ _ _ _ ?_⟩
  · obtain ⟨_, c', hc'⟩ := ownsRow_type h.rowM hb
    exact ne_of_type hc' h.block (by decide)
  · obtain ⟨_, c', hc'⟩ := ownsRow_type h.rowF hb
    exact ne_of_type hc' h.block (by decide)

theorem block6_set0 {w : World} {p : Nat} {v0 v1 v2 v3 v4 v5 : Value} {t : TypeId} (h : w.heap[p]? = some (.cells #[v0, v1, v2, v3, v4, v5] t (0, 0))) (u : Value) :
    (w.setCell ⟨p, 0, none⟩ u).heap[p]? = some (.cells #[u, v1, v2, v3, v4, v5] t (0, 0)) := by
  simp [World.setCell, Array.getElem?_modify, h]

/-- a token is read -/
theorem ReaderAt.advance {w : World} {base rb g cap i : Nat} {ts : List Tok} {x meas by_ : List UInt8} {span : Int} {vm vf : Value} {M : List Mch} {Fs : List Flt} (h : ReaderAt w base rb g cap ts x i meas span by_ vm vf M Fs) (hk : (tokAt ts i).k < 4) :
    ReaderAt (w.setCell ⟨rb, 0, none⟩ (.slice (some ⟨g, i * 3 + 3, none⟩) (ts.length - i - 1) (cap - i - 1))) base rb g cap ts x (i + 1) meas span by_ vm vf M Fs := by
  obtain ⟨k1, k2, k3⟩ := h.set 0 (.slice (some ⟨g, i * 3 + 3, none⟩) (ts.length - i - 1) (cap - i - 1))
  refine ⟨?_, ?_, ownsRow_same h.rowM k2, ownsRow_same h.rowF k3, h.brb, h.bg, h.small, h.caps, whole_next h.whole h.ilt hk, h.whole, h.fit, Nat.le_succ_of_le h.mlen, Nat.le_succ_of_le h.flen⟩
  · rw [block6_set0 h.block, show (i + 1) * 3 = i * 3 + 3 by omega, show ts.length - (i + 1) = ts.length - i - 1 by omega, show cap - (i + 1) = cap - i - 1 by omega]
  · obtain ⟨cur, hc, hcur⟩ := h.toks
    exact ⟨cur, by rw [k1]; exact hc, hcur⟩

/-- what take answers, and leaves -/
def TakePost (w : World) (base rb g cap : Nat) (ts : List Tok) (x : List UInt8) (i : Nat) (meas : List UInt8) (span : Int) (by_ : List UInt8) (vm vf : Value) (M : List Mch) (Fs : List Flt) (ok : Bool) (e : Ending) (w' : World) : Prop :=
  e = .returned (.tuple #[SV (if ok = true then (tokAt ts i).text else []), .bool ok]) ∧ ReaderAt w' base rb g cap ts x (if ok = true then i + 1 else i) meas span by_ vm vf M Fs ∧ Below base w w'

theorem tok_fit {w : World} {base rb g cap i : Nat} {ts : List Tok} {x meas by_ : List UInt8} {span : Int} {vm vf : Value} {M : List Mch} {Fs : List Flt} (h : ReaderAt w base rb g cap ts x i meas span by_ vm vf M Fs) : (tokAt ts i).k ≤ 5 ∧ (tokAt ts i).text.length ≤ 200 ∧ ((tokAt ts i).k = 1 → (tokAt ts i).text ≠ [] ∧ (tokAt ts i).text.all isD = true) := by
  have ht : tokAt ts i = ts[i]'h.ilt := by simp [tokAt, h.ilt]
  rw [ht]
  exact h.fit _ (List.getElem_mem _)

theorem pk_eq {a b : Nat} (ha : a ≤ 5) (hb : b ≤ 5) : (pk a == pk b) = (a == b) := by
  match a, b, ha, hb with
  | 0, 0, _, _ => rfl
  | 0, 1, _, _ => rfl
  | 0, 2, _, _ => rfl
  | 0, 3, _, _ => rfl
  | 0, 4, _, _ => rfl
  | 0, 5, _, _ => rfl
  | 1, 0, _, _ => rfl
  | 1, 1, _, _ => rfl
  | 1, 2, _, _ => rfl
  | 1, 3, _, _ => rfl
  | 1, 4, _, _ => rfl
  | 1, 5, _, _ => rfl
  | 2, 0, _, _ => rfl
  | 2, 1, _, _ => rfl
  | 2, 2, _, _ => rfl
  | 2, 3, _, _ => rfl
  | 2, 4, _, _ => rfl
  | 2, 5, _, _ => rfl
  | 3, 0, _, _ => rfl
  | 3, 1, _, _ => rfl
  | 3, 2, _, _ => rfl
  | 3, 3, _, _ => rfl
  | 3, 4, _, _ => rfl
  | 3, 5, _, _ => rfl
  | 4, 0, _, _ => rfl
  | 4, 1, _, _ => rfl
  | 4, 2, _, _ => rfl
  | 4, 3, _, _ => rfl
  | 4, 4, _, _ => rfl
  | 4, 5, _, _ => rfl
  | 5, 0, _, _ => rfl
  | 5, 1, _, _ => rfl
  | 5, 2, _, _ => rfl
  | 5, 3, _, _ => rfl
  | 5, 4, _, _ => rfl
  | 5, 5, _, _ => rfl
  | n + 6, _, h, _ => omega
  | _, n + 6, _, h => omega

theorem fixT_text {x : List UInt8} {t : Tok} (h : t.k ≠ 5) : (fixT x t).text = t.text := by
  unfold fixT
  rw [if_neg h]

end Go.Proofs.YtbljamcdaoofbaaGreatDoor
