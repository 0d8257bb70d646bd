/- The reference's Tokens. -/
import Derived.Test.YtbljamcdaoofbaaGreatDoorRTokOne
namespace Go.Proofs.YtbljamcdaoofbaaGreatDoor
open Go.RowKit

theorem Tryz.info218 : (Tryz.prog.info? 218).map (fun i => (i.zero, i.size, i.bytes)) = some (some (.agg #[.int .i64 0, .int .i64 0, .string ByteArray.empty]), 3, 32) := by kernel_rfl

def cellsT (t : Tok) : List Value := [.int .i64 t.k, .int .i64 t.pos, SV t.text]

theorem tok_round {w4 : World} {l : List UInt8} {p q n base : Nat} {done : List Tok} {t : Tok} {v2 : Value} (HT : toks l 0 = done ++ toks l p) (hs : toks l p = t :: toks l (q + n))
    (hown4 : w4.ownsRow base 218 3 v2 (done.length + 1) (done.flatMap cellsT ++ cellsT t)) :
    w4.ownsRow base 218 3 v2 (done ++ [t]).length ((done ++ [t]).flatMap cellsT) ∧ toks l 0 = (done ++ [t]) ++ toks l (q + n) := by
  refine ⟨?_, by rw [HT, hs]; simp⟩
  rw [List.length_append, List.flatMap_append]
  simpa using hown4
theorem tok_last {w4 : World} {l : List UInt8} {p base : Nat} {done : List Tok} {t : Tok} {v2 : Value} (HT : toks l 0 = done ++ toks l p) (hs : toks l p = [t])
    (hown4 : w4.ownsRow base 218 3 v2 (done.length + 1) (done.flatMap cellsT ++ cellsT t)) :
    w4.ownsRow base 218 3 v2 (toks l 0).length ((toks l 0).flatMap cellsT) := by
  rw [HT, hs, List.length_append, List.flatMap_append]
  simpa using hown4

set_option maxRecDepth 10000 in
set_option maxHeartbeats 40000000 in
theorem tokens_any (l : List UInt8) (w : World) (hl : l.length ≤ 200) :
    Calls Tryz.prog 143 #[.string ⟨l.toArray⟩] w fun e w' => ∃ v, e = .returned v ∧ w'.ownsRow w.heap.size 218 3 v (toks l 0).length ((toks l 0).flatMap cellsT) ∧ Below w.heap.size w w' := by
  obtain ⟨i1, hi1, hz1, hs1, hb1⟩ := info_parts Tryz.info218
  go_enter Tryz.func143, Tryz.ntmps143
  go_wp2
  go_loopw [3, 4] (fun v i wr => ∃ (p : Nat) (done : List Tok), p ≤ l.length ∧ i = .int .i64 p ∧ wr.ownsRow w.heap.size 218 3 v done.length (done.flatMap cellsT) ∧ done.length ≤ p ∧ toks l 0 = done ++ toks l p ∧ Below w.heap.size w wr)
    (fun _ i _ => l.length - (intOf i).toNat)
  case atStart => exact ⟨0, [], Nat.zero_le _, rfl, World.ownsRow_nil _ _ _ _, Nat.le_refl _, rfl, Below.refl _ _⟩
  case round =>
    obtain ⟨p, done, hp, rfl, hown, hdl, htk, hbel⟩ := hrel
    have HT := hide htk
    clear htk
    have hsz := hbel.size
    obtain ⟨ao, cap, rfl, -, -, -, -, -, -⟩ := owns_form hown
    go_wp2
    go_loop [4] (fun i => ∃ q : Nat, p ≤ q ∧ q ≤ l.length ∧ i = .int .i64 q ∧ (∀ j (h : j < l.length), p ≤ j → j < q → l[j] = 32)) (fun i => l.length - (intOf i).toNat)
    case atStart => exact ⟨p, Nat.le_refl _, hp, rfl, fun j _ h1 h2 => by omega⟩
    case round =>
      obtain ⟨q, hpq, hq, rfl, hall⟩ := hrel
      have HA := hide hall
      clear hall
      by_cases hlt : q < l.length
      · go_wp2_with fail
        · have hw : ((l[q].toNat : Int) == 32) = true := by assumption
          go_round
          case rel =>
            refine ⟨q + 1, by omega, by omega, by go_num, fun j hj h1 h2 => ?_⟩
            by_cases e : j = q
            · subst e; exact u8_32 hw
            · exact unhide HA j hj h1 (by omega)
          case measure => simp [intOf]; omega
        · have hw : ((l[q].toNat : Int) == 32) = false := by assumption
          have HQ := hide (blanks_eq l p q hpq hq (unhide HA) (fun _ => u8_n32 hw))
          refine (row_any l q false _ hq (by omega)).mono ?_
          rintro e w1 ⟨rfl, rfl⟩
          go_wp2_with fail
          refine (row_any l q true _ hq (by omega)).mono ?_
          rintro e w2 ⟨rfl, rfl⟩
          by_cases hL : isL l[q] = true
          · as_aux_lemma =>
              obtain ⟨W, hW⟩ : ∃ W, (l.drop q).takeWhile (cls false) = l[q] :: W := ⟨_, takeWhile_at hlt hL⟩
              have hT := tok1_L hlt hL
              have hlen := (tok1_len (l.drop q)).1
              rw [show cls false = isL from rfl] at hW ⊢
              rw [hW] at hT ⊢
              rw [hT, List.length_drop] at hlen
              have HS := hide (toks_go (unhide HQ) hT (by omega))
              clear hW hT
              simp only [List.length_cons] at hlen
              generalize (l.drop q).takeWhile (cls true) = W2
              go_wp2_with (at_builtin; refine wpList_append_at _ rfl _ _ 215 rfl w.heap.size 218 i1 (.agg #[.int .i64 0, .int .i64 0, .string ByteArray.empty]) 3 32 Tryz.underlying215 hi1 hz1 hs1 hb1 rfl (by decide) _ _ _ rfl (hown.alloc _) (some ⟨w2.heap.size, 0, none⟩) 1 1 [.int .i64 0, .int .i64 q, SV (l[q] :: W)] rfl rfl (by intro e; cases e) (cells_new w2 _ _) (by intro u hu; simp at hu; rcases hu with rfl | rfl | rfl <;> rfl) (by unfold maxLen; omega) (by omega) (by simp; omega) ?_; intro v2 w4 hown4 hgrow4 hwh4; have hb4 := (hbel.alloc hsz (.cells ([.int .i64 0, .int .i64 q, SV (l[q] :: W)]).toArray 218)).grown hgrow4 (by simp; omega) (fun k hk => (hown.lt k hk).1); clear hgrow4 hwh4)
              all_goals
                go_roundw
                case rel =>
                  obtain ⟨r1, r2⟩ := tok_round (unhide HT) (unhide HS) hown4
                  exact ⟨q + (l[q] :: W).length, _, by simp only [List.length_cons]; omega, by simp only [List.length_cons]; go_num, r1, by simp; omega, r2, hb4⟩
                case measure => simp [intOf]; omega
          · rw [show cls false = isL from rfl, takeWhile_none hlt hL]
            by_cases hD : isD l[q] = true
            · as_aux_lemma =>
                obtain ⟨W, hW⟩ : ∃ W, (l.drop q).takeWhile isD = l[q] :: W := ⟨_, takeWhile_at hlt hD⟩
                have hT := tok1_D hlt hL hD
                have hlen := (tok1_len (l.drop q)).1
                rw [show cls true = isD from rfl]
                rw [hW] at hT ⊢
                rw [hT, List.length_drop] at hlen
                have HS := hide (toks_go (unhide HQ) hT (by omega))
                clear hW hT
                simp only [List.length_cons] at hlen
                go_wp2_with (at_builtin; refine wpList_append_at _ rfl _ _ 215 rfl w.heap.size 218 i1 (.agg #[.int .i64 0, .int .i64 0, .string ByteArray.empty]) 3 32 Tryz.underlying215 hi1 hz1 hs1 hb1 rfl (by decide) _ _ _ rfl (hown.alloc _) (some ⟨w2.heap.size, 0, none⟩) 1 1 [.int .i64 1, .int .i64 q, SV (l[q] :: W)] rfl rfl (by intro e; cases e) (cells_new w2 _ _) (by intro u hu; simp at hu; rcases hu with rfl | rfl | rfl <;> rfl) (by unfold maxLen; omega) (by omega) (by simp; omega) ?_; intro v2 w4 hown4 hgrow4 hwh4; have hb4 := (hbel.alloc hsz (.cells ([.int .i64 1, .int .i64 q, SV (l[q] :: W)]).toArray 218)).grown hgrow4 (by simp; omega) (fun k hk => (hown.lt k hk).1); clear hgrow4 hwh4)
                all_goals
                  go_roundw
                  case rel =>
                    obtain ⟨r1, r2⟩ := tok_round (unhide HT) (unhide HS) hown4
                    exact ⟨q + (l[q] :: W).length, _, by simp only [List.length_cons]; omega, by simp only [List.length_cons]; go_num, r1, by simp; omega, r2, hb4⟩
                  case measure => simp [intOf]; omega
            · rw [show cls true = isD from rfl, takeWhile_none hlt hD]
              by_cases hQ : l[q] = 34
              · as_aux_lemma =>
                  have hcq : ∀ h, ((⟨l.toArray⟩ : ByteArray)[q]'h) = 34 := fun _ => hQ
                  have hqa := quoted_any l (q + 1) w2 (by omega) (by omega)
                  rw [show (((q + 1 : Nat) : Int)) = (q : Int) + 1 by omega] at hqa
                  have hT := tok1_Q hlt hQ
                  have hlen := (tok1_len (l.drop q)).1
                  cases hqq : quoteAt (l.drop (q + 1)) with
                  | none =>
                    rw [hqq] at hT
                    rw [quotedL, hqq] at hqa
                    have HS := hide (toks_end (unhide HQ) hT (by omega))
                    clear hT hlen
                    go_wp2_with fail
                    all_goals
                      refine hqa.mono ?_
                      rintro e w3 ⟨rfl, rfl⟩
                      go_wp2_with (at_builtin; refine wpList_append_at _ rfl _ _ 215 rfl w.heap.size 218 i1 (.agg #[.int .i64 0, .int .i64 0, .string ByteArray.empty]) 3 32 Tryz.underlying215 hi1 hz1 hs1 hb1 rfl (by decide) _ _ _ rfl (hown.alloc _) (some ⟨w3.heap.size, 0, none⟩) 1 1 [.int .i64 5, .int .i64 q, SV []] rfl rfl (by intro e; cases e) (cells_new w3 _ _) (by intro u hu; simp at hu; rcases hu with rfl | rfl | rfl <;> rfl) (by unfold maxLen; omega) (by omega) (by simp; omega) ?_; intro v2 w4 hown4 hgrow4 hwh4; have hb4 := (hbel.alloc hsz (.cells ([.int .i64 5, .int .i64 q, SV []]).toArray 218)).grown hgrow4 (by simp; omega) (fun k hk => (hown.lt k hk).1); clear hgrow4 hwh4)
                      go_ret
                      exact ⟨_, rfl, tok_last (unhide HT) (unhide HS) hown4, hb4⟩
                  | some n =>
                    rw [hqq] at hT
                    rw [quotedL, hqq] at hqa
                    rw [hT, List.length_drop] at hlen
                    have HS := hide (toks_go (unhide HQ) hT (by omega))
                    have hnl := (quoteAt_lt hqq).1
                    rw [List.length_drop] at hnl
                    have hlt2 : ((l.drop (q + 1)).take n).length = n := by rw [List.length_take, List.length_drop]; omega
                    have HN := hide hlt2
                    clear hT hlt2
                    simp only [Option.isSome_some] at hqa
                    generalize (l.drop (q + 1)).take n = X at *
                    go_wp2_with fail
                    all_goals
                      refine hqa.mono ?_
                      rintro e w3 ⟨rfl, rfl⟩
                      have hxl : X.length = n := unhide HN
                      go_wp2_with (at_builtin; refine wpList_append_at _ rfl _ _ 215 rfl w.heap.size 218 i1 (.agg #[.int .i64 0, .int .i64 0, .string ByteArray.empty]) 3 32 Tryz.underlying215 hi1 hz1 hs1 hb1 rfl (by decide) _ _ _ rfl (hown.alloc _) (some ⟨w3.heap.size, 0, none⟩) 1 1 [.int .i64 2, .int .i64 q, SV X] rfl rfl (by intro e; cases e) (cells_new w3 _ _) (by intro u hu; simp at hu; rcases hu with rfl | rfl | rfl <;> rfl) (by unfold maxLen; omega) (by omega) (by simp; omega) ?_; intro v2 w4 hown4 hgrow4 hwh4; have hb4 := (hbel.alloc hsz (.cells ([.int .i64 2, .int .i64 q, SV X]).toArray 218)).grown hgrow4 (by simp; omega) (fun k hk => (hown.lt k hk).1); clear hgrow4 hwh4)
                      go_roundw
                      case rel =>
                        obtain ⟨r1, r2⟩ := tok_round (unhide HT) (unhide HS) hown4
                        exact ⟨q + (n + 2), _, by omega, by go_num, r1, by simp; omega, r2, hb4⟩
                      case measure => simp [intOf]; omega
              · by_cases h33 : l[q] = 33 ∨ l[q] = 124
                · by_cases h61 : l[q + 1]? = some 61
                  · have hq1 : (q : Int) + 1 < l.length := by
                      obtain ⟨h, -⟩ := List.getElem?_eq_some_iff.1 h61
                      omega
                    have hT := tok1_P hlt hL hD hQ h33 h61
                    have HS := hide (toks_go (unhide HQ) hT (by omega))
                    have hpair := pair_eq hlt h61
                    rcases h33 with h33 | h33
                    · as_aux_lemma =>
                        have hcq : ∀ h, ((⟨l.toArray⟩ : ByteArray)[q]'h) = 33 := fun _ => h33
                        rw [h33] at hpair HS
                        clear hT
                        go_wp2_with (at_builtin; refine wpList_append_at _ rfl _ _ 215 rfl w.heap.size 218 i1 (.agg #[.int .i64 0, .int .i64 0, .string ByteArray.empty]) 3 32 Tryz.underlying215 hi1 hz1 hs1 hb1 rfl (by decide) _ _ _ rfl (hown.alloc _) (some ⟨w2.heap.size, 0, none⟩) 1 1 [.int .i64 3, .int .i64 q, SV [33, 61]] rfl rfl (by intro e; cases e) (cells_new w2 _ _) (by intro u hu; simp at hu; rcases hu with rfl | rfl | rfl <;> rfl) (by unfold maxLen; omega) (by omega) (by simp; omega) ?_; intro v2 w4 hown4 hgrow4 hwh4; have hb4 := (hbel.alloc hsz (.cells ([.int .i64 3, .int .i64 q, SV [33, 61]]).toArray 218)).grown hgrow4 (by simp; omega) (fun k hk => (hown.lt k hk).1); clear hgrow4 hwh4)
                        go_roundw
                        case rel =>
                          obtain ⟨r1, r2⟩ := tok_round (unhide HT) (unhide HS) hown4
                          exact ⟨q + 2, _, by omega, by go_num, r1, by simp; omega, r2, hb4⟩
                        case measure => simp [intOf]; omega
                    · as_aux_lemma =>
                        have hcq : ∀ h, ((⟨l.toArray⟩ : ByteArray)[q]'h) = 124 := fun _ => h33
                        rw [h33] at hpair HS
                        clear hT
                        go_wp2_with (at_builtin; refine wpList_append_at _ rfl _ _ 215 rfl w.heap.size 218 i1 (.agg #[.int .i64 0, .int .i64 0, .string ByteArray.empty]) 3 32 Tryz.underlying215 hi1 hz1 hs1 hb1 rfl (by decide) _ _ _ rfl (hown.alloc _) (some ⟨w2.heap.size, 0, none⟩) 1 1 [.int .i64 3, .int .i64 q, SV [124, 61]] rfl rfl (by intro e; cases e) (cells_new w2 _ _) (by intro u hu; simp at hu; rcases hu with rfl | rfl | rfl <;> rfl) (by unfold maxLen; omega) (by omega) (by simp; omega) ?_; intro v2 w4 hown4 hgrow4 hwh4; have hb4 := (hbel.alloc hsz (.cells ([.int .i64 3, .int .i64 q, SV [124, 61]]).toArray 218)).grown hgrow4 (by simp; omega) (fun k hk => (hown.lt k hk).1); clear hgrow4 hwh4)
                        go_roundw
                        case rel =>
                          obtain ⟨r1, r2⟩ := tok_round (unhide HT) (unhide HS) hown4
                          exact ⟨q + 2, _, by omega, by go_num, r1, by simp; omega, r2, hb4⟩
                        case measure => simp [intOf]; omega
                  · have hT := tok1_H hlt hL hD hQ h33 h61
                    have HS := hide (toks_end (unhide HQ) hT (by omega))
                    obtain ⟨X, hX, hx1, hx2⟩ := pair_ne2 hlt h61
                    clear hT
                    rcases h33 with h33 | h33
                    · as_aux_lemma =>
                        have hcq : ∀ h, ((⟨l.toArray⟩ : ByteArray)[q]'h) = 33 := fun _ => h33
                        go_wp2_with (at_builtin; refine wpList_append_at _ rfl _ _ 215 rfl w.heap.size 218 i1 (.agg #[.int .i64 0, .int .i64 0, .string ByteArray.empty]) 3 32 Tryz.underlying215 hi1 hz1 hs1 hb1 rfl (by decide) _ _ _ rfl (hown.alloc _) (some ⟨w2.heap.size, 0, none⟩) 1 1 [.int .i64 5, .int .i64 q, SV []] rfl rfl (by intro e; cases e) (cells_new w2 _ _) (by intro u hu; simp at hu; rcases hu with rfl | rfl | rfl <;> rfl) (by unfold maxLen; omega) (by omega) (by simp; omega) ?_; intro v2 w4 hown4 hgrow4 hwh4; have hb4 := (hbel.alloc hsz (.cells ([.int .i64 5, .int .i64 q, SV []]).toArray 218)).grown hgrow4 (by simp; omega) (fun k hk => (hown.lt k hk).1); clear hgrow4 hwh4)
                        all_goals
                          go_ret
                          exact ⟨_, rfl, tok_last (unhide HT) (unhide HS) hown4, hb4⟩
                    · as_aux_lemma =>
                        have hcq : ∀ h, ((⟨l.toArray⟩ : ByteArray)[q]'h) = 124 := fun _ => h33
                        go_wp2_with (at_builtin; refine wpList_append_at _ rfl _ _ 215 rfl w.heap.size 218 i1 (.agg #[.int .i64 0, .int .i64 0, .string ByteArray.empty]) 3 32 Tryz.underlying215 hi1 hz1 hs1 hb1 rfl (by decide) _ _ _ rfl (hown.alloc _) (some ⟨w2.heap.size, 0, none⟩) 1 1 [.int .i64 5, .int .i64 q, SV []] rfl rfl (by intro e; cases e) (cells_new w2 _ _) (by intro u hu; simp at hu; rcases hu with rfl | rfl | rfl <;> rfl) (by unfold maxLen; omega) (by omega) (by simp; omega) ?_; intro v2 w4 hown4 hgrow4 hwh4; have hb4 := (hbel.alloc hsz (.cells ([.int .i64 5, .int .i64 q, SV []]).toArray 218)).grown hgrow4 (by simp; omega) (fun k hk => (hown.lt k hk).1); clear hgrow4 hwh4)
                        all_goals
                          go_ret
                          exact ⟨_, rfl, tok_last (unhide HT) (unhide HS) hown4, hb4⟩
                · obtain ⟨X, hX, hx1, hx2⟩ := pair_ne1 hlt h33
                  by_cases hM : isM l[q] = true
                  · have hT := tok1_M hlt hL hD hQ h33 hM
                    have HS := hide (toks_go (unhide HQ) hT (by omega))
                    have HE := hide (one_eq hlt)
                    clear hT
                    rcases isM_cases hM with hc | hc | hc | hc | hc | hc | hc | hc
                    · as_aux_lemma =>
                        have hcq : ∀ h, ((⟨l.toArray⟩ : ByteArray)[q]'h) = 123 := fun _ => hc
                        go_wp2_with (at_builtin; refine wpList_append_at _ rfl _ _ 215 rfl w.heap.size 218 i1 (.agg #[.int .i64 0, .int .i64 0, .string ByteArray.empty]) 3 32 Tryz.underlying215 hi1 hz1 hs1 hb1 rfl (by decide) _ _ _ rfl (hown.alloc _) (some ⟨w2.heap.size, 0, none⟩) 1 1 [.int .i64 3, .int .i64 q, .string ((⟨l.toArray⟩ : ByteArray).extract q (q + 1))] rfl rfl (by intro e; cases e) (cells_new w2 _ _) (by intro u hu; simp at hu; rcases hu with rfl | rfl | rfl <;> rfl) (by unfold maxLen; omega) (by omega) (by simp; omega) ?_; intro v2 w4 hown4 hgrow4 hwh4; have hb4 := (hbel.alloc hsz (.cells ([.int .i64 3, .int .i64 q, .string ((⟨l.toArray⟩ : ByteArray).extract q (q + 1))]).toArray 218)).grown hgrow4 (by simp; omega) (fun k hk => (hown.lt k hk).1); clear hgrow4 hwh4)
                        all_goals
                          go_roundw
                          case rel =>
                            rw [unhide HE] at hown4
                            obtain ⟨r1, r2⟩ := tok_round (unhide HT) (unhide HS) hown4
                            exact ⟨q + 1, _, by omega, by go_num, r1, by simp; omega, r2, hb4⟩
                          case measure => simp [intOf]; omega
                    · as_aux_lemma =>
                        have hcq : ∀ h, ((⟨l.toArray⟩ : ByteArray)[q]'h) = 125 := fun _ => hc
                        go_wp2_with (at_builtin; refine wpList_append_at _ rfl _ _ 215 rfl w.heap.size 218 i1 (.agg #[.int .i64 0, .int .i64 0, .string ByteArray.empty]) 3 32 Tryz.underlying215 hi1 hz1 hs1 hb1 rfl (by decide) _ _ _ rfl (hown.alloc _) (some ⟨w2.heap.size, 0, none⟩) 1 1 [.int .i64 3, .int .i64 q, .string ((⟨l.toArray⟩ : ByteArray).extract q (q + 1))] rfl rfl (by intro e; cases e) (cells_new w2 _ _) (by intro u hu; simp at hu; rcases hu with rfl | rfl | rfl <;> rfl) (by unfold maxLen; omega) (by omega) (by simp; omega) ?_; intro v2 w4 hown4 hgrow4 hwh4; have hb4 := (hbel.alloc hsz (.cells ([.int .i64 3, .int .i64 q, .string ((⟨l.toArray⟩ : ByteArray).extract q (q + 1))]).toArray 218)).grown hgrow4 (by simp; omega) (fun k hk => (hown.lt k hk).1); clear hgrow4 hwh4)
                        all_goals
                          go_roundw
                          case rel =>
                            rw [unhide HE] at hown4
                            obtain ⟨r1, r2⟩ := tok_round (unhide HT) (unhide HS) hown4
                            exact ⟨q + 1, _, by omega, by go_num, r1, by simp; omega, r2, hb4⟩
                          case measure => simp [intOf]; omega
                    · as_aux_lemma =>
                        have hcq : ∀ h, ((⟨l.toArray⟩ : ByteArray)[q]'h) = 40 := fun _ => hc
                        go_wp2_with (at_builtin; refine wpList_append_at _ rfl _ _ 215 rfl w.heap.size 218 i1 (.agg #[.int .i64 0, .int .i64 0, .string ByteArray.empty]) 3 32 Tryz.underlying215 hi1 hz1 hs1 hb1 rfl (by decide) _ _ _ rfl (hown.alloc _) (some ⟨w2.heap.size, 0, none⟩) 1 1 [.int .i64 3, .int .i64 q, .string ((⟨l.toArray⟩ : ByteArray).extract q (q + 1))] rfl rfl (by intro e; cases e) (cells_new w2 _ _) (by intro u hu; simp at hu; rcases hu with rfl | rfl | rfl <;> rfl) (by unfold maxLen; omega) (by omega) (by simp; omega) ?_; intro v2 w4 hown4 hgrow4 hwh4; have hb4 := (hbel.alloc hsz (.cells ([.int .i64 3, .int .i64 q, .string ((⟨l.toArray⟩ : ByteArray).extract q (q + 1))]).toArray 218)).grown hgrow4 (by simp; omega) (fun k hk => (hown.lt k hk).1); clear hgrow4 hwh4)
                        all_goals
                          go_roundw
                          case rel =>
                            rw [unhide HE] at hown4
                            obtain ⟨r1, r2⟩ := tok_round (unhide HT) (unhide HS) hown4
                            exact ⟨q + 1, _, by omega, by go_num, r1, by simp; omega, r2, hb4⟩
                          case measure => simp [intOf]; omega
                    · as_aux_lemma =>
                        have hcq : ∀ h, ((⟨l.toArray⟩ : ByteArray)[q]'h) = 41 := fun _ => hc
                        go_wp2_with (at_builtin; refine wpList_append_at _ rfl _ _ 215 rfl w.heap.size 218 i1 (.agg #[.int .i64 0, .int .i64 0, .string ByteArray.empty]) 3 32 Tryz.underlying215 hi1 hz1 hs1 hb1 rfl (by decide) _ _ _ rfl (hown.alloc _) (some ⟨w2.heap.size, 0, none⟩) 1 1 [.int .i64 3, .int .i64 q, .string ((⟨l.toArray⟩ : ByteArray).extract q (q + 1))] rfl rfl (by intro e; cases e) (cells_new w2 _ _) (by intro u hu; simp at hu; rcases hu with rfl | rfl | rfl <;> rfl) (by unfold maxLen; omega) (by omega) (by simp; omega) ?_; intro v2 w4 hown4 hgrow4 hwh4; have hb4 := (hbel.alloc hsz (.cells ([.int .i64 3, .int .i64 q, .string ((⟨l.toArray⟩ : ByteArray).extract q (q + 1))]).toArray 218)).grown hgrow4 (by simp; omega) (fun k hk => (hown.lt k hk).1); clear hgrow4 hwh4)
                        all_goals
                          go_roundw
                          case rel =>
                            rw [unhide HE] at hown4
                            obtain ⟨r1, r2⟩ := tok_round (unhide HT) (unhide HS) hown4
                            exact ⟨q + 1, _, by omega, by go_num, r1, by simp; omega, r2, hb4⟩
                          case measure => simp [intOf]; omega
                    · as_aux_lemma =>
                        have hcq : ∀ h, ((⟨l.toArray⟩ : ByteArray)[q]'h) = 91 := fun _ => hc
                        go_wp2_with (at_builtin; refine wpList_append_at _ rfl _ _ 215 rfl w.heap.size 218 i1 (.agg #[.int .i64 0, .int .i64 0, .string ByteArray.empty]) 3 32 Tryz.underlying215 hi1 hz1 hs1 hb1 rfl (by decide) _ _ _ rfl (hown.alloc _) (some ⟨w2.heap.size, 0, none⟩) 1 1 [.int .i64 3, .int .i64 q, .string ((⟨l.toArray⟩ : ByteArray).extract q (q + 1))] rfl rfl (by intro e; cases e) (cells_new w2 _ _) (by intro u hu; simp at hu; rcases hu with rfl | rfl | rfl <;> rfl) (by unfold maxLen; omega) (by omega) (by simp; omega) ?_; intro v2 w4 hown4 hgrow4 hwh4; have hb4 := (hbel.alloc hsz (.cells ([.int .i64 3, .int .i64 q, .string ((⟨l.toArray⟩ : ByteArray).extract q (q + 1))]).toArray 218)).grown hgrow4 (by simp; omega) (fun k hk => (hown.lt k hk).1); clear hgrow4 hwh4)
                        all_goals
                          go_roundw
                          case rel =>
                            rw [unhide HE] at hown4
                            obtain ⟨r1, r2⟩ := tok_round (unhide HT) (unhide HS) hown4
                            exact ⟨q + 1, _, by omega, by go_num, r1, by simp; omega, r2, hb4⟩
                          case measure => simp [intOf]; omega
                    · as_aux_lemma =>
                        have hcq : ∀ h, ((⟨l.toArray⟩ : ByteArray)[q]'h) = 93 := fun _ => hc
                        go_wp2_with (at_builtin; refine wpList_append_at _ rfl _ _ 215 rfl w.heap.size 218 i1 (.agg #[.int .i64 0, .int .i64 0, .string ByteArray.empty]) 3 32 Tryz.underlying215 hi1 hz1 hs1 hb1 rfl (by decide) _ _ _ rfl (hown.alloc _) (some ⟨w2.heap.size, 0, none⟩) 1 1 [.int .i64 3, .int .i64 q, .string ((⟨l.toArray⟩ : ByteArray).extract q (q + 1))] rfl rfl (by intro e; cases e) (cells_new w2 _ _) (by intro u hu; simp at hu; rcases hu with rfl | rfl | rfl <;> rfl) (by unfold maxLen; omega) (by omega) (by simp; omega) ?_; intro v2 w4 hown4 hgrow4 hwh4; have hb4 := (hbel.alloc hsz (.cells ([.int .i64 3, .int .i64 q, .string ((⟨l.toArray⟩ : ByteArray).extract q (q + 1))]).toArray 218)).grown hgrow4 (by simp; omega) (fun k hk => (hown.lt k hk).1); clear hgrow4 hwh4)
                        all_goals
                          go_roundw
                          case rel =>
                            rw [unhide HE] at hown4
                            obtain ⟨r1, r2⟩ := tok_round (unhide HT) (unhide HS) hown4
                            exact ⟨q + 1, _, by omega, by go_num, r1, by simp; omega, r2, hb4⟩
                          case measure => simp [intOf]; omega
                    · as_aux_lemma =>
                        have hcq : ∀ h, ((⟨l.toArray⟩ : ByteArray)[q]'h) = 44 := fun _ => hc
                        go_wp2_with (at_builtin; refine wpList_append_at _ rfl _ _ 215 rfl w.heap.size 218 i1 (.agg #[.int .i64 0, .int .i64 0, .string ByteArray.empty]) 3 32 Tryz.underlying215 hi1 hz1 hs1 hb1 rfl (by decide) _ _ _ rfl (hown.alloc _) (some ⟨w2.heap.size, 0, none⟩) 1 1 [.int .i64 3, .int .i64 q, .string ((⟨l.toArray⟩ : ByteArray).extract q (q + 1))] rfl rfl (by intro e; cases e) (cells_new w2 _ _) (by intro u hu; simp at hu; rcases hu with rfl | rfl | rfl <;> rfl) (by unfold maxLen; omega) (by omega) (by simp; omega) ?_; intro v2 w4 hown4 hgrow4 hwh4; have hb4 := (hbel.alloc hsz (.cells ([.int .i64 3, .int .i64 q, .string ((⟨l.toArray⟩ : ByteArray).extract q (q + 1))]).toArray 218)).grown hgrow4 (by simp; omega) (fun k hk => (hown.lt k hk).1); clear hgrow4 hwh4)
                        all_goals
                          go_roundw
                          case rel =>
                            rw [unhide HE] at hown4
                            obtain ⟨r1, r2⟩ := tok_round (unhide HT) (unhide HS) hown4
                            exact ⟨q + 1, _, by omega, by go_num, r1, by simp; omega, r2, hb4⟩
                          case measure => simp [intOf]; omega
                    · as_aux_lemma =>
                        have hcq : ∀ h, ((⟨l.toArray⟩ : ByteArray)[q]'h) = 61 := fun _ => hc
                        go_wp2_with (at_builtin; refine wpList_append_at _ rfl _ _ 215 rfl w.heap.size 218 i1 (.agg #[.int .i64 0, .int .i64 0, .string ByteArray.empty]) 3 32 Tryz.underlying215 hi1 hz1 hs1 hb1 rfl (by decide) _ _ _ rfl (hown.alloc _) (some ⟨w2.heap.size, 0, none⟩) 1 1 [.int .i64 3, .int .i64 q, .string ((⟨l.toArray⟩ : ByteArray).extract q (q + 1))] rfl rfl (by intro e; cases e) (cells_new w2 _ _) (by intro u hu; simp at hu; rcases hu with rfl | rfl | rfl <;> rfl) (by unfold maxLen; omega) (by omega) (by simp; omega) ?_; intro v2 w4 hown4 hgrow4 hwh4; have hb4 := (hbel.alloc hsz (.cells ([.int .i64 3, .int .i64 q, .string ((⟨l.toArray⟩ : ByteArray).extract q (q + 1))]).toArray 218)).grown hgrow4 (by simp; omega) (fun k hk => (hown.lt k hk).1); clear hgrow4 hwh4)
                        all_goals
                          go_roundw
                          case rel =>
                            rw [unhide HE] at hown4
                            obtain ⟨r1, r2⟩ := tok_round (unhide HT) (unhide HS) hown4
                            exact ⟨q + 1, _, by omega, by go_num, r1, by simp; omega, r2, hb4⟩
                          case measure => simp [intOf]; omega
                  · as_aux_lemma =>
                      have hT := tok1_X hlt hL hD hQ h33 hM
                      have HS := hide (toks_end (unhide HQ) hT (by omega))
                      obtain ⟨g1, g2, g3, g4, g5, g6, g7, g8⟩ := isM_not hM
                      have n0 : ∀ h, ((((⟨l.toArray⟩ : ByteArray)[q]'h).toNat : Int) == 34) = false := fun _ => u8_ne hQ
                      have n1 : ∀ h, ((((⟨l.toArray⟩ : ByteArray)[q]'h).toNat : Int) == 123) = false := fun _ => u8_ne g1
                      have n2 : ∀ h, ((((⟨l.toArray⟩ : ByteArray)[q]'h).toNat : Int) == 125) = false := fun _ => u8_ne g2
                      have n3 : ∀ h, ((((⟨l.toArray⟩ : ByteArray)[q]'h).toNat : Int) == 40) = false := fun _ => u8_ne g3
                      have n4 : ∀ h, ((((⟨l.toArray⟩ : ByteArray)[q]'h).toNat : Int) == 41) = false := fun _ => u8_ne g4
                      have n5 : ∀ h, ((((⟨l.toArray⟩ : ByteArray)[q]'h).toNat : Int) == 91) = false := fun _ => u8_ne g5
                      have n6 : ∀ h, ((((⟨l.toArray⟩ : ByteArray)[q]'h).toNat : Int) == 93) = false := fun _ => u8_ne g6
                      have n7 : ∀ h, ((((⟨l.toArray⟩ : ByteArray)[q]'h).toNat : Int) == 44) = false := fun _ => u8_ne g7
                      have n8 : ∀ h, ((((⟨l.toArray⟩ : ByteArray)[q]'h).toNat : Int) == 61) = false := fun _ => u8_ne g8
                      clear hT
                      go_wp2_with (at_builtin; refine wpList_append_at _ rfl _ _ 215 rfl w.heap.size 218 i1 (.agg #[.int .i64 0, .int .i64 0, .string ByteArray.empty]) 3 32 Tryz.underlying215 hi1 hz1 hs1 hb1 rfl (by decide) _ _ _ rfl (hown.alloc _) (some ⟨w2.heap.size, 0, none⟩) 1 1 [.int .i64 5, .int .i64 q, SV []] rfl rfl (by intro e; cases e) (cells_new w2 _ _) (by intro u hu; simp at hu; rcases hu with rfl | rfl | rfl <;> rfl) (by unfold maxLen; omega) (by omega) (by simp; omega) ?_; intro v2 w4 hown4 hgrow4 hwh4; have hb4 := (hbel.alloc hsz (.cells ([.int .i64 5, .int .i64 q, SV []]).toArray 218)).grown hgrow4 (by simp; omega) (fun k hk => (hown.lt k hk).1); clear hgrow4 hwh4)
                      all_goals
                        go_ret
                        exact ⟨_, rfl, tok_last (unhide HT) (unhide HS) hown4, hb4⟩
      · have HQ := hide (blanks_eq l p q hpq hq (unhide HA) (fun h => absurd h hlt))
        have hqe : q = l.length := by omega
        have HS := hide (toks_end (l := l) (unhide HQ) (k := 4) (x := []) (n := 0) (by rw [hqe, List.drop_length]; rfl) (by omega))
        subst hqe
        go_wp2_with (at_builtin; refine wpList_append_at _ rfl _ _ 215 rfl w.heap.size 218 i1 (.agg #[.int .i64 0, .int .i64 0, .string ByteArray.empty]) 3 32 Tryz.underlying215 hi1 hz1 hs1 hb1 rfl (by decide) _ _ _ rfl (hown.alloc _) (some ⟨wr.heap.size, 0, none⟩) 1 1 [.int .i64 4, .int .i64 l.length, SV []] rfl rfl (by intro e; cases e) (cells_new wr _ _) (by intro u hu; simp at hu; rcases hu with rfl | rfl | rfl <;> rfl) (by unfold maxLen; omega) (by omega) (by simp; omega) ?_; intro v2 w4 hown4 hgrow4 hwh4; have hb4 := (hbel.alloc hsz (.cells ([.int .i64 4, .int .i64 l.length, SV []]).toArray 218)).grown hgrow4 (by simp; omega) (fun k hk => (hown.lt k hk).1); clear hgrow4 hwh4)
        go_ret
        exact ⟨_, rfl, tok_last (unhide HT) (unhide HS) hown4, hb4⟩

end Go.Proofs.YtbljamcdaoofbaaGreatDoor
