/- The reference's Push: what it answers, and what it leaves in memory. -/
import Derived.Test.YtbljamcdaoofbaaGreatDoorRef
import Derived.Deep.DeepCutAuto
namespace Go.Proofs.YtbljamcdaoofbaaGreatDoor
open Go.RowKit

theorem Tryz.info155 : (Tryz.prog.info? 155).map (fun i => (i.zero, i.size, i.bytes)) = some (some (.agg #[.string ByteArray.empty, .int .i64 0]), 2, 24) := by kernel_rfl
theorem Tryz.info38 : (Tryz.prog.info? 38).map (fun i => (i.zero, i.size, i.bytes)) = some (some (.agg #[.string ByteArray.empty, .int .i64 0, .string ByteArray.empty]), 3, 40) := by kernel_rfl

/-- a row stays where its block stays -/
theorem ownsRow_same {w w' : World} {base : Nat} {e : TypeId} {size : Nat} {v : Value} {n : Nat} {xs : List Value} (h : w.ownsRow base e size v n xs)
    (hb : ∀ g, v.ownBlock = some g → w'.heap[g]? = w.heap[g]?) : w'.ownsRow base e size v n xs := by
  refine ⟨h.1, ?_⟩
  rcases h.2 with h2 | ⟨g, cap, cur, rfl, hg, hh, r⟩
  · exact .inl h2
  · exact .inr ⟨g, cap, cur, rfl, hg, by rw [hb g rfl]; exact hh, r⟩

theorem ownsRow_type {w : World} {base : Nat} {e : TypeId} {size : Nat} {v : Value} {n : Nat} {xs : List Value} (h : w.ownsRow base e size v n xs) {g : Nat} (hv : v.ownBlock = some g) :
    g < w.heap.size ∧ ∃ cur, w.heap[g]? = some (.cells cur e (0, 0)) := by
  rcases h.2 with ⟨rfl, _⟩ | ⟨g', cap, cur, rfl, hg, hh, r⟩
  · simp [Value.ownBlock] at hv
  · simp [Value.ownBlock] at hv
    subst hv
    exact ⟨(Array.getElem?_eq_some_iff.1 hh).1, cur, hh⟩

/-- two rows, or a row and a block, of different types lie in different blocks -/
theorem ne_of_type {w : World} {a b : Nat} {c c' : Array Value} {e e' : TypeId} {f f' : Nat × Nat} (ha : w.heap[a]? = some (.cells c e f)) (hb : w.heap[b]? = some (.cells c' e' f')) (h : e ≠ e') : a ≠ b := by
  intro hab
  subst hab
  rw [ha] at hb
  simp at hb
  exact h hb.2.1

theorem RefAt.keep {w w' : World} {F : Nat → Prop} {p : Nat} {S : List Strm} {L : List Rw} {vS vL : Value} (h : RefAt w F p S L vS vL)
    (hk : ∀ b, b < w.heap.size → F b → w'.heap[b]? = w.heap[b]?) : RefAt w' F p S L vS vL := by
  refine ⟨?_, ?_, ?_, h.inF, h.inS, h.inL⟩
  · rw [hk p (Array.getElem?_eq_some_iff.1 h.block).1 h.inF]; exact h.block
  · exact ownsRow_same h.rowS fun g hg => hk g (ownsRow_type h.rowS hg).1 (h.inS g hg)
  · exact ownsRow_same h.rowL fun g hg => hk g (ownsRow_type h.rowL hg).1 (h.inL g hg)

theorem RefAt.weaken {w : World} {F G : Nat → Prop} {p : Nat} {S : List Strm} {L : List Rw} {vS vL : Value} (h : RefAt w F p S L vS vL) (hFG : ∀ b, F b → G b) : RefAt w G p S L vS vL :=
  ⟨h.block, h.rowS, h.rowL, hFG _ h.inF, fun g hg => hFG _ (h.inS g hg), fun g hg => hFG _ (h.inL g hg)⟩

/-- one cell of a block of two is written -/
theorem block2_set0 {w : World} {p : Nat} {v0 v1 : Value} {t : TypeId} (h : w.heap[p]? = some (.cells #[v0, v1] t (0, 0))) (u : Value) :
    (w.setCell ⟨p, 0, none⟩ u).heap[p]? = some (.cells #[u, v1] t (0, 0)) := by
  simp [World.setCell, Array.getElem?_modify, h]
theorem block2_set1 {w : World} {p : Nat} {v0 v1 : Value} {t : TypeId} (h : w.heap[p]? = some (.cells #[v0, v1] t (0, 0))) (u : Value) :
    (w.setCell ⟨p, 1, none⟩ u).heap[p]? = some (.cells #[v0, u] t (0, 0)) := by
  simp [World.setCell, Array.getElem?_modify, h]

/-- F, and all that is new -/
def Plus (F : Nat → Prop) (w : World) : Nat → Prop := fun b => F b ∨ w.heap.size ≤ b

theorem RefAt.appS {w w2 : World} {F : Nat → Prop} {p : Nat} {S : List Strm} {L : List Rw} {vS vL v' : Value} {o : Obj} {y : Strm} (h : RefAt w F p S L vS vL)
    (hg : (w.alloc o).grownBy w2 vS.ownBlock) (ho : w2.ownsRow 0 155 2 v' (S.length + 1) (S.flatMap cellsS ++ cellsS y))
    (hw : v'.ownBlock = vS.ownBlock ∨ v'.ownBlock = some (w.alloc o).heap.size) :
    RefAt (w2.setCell ⟨p, 0, none⟩ v') (Plus F w) p (S ++ [y]) L v' vL ∧ w2.cell? ⟨p, 0, none⟩ = some vS ∧ w2.frozen? ⟨p, 0, none⟩ = false ∧ Moved F w (w2.setCell ⟨p, 0, none⟩ v') := by
  have hpl := (Array.getElem?_eq_some_iff.1 h.block).1
  have hm : Moved F w w2 := ((Moved.refl F w).alloc o).grown hg (fun k hk => .inl (h.inS k hk))
  have hp2 : w2.heap[p]? = some (.cells #[vS, vL] 114 (0, 0)) := by
    rw [hg.block p (by simp; omega) (fun e => ?_), Go.RowKit.Below.heap_alloc w o p hpl, h.block]
    obtain ⟨_, cur, hc⟩ := ownsRow_type h.rowS e.symm
    exact ne_of_type hc h.block (by decide) rfl
  obtain ⟨c0, _, hf⟩ := cell_of_block2 hp2
  have hL2 : w2.ownsRow 0 38 3 vL L.length (L.flatMap cellsR) := ownsRow_same h.rowL fun g hgL => by
    obtain ⟨hgl, cur, hc⟩ := ownsRow_type h.rowL hgL
    rw [hg.block g (by simp; omega) (fun e => ?_), Go.RowKit.Below.heap_alloc w o g hgl]
    obtain ⟨_, cur', hc'⟩ := ownsRow_type h.rowS e.symm
    exact ne_of_type hc hc' (by decide) rfl
  refine ⟨⟨block2_set0 hp2 v', ?_, ?_, .inl h.inF, ?_, fun g hg => .inl (h.inL g hg)⟩, c0, hf 0, hm.setCell (.inl h.inF) _⟩
  · rw [List.flatMap_append, List.length_append, List.length_singleton]
    simp only [List.flatMap_cons, List.flatMap_nil, List.append_nil]
    refine ownsRow_same ho fun g hgo => Below.heap_setCell _ _ _ _ ?_
    obtain ⟨_, cur, hc⟩ := ownsRow_type ho hgo
    exact ne_of_type hc hp2 (by decide)
  · refine ownsRow_same hL2 fun g hgo => Below.heap_setCell _ _ _ _ ?_
    obtain ⟨_, cur, hc⟩ := ownsRow_type hL2 hgo
    exact ne_of_type hc hp2 (by decide)
  · intro g hgo
    rcases hw with hw | hw
    · exact .inl (h.inS g (hw ▸ hgo))
    · rw [hgo] at hw
      simp at hw
      right; omega

theorem RefAt.appL {w w2 : World} {F : Nat → Prop} {p : Nat} {S : List Strm} {L : List Rw} {vS vL v' : Value} {o : Obj} {y : Rw} (h : RefAt w F p S L vS vL)
    (hg : (w.alloc o).grownBy w2 vL.ownBlock) (ho : w2.ownsRow 0 38 3 v' (L.length + 1) (L.flatMap cellsR ++ cellsR y))
    (hw : v'.ownBlock = vL.ownBlock ∨ v'.ownBlock = some (w.alloc o).heap.size) :
    RefAt (w2.setCell ⟨p, 1, none⟩ v') (Plus F w) p S (L ++ [y]) vS v' ∧ w2.cell? ⟨p, 1, none⟩ = some vL ∧ w2.frozen? ⟨p, 1, none⟩ = false ∧ Moved F w (w2.setCell ⟨p, 1, none⟩ v') := by
  have hpl := (Array.getElem?_eq_some_iff.1 h.block).1
  have hm : Moved F w w2 := ((Moved.refl F w).alloc o).grown hg (fun k hk => .inl (h.inL k hk))
  have hp2 : w2.heap[p]? = some (.cells #[vS, vL] 114 (0, 0)) := by
    rw [hg.block p (by simp; omega) (fun e => ?_), Go.RowKit.Below.heap_alloc w o p hpl, h.block]
    obtain ⟨_, cur, hc⟩ := ownsRow_type h.rowL e.symm
    exact ne_of_type hc h.block (by decide) rfl
  obtain ⟨_, c1, hf⟩ := cell_of_block2 hp2
  have hS2 : w2.ownsRow 0 155 2 vS S.length (S.flatMap cellsS) := ownsRow_same h.rowS fun g hgL => by
    obtain ⟨hgl, cur, hc⟩ := ownsRow_type h.rowS hgL
    rw [hg.block g (by simp; omega) (fun e => ?_), Go.RowKit.Below.heap_alloc w o g hgl]
    obtain ⟨_, cur', hc'⟩ := ownsRow_type h.rowL e.symm
    exact ne_of_type hc hc' (by decide) rfl
  refine ⟨⟨block2_set1 hp2 v', ?_, ?_, .inl h.inF, fun g hg => .inl (h.inS g hg), ?_⟩, c1, hf 1, hm.setCell (.inl h.inF) _⟩
  · refine ownsRow_same hS2 fun g hgo => Below.heap_setCell _ _ _ _ ?_
    obtain ⟨_, cur, hc⟩ := ownsRow_type hS2 hgo
    exact ne_of_type hc hp2 (by decide)
  · rw [List.flatMap_append, List.length_append, List.length_singleton]
    simp only [List.flatMap_cons, List.flatMap_nil, List.append_nil]
    refine ownsRow_same ho fun g hgo => Below.heap_setCell _ _ _ _ ?_
    obtain ⟨_, cur, hc⟩ := ownsRow_type ho hgo
    exact ne_of_type hc hp2 (by decide)
  · intro g hgo
    rcases hw with hw | hw
    · exact .inl (h.inL g (hw ▸ hgo))
    · rw [hgo] at hw
      simp at hw
      right; omega

theorem cellsS_set (S : List Strm) (k : Nat) (t : Int) (h : k < S.length) : (S.flatMap cellsS).set (k * 2 + 1) (.int .i64 t) = (S.set k (S[k].1, t)).flatMap cellsS := by
  induction S generalizing k with
  | nil => simp at h
  | cons x S ih =>
    cases k with
    | zero => simp [cellsS]
    | succ k =>
      have := ih k (by simpa using h)
      simp only [List.flatMap_cons, cellsS, List.cons_append, List.nil_append, Nat.add_mul, Nat.one_mul, List.set_cons_succ, List.getElem_cons_succ] at this ⊢
      rw [this]

theorem RefAt.setLast {w : World} {F : Nat → Prop} {p g cap n : Nat} {S : List Strm} {L : List Rw} {vL : Value} {k : Nat} (t : Int) (h : RefAt w F p S L (.slice (some ⟨g, 0, none⟩) n cap) vL) (hk : k < S.length) :
    RefAt (w.setCell ⟨g, k * 2 + 1, none⟩ (.int .i64 t)) F p (S.set k (S[k].1, t)) L (.slice (some ⟨g, 0, none⟩) n cap) vL ∧ Moved F w (w.setCell ⟨g, k * 2 + 1, none⟩ (.int .i64 t)) := by
  obtain ⟨hgl, cur, hc⟩ := ownsRow_type h.rowS (g := g) rfl
  have hn : n = S.length := by
    rcases h.rowS.2 with ⟨h', _⟩ | ⟨g', cap', cur', h', _⟩
    · simp at h'
    · simp at h'; exact h'.2.1
  subst hn
  refine ⟨⟨?_, ?_, ?_, h.inF, h.inS, h.inL⟩, (Moved.refl F w).setCell (.inl (h.inS g rfl)) _⟩
  · rw [Go.RowKit.Below.heap_setCell _ _ _ _ (ne_of_type h.block hc (by decide))]; exact h.block
  · have := (h.rowS.stored (k * 2 + 1) (.int .i64 t)).1
    rw [cellsS_set S k t hk] at this
    simpa using this
  · refine ownsRow_same h.rowL fun g' hgo => Go.RowKit.Below.heap_setCell _ _ _ _ ?_
    obtain ⟨_, cur', hc'⟩ := ownsRow_type h.rowL hgo
    exact ne_of_type hc' hc (by decide)

def pushR (S : List Strm) (L : List Rw) (l : List UInt8) (t : Int) (x : List UInt8) : Int × List Strm × List Rw :=
  if labelsB l = false then (1, S, L)
  else if timeB t = false then (2, S, L)
  else if 40 < x.length then (3, S, L)
  else if h : at_ S l < S.length then
    if t < S[at_ S l].2 then (4, S, L)
    else if 300 ≤ L.length then (6, S, L)
    else (0, S.set (at_ S l) (S[at_ S l].1, t), L ++ [(l, t, x)])
  else if 6 ≤ S.length then (5, S, L)
  else if 300 ≤ L.length then (6, S, L)
  else (0, S ++ [(l, t)], L ++ [(l, t, x)])

theorem Plus.up {F : Nat → Prop} {w W : World} (h : w.heap.size ≤ W.heap.size) : ∀ b, Plus F W b → Plus F w b := by
  rintro b (hb | hb)
  · exact .inl hb
  · exact .inr (by omega)

set_option maxRecDepth 10000 in
set_option maxHeartbeats 4000000 in
theorem refPush_any {F : Nat → Prop} {p : Nat} {S : List Strm} {L : List Rw} {vS vL : Value} (l x : List UInt8) (t : Int) (w : World) (hr : RefAt w F p S L vS vL) (hS : S.length ≤ 6) (hL : L.length ≤ 300) (hl : l.length ≤ 1048576) (hx : x.length ≤ 1048576) :
    Calls Tryz.prog 56 #[.pointer (some ⟨p, 0, none⟩), .string ⟨l.toArray⟩, .int .i64 t, .string ⟨x.toArray⟩] w fun e w' =>
      e = .returned (.int .i64 (pushR S L l t x).1) ∧ (∃ vS' vL', RefAt w' (Plus F w) p (pushR S L l t x).2.1 (pushR S L l t x).2.2 vS' vL') ∧ Moved F w w' := by
  generalize hres : pushR S L l t x = res
  have HR := hide hres
  clear hres
  go_enter Tryz.func56, Tryz.ntmps56
  go_wp2_with fail
  refine (isLabels_l l _ hl).mono ?_
  rintro e w1 ⟨rfl, hb1⟩
  have hm1 : Moved F w w1 := Moved.of_below hb1
  have hr1 : RefAt w1 F p S L vS vL := hr.keep fun b hb _ => hb1.block b hb
  go_wp2_with fail
  refine (times_any t _).mono ?_
  rintro e w2 ⟨rfl, rfl⟩
  go_wp2_with fail
  refine (where_any l _ hr1 hS).mono ?_
  rintro e w3 ⟨rfl, rfl⟩
  have hr1p := hr1.weaken (G := Plus F w) (fun b hb => .inl hb)
  cases h1 : labelsB l with
  | false =>
    go_wp2
    go_ret
    rw [← unhide HR, pushR, if_pos h1]
    exact ⟨rfl, ⟨_, _, hr1p⟩, hm1⟩
  | true =>
    cases h2 : timeB t with
    | false =>
      go_wp2
      go_ret
      rw [← unhide HR, pushR, if_neg (by simp [h1]), if_pos h2]
      exact ⟨rfl, ⟨_, _, hr1p⟩, hm1⟩
    | true =>
      by_cases h3 : (40 : Int) < x.length
      · go_wp2
        go_ret
        rw [← unhide HR, pushR, if_neg (by simp [h1]), if_neg (by simp [h2]), if_pos (by omega)]
        exact ⟨rfl, ⟨_, _, hr1p⟩, hm1⟩
      · obtain ⟨i0, hi0, hz0, hs0, hb0⟩ := info_parts Tryz.info155
        obtain ⟨i1, hi1, hz1, hs1, hb1'⟩ := info_parts Tryz.info38
        obtain ⟨c0, c1, fp⟩ := cell_of_block2 hr1.block
        obtain ⟨aL, capL, rfl, -, -, -, -, -, -⟩ := owns_form hr1.rowL
        by_cases hk : at_ S l < S.length
        · have hpos : 0 < S.length := by omega
          obtain ⟨g, cap, rfl, -, hgw, hnc, hcm, hcell, hfz⟩ := owns_open hr1.rowS hpos
          have hw : whereI S l = (at_ S l : Int) := by rw [whereI, if_pos hk]
          rw [hw]
          clear hw
          have hres : pushR S L l t x = if t < S[at_ S l].2 then (4, S, L) else if 300 ≤ L.length then (6, S, L) else (0, S.set (at_ S l) (S[at_ S l].1, t), L ++ [(l, t, x)]) := by
            rw [pushR, if_neg (by simp [h1]), if_neg (by simp [h2]), if_neg (by omega), dif_pos hk]
          have HR2 := hide (hres.symm.trans (unhide HR))
          clear hres HR
          generalize at_ S l = k at *
          have hc := hcell (k * 2 + 1) (by omega)
          rw [(cellsS_at S k hk).2] at hc
          have hf := hfz (k * 2 + 1)
          clear hcell hfz
          by_cases h4 : t < S[k].2
          · go_wp2
            go_ret
            rw [← unhide HR2, if_pos h4]
            exact ⟨rfl, ⟨_, _, hr1p⟩, hm1⟩
          · by_cases h6 : (300 : Int) ≤ L.length
            · go_wp2
              go_ret
              rw [← unhide HR2, if_neg (by omega), if_pos (by omega)]
              exact ⟨rfl, ⟨_, _, hr1p⟩, hm1⟩
            · go_upto_region 20 with fail
              obtain ⟨hrW, hmW⟩ := hr1.setLast t hk
              generalize w3.setCell ⟨g, k * 2 + 1, none⟩ (.int .i64 t) = W at *
              obtain ⟨cW0, cW1, fW⟩ := cell_of_block2 hrW.block
              go_wp2_with (at_builtin; refine wpList_append_here _ rfl (.tmp 92) (.tmp 97) 28 rfl 38 i1 (.agg #[.string ByteArray.empty, .int .i64 0, .string ByteArray.empty]) 3 40 Tryz.underlying28 hi1 hz1 hs1 hb1' rfl (by decide) _ _ _ rfl (hrW.rowL.alloc _) (some ⟨W.heap.size, 0, none⟩) 1 1 (cellsR (l, t, x)) rfl rfl (by intro e; cases e) (cells_new W _ _) (by intro u hu; simp [cellsR] at hu; rcases hu with rfl | rfl | rfl <;> rfl) (by unfold maxLen; omega) (by omega) ?_; intro v2 w4 hown4 hgrow4 hwh4; obtain ⟨a2, cap2, rfl, -, -, -, -, -, -⟩ := owns_form hown4; obtain ⟨hrf, cL, fL, hmf⟩ := hrW.appL hgrow4 hown4 hwh4; clear hgrow4 hown4 hwh4)
              go_ret
              rw [← unhide HR2, if_neg (by omega), if_neg (by omega)]
              exact ⟨rfl, ⟨_, _, hrf.weaken (Plus.up (by have := hm1.size; have := hmW.size; omega))⟩, (hm1.trans hmW (fun _ h => .inl h)).trans hmf (fun _ h => .inl h)⟩
        · have hw : whereI S l = -1 := by rw [whereI, if_neg hk]
          rw [hw]
          clear hw
          have hres : pushR S L l t x = if 6 ≤ S.length then (5, S, L) else if 300 ≤ L.length then (6, S, L) else (0, S ++ [(l, t)], L ++ [(l, t, x)]) := by
            rw [pushR, if_neg (by simp [h1]), if_neg (by simp [h2]), if_neg (by omega), dif_neg hk]
          have HR2 := hide (hres.symm.trans (unhide HR))
          clear hres HR hk
          obtain ⟨aS, capS, rfl, -, -, -, -, -, -⟩ := owns_form hr1.rowS
          by_cases h5 : (6 : Int) ≤ S.length
          · go_wp2
            go_ret
            rw [← unhide HR2, if_pos (by omega)]
            exact ⟨rfl, ⟨_, _, hr1p⟩, hm1⟩
          · by_cases h6 : (300 : Int) ≤ L.length
            · go_wp2
              go_ret
              rw [← unhide HR2, if_neg (by omega), if_pos (by omega)]
              exact ⟨rfl, ⟨_, _, hr1p⟩, hm1⟩
            · go_upto_region 19 with (at_builtin; refine wpList_append_here _ rfl (.tmp 73) (.tmp 76) 112 rfl 155 i0 (.agg #[.string ByteArray.empty, .int .i64 0]) 2 24 Tryz.underlying112 hi0 hz0 hs0 hb0 rfl (by decide) _ _ _ rfl (hr1.rowS.alloc _) (some ⟨w3.heap.size, 0, none⟩) 1 1 (cellsS (l, 0)) rfl rfl (by intro e; cases e) (cells_new w3 _ _) (by intro u hu; simp [cellsS] at hu; rcases hu with rfl | rfl <;> rfl) (by unfold maxLen; omega) (by omega) ?_; intro v2 w4 hown4 hgrow4 hwh4; obtain ⟨g, cap, rfl, -, -, -, -, -, -⟩ := owns_open hown4 (by omega); obtain ⟨hrU, cS, fS, hmU⟩ := hr1.appS hgrow4 hown4 hwh4; clear hgrow4 hown4 hwh4)
              have hUf := cell_of_block2 hrU.block
              generalize w4.setCell ⟨p, 0, none⟩ (.slice (some ⟨g, 0, none⟩) (S.length + 1) cap) = U at *
              obtain ⟨cU0, cU1, fU⟩ := hUf
              have hkU : S.length < (S ++ [(l, (0 : Int))]).length := by simp
              have hcU : U.cell? ⟨g, S.length * 2 + 1, none⟩ = some (.int .i64 0) := by
                have hlen : (S ++ [(l, (0 : Int))]).length = S.length + 1 := by simp
                have hrS := hrU.rowS
                rw [hlen] at hrS
                rw [hrS.cellAt (S.length * 2 + 1) (by omega), (cellsS_at _ _ hkU).2]
                simp
              have hfU : U.frozen? ⟨g, S.length * 2 + 1, none⟩ = false := by
                have hlen : (S ++ [(l, (0 : Int))]).length = S.length + 1 := by simp
                have hrS := hrU.rowS
                rw [hlen] at hrS
                exact hrS.frozenAt _
              go_upto_region 20 with fail
              obtain ⟨hrW, hmW⟩ := hrU.setLast t hkU
              generalize U.setCell ⟨g, S.length * 2 + 1, none⟩ (.int .i64 t) = W at *
              have hset : (S ++ [(l, (0 : Int))]).set S.length ((S ++ [(l, (0 : Int))])[S.length].1, t) = S ++ [(l, t)] := by simp
              rw [hset] at hrW
              clear hset
              obtain ⟨cW0, cW1, fW⟩ := cell_of_block2 hrW.block
              go_wp2_with (at_builtin; refine wpList_append_here _ rfl (.tmp 92) (.tmp 97) 28 rfl 38 i1 (.agg #[.string ByteArray.empty, .int .i64 0, .string ByteArray.empty]) 3 40 Tryz.underlying28 hi1 hz1 hs1 hb1' rfl (by decide) _ _ _ rfl (hrW.rowL.alloc _) (some ⟨W.heap.size, 0, none⟩) 1 1 (cellsR (l, t, x)) rfl rfl (by intro e; cases e) (cells_new W _ _) (by intro u hu; simp [cellsR] at hu; rcases hu with rfl | rfl | rfl <;> rfl) (by unfold maxLen; omega) (by omega) ?_; intro v2 w4 hown4 hgrow4 hwh4; obtain ⟨a2, cap2, rfl, -, -, -, -, -, -⟩ := owns_form hown4; obtain ⟨hrf, cL, fL, hmf⟩ := hrW.appL hgrow4 hown4 hwh4; clear hgrow4 hown4 hwh4)
              go_ret
              rw [← unhide HR2, if_neg (by omega), if_neg (by omega)]
              exact ⟨rfl, ⟨_, _, hrf.weaken (fun b hb => Plus.up hm1.size b (by rcases hb with hb | hb; exact hb; exact .inr (by have := hmU.size; have := hmW.size; omega)))⟩,
                (hm1.trans (hmU.trans hmW (fun _ h => h)) (fun _ h => .inl h)).trans hmf (fun _ h => by rcases h with h | h; exact .inl h; exact .inr (by have := hm1.size; omega))⟩

end Go.Proofs.YtbljamcdaoofbaaGreatDoor
