/- Texts PGCopy, RNum, FloatPure, FloatDiv, FloatWord, joined. -/
import Derived.Test.YtbljamcdaoofbaaGreatDoorPInsertToPPush2
import Derived.Test.YtbljamcdaoofbaaGreatDoorRSpanToPMeas
import Derived.Laws.FloatArith
/- copy and append of a make, of elements of several cells. -/
namespace Go.Proofs.YtbljamcdaoofbaaGreatDoor
open Go.RowKit

theorem run_copy_many {P : Program} (w : World) (dT sT ty elem : TypeId) (sz g o dLen dCap : Nat) (a : Addr) (sLen sCap : Nat) (cur : Array Value) (t : TypeId) (cs : List Value)
    (hu : P.underlying dT = some (.slice elem)) (hs : (P.info? elem).map (·.size) = some sz)
    (hg : w.heap[g]? = some (.cells cur t (0, 0))) (hn : cs.length = Nat.min sLen dLen * sz)
    (hsrc : ∀ j v, cs[j]? = some v → w.cell? (a.add j) = some v) (hfit : o + cs.length ≤ cur.size) (h1 : ∀ v ∈ cs, v.oneCell' = true) :
    (Builtin.copy_ #[dT, sT] ty #[.slice (some ⟨g, o, none⟩) dLen dCap, .slice (some a) sLen sCap]).run P w =
      .ok (goInt (Nat.min sLen dLen)) (w.setRow g (cur.toList.take o ++ cs ++ cur.toList.drop (o + cs.length)).toArray) := by
  have hl := run_loadCells_list (P := P) w a cs hsrc
  have hst := run_storeCells_at P g o t cs 0 cur w hg (by simpa using hfit) h1
  cases hq : P.info? elem with
  | none => simp [hq] at hs
  | some i =>
    have hi : i.size = sz := by simpa [hq] using hs
    rw [hn] at hl
    simp [Builtin.copy_, run_underlying hu, Builtin.lenOf, Builtin.firstCells, sizeOf, typeInfo, hq, hi, hl, hst]

theorem wp_copy_many {P : Program} (w : World) {o : Oper} {a : Act} {K : Act → World → Prop} {Q : Exit → Act → World → Prop} (d s : Operand) (dT sT : TypeId)
    (ho : o.op = .call { callee := .builtin .copy, args := #[d, s], argTypes := #[dT, sT] }) (elem : TypeId) (sz : Nat) (hu : P.underlying dT = some (.slice elem)) (hsz : (P.info? elem).map (·.size) = some sz)
    (g off dLen dCap : Nat) (ad : Addr) (sLen sCap : Nat) (hd : a.eval d = .slice (some ⟨g, off, none⟩) dLen dCap) (hs : a.eval s = .slice (some ad) sLen sCap)
    (cur : Array Value) (t : TypeId) (hg : w.heap[g]? = some (.cells cur t (0, 0))) (cs : List Value) (hn : cs.length = Nat.min sLen dLen * sz)
    (hsrc : ∀ j v, cs[j]? = some v → w.cell? (ad.add j) = some v) (hfit : off + cs.length ≤ cur.size) (h1 : ∀ v ∈ cs, v.oneCell' = true)
    (h : ∀ w', w'.heap[g]? = some (.cells (spl cur off cs) t (0, 0)) → w.grownBy w' (some g) → K (a.put o.dst (goInt (Nat.min sLen dLen))) w') : o.wp P a w K Q := by
  have hrun := run_copy_many (P := P) w dT sT o.type elem sz g off dLen dCap ad sLen sCap cur t cs hu hsz hg hn hsrc hfit h1
  unfold Oper.wp execOp
  simp only [ho, resolve, invoke, builtin, Sem.run_bind, Sem.run_pure, Result.andThen_ok, List.map_toArray, List.map_cons, List.map_nil, hd, hs, hrun]
  refine h _ ?_ ?_
  · exact setRow_heap w g cur _ t _ hg
  · exact ⟨rfl, rfl, rfl, by simp [World.setRow], fun k _ hk => setRow_other w g k _ (fun e => hk (by rw [e]))⟩

theorem wpList_copy_many {P : Program} (w : World) {ops : Array Oper} {rest : List Oper} {o : Oper} {a : Act} {Q : Exit → Act → World → Prop} (hgd : o.guard = none) (d s : Operand) (dT sT : TypeId)
    (ho : o.op = .call { callee := .builtin .copy, args := #[d, s], argTypes := #[dT, sT] }) (elem : TypeId) (sz : Nat) (hu : P.underlying dT = some (.slice elem)) (hsz : (P.info? elem).map (·.size) = some sz)
    (g off dLen dCap : Nat) (ad : Addr) (sLen sCap : Nat) (hd : a.eval d = .slice (some ⟨g, off, none⟩) dLen dCap) (hs : a.eval s = .slice (some ad) sLen sCap)
    (cur : Array Value) (t : TypeId) (hg : w.heap[g]? = some (.cells cur t (0, 0))) (cs : List Value) (hn : cs.length = Nat.min sLen dLen * sz)
    (hsrc : ∀ j v, cs[j]? = some v → w.cell? (ad.add j) = some v) (hfit : off + cs.length ≤ cur.size) (h1 : ∀ v ∈ cs, v.oneCell' = true)
    (h : ∀ w', w'.heap[g]? = some (.cells (spl cur off cs) t (0, 0)) → w.grownBy w' (some g) → wpList P ops Q rest (a.put o.dst (goInt (Nat.min sLen dLen))) w') : wpList P ops Q (o :: rest) a w :=
  wpList_plain hgd fun _ hK => wp_copy_many w d s dT sT ho elem sz hu hsz g off dLen dCap ad sLen sCap hd hs cur t hg cs hn hsrc hfit h1 fun w' h2 h3 => hK _ _ (h w' h2 h3)

theorem step_copy_many {P : Program} {ops : Array Oper} {o : Oper} {a : Act} {w : World} {K : Act → World → Prop} {Q : Exit → Act → World → Prop} {E : Prop} (hgd : o.guard = none) (d s : Operand) (dT sT : TypeId)
    (ho : o.op = .call { callee := .builtin .copy, args := #[d, s], argTypes := #[dT, sT] }) (elem : TypeId) (sz : Nat) (hu : P.underlying dT = some (.slice elem)) (hsz : (P.info? elem).map (·.size) = some sz)
    (g off dLen dCap : Nat) (ad : Addr) (sLen sCap : Nat) (hd : a.eval d = .slice (some ⟨g, off, none⟩) dLen dCap) (hs : a.eval s = .slice (some ad) sLen sCap)
    (cur : Array Value) (t : TypeId) (hg : w.heap[g]? = some (.cells cur t (0, 0))) (cs : List Value) (hn : cs.length = Nat.min sLen dLen * sz)
    (hsrc : ∀ j v, cs[j]? = some v → w.cell? (ad.add j) = some v) (hfit : off + cs.length ≤ cur.size) (h1 : ∀ v ∈ cs, v.oneCell' = true)
    (h : ∀ w', w'.heap[g]? = some (.cells (spl cur off cs) t (0, 0)) → w.grownBy w' (some g) → K (a.put o.dst (goInt (Nat.min sLen dLen))) w') :
    if Region.wanted o (yielded ops a.tmps) = true then Oper.wp P o a w K Q else E := by
  have hw : Region.wanted o (yielded ops a.tmps) = true := by simp [Region.wanted, hgd]
  rw [if_pos hw]
  exact wp_copy_many w d s dT sT ho elem sz hu hsz g off dLen dCap ad sLen sCap hd hs cur t hg cs hn hsrc hfit h1 h

/-- an append of a make, where there is no room -/
theorem wpList_append_zeros_many {P : Program} (w : World) {ops : Array Oper} {rest : List Oper} {o : Oper} {a : Act} {Q : Exit → Act → World → Prop} (hgd : o.guard = none) (s x : Operand) (t tn : TypeId)
    (ho : o.op = .call { callee := .builtin .append, args := #[s, x], argTypes := #[t, tn] }) (e : TypeId) (i : TypeInfo) (z : Value) (sz : Nat) (ht : P.underlying t = some (.slice e)) (htn : P.underlying tn = some (.int .i64)) (hi : P.info? e = some i) (hz : i.zero = some z)
    (hsz : i.size = sz) (hsz0 : 0 < sz) (hzs : z.cells.size = sz) (ad : Addr) (k cap m : Nat) (olds : List Value) (hol : olds.length = k * sz) (holds : ∀ j v, olds[j]? = some v → w.cell? (ad.add j) = some v)
    (hs : a.eval s = .slice (some ad) k cap) (q : Int) (hq : q = m) (hx : a.eval x = .int .i64 q) (h0 : 0 < m) (hg : cap < k + m) (h63 : k + m ≤ maxLen) (h47 : (k + m) * i.bytes ≤ 140737488355328)
    (h : ∀ w' G ROW, w'.heap[w.heap.size]? = some (.cells ROW e (0, 0)) → k + m ≤ G → G ≤ maxLen → ROW.size = G * sz → ROW.toList.take (k * sz) = olds → w.grownBy w' none → wpList P ops Q rest (a.put o.dst (.slice (some ⟨w.heap.size, 0, none⟩) (k + m) G)) w') : wpList P ops Q (o :: rest) a w := by
  subst hq
  have hold : (Builtin.firstCells i.size k (.slice (some ad) k cap)).run P w.drew = .ok olds.toArray w.drew :=
    run_firstCells_some w.drew i.size k ad k cap olds (by rw [hsz]; exact hol) (by simpa using holds)
  have h63' : k + m ≤ 9223372036854775807 := by unfold maxLen at h63; omega
  have h48 : m * i.bytes ≤ 281474976710656 := by
    have : m * i.bytes ≤ (k + m) * i.bytes := Nat.mul_le_mul_right _ (by omega)
    omega
  have hr := Lib.run_append_grow_zeros (P := P) w t tn o.type e i z .i64 .i64 ht htn hi hz (some ad) k cap olds hold m h0 (by omega) hg (by omega) h48 (growslice_fits hg h47)
  refine Lib.wpList_append_run w hgd s x t tn ho _ _ hs hx _ _ hr ?_
  refine h _ _ _ (heap_alloc_new w.drew _) (grownCap_ge w _ _ _) (grownCap_le_maxLen w _ _ _ h63) ?_ ?_ ⟨rfl, rfl, rfl, by simp, fun j hj _ => Go.RowKit.Below.heap_alloc w.drew _ j hj⟩
  · have hge := grownCap_ge w (k + m) cap e
    simp only [Array.size_append, List.size_toArray, hol, size_zeroCells, hzs]
    rw [← Nat.add_mul, ← Nat.add_mul]
    congr 1
    omega
  · simp only [Array.toList_append, List.append_assoc]
    rw [← hol]
    exact List.take_left

end Go.Proofs.YtbljamcdaoofbaaGreatDoor

/- The number that a line is: as a function, and the reference's. -/
namespace Go.Proofs.YtbljamcdaoofbaaGreatDoor
open Go.RowKit

/-- the digits of a line -/
def numS (l : List UInt8) : List UInt8 := if l.head? = some 45 then l.drop 1 else l
/-- is a line a number? -/
def numB (l : List UInt8) : Bool := (numS l).all isD && decide (1 ≤ (numS l).length) && decide ((numS l).length ≤ 6)
/-- the number -/
def numV (l : List UInt8) : Int := if numB l = true then (if l.head? = some 45 then -(spanL (numS l) : Int) else (spanL (numS l) : Int)) else 0

theorem takeWhile_len (p : UInt8 → Bool) (l : List UInt8) : (l.takeWhile p).length ≤ l.length := List.Sublist.length_le (List.takeWhile_sublist p)

theorem takeWhile_all_len (p : UInt8 → Bool) (l : List UInt8) : ((l.takeWhile p).length = l.length) ↔ l.all p = true := by
  induction l with
  | nil => simp
  | cons c r ih =>
    by_cases h : p c = true
    · rw [List.takeWhile_cons_of_pos h]
      simp [h, ih]
    · rw [List.takeWhile_cons_of_neg h]
      simp [h]

theorem numB_lt {l : List UInt8} (h : numB l = true) : (numS l).all isD = true ∧ 1 ≤ (numS l).length ∧ (numS l).length ≤ 6 := by
  unfold numB at h
  simp only [Bool.and_eq_true, decide_eq_true_eq] at h
  exact ⟨h.1.1, h.1.2, h.2⟩

theorem all_take {p : UInt8 → Bool} {l : List UInt8} (h : l.all p = true) : l.takeWhile p = l := by
  induction l with
  | nil => rfl
  | cons c r ih =>
    rw [List.all_cons, Bool.and_eq_true] at h
    rw [List.takeWhile_cons_of_pos h.1, ih h.2]

def NumP (l : List UInt8) (w : World) (e : Ending) (w' : World) : Prop := e = .returned (.tuple #[.int .i64 (numV l), .bool (numB l)]) ∧ w' = w

/-- what both ways come to -/
theorem numV_of {l s : List UInt8} (hs : numS l = s) (neg : Bool) (hn : (l.head? = some 45) = (neg = true)) (hb : numB l = true) : numV l = if neg = true then -(spanL s : Int) else (spanL s : Int) := by
  unfold numV
  rw [if_pos hb, hs]
  simp only [hn]

set_option maxRecDepth 10000 in
set_option maxHeartbeats 1000000 in
theorem numbers_any (l : List UInt8) (w : World) (hl : l.length ≤ 1000) :
    Calls Tryz.prog 149 #[SV l] w (NumP l w) := by
  have hv : numB l = false → numV l = 0 := fun h => by unfold numV; rw [h]; rfl
  have HV := hide hv
  clear hv
  go_enter Tryz.func149, Tryz.ntmps149
  by_cases hnil : l = []
  · subst hnil
    have hr := row_any [] 0 true w (by simp) (by simp)
    go_wp2_with fail
    refine hr.mono ?_
    rintro e w' ⟨rfl, hww⟩
    rw [hww]
    clear hww w' hr
    go_wp2_with fail
    go_ret2
    exact ⟨rfl, rfl⟩
  · have hpos : 0 < l.length := List.length_pos_iff.2 hnil
    have hget : l.head? = some l[0] := by rw [List.head?_eq_getElem?, List.getElem?_eq_getElem hpos]
    by_cases hh : l.head? = some 45
    · have h45 : l[0] = 45 := Option.some.inj (hget.symm.trans hh)
      have hS : numS l = l.drop 1 := by unfold numS; rw [if_pos hh]
      have hex : Value.string ((⟨l.toArray⟩ : ByteArray).extract 1 l.length) = SV (l.drop 1) := by
        rw [SV_extract_l, List.take_length]
      have hB : ((((⟨l.toArray⟩ : ByteArray)[0]'hpos).toNat : Int) == 45) = true := by
        rw [beq_iff_eq]
        show ((l[0].toNat : Nat) : Int) = 45
        rw [h45]; rfl
      have hsl : (l.drop 1).length ≤ 1000 := by rw [List.length_drop]; omega
      generalize l.drop 1 = r at *
      go_upto_region 4 with fail
      clear hB hex
      have hr : Calls Tryz.prog 171 #[SV (r), .int .i64 0, .bool true] w fun e w' => e = .returned (SV ((r).takeWhile isD)) ∧ w' = w := row_any (r) 0 true w (by omega) (by omega)
      have hlen := takeWhile_len isD (r)
      have HAL := hide (takeWhile_all_len isD (r))
      by_cases hb : numB l = true
      · obtain ⟨n1, n2, n3⟩ := numB_lt hb
        rw [hS] at n1 n2 n3
        have HVV : Hid (numV l = -(spanL (r) : Int)) := numV_of hS true (by simp [hh]) hb
        have hsp := rspan_any (r) w (by omega)
        rw [spanW_digits _ n1] at hsp
        have hle := spanW_le (r)
        rw [spanW_digits _ n1] at hle
        rw [all_take n1] at hr
        have HB := hide hb
        clear hlen HAL n1 HV hS hb
        generalize spanL (r) = v at *
        go_wp2_with fail
        refine hr.mono ?_
        rintro e w' ⟨rfl, hww⟩
        rw [hww]
        clear hww w' hr
        go_wp2_with fail
        refine hsp.mono ?_
        rintro e w' ⟨rfl, hww⟩
        rw [hww]
        clear hww w' hsp
        go_wp2_with fail
        go_ret2
        refine ⟨?_, rfl⟩
        rw [unhide HVV, unhide HB]
        rfl
      · have hb' : numB l = false := by simpa using hb
        have hcase : ¬ ((r).takeWhile isD).length = (r).length ∨ (r).length < 1 ∨ 6 < (r).length := by
          by_cases h1 : ((r).takeWhile isD).length = (r).length
          · right
            have h2 := (unhide HAL).1 h1
            unfold numB at hb
            rw [hS, h2] at hb
            simp at hb
            omega
          · exact .inl h1
        have HN := hide (unhide HV hb')
        have HB := hide hb'
        clear HAL HV hb hb' hS
        generalize (r).takeWhile isD = d at *
        go_wp2_with fail
        refine hr.mono ?_
        rintro e w' ⟨rfl, hww⟩
        rw [hww]
        clear hww w' hr
        by_cases c1 : d.length = (r).length
        · have c1b : ((d.length : Int) == ((r).length : Int)) = true := by simp [c1]
          by_cases c2 : d.length < 1
          · have c2i : (d.length : Int) < 1 := by omega
            go_wp2_with fail
            go_ret2
            refine ⟨?_, rfl⟩; rw [unhide HN, unhide HB]; rfl
          · have c2i : ¬ (d.length : Int) < 1 := by omega
            have c3i : (6 : Int) < (d.length : Int) := by omega
            go_wp2_with fail
            go_ret2
            refine ⟨?_, rfl⟩; rw [unhide HN, unhide HB]; rfl
        · have c1b : ((d.length : Int) == ((r).length : Int)) = false := by rw [beq_eq_false_iff_ne]; omega
          go_wp2_with fail
          go_ret2
          refine ⟨?_, rfl⟩; rw [unhide HN, unhide HB]; rfl
    · have hS : numS l = l := by unfold numS; rw [if_neg hh]
      have hB : ((((⟨l.toArray⟩ : ByteArray)[0]'hpos).toNat : Int) == 45) = false := by
        rw [beq_eq_false_iff_ne]
        intro h
        refine hh (hget.trans (congrArg some (UInt8.toNat_inj.1 ?_)))
        have h2 : (l[0].toNat : Int) = 45 := h
        show l[0].toNat = 45
        omega
      go_upto_region 4 with fail
      clear hB
      have hr : Calls Tryz.prog 171 #[SV (l), .int .i64 0, .bool true] w fun e w' => e = .returned (SV ((l).takeWhile isD)) ∧ w' = w := row_any (l) 0 true w (by omega) (by omega)
      have hlen := takeWhile_len isD (l)
      have HAL := hide (takeWhile_all_len isD (l))
      by_cases hb : numB l = true
      · obtain ⟨n1, n2, n3⟩ := numB_lt hb
        rw [hS] at n1 n2 n3
        have HVV : Hid (numV l = (spanL (l) : Int)) := numV_of hS false (by simp [hh]) hb
        have hsp := rspan_any (l) w (by omega)
        rw [spanW_digits _ n1] at hsp
        have hle := spanW_le (l)
        rw [spanW_digits _ n1] at hle
        rw [all_take n1] at hr
        have HB := hide hb
        clear hlen HAL n1 HV hS hb
        generalize spanL (l) = v at *
        go_wp2_with fail
        refine hr.mono ?_
        rintro e w' ⟨rfl, hww⟩
        rw [hww]
        clear hww w' hr
        go_wp2_with fail
        refine hsp.mono ?_
        rintro e w' ⟨rfl, hww⟩
        rw [hww]
        clear hww w' hsp
        go_wp2_with fail
        go_ret2
        refine ⟨?_, rfl⟩
        rw [unhide HVV, unhide HB]
        rfl
      · have hb' : numB l = false := by simpa using hb
        have hcase : ¬ ((l).takeWhile isD).length = (l).length ∨ (l).length < 1 ∨ 6 < (l).length := by
          by_cases h1 : ((l).takeWhile isD).length = (l).length
          · right
            have h2 := (unhide HAL).1 h1
            unfold numB at hb
            rw [hS, h2] at hb
            simp at hb
            omega
          · exact .inl h1
        have HN := hide (unhide HV hb')
        have HB := hide hb'
        clear HAL HV hb hb' hS
        generalize (l).takeWhile isD = d at *
        go_wp2_with fail
        refine hr.mono ?_
        rintro e w' ⟨rfl, hww⟩
        rw [hww]
        clear hww w' hr
        by_cases c1 : d.length = (l).length
        · have c1b : ((d.length : Int) == ((l).length : Int)) = true := by simp [c1]
          by_cases c2 : d.length < 1
          · omega
          · have c2i : ¬ (d.length : Int) < 1 := by omega
            have c3i : (6 : Int) < (d.length : Int) := by omega
            go_wp2_with fail
            go_ret2
            refine ⟨?_, rfl⟩; rw [unhide HN, unhide HB]; rfl
        · have c1b : ((d.length : Int) == ((l).length : Int)) = false := by rw [beq_eq_false_iff_ne]; omega
          go_wp2_with fail
          go_ret2
          refine ⟨?_, rfl⟩; rw [unhide HN, unhide HB]; rfl

end Go.Proofs.YtbljamcdaoofbaaGreatDoor

/- Floats of 32 bits as quotients of whole numbers: what the document's rounding is, and that the machine's is the same. -/
namespace Go.Proofs.YtbljamcdaoofbaaGreatDoor

/-- a / b to the nearest whole number, between two to the even one -/
def rne (a b : Nat) : Nat := a / b + (if b < 2 * (a % b) ∨ (2 * (a % b) = b ∧ a / b % 2 = 1) then 1 else 0)

theorem rne_mul (c a b : Nat) (hc : 0 < c) : rne (c * a) (c * b) = rne a b := by
  unfold rne
  rw [Nat.mul_div_mul_left _ _ hc, Nat.mul_mod_mul_left]
  have e1 : (c * b < 2 * (c * (a % b))) ↔ b < 2 * (a % b) := by
    rw [Nat.mul_left_comm]
    exact ⟨fun h => Nat.lt_of_mul_lt_mul_left h, fun h => Nat.mul_lt_mul_of_pos_left h hc⟩
  have e2 : (2 * (c * (a % b)) = c * b) ↔ 2 * (a % b) = b := by
    rw [Nat.mul_left_comm]
    exact ⟨fun h => Nat.eq_of_mul_eq_mul_left hc h, fun h => by rw [h]⟩
  simp only [e1, e2]

theorem rne_ratio {a b a' b' : Nat} (hb : 0 < b) (hb' : 0 < b') (h : a * b' = a' * b) : rne a b = rne a' b' := by
  rw [← rne_mul b' a b hb', ← rne_mul b a' b' hb, Nat.mul_comm b' a, h, Nat.mul_comm b' b, Nat.mul_comm a' b]

/-- a digit that tells whether anything is left over is enough -/
theorem rne_sticky (D n g : Nat) (hn : 0 < n) (hg : 0 < g) : rne (2 * (D / n) + (if D % n = 0 then 0 else 1)) (4 * g) = rne D (n * (2 * g)) := by
  have hf := Nat.div_add_mod D n
  have hr := Nat.mod_lt D hn
  generalize hF : D / n = f at *
  generalize D % n = r at *
  have hh := Nat.div_add_mod f (2 * g)
  have hl := Nat.mod_lt f (show 0 < 2 * g by omega)
  generalize hL : f / (2 * g) = l at *
  generalize f % (2 * g) = h at *
  have q1 : (2 * f + (if r = 0 then 0 else 1)) / (4 * g) = l := by
    rw [Nat.div_eq_iff (by omega)]
    have : l * (4 * g) = 2 * (2 * g * l) := by rw [show 4 * g = 2 * (2 * g) by omega]; ac_rfl
    rw [this]
    split <;> omega
  have q2 : (2 * f + (if r = 0 then 0 else 1)) % (4 * g) = 2 * h + (if r = 0 then 0 else 1) := by
    have e := Nat.div_add_mod (2 * f + (if r = 0 then 0 else 1)) (4 * g)
    rw [q1] at e
    have : 4 * g * l = 2 * (2 * g * l) := by rw [← Nat.mul_assoc]; congr 1; omega
    omega
  have d1 : D / (n * (2 * g)) = l := by rw [← Nat.div_div_eq_div_mul, hF, hL]
  have d2 : D % (n * (2 * g)) = n * h + r := by
    have e := Nat.div_add_mod D (n * (2 * g))
    rw [d1] at e
    have e2 : n * f = n * (2 * g) * l + n * h := by rw [← hh, Nat.mul_add, ← Nat.mul_assoc]
    omega
  have c1 : (4 * g < 2 * (2 * h + (if r = 0 then 0 else 1))) ↔ (n * (2 * g) < 2 * (n * h + r)) := by
    have e3 : n * (2 * g) = 2 * (n * g) := by rw [Nat.mul_left_comm]
    rw [e3]
    rcases Nat.lt_trichotomy h g with hlt | heq | hgt
    · have : n * (h + 1) ≤ n * g := Nat.mul_le_mul_left n (by omega)
      rw [Nat.mul_add, Nat.mul_one] at this
      constructor
      · intro hx; exfalso; split at hx <;> omega
      · intro hx; exfalso; omega
    · subst heq
      by_cases e : r = 0
      · rw [if_pos e]; omega
      · rw [if_neg e]; omega
    · have : n * (g + 1) ≤ n * h := Nat.mul_le_mul_left n (by omega)
      rw [Nat.mul_add, Nat.mul_one] at this
      constructor
      · intro _; omega
      · intro _; split <;> omega
  have c2 : (2 * (2 * h + (if r = 0 then 0 else 1)) = 4 * g) ↔ (2 * (n * h + r) = n * (2 * g)) := by
    have e3 : n * (2 * g) = 2 * (n * g) := by rw [Nat.mul_left_comm]
    rw [e3]
    rcases Nat.lt_trichotomy h g with hlt | heq | hgt
    · have : n * (h + 1) ≤ n * g := Nat.mul_le_mul_left n (by omega)
      rw [Nat.mul_add, Nat.mul_one] at this
      constructor
      · intro hx; exfalso; split at hx <;> omega
      · intro hx; exfalso; omega
    · subst heq
      by_cases e : r = 0
      · rw [if_pos e]; omega
      · rw [if_neg e]; omega
    · have : n * (g + 1) ≤ n * h := Nat.mul_le_mul_left n (by omega)
      rw [Nat.mul_add, Nat.mul_one] at this
      constructor
      · intro hx; exfalso; split at hx <;> omega
      · intro hx; exfalso; omega
  unfold rne
  rw [q1, q2, d1, d2]
  simp only [c1, c2]

/-- the bits of A / B as a float -/
def IsF (A B bits : Nat) : Prop := ∃ E a b : Nat, 0 < b ∧ 8388608 * b ≤ a ∧ a < 16777216 * b ∧ a * B * 2 ^ E = A * b * 2 ^ 149 ∧ bits = E * 8388608 + rne a b

theorem IsF.uniq {A B x y : Nat} (hB : 0 < B) (h : IsF A B x) (h' : IsF A B y) : x = y := by
  obtain ⟨E, a, b, hb, h1, h2, h3, rfl⟩ := h
  obtain ⟨E', a', b', hb', h1', h2', h3', rfl⟩ := h'
  have key : a * b' * 2 ^ E = a' * b * 2 ^ E' := by
    have k1 : a * B * 2 ^ E * b' = a' * B * 2 ^ E' * b := by
      rw [h3, h3']
      ac_rfl
    refine Nat.eq_of_mul_eq_mul_left hB ?_
    exact (show B * (a * b' * 2 ^ E) = a * B * 2 ^ E * b' by ac_rfl).trans (k1.trans (by ac_rfl))
  have lo : ∀ {E E' a a' b b' : Nat}, 0 < b → 0 < b' → 8388608 * b ≤ a → a' < 16777216 * b' → a * b' * 2 ^ E = a' * b * 2 ^ E' → ¬ E' < E := by
    intro E E' a a' b b' hb hb' h1 h2 hk hlt
    obtain ⟨k, rfl⟩ : ∃ k, E = E' + 1 + k := ⟨E - E' - 1, by omega⟩
    rw [Nat.pow_add, Nat.pow_add, Nat.pow_one] at hk
    have hp : 0 < 2 ^ E' := Nat.two_pow_pos _
    have hk' : a * b' * (2 * 2 ^ k) = a' * b := by
      refine Nat.eq_of_mul_eq_mul_right hp ?_
      rw [← hk]; ac_rfl
    have hk1 : 1 ≤ 2 ^ k := Nat.two_pow_pos _
    have u1 : 8388608 * b * b' ≤ a * b' := Nat.mul_le_mul_right _ h1
    have u2 : a' * b < 16777216 * b' * b := Nat.mul_lt_mul_of_pos_right h2 hb
    have u3 : a * b' * 2 ≤ a * b' * (2 * 2 ^ k) := Nat.mul_le_mul_left _ (by omega)
    have u4 : 16777216 * b' * b = 2 * (8388608 * b * b') := by
      rw [← Nat.mul_assoc, ← Nat.mul_assoc, Nat.mul_right_comm]
    omega
  have e : E = E' := by
    have x1 := lo hb hb' h1 h2' key
    have x2 := lo hb' hb h1' h2 key.symm
    omega
  subst e
  have hk : a * b' = a' * b := Nat.eq_of_mul_eq_mul_right (Nat.two_pow_pos E) key
  rw [rne_ratio hb hb' hk]

/-- what the machine keeps of a whole number of 2 to the -149 -/
theorem cut_rne (n s : Nat) (hs : s ≤ n.log2 + 2) : Ieee.Toward.even.cut false n s = rne n (2 ^ s) := by
  unfold Ieee.Toward.cut rne
  simp only [Nat.min_eq_left hs, Nat.one_shiftLeft]
  congr 1
  by_cases h1 : 2 ^ s < 2 * (n % 2 ^ s)
  · simp [h1]
  · by_cases h2 : 2 ^ s = 2 * (n % 2 ^ s) ∧ n / 2 ^ s % 2 = 1
    · simp [← h2.1, h2.2]
    · have h3 : ¬ (2 ^ s < 2 * (n % 2 ^ s) ∨ 2 * (n % 2 ^ s) = 2 ^ s ∧ n / 2 ^ s % 2 = 1) := by
        rintro (h | h)
        · exact h1 h
        · exact h2 ⟨h.1.symm, h.2⟩
      rw [if_neg h3]
      simp only [h1, decide_false, Bool.false_or]
      by_cases h4 : 2 ^ s = 2 * (n % 2 ^ s)
      · have h5 : ¬ n / 2 ^ s % 2 = 1 := fun h => h2 ⟨h4, h⟩
        simp [h5]
      · simp [h4]

theorem log2_eq {n k : Nat} (h1 : 2 ^ k ≤ n) (h2 : n < 2 ^ (k + 1)) : n.log2 = k := by
  have hn : n ≠ 0 := by have := Nat.two_pow_pos k; omega
  have a := (Nat.le_log2 hn).2 h1
  have b := (Nat.log2_lt hn).2 h2
  omega

theorem rne_le {a b k : Nat} (hb : 0 < b) (h : a < k * b) : rne a b ≤ k := by
  have : a / b < k := (Nat.div_lt_iff_lt_mul hb).2 h
  unfold rne
  split <;> omega

theorem rne_ge {a b k : Nat} (hb : 0 < b) (h : k * b ≤ a) : k ≤ rne a b := by
  have : k ≤ a / b := (Nat.le_div_iff_mul_le hb).2 h
  unfold rne
  split <;> omega

theorem rung_small {E r : Nat} (h1 : E < 250) (h2 : r ≤ 16777216) : min (E * 8388608 + r) 2139095040 = E * 8388608 + r := by
  refine Nat.min_eq_left ?_
  have h3 : E * 8388608 ≤ 249 * 8388608 := Nat.mul_le_mul_right _ (by omega)
  exact Nat.le_trans (Nat.add_le_add h3 h2) (by decide)

/-- float32(A) -/
theorem ofNat_form {A : Nat} (h1 : 0 < A) (h2 : A < 2 ^ 60) : A.log2 < 60 ∧ 2 ^ A.log2 ≤ A ∧ Ieee.single.nearest false A 0 = (A.log2 + 126) * 8388608 + rne (A * 2 ^ (23 - A.log2)) (2 ^ (A.log2 - 23)) ∧ 8388608 * 2 ^ (A.log2 - 23) ≤ A * 2 ^ (23 - A.log2) ∧ A * 2 ^ (23 - A.log2) < 16777216 * 2 ^ (A.log2 - 23) := by
  have hne : A ≠ 0 := by omega
  have l1 := Nat.log2_self_le hne
  have l2 : A < 2 ^ (A.log2 + 1) := Nat.lt_log2_self
  have l3 : A.log2 < 60 := (Nat.log2_lt hne).2 h2
  unfold Ieee.Format.nearest
  rw [if_neg hne]
  have ef : (Ieee.single.fractionBits : Int) = 23 := rfl
  have el : Ieee.single.leastPlace = -149 := by decide
  have eb : Ieee.single.binade = 8388608 := by decide
  have ei : Ieee.single.infRung = 2139095040 := by decide
  simp only [ef, el, eb, ei]
  generalize hk : A.log2 = k at *
  have em : max ((0 : Int) + (k : Int) - 23) (-149) = (k : Int) - 23 := by omega
  rw [em]
  have e1 : ((k : Int) - 23 - -149).toNat = k + 126 := by omega
  have e2 : ((0 : Int) - ((k : Int) - 23)).toNat = 23 - k := by omega
  have e3 : ((k : Int) - 23 - 0).toNat = k - 23 := by omega
  rw [e1, e2, e3]
  have hlog : (A <<< (23 - k)).log2 = k + (23 - k) := by
    rw [Nat.shiftLeft_eq]
    refine log2_eq ?_ ?_
    · rw [Nat.pow_add]; exact Nat.mul_le_mul_right _ l1
    · rw [show k + (23 - k) + 1 = (k + 1) + (23 - k) by omega, Nat.pow_add]
      exact Nat.mul_lt_mul_of_pos_right l2 (Nat.two_pow_pos _)
  rw [cut_rne _ _ (by rw [hlog]; omega), Nat.shiftLeft_eq]
  have hp : 0 < 2 ^ (k - 23) := Nat.two_pow_pos _
  have hlo : 8388608 * 2 ^ (k - 23) ≤ A * 2 ^ (23 - k) := by
    rw [show 8388608 * 2 ^ (k - 23) = 2 ^ k * 2 ^ (23 - k) by rw [show (8388608 : Nat) = 2 ^ 23 by decide, ← Nat.pow_add, ← Nat.pow_add]; congr 1; omega]
    exact Nat.mul_le_mul_right _ l1
  have hhi : A * 2 ^ (23 - k) < 16777216 * 2 ^ (k - 23) := by
    rw [show 16777216 * 2 ^ (k - 23) = 2 ^ (k + 1) * 2 ^ (23 - k) by rw [show (16777216 : Nat) = 2 ^ 24 by decide, ← Nat.pow_add, ← Nat.pow_add]; congr 1; omega]
    exact Nat.mul_lt_mul_of_pos_right l2 (Nat.two_pow_pos _)
  have hle := rne_le hp hhi
  refine ⟨l3, l1, ?_, hlo, hhi⟩
  · unfold Ieee.Format.word
    rw [if_neg (by decide)]
    exact rung_small (by omega) hle

theorem ofNat_isF {A : Nat} (h1 : 0 < A) (h2 : A < 2 ^ 60) : IsF A 1 (Ieee.single.nearest false A 0) := by
  obtain ⟨-, -, e, hlo, hhi⟩ := ofNat_form h1 h2
  refine ⟨_, _, _, Nat.two_pow_pos _, hlo, hhi, ?_, e⟩
  rw [Nat.mul_one, Nat.mul_assoc, ← Nat.pow_add, Nat.mul_assoc, ← Nat.pow_add]
  congr 2
  omega

end Go.Proofs.YtbljamcdaoofbaaGreatDoor

/- The machine's quotient of two floats is the document's. -/
namespace Go.Proofs.YtbljamcdaoofbaaGreatDoor

theorem IsF.ratio {A B A' B' x : Nat} (hB : 0 < B) (e : A * B' = A' * B) (h : IsF A B x) : IsF A' B' x := by
  obtain ⟨E, a, b, hb, h1, h2, h3, rfl⟩ := h
  refine ⟨E, a, b, hb, h1, h2, ?_, rfl⟩
  refine Nat.eq_of_mul_eq_mul_left hB ?_
  exact (show B * (a * B' * 2 ^ E) = a * B * 2 ^ E * B' by ac_rfl).trans ((congrArg (· * B') h3).trans ((show A * b * 2 ^ 149 * B' = (A * B') * (b * 2 ^ 149) by ac_rfl).trans ((congrArg (· * (b * 2 ^ 149)) e).trans (by ac_rfl))))

theorem word_false (x : Nat) : Ieee.single.word false x = x := by
  unfold Ieee.Format.word
  rw [if_neg (by decide)]

theorem cut_neg (neg : Bool) (n d : Nat) : Ieee.Toward.even.cut neg n d = Ieee.Toward.even.cut false n d := by
  unfold Ieee.Toward.cut
  simp only

theorem nearest_neg (neg : Bool) (mag : Nat) (place : Int) : Ieee.single.nearest neg mag place = Ieee.single.word neg (Ieee.single.nearest false mag place) := by
  unfold Ieee.Format.nearest
  by_cases h : mag = 0
  · rw [if_pos h, if_pos h, word_false]
  · rw [if_neg h, if_neg h]
    simp only [cut_neg neg, word_false]

theorem read_word {neg : Bool} {E m : Nat} (h1 : 8388608 ≤ m) (h2 : m < 16777216) (hE : E < 250) : Ieee.single.read (Ieee.single.word neg (E * 8388608 + m)) = .number neg m ((E : Int) - 149) := by
  have es : Ieee.single.signWeight = 2147483648 := by decide
  have el : Ieee.single.leastPlace = -149 := by decide
  have eb : Ieee.single.binade = 8388608 := by decide
  have ei : Ieee.single.infRung = 2139095040 := by decide
  have hr : E * 8388608 + m < 2139095040 := by
    have h3 : E * 8388608 ≤ 249 * 8388608 := Nat.mul_le_mul_right _ (by omega)
    exact Nat.lt_of_lt_of_le (Nat.add_lt_add_of_le_of_lt h3 h2) (by decide)
  have hr2 : E * 8388608 + m < 2147483648 := Nat.lt_trans hr (by decide)
  have q1 : (E * 8388608 + m) / 8388608 = E + 1 := by
    rw [Nat.add_comm, Nat.add_mul_div_right _ _ (by decide)]
    have : m / 8388608 = 1 := by rw [Nat.div_eq_iff (by decide)]; omega
    omega
  have q2 : (E * 8388608 + m) % 8388608 = m - 8388608 := by
    rw [Nat.add_comm, Nat.add_mul_mod_self_right]
    have e : m = (m - 8388608) + 8388608 := by omega
    rw [e, Nat.add_mod_right, Nat.add_sub_cancel]
    exact Nat.mod_eq_of_lt (by omega)
  have hlow : ¬ (E * 8388608 + m < 8388608) := by omega
  have key : ∀ s : Bool, (if E * 8388608 + m < 8388608 then Ieee.Datum.number s (E * 8388608 + m) (-149) else if E * 8388608 + m < 2139095040 then .number s (8388608 + (E * 8388608 + m) % 8388608) (-149 + (((E * 8388608 + m) / 8388608 - 1 : Nat) : Int)) else if E * 8388608 + m = 2139095040 then .infinity s else .nan s (E * 8388608 + m - 2139095040)) = .number s m ((E : Int) - 149) := by
    intro s
    rw [if_neg hlow, if_pos hr, q1, q2]
    rw [show 8388608 + (m - 8388608) = m by omega, show (-149 : Int) + ((E + 1 - 1 : Nat) : Int) = (E : Int) - 149 by omega]
  generalize E * 8388608 + m = R at *
  unfold Ieee.Format.read Ieee.Format.word
  simp only [es, el, eb, ei]
  cases neg with
  | false =>
    have d1 : R / 2147483648 = 0 := Nat.div_eq_of_lt hr2
    have d2 : R % 2147483648 = R := Nat.mod_eq_of_lt hr2
    simp only [Bool.false_eq_true, if_false, d1, d2]
    exact key false
  | true =>
    have d1 : (2147483648 + R) / 2147483648 = 1 := by rw [Nat.add_div_left _ (by decide), Nat.div_eq_of_lt hr2]
    have d2 : (2147483648 + R) % 2147483648 = R := by rw [Nat.add_mod_left, Nat.mod_eq_of_lt hr2]
    simp only [if_true, d1, d2]
    exact key true

theorem ne_toNat (r : Nat) : (r != 0).toNat = if r = 0 then 0 else 1 := by
  by_cases h : r = 0 <;> simp [h]

/-- the quotient's digits, rounded -/
theorem near_div {m n E1 E2 s : Nat} (hn : 0 < n) (hs2 : 2 ≤ s) (hs3 : s ≤ 3) (hlog : (2 * (m * 2 ^ 25 / n) + (if m * 2 ^ 25 % n = 0 then 0 else 1)).log2 = 23 + s)
    (hlo : 8388608 * (n * 2 ^ (s - 1)) ≤ m * 2 ^ 25) (hhi : m * 2 ^ 25 < 16777216 * (n * 2 ^ (s - 1))) (h1 : 126 ≤ E1) (h2 : E1 ≤ 190) (h3 : 126 ≤ E2) (h4 : E2 ≤ 190) :
    IsF (m * 2 ^ E1) (n * 2 ^ E2) (Ieee.single.nearest false (2 * (m * 2 ^ 25 / n) + (if m * 2 ^ 25 % n = 0 then 0 else 1)) ((E1 : Int) - 149 - ((E2 : Int) - 149) - 25 - 1)) := by
  have hq0 : 2 * (m * 2 ^ 25 / n) + (if m * 2 ^ 25 % n = 0 then 0 else 1) ≠ 0 := by
    intro h
    rw [h] at hlog
    simp at hlog
    omega
  have hst := rne_sticky (m * 2 ^ 25) n (2 ^ (s - 2)) hn (Nat.two_pow_pos _)
  have e4 : 4 * 2 ^ (s - 2) = 2 ^ s := by rw [show (4 : Nat) = 2 ^ 2 by decide, ← Nat.pow_add]; congr 1; omega
  have e2 : 2 * 2 ^ (s - 2) = 2 ^ (s - 1) := by rw [Nat.mul_comm, ← Nat.pow_succ]; congr 1; omega
  rw [e4, e2] at hst
  generalize 2 * (m * 2 ^ 25 / n) + (if m * 2 ^ 25 % n = 0 then 0 else 1) = q at *
  unfold Ieee.Format.nearest
  rw [if_neg hq0]
  have ef : (Ieee.single.fractionBits : Int) = 23 := rfl
  have el : Ieee.single.leastPlace = -149 := by decide
  have eb : Ieee.single.binade = 8388608 := by decide
  have ei : Ieee.single.infRung = 2139095040 := by decide
  simp only [ef, el, eb, ei, hlog]
  have em : max ((E1 : Int) - 149 - ((E2 : Int) - 149) - 25 - 1 + ((23 + s : Nat) : Int) - 23) (-149) = (E1 : Int) - (E2 : Int) - 26 + (s : Int) := by omega
  rw [em]
  have x1 : ((E1 : Int) - (E2 : Int) - 26 + (s : Int) - -149).toNat = E1 + 123 + s - E2 := by omega
  have x2 : ((E1 : Int) - 149 - ((E2 : Int) - 149) - 25 - 1 - ((E1 : Int) - (E2 : Int) - 26 + (s : Int))).toNat = 0 := by omega
  have x3 : ((E1 : Int) - (E2 : Int) - 26 + (s : Int) - ((E1 : Int) - 149 - ((E2 : Int) - 149) - 25 - 1)).toNat = s := by omega
  rw [x1, x2, x3, Nat.shiftLeft_zero, cut_rne _ _ (by rw [hlog]; omega), hst]
  have hb : 0 < n * 2 ^ (s - 1) := Nat.mul_pos hn (Nat.two_pow_pos _)
  have hle := rne_le hb hhi
  refine ⟨E1 + 123 + s - E2, m * 2 ^ 25, n * 2 ^ (s - 1), hb, hlo, hhi, ?_, ?_⟩
  · have u : 25 + E2 + (E1 + 123 + s - E2) = E1 + (s - 1) + 149 := by omega
    have v : 2 ^ 25 * 2 ^ E2 * 2 ^ (E1 + 123 + s - E2) = 2 ^ E1 * 2 ^ (s - 1) * 2 ^ 149 := by rw [← Nat.pow_add, ← Nat.pow_add, ← Nat.pow_add, ← Nat.pow_add, u]
    generalize 2 ^ 25 = p1 at *
    generalize 2 ^ E2 = p2 at *
    generalize 2 ^ (E1 + 123 + s - E2) = p3 at *
    generalize 2 ^ E1 = p4 at *
    generalize 2 ^ (s - 1) = p5 at *
    generalize 2 ^ 149 = p6 at *
    exact (show m * p1 * (n * p2) * p3 = m * n * (p1 * p2 * p3) by ac_rfl).trans ((congrArg (m * n * ·) v).trans (by ac_rfl))
  · unfold Ieee.Format.word
    rw [if_neg (by decide)]
    exact rung_small (by omega) hle

/-- the machine's quotient -/
theorem div_isF {neg : Bool} {m n E1 E2 : Nat} (a1 : 8388608 ≤ m) (a2 : m < 16777216) (b1 : 8388608 ≤ n) (b2 : n < 16777216) (h1 : 126 ≤ E1) (h2 : E1 ≤ 190) (h3 : 126 ≤ E2) (h4 : E2 ≤ 190) :
    ∃ bits, Ieee.single.div (Ieee.single.word neg (E1 * 8388608 + m)) (Ieee.single.word false (E2 * 8388608 + n)) = some (Ieee.single.word neg bits) ∧ IsF (m * 2 ^ E1) (n * 2 ^ E2) bits := by
  have lm : m.log2 = 23 := log2_eq (by simpa using a1) (by simpa using a2)
  have ln : n.log2 = 23 := log2_eq (by simpa using b1) (by simpa using b2)
  have hn : 0 < n := by omega
  refine ⟨Ieee.single.nearest false (2 * (m * 2 ^ 25 / n) + (if m * 2 ^ 25 % n = 0 then 0 else 1)) ((E1 : Int) - 149 - ((E2 : Int) - 149) - 25 - 1), ?_, ?_⟩
  · unfold Ieee.Format.div
    rw [read_word a1 a2 (by omega), read_word b1 b2 (by omega)]
    unfold Ieee.Datum.quotient
    have hn0 : ¬ n = 0 := by omega
    simp only [hn0, if_false, lm, ln, Nat.shiftLeft_eq, ne_toNat]
    have ef : Ieee.single.fractionBits = 23 := rfl
    simp only [ef, Option.map_some, Ieee.Format.write, Bool.xor_false]
    rw [nearest_neg]
    rfl
  · by_cases hmn : n ≤ m
    · have p1 : n * 2 ^ 25 ≤ m * 2 ^ 25 := Nat.mul_le_mul_right _ hmn
      have p2 : m * 2 ^ 25 < n * 2 ^ 26 := by
        rw [show (2 : Nat) ^ 26 = 2 * 2 ^ 25 by decide, ← Nat.mul_assoc]
        exact Nat.mul_lt_mul_of_pos_right (by omega) (by decide)
      have q1 : 2 ^ 25 ≤ m * 2 ^ 25 / n := (Nat.le_div_iff_mul_le hn).2 (by rw [Nat.mul_comm]; exact p1)
      have q2 : m * 2 ^ 25 / n < 2 ^ 26 := (Nat.div_lt_iff_lt_mul hn).2 (by rw [Nat.mul_comm (2 ^ 26) n]; exact p2)
      refine near_div (s := 3) hn (by omega) (by omega) (log2_eq ?_ ?_) ?_ ?_ h1 h2 h3 h4
      · generalize m * 2 ^ 25 / n = f at *
        split <;> omega
      · generalize m * 2 ^ 25 / n = f at *
        split <;> omega
      · omega
      · omega
    · have p1 : n * 2 ^ 24 ≤ m * 2 ^ 25 := by
        rw [show (2 : Nat) ^ 25 = 2 * 2 ^ 24 by decide, ← Nat.mul_assoc]
        exact Nat.mul_le_mul_right _ (by omega)
      have p2 : m * 2 ^ 25 < n * 2 ^ 25 := Nat.mul_lt_mul_of_pos_right (by omega) (by decide)
      have q1 : 2 ^ 24 ≤ m * 2 ^ 25 / n := (Nat.le_div_iff_mul_le hn).2 (by rw [Nat.mul_comm]; exact p1)
      have q2 : m * 2 ^ 25 / n < 2 ^ 25 := (Nat.div_lt_iff_lt_mul hn).2 (by rw [Nat.mul_comm (2 ^ 25) n]; exact p2)
      refine near_div (s := 2) hn (by omega) (by omega) (log2_eq ?_ ?_) ?_ ?_ h1 h2 h3 h4
      · generalize m * 2 ^ 25 / n = f at *
        split <;> omega
      · generalize m * 2 ^ 25 / n = f at *
        split <;> omega
      · omega
      · omega

end Go.Proofs.YtbljamcdaoofbaaGreatDoor

/- The bits of a quotient, and the whole number that a float stands for; the machine's conversions and its division by them. -/
namespace Go.Proofs.YtbljamcdaoofbaaGreatDoor

open Classical in
/-- the bits of A / B as a float of 32 bits -/
noncomputable def fB (A B : Nat) : Nat := if A = 0 then 0 else if h : ∃ x, IsF A B x then h.choose else 0

theorem fB_eq {A B x : Nat} (hA : 0 < A) (hB : 0 < B) (h : IsF A B x) : fB A B = x := by
  have hx : ∃ x, IsF A B x := ⟨x, h⟩
  unfold fB
  rw [if_neg (by omega), dif_pos hx]
  exact IsF.uniq hB hx.choose_spec h

theorem fB_zero (B : Nat) : fB 0 B = 0 := by
  unfold fB
  rw [if_pos rfl]

/-- the whole number that a float's bits stand for -/
def wholeN (bits : Nat) : Nat := if bits = 0 then 0 else (bits % 8388608 + 8388608) * 2 ^ (bits / 8388608 - 150) / 2 ^ (150 - bits / 8388608)

theorem word_parts {E m : Nat} (h1 : 8388608 ≤ m) (h2 : m < 16777216) : (E * 8388608 + m) / 8388608 = E + 1 ∧ (E * 8388608 + m) % 8388608 + 8388608 = m := by
  constructor
  · rw [Nat.add_comm, Nat.add_mul_div_right _ _ (by decide)]
    have : m / 8388608 = 1 := by rw [Nat.div_eq_iff (by decide)]; omega
    omega
  · rw [Nat.add_comm (E * 8388608) m, Nat.add_mul_mod_self_right]
    have e : m = (m - 8388608) + 8388608 := by omega
    have e2 : m % 8388608 = m - 8388608 := by
      rw [e, Nat.add_mod_right, Nat.add_sub_cancel]
      exact Nat.mod_eq_of_lt (by omega)
    omega

theorem wholeN_eq {E m W : Nat} (h1 : 8388608 ≤ m) (h2 : m < 16777216) (h : m * 2 ^ E = W * 2 ^ 149) : wholeN (E * 8388608 + m) = W := by
  obtain ⟨e1, e2⟩ := word_parts (E := E) h1 h2
  unfold wholeN
  rw [if_neg (by omega), e1, e2]
  by_cases hE : 149 ≤ E
  · obtain ⟨k, rfl⟩ : ∃ k, E = k + 149 := ⟨E - 149, by omega⟩
    rw [show k + 149 + 1 - 150 = k by omega, show 150 - (k + 149 + 1) = 0 by omega, Nat.pow_zero, Nat.div_one]
    rw [Nat.pow_add, ← Nat.mul_assoc] at h
    exact Nat.eq_of_mul_eq_mul_right (Nat.two_pow_pos 149) h
  · obtain ⟨k, hk⟩ : ∃ k, 149 = E + k := ⟨149 - E, by omega⟩
    rw [show E + 1 - 150 = 0 by omega, show 150 - (E + 1) = k by omega, Nat.pow_zero, Nat.mul_one]
    have h' : m = W * 2 ^ k := by
      rw [hk, Nat.pow_add] at h
      refine Nat.eq_of_mul_eq_mul_right (Nat.two_pow_pos E) ?_
      rw [h]
      ac_rfl
    rw [h', Nat.mul_div_cancel _ (Nat.two_pow_pos _)]

theorem rne_one (a : Nat) : rne a 1 = a := by
  unfold rne
  rw [Nat.mod_one, Nat.div_one, if_neg (by omega)]
  rfl

/-- float32(A), as it reads -/
theorem ofNat_reads {A : Nat} (h1 : 0 < A) (h2 : A < 2 ^ 60) : ∃ m E W, Ieee.single.nearest false A 0 = E * 8388608 + m ∧ 8388608 ≤ m ∧ m < 16777216 ∧ 126 ≤ E ∧ E ≤ 187 ∧ m * 2 ^ E = W * 2 ^ 149 ∧ (A < 16777216 → W = A) ∧ 0 < W ∧ W ≤ 2 * A := by
  obtain ⟨l3, l1, e, hlo, hhi⟩ := ofNat_form h1 h2
  generalize A.log2 = k at *
  have hp : 0 < 2 ^ (k - 23) := Nat.two_pow_pos _
  have r1 := rne_ge hp hlo
  have r2 := rne_le hp hhi
  by_cases hk : k ≤ 23
  · have ek : k - 23 = 0 := by omega
    rw [ek, Nat.pow_zero] at e hlo hhi
    rw [rne_one] at e
    refine ⟨A * 2 ^ (23 - k), k + 126, A, e, by omega, by omega, by omega, by omega, ?_, fun _ => rfl, h1, by omega⟩
    rw [Nat.mul_assoc, ← Nat.pow_add, show 23 - k + (k + 126) = 149 by omega]
  · have hA : ¬ A < 16777216 := by
      have : 2 ^ 24 ≤ 2 ^ k := Nat.pow_le_pow_right (by decide) (by omega)
      have h24 : (2 : Nat) ^ 24 = 16777216 := by decide
      omega
    generalize rne (A * 2 ^ (23 - k)) (2 ^ (k - 23)) = r at *
    by_cases hr : r < 16777216
    · refine ⟨r, k + 126, r * 2 ^ (k - 23), e, r1, hr, by omega, by omega, ?_, fun h => absurd h hA, Nat.mul_pos (by omega) hp, ?_⟩
      · rw [Nat.mul_assoc, ← Nat.pow_add, show k - 23 + 149 = k + 126 by omega]
      · refine Nat.le_trans (Nat.le_of_lt (Nat.mul_lt_mul_of_pos_right hr hp)) ?_
        rw [show (16777216 : Nat) = 2 ^ 24 by decide, ← Nat.pow_add, show 24 + (k - 23) = k + 1 by omega, Nat.pow_succ]
        omega
    · have hr2 : r = 16777216 := by omega
      subst hr2
      refine ⟨8388608, k + 127, 8388608 * 2 ^ (k - 22), by rw [e]; omega, by omega, by omega, by omega, by omega, ?_, fun h => absurd h hA, Nat.mul_pos (by omega) (Nat.two_pow_pos _), ?_⟩
      · rw [Nat.mul_assoc, ← Nat.pow_add, show k - 22 + 149 = k + 127 by omega]
      · rw [show (8388608 : Nat) = 2 ^ 23 by decide, ← Nat.pow_add, show 23 + (k - 22) = k + 1 by omega, Nat.pow_succ]
        omega

theorem nearest_fB {A : Nat} (h : A < 2 ^ 60) : Ieee.single.nearest false A 0 = fB A 1 := by
  by_cases hA : A = 0
  · subst hA
    rw [fB_zero]
    unfold Ieee.Format.nearest
    rw [if_pos rfl, word_false]
  · exact (fB_eq (by omega) (by decide) (ofNat_isF (by omega) h)).symm

theorem whole_small {A : Nat} (h : A < 16777216) : wholeN (fB A 1) = A := by
  by_cases hA : A = 0
  · subst hA
    rw [fB_zero]
    rfl
  · have h60 : A < 2 ^ 60 := Nat.lt_trans h (by decide)
    obtain ⟨m, E, W, e, m1, m2, -, -, hW, hs, -, -⟩ := ofNat_reads (by omega) h60
    rw [← nearest_fB h60, e, wholeN_eq m1 m2 hW, hs h]

theorem zero_read : Ieee.single.read 0 = .number false 0 (-149) := by
  have el : Ieee.single.leastPlace = -149 := by decide
  have eb : Ieee.single.binade = 8388608 := by decide
  unfold Ieee.Format.read
  simp [el, eb]

theorem sign_word (x : Nat) : Ieee.single.word true x = 2147483648 + x := by
  have es : Ieee.single.signWeight = 2147483648 := by decide
  unfold Ieee.Format.word
  rw [if_pos rfl, es]

/-- float32(A) / float32(D), A with a sign -/
theorem div_fB (neg : Bool) {A D : Nat} (hA : 0 < A) (hA2 : A < 2 ^ 60) (hD : 0 < D) (hD2 : D < 16777216) : Ieee.single.div (Ieee.single.nearest neg A 0) (Ieee.single.nearest false D 0) = some (Ieee.single.word neg (fB (wholeN (fB A 1)) D)) := by
  have hD60 : D < 2 ^ 60 := Nat.lt_trans hD2 (by decide)
  obtain ⟨m, E, W, e, m1, m2, e1, e2, hW, -, hW0, -⟩ := ofNat_reads hA hA2
  obtain ⟨n, E', W', e', n1, n2, e1', e2', hW', hs', -, -⟩ := ofNat_reads hD hD60
  obtain rfl : W' = D := hs' hD2
  have hwh : wholeN (fB A 1) = W := by rw [← nearest_fB hA2, e, wholeN_eq m1 m2 hW]
  obtain ⟨bits, hdiv, hF⟩ := div_isF (neg := neg) m1 m2 n1 n2 e1 (by omega) e1' (by omega)
  rw [nearest_neg neg, e, e', hwh]
  rw [word_false] at hdiv
  rw [hdiv]
  have hF2 : IsF W W' bits := by
    refine IsF.ratio (Nat.mul_pos (by omega) (Nat.two_pow_pos _)) ?_ hF
    rw [hW, hW']
    generalize 2 ^ 149 = p
    ac_rfl
  rw [fB_eq hW0 hD hF2]

theorem div_zero {D : Nat} (hD : 0 < D) (hD2 : D < 16777216) : Ieee.single.div 0 (Ieee.single.nearest false D 0) = some 0 := by
  have hD60 : D < 2 ^ 60 := Nat.lt_trans hD2 (by decide)
  obtain ⟨n, E', W', e', n1, n2, e1', e2', hW', hs', -, -⟩ := ofNat_reads hD hD60
  rw [e']
  unfold Ieee.Format.div
  have hr := read_word (neg := false) n1 n2 (show E' < 250 by omega)
  rw [word_false] at hr
  rw [hr, zero_read]
  unfold Ieee.Datum.quotient
  have hn0 : ¬ n = 0 := by omega
  simp only [hn0, if_false, Nat.shiftLeft_eq, Nat.zero_mul, Nat.zero_div, Nat.zero_mod, Option.map_some, Ieee.Format.write]
  unfold Ieee.Format.nearest
  simp [word_false]

theorem whole_near {A : Nat} (h : A < 2 ^ 60) : wholeN (fB A 1) ≤ 2 * A ∧ fB A 1 / 8388608 ≤ 188 ∧ (0 < A → 0 < wholeN (fB A 1)) := by
  by_cases hA : A = 0
  · subst hA
    rw [fB_zero]
    exact ⟨by simp [wholeN], by simp, fun h => absurd h (by omega)⟩
  · obtain ⟨m, E, W, e, m1, m2, e1, e2, hW, -, hW0, hW2⟩ := ofNat_reads (by omega) h
    have hwh : wholeN (fB A 1) = W := by rw [← nearest_fB h, e, wholeN_eq m1 m2 hW]
    rw [hwh]
    refine ⟨hW2, ?_, fun _ => hW0⟩
    rw [← nearest_fB h, e, (word_parts m1 m2).1]
    omega

theorem fB_whole_lt {A D : Nat} (hA2 : A < 2 ^ 60) (hD : 0 < D) (hD2 : D < 16777216) : fB (wholeN (fB A 1)) D < 4294967296 := by
  by_cases hA : A = 0
  · subst hA
    rw [fB_zero, show wholeN 0 = 0 from rfl, fB_zero]
    decide
  · have h := div_fB false (by omega) hA2 hD hD2
    rw [word_false] at h
    have := Ieee.single.div_lt h
    exact this

end Go.Proofs.YtbljamcdaoofbaaGreatDoor
