/- Texts Base, Leaf, Cut, Pair, Tok, joined. -/
import Derived.Test.YtbljamcdaoofbaaGreatDoorProg
import Derived.WalkKit
import Derived.WalkSpells
import Derived.WalkLawsBesides
import Derived.Deep.QuietTactic
import Derived.BigQuiet
/- Small laws on worlds, and an append to a row that says where the new row lies. -/
namespace Go.Proofs.YtbljamcdaoofbaaGreatDoor
open Go.RowKit

theorem hide {p : Prop} (h : p) : Hid p := h
theorem unhide {p : Prop} (h : Hid p) : p := h

theorem ret_bool {a b : Bool} (h : a = b) : Ending.returned (.bool a) = .returned (.bool b) := by rw [h]
theorem ret_int {k : IntKind} {a b : Int} (h : a = b) : Ending.returned (.int k a) = .returned (.int k b) := by rw [h]

/-- Outside F the old blocks are as they were. -/
structure Moved (F : Nat → Prop) (w w' : World) : Prop where
  os : w'.os = w.os
  tape : w'.tape = w.tape
  output : w'.output = w.output
  size : w.heap.size ≤ w'.heap.size
  block : ∀ k, k < w.heap.size → ¬ F k → w'.heap[k]? = w.heap[k]?

/-- Nothing old has turned. -/
abbrev Fresh (w w' : World) : Prop := Moved (fun _ => False) w w'

theorem Moved.refl (F : Nat → Prop) (w : World) : Moved F w w := ⟨rfl, rfl, rfl, Nat.le_refl _, fun _ _ _ => rfl⟩

theorem Moved.trans {F F1 : Nat → Prop} {a b c : World} (h : Moved F a b) (k : Moved F1 b c) (hF : ∀ i, F1 i → F i ∨ a.heap.size ≤ i) : Moved F a c :=
  ⟨k.os.trans h.os, k.tape.trans h.tape, k.output.trans h.output, Nat.le_trans h.size k.size, fun i hi hn =>
    (k.block i (Nat.lt_of_lt_of_le hi h.size) (fun hf => by rcases hF i hf with g | g; exact hn g; omega)).trans (h.block i hi hn)⟩

theorem Moved.mono {F F1 : Nat → Prop} {w w' : World} (h : Moved F w w') (hF : ∀ i, i < w.heap.size → F i → F1 i) : Moved F1 w w' :=
  ⟨h.os, h.tape, h.output, h.size, fun i hi hn => h.block i hi fun g => hn (hF i hi g)⟩

theorem Moved.alloc {F : Nat → Prop} {a w : World} (h : Moved F a w) (o : Obj) : Moved F a (w.alloc o) :=
  h.trans (F1 := fun _ => False) ⟨rfl, rfl, rfl, by simp, fun k hk _ => Below.heap_alloc _ _ _ hk⟩ (fun _ g => g.elim)

theorem Moved.drew {F : Nat → Prop} {a w : World} (h : Moved F a w) : Moved F a w.drew := ⟨h.os, h.tape, h.output, h.size, h.block⟩

theorem Moved.setCell {F : Nat → Prop} {a w : World} (h : Moved F a w) {p : Addr} (hp : F p.block ∨ a.heap.size ≤ p.block) (u : Value) : Moved F a (w.setCell p u) :=
  h.trans (F1 := fun k => k = p.block) ⟨rfl, rfl, rfl, by simp [World.setCell], fun k _ hn => Below.heap_setCell _ _ _ _ hn⟩ (fun i hi => by subst hi; exact hp)

theorem Moved.grown {F : Nat → Prop} {a w w' : World} {row : Option Nat} (h : Moved F a w) (hg : w.grownBy w' row) (hr : ∀ k, row = some k → F k ∨ a.heap.size ≤ k) : Moved F a w' :=
  h.trans (F1 := fun k => row = some k) ⟨hg.os, hg.tape, hg.output, hg.size, fun k hk hn => hg.block k hk (fun e => hn e.symm)⟩ (fun i hi => hr i hi)

theorem Moved.below {w w' : World} (h : Fresh w w') : Below w.heap.size w w' := ⟨h.os, h.tape, h.output, h.size, fun k hk => h.block k hk (fun g => g)⟩

theorem Moved.of_below {F : Nat → Prop} {w w' : World} (h : Below w.heap.size w w') : Moved F w w' := ⟨h.os, h.tape, h.output, h.size, fun k hk _ => h.block k hk⟩

theorem Below.drawn {B : Nat} {a w : World} (h : Below B a w) (n : Nat) : Below B a (w.drewN n) := h.trans ⟨rfl, rfl, rfl, Nat.le_refl _, fun _ _ => rfl⟩
theorem Moved.drawn {F : Nat → Prop} {a w : World} (h : Moved F a w) (n : Nat) : Moved F a (w.drewN n) := ⟨h.os, h.tape, h.output, h.size, h.block⟩

section
variable {P : Program} (w : World)

/-- An append to a row: what it owns behind, what has turned, where the row lies. -/
theorem run_append_at (base : Nat) (t ty e : TypeId) (i : TypeInfo) (z : Value) (size bytes : Nat) (ht : P.underlying t = some (.slice e)) (hi : P.info? e = some i) (hz : i.zero = some z)
    (hsize : i.size = size) (hby : i.bytes = bytes) (hzs : z.cells.size = size) (hsz : 0 < size)
    (v : Value) (n : Nat) (xs : List Value) (hown : w.ownsRow base e size v n xs)
    (ao : Option Addr) (m c : Nat) (news : List Value) (hl : news.length = m * size) (hno : ao = none → m = 0 ∧ c = 0)
    (hnews : ∀ a, ao = some a → ∀ j u, news[j]? = some u → w.cell? (a.add j) = some u) (h1 : ∀ u ∈ news, u.oneCell' = true)
    (h63 : n + m ≤ maxLen) (hbytes : (n + m) * bytes ≤ 140737488355328) (hbase : base ≤ w.heap.size) :
    ∃ v' w', (Builtin.append_ #[t, t] ty #[v, .slice ao m c]).run P w = .ok v' w' ∧ w'.ownsRow base e size v' (n + m) (xs ++ news) ∧ w.grownBy w' v.ownBlock ∧
      (v'.ownBlock = v.ownBlock ∨ v'.ownBlock = some w.heap.size) := by
  subst hsize
  subst hby
  cases ao with
  | none =>
    obtain ⟨rfl, rfl⟩ := hno rfl
    have hn : news = [] := List.eq_nil_of_length_eq_zero (by simpa using hl)
    subst hn
    have hr := run_append_owned_none (P := P) w base t ty e i i.size ht hi v n xs hown
    exact ⟨v, w, hr, by simpa using hown, ⟨rfl, rfl, rfl, Nat.le_refl _, fun _ _ _ => rfl⟩, .inl rfl⟩
  | some a =>
    have hnews := hnews a rfl
    obtain ⟨v', w', hr, ho, hg, _⟩ := run_append_own (P := P) w base t ty e i z i.size i.bytes ht hi hz rfl rfl hzs hsz v n xs hown a m c news hl hnews h1 h63 hbytes hbase
    refine ⟨v', w', hr, ho, hg, ?_⟩
    rcases hown.2 with ⟨rfl, rfl⟩ | ⟨g, cap, cur, rfl, hbg, hgg, hnc, hcm, hcs, htake⟩
    · by_cases hm : m = 0
      · subst hm
        have hn : news = [] := List.eq_nil_of_length_eq_zero (by simpa using hl)
        subst hn
        have : (Builtin.append_ #[t, t] ty #[.slice none 0 0, .slice (some a) 0 c]).run P w = .ok (.slice none 0 0) w := by
          simp [Builtin.append_, run_underlying ht, sizeOf, typeInfo, hi, Builtin.lenOf, Builtin.firstCells, loadCells, loadCellsFrom]
        rw [this] at hr
        simp only [Result.ok.injEq] at hr
        rw [← hr.1]
        exact .inl rfl
      · have hr' := run_append_nil (P := P) w t ty e i z ht hi hz a m c news hl hnews (by omega) (by simp only [maxLen] at h63; omega) (by have hb := hbytes; simp only [Nat.zero_add] at hb; omega)
        rw [hr'] at hr
        simp only [Result.ok.injEq] at hr
        rw [← hr.1]
        exact .inr rfl
    · by_cases hroom : n + m ≤ cap
      · have hfit : n * i.size + news.length ≤ cur.size := by rw [hl, hcs, ← Nat.add_mul]; exact Nat.mul_le_mul_right _ hroom
        have hr' := run_append_room (P := P) w t ty e i ht hi g n cap cur hgg a m c news hl hnews h1 hroom hfit
        rw [hr'] at hr
        simp only [Result.ok.injEq] at hr
        rw [← hr.1]
        exact .inl rfl
      · have holds : ∀ j u, xs[j]? = some u → w.cell? ((⟨g, 0, none⟩ : Addr).add j) = some u := hown.cells (g := g) rfl
        have hr' := run_append_grow (P := P) w t ty e i z ht hi hz ⟨g, 0, none⟩ n cap xs hown.1 holds a m c news hl hnews (by omega) (by simp only [maxLen] at h63; omega) (growslice_fits (by omega) hbytes)
        rw [hr'] at hr
        simp only [Result.ok.injEq] at hr
        rw [← hr.1]
        exact .inr rfl

theorem wp_append_at {o : Oper} {a : Act} {K : Act → World → Prop} {Q : Exit → Act → World → Prop} (s x : Operand) (t : TypeId)
    (ho : o.op = .call { callee := .builtin .append, args := #[s, x], argTypes := #[t, t] })
    (base : Nat) (e : TypeId) (i : TypeInfo) (z : Value) (size bytes : Nat) (ht : P.underlying t = some (.slice e)) (hi : P.info? e = some i) (hz : i.zero = some z)
    (hsize : i.size = size) (hby : i.bytes = bytes) (hzs : z.cells.size = size) (hsz : 0 < size)
    (v : Value) (n : Nat) (xs : List Value) (hs : a.eval s = v) (hown : w.ownsRow base e size v n xs)
    (ao : Option Addr) (m c : Nat) (news : List Value) (hx : a.eval x = .slice ao m c) (hl : news.length = m * size) (hno : ao = none → m = 0 ∧ c = 0)
    (hnews : ∀ a, ao = some a → ∀ j u, news[j]? = some u → w.cell? (a.add j) = some u) (h1 : ∀ u ∈ news, u.oneCell' = true)
    (h63 : n + m ≤ maxLen) (hbytes : (n + m) * bytes ≤ 140737488355328) (hbase : base ≤ w.heap.size)
    (h : ∀ v' w', w'.ownsRow base e size v' (n + m) (xs ++ news) → w.grownBy w' v.ownBlock → (v'.ownBlock = v.ownBlock ∨ v'.ownBlock = some w.heap.size) → K (a.put o.dst v') w') : o.wp P a w K Q := by
  obtain ⟨v', w', hr, h2, h3, h4⟩ := run_append_at (P := P) w base t o.type e i z size bytes ht hi hz hsize hby hzs hsz v n xs hown ao m c news hl hno hnews h1 h63 hbytes hbase
  unfold Oper.wp execOp
  simp only [ho, resolve, invoke, builtin, Sem.run_bind, Sem.run_pure, Result.andThen_ok, List.map_toArray, List.map_cons, List.map_nil, hs, hx, hr]
  exact h v' w' h2 h3 h4

theorem wpList_append_at {ops : Array Oper} {rest : List Oper} {o : Oper} {a : Act} {Q : Exit → Act → World → Prop} (hgd : o.guard = none) (s x : Operand) (t : TypeId)
    (ho : o.op = .call { callee := .builtin .append, args := #[s, x], argTypes := #[t, t] })
    (base : Nat) (e : TypeId) (i : TypeInfo) (z : Value) (size bytes : Nat) (ht : P.underlying t = some (.slice e)) (hi : P.info? e = some i) (hz : i.zero = some z)
    (hsize : i.size = size) (hby : i.bytes = bytes) (hzs : z.cells.size = size) (hsz : 0 < size)
    (v : Value) (n : Nat) (xs : List Value) (hs : a.eval s = v) (hown : w.ownsRow base e size v n xs)
    (ao : Option Addr) (m c : Nat) (news : List Value) (hx : a.eval x = .slice ao m c) (hl : news.length = m * size) (hno : ao = none → m = 0 ∧ c = 0)
    (hnews : ∀ a, ao = some a → ∀ j u, news[j]? = some u → w.cell? (a.add j) = some u) (h1 : ∀ u ∈ news, u.oneCell' = true)
    (h63 : n + m ≤ maxLen) (hbytes : (n + m) * bytes ≤ 140737488355328) (hbase : base ≤ w.heap.size)
    (h : ∀ v' w', w'.ownsRow base e size v' (n + m) (xs ++ news) → w.grownBy w' v.ownBlock → (v'.ownBlock = v.ownBlock ∨ v'.ownBlock = some w.heap.size) → wpList P ops Q rest (a.put o.dst v') w') : wpList P ops Q (o :: rest) a w :=
  wpList_plain hgd fun _ hK => wp_append_at w s x t ho base e i z size bytes ht hi hz hsize hby hzs hsz v n xs hs hown ao m c news hx hl hno hnews h1 h63 hbytes hbase fun v' w' h2 h3 h4 => hK _ _ (h v' w' h2 h3 h4)

theorem wpList_append_here {ops : Array Oper} {rest : List Oper} {o : Oper} {a : Act} {Q : Exit → Act → World → Prop} (hgd : o.guard = none) (s x : Operand) (t : TypeId)
    (ho : o.op = .call { callee := .builtin .append, args := #[s, x], argTypes := #[t, t] })
    (e : TypeId) (i : TypeInfo) (z : Value) (size bytes : Nat) (ht : P.underlying t = some (.slice e)) (hi : P.info? e = some i) (hz : i.zero = some z)
    (hsize : i.size = size) (hby : i.bytes = bytes) (hzs : z.cells.size = size) (hsz : 0 < size)
    (v : Value) (n : Nat) (xs : List Value) (hs : a.eval s = v) (hown : w.ownsRow 0 e size v n xs)
    (ao : Option Addr) (m c : Nat) (news : List Value) (hx : a.eval x = .slice ao m c) (hl : news.length = m * size) (hno : ao = none → m = 0 ∧ c = 0)
    (hnews : ∀ a, ao = some a → ∀ j u, news[j]? = some u → w.cell? (a.add j) = some u) (h1 : ∀ u ∈ news, u.oneCell' = true)
    (h63 : n + m ≤ maxLen) (hbytes : (n + m) * bytes ≤ 140737488355328)
    (h : ∀ v' w', w'.ownsRow 0 e size v' (n + m) (xs ++ news) → w.grownBy w' v.ownBlock → (v'.ownBlock = v.ownBlock ∨ v'.ownBlock = some w.heap.size) → wpList P ops Q rest (a.put o.dst v') w') : wpList P ops Q (o :: rest) a w :=
  wpList_append_at w hgd s x t ho 0 e i z size bytes ht hi hz hsize hby hzs hsz v n xs hs hown ao m c news hx hl hno hnews h1 h63 hbytes (Nat.zero_le _) h
end

/-- A row that is not empty, opened. -/
theorem owns_open {w : World} {base : Nat} {e : TypeId} {size : Nat} {v : Value} {n : Nat} {xs : List Value} (h : w.ownsRow base e size v n xs) (hn : 0 < n) :
    ∃ g cap, v = .slice (some ⟨g, 0, none⟩) n cap ∧ base ≤ g ∧ g < w.heap.size ∧ n ≤ cap ∧ cap ≤ maxLen ∧ (∀ j, j < n * size → w.cell? ⟨g, j, none⟩ = xs[j]?) ∧ (∀ j, w.frozen? ⟨g, j, none⟩ = false) := by
  rcases h.2 with ⟨_, h0⟩ | ⟨g, cap, cur, rfl, hb, hg, hnc, hcm, hcs, ht⟩
  · omega
  · exact ⟨g, cap, rfl, hb, (Array.getElem?_eq_some_iff.1 hg).1, hnc, hcm, fun j hj => h.cellAt j hj, fun j => h.frozenAt j⟩

/-- A row, opened: nil, or a row. -/
theorem owns_form {w : World} {base : Nat} {e : TypeId} {size : Nat} {v : Value} {n : Nat} {xs : List Value} (h : w.ownsRow base e size v n xs) :
    ∃ ao cap, v = .slice ao n cap ∧ n ≤ cap ∧ cap ≤ maxLen ∧ (ao = none → n = 0 ∧ cap = 0) ∧ (∀ a, ao = some a → a.off = 0 ∧ a.spot = none ∧ base ≤ a.block ∧ a.block < w.heap.size) ∧ (∀ a, ao = some a → ∀ j, j < n * size → w.cell? ⟨a.block, j, none⟩ = xs[j]?) ∧ (∀ a, ao = some a → ∀ j, w.frozen? ⟨a.block, j, none⟩ = false) := by
  rcases h.2 with ⟨rfl, h0⟩ | ⟨g, cap, cur, rfl, hb, hg, hnc, hcm, hcs, ht⟩
  · subst h0
    exact ⟨none, 0, rfl, Nat.le_refl _, by unfold maxLen; omega, fun _ => ⟨rfl, rfl⟩, fun _ e => (by cases e), fun _ e => (by cases e), fun _ e => (by cases e)⟩
  · refine ⟨some ⟨g, 0, none⟩, cap, rfl, hnc, hcm, fun e => by (cases e), ?_, ?_, ?_⟩
    · rintro a ⟨⟩; exact ⟨rfl, rfl, hb, (Array.getElem?_eq_some_iff.1 hg).1⟩
    · rintro a ⟨⟩ j hj; exact h.cellAt j hj
    · rintro a ⟨⟩ j; exact h.frozenAt j

/-- what was just laid can be read -/
theorem cells_new (w : World) (cs : List Value) (e : TypeId) : ∀ a, some (⟨w.heap.size, 0, none⟩ : Addr) = some a → ∀ j u, cs[j]? = some u → (w.alloc (.cells cs.toArray e)).cell? (a.add j) = some u := by
  rintro a ⟨⟩ j u hj
  have : (⟨w.heap.size, 0, none⟩ : Addr).add j = ⟨w.heap.size, j, none⟩ := by unfold Addr.add; split <;> simp_all
  rw [this, cell_of_row (w.alloc (.cells cs.toArray e)) w.heap.size j cs.toArray e (0, 0) (heap_alloc_new w _)]
  simpa using hj

end Go.Proofs.YtbljamcdaoofbaaGreatDoor

/- The small functions of loamref on bytes and words answer as plain functions on bytes do. -/
namespace Go.Proofs.YtbljamcdaoofbaaGreatDoor
open Go.RowKit

def letterB (c : Int) : Bool := decide (97 ≤ c) && decide (c ≤ 122)
def digitB (c : Int) : Bool := decide (48 ≤ c) && decide (c ≤ 57)

set_option maxHeartbeats 400000 in
theorem letter_any (c : Int) (w : World) :
    Calls Tryz.prog 169 #[.int .u8 c] w fun e w' => e = .returned (.bool (letterB c)) ∧ w' = w := by
  by_cases h : 97 ≤ c
  all_goals
    go_enter Tryz.func169, Tryz.ntmps169
    go_wp2
    go_ret
    exact ⟨by simp [letterB, h]; try omega, rfl⟩

set_option maxHeartbeats 400000 in
theorem digit_any (c : Int) (w : World) :
    Calls Tryz.prog 170 #[.int .u8 c] w fun e w' => e = .returned (.bool (digitB c)) ∧ w' = w := by
  by_cases h : 48 ≤ c
  all_goals
    go_enter Tryz.func170, Tryz.ntmps170
    go_wp2
    go_ret
    exact ⟨by simp [digitB, h]; try omega, rfl⟩

/-- may this byte stand in a word? -/
def wordC (dg : Bool) (c : UInt8) : Bool := letterB c.toNat || (dg && digitB c.toNat)
/-- the document's name (dg = false) and value (dg = true) -/
def wordB (dg : Bool) (s : List UInt8) : Bool := decide (1 ≤ s.length) && decide (s.length ≤ 6) && s.all (wordC dg)

theorem take_all_succ (dg : Bool) (s : ByteArray) (k : Nat) (h : k < s.size) :
    (s.data.toList.take (k + 1)).all (wordC dg) = ((s.data.toList.take k).all (wordC dg) && wordC dg s[k]) := by
  rw [List.take_succ_eq_append_getElem (by simpa using h), List.all_append]
  simp
  rfl

theorem wordB_bad (dg : Bool) (s : ByteArray) (k : Nat) (h : k < s.size) (hc : wordC dg s[k] = false) : wordB dg s.data.toList = false := by
  have hm : s[k] ∈ s.data.toList := by
    have : s.data.toList[k]'(by simpa using h) = s[k] := rfl
    rw [← this]; exact List.getElem_mem _
  have : s.data.toList.all (wordC dg) = false := by
    rw [Bool.eq_false_iff]; intro hh
    rw [List.all_eq_true] at hh
    have := hh _ hm
    rw [hc] at this; cases this
  simp [wordB, this]

theorem wordB_good (dg : Bool) (s : ByteArray) (k : Nat) (h : ¬ k < s.size) (h1 : 1 ≤ (s.size : Int)) (h2 : (s.size : Int) ≤ 6) (hall : (s.data.toList.take k).all (wordC dg) = true) : wordB dg s.data.toList = true := by
  have hl : s.data.toList.length = s.size := by simp
  rw [List.take_of_length_le (by omega)] at hall
  simp only [wordB, hall, Bool.and_true, Bool.and_eq_true, decide_eq_true_eq]
  omega

set_option maxHeartbeats 800000 in
theorem isWord_any (s : ByteArray) (dg : Bool) (w : World) (hs : s.size ≤ maxLen) :
    Calls Tryz.prog 142 #[.string s, .bool dg] w fun e w' => e = .returned (.bool (wordB dg s.data.toList)) ∧ w' = w := by
  unfold maxLen at hs
  have hl : s.data.toList.length = s.size := by simp
  have HL : Hid (s.data.toList.length = s.size) := hl
  clear hl
  by_cases h1 : (s.size : Int) < 1
  · go_enter Tryz.func142, Tryz.ntmps142
    go_wp2
    go_ret
    refine ⟨?_, rfl⟩
    have := HL.out
    simp [wordB]; omega
  · by_cases h2 : (6 : Int) < s.size
    · go_enter Tryz.func142, Tryz.ntmps142
      go_wp2
      go_ret
      refine ⟨?_, rfl⟩
      have := HL.out
      simp [wordB]; omega
    · go_enter Tryz.func142, Tryz.ntmps142
      go_wp2
      go_loop [5] (fun i => ∃ k : Nat, k ≤ s.size ∧ i = .int .i64 k ∧ (s.data.toList.take k).all (wordC dg) = true) (fun i => s.size - (intOf i).toNat)
      case atStart => exact ⟨0, Nat.zero_le _, rfl, rfl⟩
      case round =>
        obtain ⟨k, hk, rfl, hall⟩ := hrel
        have HA : Hid ((s.data.toList.take k).all (wordC dg) = true) := hall
        clear hall
        by_cases hlt : k < s.size
        · have HS : Hid _ := take_all_succ dg s k hlt
          go_wp2_with (first | (go_at_call 169; refine (letter_any _ _).mono ?_; rintro e w' ⟨rfl, rfl⟩) | (go_at_call 170; refine (digit_any _ _).mono ?_; rintro e w' ⟨rfl, rfl⟩))
          all_goals first
            | (go_ret
               exact ⟨ret_bool (wordB_bad dg s k hlt (by cases dg <;> simp_all [wordC])).symm, rfl⟩)
            | (go_round
               case rel => exact ⟨k + 1, by omega, by go_num, by rw [HS.out, HA.out]; cases dg <;> simp_all [wordC]⟩
               case measure => simp [intOf]; omega)
        · go_wp2
          go_ret
          exact ⟨ret_bool (wordB_good dg s k hlt h1 h2 HA.out).symm, rfl⟩

theorem isWord_l (l : List UInt8) (dg : Bool) (w : World) (hs : l.length ≤ 1048576) :
    Calls Tryz.prog 142 #[.string ⟨l.toArray⟩, .bool dg] w fun e w' => e = .returned (.bool (wordB dg l)) ∧ w' = w := by
  have h := isWord_any ⟨l.toArray⟩ dg w (by unfold maxLen; simp [ByteArray.size]; omega)
  simpa using h

end Go.Proofs.YtbljamcdaoofbaaGreatDoor

/- loamref.cut gives the pieces of a text between the bytes of a kind, in new memory. -/
namespace Go.Proofs.YtbljamcdaoofbaaGreatDoor
open Go.RowKit

theorem Tryz.info9 : (Tryz.prog.info? 9).map (fun i => (i.zero, i.size, i.bytes)) = some (some (.string ByteArray.empty), 1, 16) := by kernel_rfl

/-- a list of bytes as a Go string -/
abbrev SV (l : List UInt8) : Value := .string ⟨l.toArray⟩

/-- the pieces that are whole, and the one that is not -/
def cutSt (c : UInt8) (l : List UInt8) : List (List UInt8) × List UInt8 :=
  l.foldl (fun st x => if x = c then (st.1 ++ [st.2], []) else (st.1, st.2 ++ [x])) ([], [])
def cutL (c : UInt8) (l : List UInt8) : List (List UInt8) := (cutSt c l).1 ++ [(cutSt c l).2]

theorem take_snoc (s : ByteArray) (k : Nat) (h : k < s.size) : s.data.toList.take (k + 1) = s.data.toList.take k ++ [s[k]] := by
  rw [List.take_succ_eq_append_getElem (by simpa using h)]; rfl

theorem cutSt_snoc (c : UInt8) (l : List UInt8) (x : UInt8) : cutSt c (l ++ [x]) = if x = c then ((cutSt c l).1 ++ [(cutSt c l).2], []) else ((cutSt c l).1, (cutSt c l).2 ++ [x]) := by
  simp [cutSt, List.foldl_append]

theorem extract_list (s : ByteArray) (a b : Nat) : s.extract a b = ⟨((s.data.toList.take b).drop a).toArray⟩ := by
  apply ByteArray.ext
  rw [ByteArray.data_extract]
  apply Array.toList_inj.1
  simp [Array.toList_extract, List.drop_take, List.extract_eq_take_drop]

theorem SV_extract (s : ByteArray) (a b : Nat) : Value.string (s.extract a b) = SV ((s.data.toList.take b).drop a) := by rw [extract_list]

/-- one round: the byte is the one at which is cut -/
theorem cut_hit (s : ByteArray) (c : UInt8) (k : Nat) (h : k < s.size) (hc : s[k] = c) :
    cutSt c (s.data.toList.take (k + 1)) = ((cutSt c (s.data.toList.take k)).1 ++ [(cutSt c (s.data.toList.take k)).2], []) := by
  rw [take_snoc s k h, cutSt_snoc, if_pos hc]
theorem cut_miss (s : ByteArray) (c : UInt8) (k : Nat) (h : k < s.size) (hc : ¬ s[k] = c) :
    cutSt c (s.data.toList.take (k + 1)) = ((cutSt c (s.data.toList.take k)).1, (cutSt c (s.data.toList.take k)).2 ++ [s[k]]) := by
  rw [take_snoc s k h, cutSt_snoc, if_neg hc]

theorem cutSt_len (c : UInt8) (l : List UInt8) : ∀ st : List (List UInt8) × List UInt8,
    (l.foldl (fun st x => if x = c then (st.1 ++ [st.2], []) else (st.1, st.2 ++ [x])) st).1.length ≤ st.1.length + l.length := by
  induction l with
  | nil => intro st; simp
  | cons x l ih =>
    intro st
    rw [List.foldl_cons]
    refine Nat.le_trans (ih _) ?_
    split <;> simp <;> omega
theorem cutSt_le (c : UInt8) (l : List UInt8) : (cutSt c l).1.length ≤ l.length := by
  have := cutSt_len c l ([], [])
  simpa [cutSt] using this

theorem u8_eq (a c : UInt8) : ((a.toNat : Int) == (c.toNat : Int)) = decide (a = c) := by
  by_cases h : a = c
  · simp [h]
  · have : a.toNat ≠ c.toNat := fun e => h (UInt8.toNat_inj.1 e)
    simp [h]; omega

set_option maxRecDepth 10000 in
set_option maxHeartbeats 1000000 in
theorem cut_any (s : ByteArray) (c : UInt8) (w : World) (hs : s.size ≤ 1048576) :
    Calls Tryz.prog 116 #[.string s, .int .u8 c.toNat] w fun e w' => ∃ v, e = .returned v ∧ w'.ownsRow w.heap.size 9 1 v (cutL c s.data.toList).length ((cutL c s.data.toList).map SV) ∧ Below w.heap.size w w' := by
  obtain ⟨i0, hi, hz0, hz1, hz2⟩ := info_parts Tryz.info9
  have hl : s.data.toList.length = s.size := by simp
  have HL := hide hl
  clear hl
  go_enter Tryz.func116, Tryz.ntmps116
  go_wp2
  go_loopw [5, 6, 7] (fun l f i wr => ∃ k fr : Nat, k ≤ s.size ∧ i = .int .i64 k ∧ f = .int .i64 fr ∧ fr ≤ k ∧ wr.ownsRow w.heap.size 9 1 l (cutSt c (s.data.toList.take k)).1.length ((cutSt c (s.data.toList.take k)).1.map SV) ∧ (s.data.toList.take k).drop fr = (cutSt c (s.data.toList.take k)).2 ∧ Below w.heap.size w wr)
    (fun _ _ i _ => s.size - (intOf i).toNat)
  case atStart => exact ⟨0, 0, Nat.zero_le _, rfl, rfl, Nat.le_refl _, World.ownsRow_nil _ _ _ _, rfl, Below.refl _ _⟩
  case round =>
    obtain ⟨k, fr, hk, rfl, rfl, hfr, hown, hcur, hbel⟩ := hrel
    have HC := hide hcur
    clear hcur
    have hlen := cutSt_le c (s.data.toList.take k)
    rw [List.length_take, unhide HL] at hlen
    have hsz := hbel.size
    by_cases hlt : k < s.size
    · by_cases hc : (s[k] = c)
      · have hcb : ((s[k].toNat : Int) == (c.toNat : Int)) = true := by rw [u8_eq]; simp [hc]
        have HH := hide (cut_hit s c k hlt hc)
        clear hc
        go_wp2_with (first
          | (at_builtin; refine wpList_append_own _ rfl (.tmp 19) (.tmp 24) 33 rfl w.heap.size 9 i0 (.string ByteArray.empty) 1 16 Tryz.underlying33 hi hz0 hz1 hz2 rfl (by decide) _ _ _ rfl (hown.alloc _) ⟨wr.heap.size, 0, none⟩ 1 1 [.string (s.extract fr k)] rfl rfl (by intro j u hj; match j, hj with | 0, hj => simp at hj; subst hj; simp [Addr.add]) (by intro u hu; simp at hu; subst hu; rfl) (by unfold maxLen; omega) (by omega) (by simp; omega) ?_; intro v' w1 hown1 hgrow1 _; have hbel1 := (hbel.alloc (by omega) (.cells #[.string (s.extract fr k)] 9)).grown hgrow1 (by simp; omega) (fun g hg => (hown.lt g hg).1); clear hgrow1))
        go_roundw
        case rel =>
          refine ⟨k + 1, k + 1, by omega, by go_num, by go_num, Nat.le_refl _, ?_, ?_, hbel1⟩
          · rw [unhide HH]
            simp only [List.length_append, List.map_append, List.length_singleton, List.map_cons, List.map_nil, ← unhide HC, ← SV_extract]
            exact hown1
          · rw [unhide HH]; simp
        case measure => simp [intOf]; omega
      · have hcb : ((s[k].toNat : Int) == (c.toNat : Int)) = false := by rw [u8_eq]; simp [hc]
        have HH := hide (cut_miss s c k hlt hc)
        clear hc
        go_wp2
        go_roundw
        case rel =>
          refine ⟨k + 1, fr, by omega, by go_num, rfl, by omega, ?_, ?_, hbel⟩
          · rw [unhide HH]; exact hown
          · rw [unhide HH]
            show _ = (cutSt c (s.data.toList.take k)).2 ++ [s[k]]
            rw [← unhide HC, take_snoc s k hlt, List.drop_append_of_le_length]
            rw [List.length_take, unhide HL]; omega
        case measure => simp [intOf]; omega
    · have hk' : k = s.size := by omega
      go_wp2_with (first
          | (at_builtin; refine wpList_append_own _ rfl (.tmp 28) (.tmp 32) 33 rfl w.heap.size 9 i0 (.string ByteArray.empty) 1 16 Tryz.underlying33 hi hz0 hz1 hz2 rfl (by decide) _ _ _ rfl (hown.alloc _) ⟨wr.heap.size, 0, none⟩ 1 1 [.string (s.extract fr s.size)] rfl rfl (by intro j u hj; match j, hj with | 0, hj => simp at hj; subst hj; simp [Addr.add]) (by intro u hu; simp at hu; subst hu; rfl) (by unfold maxLen; omega) (by omega) (by simp; omega) ?_; intro v' w1 hown1 hgrow1 _; have hbel1 := (hbel.alloc (by omega) (.cells #[.string (s.extract fr s.size)] 9)).grown hgrow1 (by simp; omega) (fun g hg => (hown.lt g hg).1); clear hgrow1))
      go_ret
      refine ⟨v', rfl, ?_, hbel1⟩
      have htk : s.data.toList.take k = s.data.toList := List.take_of_length_le (by rw [unhide HL]; omega)
      have hcur := unhide HC
      rw [htk] at hown1 hcur
      have hx : Value.string (s.extract fr s.size) = SV (cutSt c s.data.toList).2 := by
        rw [SV_extract, List.take_of_length_le (by rw [unhide HL]; omega), hcur]
      rw [hx] at hown1
      simpa [cutL] using hown1

theorem cut_l (l : List UInt8) (c : UInt8) (w : World) (hs : l.length ≤ 1048576) :
    Calls Tryz.prog 116 #[.string ⟨l.toArray⟩, .int .u8 c.toNat] w fun e w' => ∃ v, e = .returned v ∧ w'.ownsRow w.heap.size 9 1 v (cutL c l).length ((cutL c l).map SV) ∧ Below w.heap.size w w' := by
  have h := cut_any ⟨l.toArray⟩ c w (by simp [ByteArray.size]; omega)
  simpa using h

end Go.Proofs.YtbljamcdaoofbaaGreatDoor

/- loamref.pair and loamref.isLabels answer as plain functions on bytes do. -/
namespace Go.Proofs.YtbljamcdaoofbaaGreatDoor
open Go.RowKit

def pairL (s : List UInt8) : List UInt8 × List UInt8 × Bool :=
  match cutL 61 s with
  | [a, b] => (a, b, wordB false a && wordB true b)
  | _ => ([], [], false)

theorem cut_piece_le (c : UInt8) (s : List UInt8) : ∀ st : List (List UInt8) × List UInt8, (∀ x ∈ st.1, x.length ≤ 1048576) → st.2.length + s.length ≤ 1048576 →
    (∀ x ∈ (s.foldl (fun st x => if x = c then (st.1 ++ [st.2], []) else (st.1, st.2 ++ [x])) st).1, x.length ≤ 1048576) ∧ (s.foldl (fun st x => if x = c then (st.1 ++ [st.2], []) else (st.1, st.2 ++ [x])) st).2.length ≤ 1048576 := by
  induction s with
  | nil => intro st h1 h2; exact ⟨h1, by simpa using h2⟩
  | cons a s ih =>
    intro st h1 h2
    rw [List.foldl_cons]
    simp only [List.length_cons] at h2
    apply ih
    · split
      · intro x hx
        simp only [List.mem_append, List.mem_singleton] at hx
        rcases hx with hx | rfl
        · exact h1 x hx
        · omega
      · exact h1
    · split
      · simp; omega
      · simp; omega

theorem cutL_le (c : UInt8) (s : List UInt8) (h : s.length ≤ 1048576) : ∀ x ∈ cutL c s, x.length ≤ 1048576 := by
  have := cut_piece_le c s ([], []) (by simp) (by simpa using h)
  intro x hx
  simp only [cutL, List.mem_append, List.mem_singleton] at hx
  rcases hx with hx | rfl
  · exact this.1 x hx
  · exact this.2

set_option maxRecDepth 10000 in
set_option maxHeartbeats 1000000 in
theorem pair_l (l : List UInt8) (w : World) (hs : l.length ≤ 1048576) :
    Calls Tryz.prog 117 #[.string ⟨l.toArray⟩] w fun e w' => e = .returned (.tuple #[SV (pairL l).1, SV (pairL l).2.1, .bool (pairL l).2.2]) ∧ Below w.heap.size w w' := by
  have hle := cutL_le 61 l hs
  go_enter Tryz.func117, Tryz.ntmps117
  go_wp2_with fail
  refine (cut_l l 61 _ hs).mono ?_
  rintro e w1 ⟨v, rfl, hown, hbel⟩
  have hpos : 0 < (cutL 61 l).length := by simp [cutL]
  obtain ⟨g, cap, rfl, hg, hgw, hnc, hcm, hcell, hfz⟩ := owns_open hown hpos
  clear hown
  by_cases h2 : (cutL 61 l).length = 2
  · obtain ⟨a, b, hab⟩ : ∃ a b, cutL 61 l = [a, b] := by
      match hc : cutL 61 l, h2 with
      | [a, b], _ => exact ⟨a, b, rfl⟩
    have hp : pairL l = (a, b, wordB false a && wordB true b) := by simp [pairL, hab]
    have HP := hide hp
    have ha : a.length ≤ 1048576 := hle a (by simp [hab])
    have hb : b.length ≤ 1048576 := hle b (by simp [hab])
    have c0 : w1.cell? ⟨g, 0, none⟩ = some (.string ⟨a.toArray⟩) := by rw [hcell 0 (by omega), hab]; rfl
    have c1 : w1.cell? ⟨g, 1, none⟩ = some (.string ⟨b.toArray⟩) := by rw [hcell 1 (by omega), hab]; rfl
    rw [hab] at *
    clear hcell hab hp hle h2
    go_wp2_with fail
    refine (isWord_l a false _ ha).mono ?_
    rintro e w2 ⟨rfl, rfl⟩
    go_wp2_with fail
    refine (isWord_l b true _ hb).mono ?_
    rintro e w3 ⟨rfl, rfl⟩
    cases hwa : wordB false a
    all_goals
      rw [hwa] at HP
      clear hwa
      go_wp2
      go_quiet (fail)
      go_wp2
      go_ret3
      refine ⟨?_, Go.Proofs.YtbljamcdaoofbaaGreatDoor.Below.drawn hbel _⟩
      rw [unhide HP]; simp
  · have hn : (((cutL 61 l).length : Int) == 2) = false := by simp; omega
    have hp : pairL l = ([], [], false) := by
      unfold pairL
      split
      · rename_i h; rw [h] at h2; simp at h2
      · rfl
    have HP := hide hp
    clear hp hcell h2
    go_wp2
    go_ret3
    refine ⟨?_, hbel⟩
    rw [unhide HP]; simp

/-- the reference's own look at labels, from a piece on -/
def labelsGo : Bool → List UInt8 → List (List UInt8) → Bool
  | _, _, [] => true
  | first, was, p :: rest =>
    if (!(pairL p).2.2 || (!first && (Op.bytesLess (pairL p).1 was || ((pairL p).1 == was)))) = true then false else labelsGo false (pairL p).1 rest
def labelsB (s : List UInt8) : Bool := labelsGo true [] (cutL 44 s) && decide ((cutL 44 s).length ≤ 4)

theorem labelsGo_bad {k : Nat} {was p : List UInt8} {rest : List (List UInt8)} (h : (pairL p).2.2 = false ∨ (0 < k ∧ (Op.bytesLess (pairL p).1 was = true ∨ ((pairL p).1 == was) = true))) : labelsGo (k == 0) was (p :: rest) = false := by
  rw [labelsGo, if_pos]
  rcases h with h | ⟨h0, h⟩
  · simp [h]
  · have : (k == 0) = false := by simp; omega
    rw [this]
    rcases h with h | h <;> simp only [h] <;> simp
theorem labelsGo_ok {k : Nat} {was p : List UInt8} {rest : List (List UInt8)} (h1 : (pairL p).2.2 = true) (h : ¬ 0 < k ∨ (Op.bytesLess (pairL p).1 was = false ∧ ((pairL p).1 == was) = false)) : labelsGo (k == 0) was (p :: rest) = labelsGo ((k + 1) == 0) (pairL p).1 rest := by
  rw [labelsGo, if_neg]
  · simp
  · rcases h with h | ⟨h, h'⟩
    · have : (k == 0) = true := by simp; omega
      rw [this]; simp [h1]
    · simp only [h1, h, h']; simp

set_option maxRecDepth 10000 in
set_option maxHeartbeats 1000000 in
theorem isLabels_l (l : List UInt8) (w : World) (hs : l.length ≤ 1048576) :
    Calls Tryz.prog 88 #[.string ⟨l.toArray⟩] w fun e w' => e = .returned (.bool (labelsB l)) ∧ Below w.heap.size w w' := by
  have hle := cutL_le 44 l hs
  go_enter Tryz.func88, Tryz.ntmps88
  go_wp2_with fail
  refine (cut_l l 44 _ hs).mono ?_
  rintro e w1 ⟨v, rfl, hown, hbel⟩
  have hpos : 0 < (cutL 44 l).length := by simp [cutL]
  have hcl := cutSt_le 44 l
  have hlen : (cutL 44 l).length ≤ 1048577 := by simp [cutL]; omega
  obtain ⟨g, cap, rfl, hg, hgw, hnc, hcm, hcell, hfz⟩ := owns_open hown hpos
  have hB : labelsB l = (labelsGo true [] (cutL 44 l) && decide ((cutL 44 l).length ≤ 4)) := rfl
  have HB := hide hB
  clear hown hB hcl
  generalize cutL 44 l = L at *
  have HLE := hide hle
  clear hle
  have HC := hide hcell
  clear hcell hfz
  go_wp2
  go_loopw [4, 5] (fun wa i wr => ∃ (k : Nat) (was : List UInt8), k ≤ L.length ∧ i = .int .i64 k ∧ wa = .string ⟨was.toArray⟩ ∧ labelsGo true [] L = labelsGo (k == 0) was (L.drop k) ∧ Below w.heap.size w wr ∧ Below w1.heap.size w1 wr)
    (fun _ i _ => L.length - (intOf i).toNat)
  case atStart => exact ⟨0, [], Nat.zero_le _, rfl, rfl, rfl, hbel, Below.refl _ _⟩
  case round =>
    obtain ⟨k, was, hk, rfl, rfl, hgo, hbr, hbr1⟩ := hrel
    have HG := hide hgo
    clear hgo
    by_cases hlt : k < L.length
    · have hce : wr.cell? ⟨g, k, none⟩ = some (.string ⟨(L[k]).toArray⟩) := by
        rw [hbr1.cell (by exact hgw), unhide HC k (by omega)]
        simp [hlt]
      have hp : L[k].length ≤ 1048576 := unhide HLE _ (List.getElem_mem hlt)
      have HD := hide (List.drop_eq_getElem_cons hlt)
      go_wp2_with fail
      refine (pair_l L[k] _ hp).mono ?_
      rintro e w2 ⟨rfl, hb2⟩
      go_wp2
      all_goals first
        | (go_ret
           refine ⟨ret_bool ?_, hbr.trans (hb2.mono hbr.size)⟩
           rw [unhide HB, unhide HG, unhide HD, labelsGo_bad (by first | exact .inr ⟨‹_›, ‹_›⟩ | (left; simpa using ‹¬ (pairL L[k]).snd.snd = true›))]
           rfl)
        | (go_roundw
           case rel =>
             refine ⟨k + 1, (pairL L[k]).1, by omega, by go_num, rfl, ?_, hbr.trans (hb2.mono hbr.size), hbr1.trans (hb2.mono hbr1.size)⟩
             rw [unhide HG, unhide HD, labelsGo_ok ‹_› (by first | exact .inl ‹_› | exact .inr ‹_›)]
           case measure => simp [intOf]; omega)
    · go_wp2
      go_ret
      refine ⟨ret_bool ?_, hbr⟩
      rw [unhide HB, unhide HG, List.drop_of_length_le (by omega)]
      simp [labelsGo]; omega

end Go.Proofs.YtbljamcdaoofbaaGreatDoor

/- The tokens of a query's text, as a plain function on bytes. -/
namespace Go.Proofs.YtbljamcdaoofbaaGreatDoor

def isL (c : UInt8) : Bool := letterB c.toNat
def isD (c : UInt8) : Bool := digitB c.toNat
/-- the marks of one byte -/
def isM (c : UInt8) : Bool := c == 123 || c == 125 || c == 40 || c == 41 || c == 91 || c == 93 || c == 44 || c == 61

/-- how far the next quote is -/
def quoteAt : List UInt8 → Option Nat
  | [] => none
  | c :: r => if c = 34 then some 0 else (quoteAt r).map (· + 1)

/-- a token: its kind (0 word, 1 number, 2 string, 3 mark, 4 the end, 5 none), its place, its text -/
structure Tok where
  k : Nat
  pos : Nat
  text : List UInt8

/-- the token at the head of a text that begins with no blank: its kind, its text, how many bytes it takes -/
def tok1 : List UInt8 → Nat × List UInt8 × Nat
  | [] => (4, [], 0)
  | c :: r =>
    if isL c = true then (0, (c :: r).takeWhile isL, ((c :: r).takeWhile isL).length)
    else if isD c = true then (1, (c :: r).takeWhile isD, ((c :: r).takeWhile isD).length)
    else if c = 34 then (match quoteAt r with | some n => (2, r.take n, n + 2) | none => (5, [], 0))
    else if (c = 33 ∨ c = 124) then (if r.head? = some 61 then (3, [c, 61], 2) else (5, [], 0))
    else if isM c = true then (3, [c], 1)
    else (5, [], 0)

theorem tok1_cons (c : UInt8) (r : List UInt8) : tok1 (c :: r) =
    if isL c = true then (0, (c :: r).takeWhile isL, ((c :: r).takeWhile isL).length)
    else if isD c = true then (1, (c :: r).takeWhile isD, ((c :: r).takeWhile isD).length)
    else if c = 34 then (match quoteAt r with | some n => (2, r.take n, n + 2) | none => (5, [], 0))
    else if (c = 33 ∨ c = 124) then (if r.head? = some 61 then (3, [c, 61], 2) else (5, [], 0))
    else if isM c = true then (3, [c], 1)
    else (5, [], 0) := rfl

/-- how many blanks stand ahead -/
def blanks (l : List UInt8) : Nat := (l.takeWhile (fun c => c == 32)).length

theorem tok1_go {l : List UInt8} (h : (tok1 l).1 < 4) : 0 < (tok1 l).2.2 ∧ 0 < l.length := by
  cases l with
  | nil => simp [tok1] at h
  | cons c r =>
    refine ⟨?_, by simp⟩
    rw [tok1_cons] at h ⊢
    split
    · rename_i hc; simp [hc]
    · split
      · rename_i _ hc; simp [hc]
      · split
        · rename_i h1 h2 h3
          rw [if_neg h1, if_neg h2, if_pos h3] at h
          cases hq : quoteAt r with
          | none => rw [hq] at h; simp at h
          | some n => simp
        · split
          · rename_i h1 h2 h3 h4
            rw [if_neg h1, if_neg h2, if_neg h3, if_pos h4] at h
            split
            · simp
            · rename_i h5; rw [if_neg h5] at h; simp at h
          · split
            · simp
            · rename_i h1 h2 h3 h4 h5
              rw [if_neg h1, if_neg h2, if_neg h3, if_neg h4, if_neg h5] at h
              simp at h

/-- the tokens of a text from a place on -/
def toks (s : List UInt8) (p : Nat) : List Tok :=
  if (tok1 (s.drop (p + blanks (s.drop p)))).1 < 4 then
    ⟨(tok1 (s.drop (p + blanks (s.drop p)))).1, p + blanks (s.drop p), (tok1 (s.drop (p + blanks (s.drop p)))).2.1⟩ :: toks s (p + blanks (s.drop p) + (tok1 (s.drop (p + blanks (s.drop p)))).2.2)
  else [⟨(tok1 (s.drop (p + blanks (s.drop p)))).1, p + blanks (s.drop p), (tok1 (s.drop (p + blanks (s.drop p)))).2.1⟩]
termination_by s.length - p
decreasing_by
  rename_i h
  have := tok1_go h
  rw [List.length_drop] at this
  omega

/-- one that is the last, and none else, is the end or none -/
def Whole : List Tok → Prop
  | [] => False
  | [t] => 4 ≤ t.k
  | t :: r => t.k < 4 ∧ Whole r

theorem toks_whole (s : List UInt8) (p : Nat) : Whole (toks s p) := by
  induction h : s.length - p using Nat.strongRecOn generalizing p with
  | ind n ih =>
    rw [toks]
    split
    · rename_i hk
      have hg := tok1_go hk
      rw [List.length_drop] at hg
      have := ih _ (by omega) (p + blanks (s.drop p) + (tok1 (s.drop (p + blanks (s.drop p)))).2.2) rfl
      cases ht : toks s (p + blanks (s.drop p) + (tok1 (s.drop (p + blanks (s.drop p)))).2.2) with
      | nil => rw [ht] at this; exact this.elim
      | cons t r => rw [ht] at this; exact ⟨hk, this⟩
    · rename_i hk
      show 4 ≤ _
      simp only; omega

theorem tok1_le (l : List UInt8) : (tok1 l).1 ≤ 5 := by
  cases l with
  | nil => simp [tok1]
  | cons c r =>
    rw [tok1_cons]
    repeat' split
    all_goals simp

theorem quoteAt_lt {r : List UInt8} {n : Nat} (h : quoteAt r = some n) : n < r.length ∧ r[n]? = some 34 := by
  induction r generalizing n with
  | nil => simp [quoteAt] at h
  | cons c r ih =>
    unfold quoteAt at h
    split at h
    · rename_i hc; simp at h; subst h; simp [hc]
    · rw [Option.map_eq_some_iff] at h
      obtain ⟨m, hm, rfl⟩ := h
      have := ih hm
      simp; exact this

theorem tok1_len (l : List UInt8) : (tok1 l).2.2 ≤ l.length ∧ (tok1 l).2.1.length ≤ l.length := by
  cases l with
  | nil => simp [tok1]
  | cons c r =>
    rw [tok1_cons]
    have hL : ((c :: r).takeWhile isL).length ≤ (c :: r).length := (List.takeWhile_prefix _).length_le
    have hD : ((c :: r).takeWhile isD).length ≤ (c :: r).length := (List.takeWhile_prefix _).length_le
    split
    · exact ⟨hL, hL⟩
    · split
      · exact ⟨hD, hD⟩
      · split
        · cases hq : quoteAt r with
          | none => simp
          | some n => have := (quoteAt_lt hq).1; simp; omega
        · split
          · split
            · rename_i h; cases r with
              | nil => simp at h
              | cons _ _ => simp
            · simp
          · split <;> simp

theorem blanks_le (l : List UInt8) : blanks l ≤ l.length := (List.takeWhile_prefix _).length_le

/-- each place lies within the text, each text is as long at most -/
theorem toks_fit (s : List UInt8) (p : Nat) (hp : p ≤ s.length) : ∀ t ∈ toks s p, t.k ≤ 5 ∧ p ≤ t.pos ∧ t.pos ≤ s.length ∧ t.text.length ≤ s.length := by
  induction h : s.length - p using Nat.strongRecOn generalizing p with
  | ind n ih =>
    have hb := blanks_le (s.drop p)
    have hl := tok1_len (s.drop (p + blanks (s.drop p)))
    have hle := tok1_le (s.drop (p + blanks (s.drop p)))
    rw [List.length_drop] at hb
    rw [List.length_drop] at hl
    rw [toks]
    split
    · rename_i hk
      have hg := tok1_go hk
      rw [List.length_drop] at hg
      intro t ht
      rcases List.mem_cons.1 ht with rfl | ht
      · simp only; omega
      · have := ih _ (by omega) (p + blanks (s.drop p) + (tok1 (s.drop (p + blanks (s.drop p)))).2.2) (by omega) rfl t ht
        omega
    · intro t ht
      rw [List.mem_singleton] at ht
      subst ht
      simp only; omega

theorem toks_len (s : List UInt8) (p : Nat) (hp : p ≤ s.length) : (toks s p).length ≤ s.length - p + 1 := by
  induction h : s.length - p using Nat.strongRecOn generalizing p with
  | ind n ih =>
    have hb := blanks_le (s.drop p)
    have hl := tok1_len (s.drop (p + blanks (s.drop p)))
    rw [List.length_drop] at hb
    rw [List.length_drop] at hl
    rw [toks]
    split
    · rename_i hk
      have hg := tok1_go hk
      rw [List.length_drop] at hg
      have := ih _ (by omega) (p + blanks (s.drop p) + (tok1 (s.drop (p + blanks (s.drop p)))).2.2) (by omega) rfl
      simp only [List.length_cons]
      omega
    · simp

end Go.Proofs.YtbljamcdaoofbaaGreatDoor
