/- The four kinds of steps, walked. -/
import Derived.Test.YtbljamcdaoofbaaGreatDoorLawStepOne
namespace Go.Proofs.YtbljamcdaoofbaaGreatDoor
open Go.RowKit

/-- the step's own copy of the operation is laid -/
theorem Good.box {w0 w : World} {T wb N M : Nat} {own : Nat → Nat} {qs : List Pair} {tv : List Value} {vps vrs vT : Value} {bk : Bk} (h : Good w0 T w wb N M own qs tv vps vrs vT bk) (o : Obj) : Good w0 T (w.alloc o) wb N M (ownAt own w 1) qs tv vps vrs vT bk :=
  ⟨h.inv.fresh ((Below.refl _ w).alloc (Nat.le_refl _) o), h.rel, h.four, h.num, h.most, h.fine, h.fourB, h.fourC, h.mostB, h.mostC, h.bel.alloc h.bel.size o, fun b hb => by rw [ownAt_old (Nat.lt_of_lt_of_le hb h.bel.size)]; exact h.low b hb, h.big⟩

theorem Inv.heldP {w w1 : World} {wb k b gP capP : Nat} {own : Nat → Nat} {qs : List Pair} {tv : List Value} {vps vrs vT x y z u v : Value} {bk : Bk} {c : Array Value} (h : Inv w wb own qs tv vps vrs vT bk) (hm : Moved (fun b => own b = 2 * k + 2) w w1) (ho : own b = 1) (hb : w.heap[b]? = some (.cells c 73 (0, 0))) (hE : vps = .slice (some ⟨gP, 0, none⟩) qs.length capP)
    (hS : w.drew.cell? ⟨wb, 0, none⟩ = some x ∧ w.drew.cell? ⟨gP, k, none⟩ = some y ∧ w.drew.cell? ⟨b, 2, none⟩ = some z ∧ w.drew.cell? ⟨b, 3, none⟩ = some u ∧ w.drew.cell? ⟨b, 4, none⟩ = some v) :
    w1.cell? ⟨wb, 0, none⟩ = some x ∧ w1.cell? ⟨gP, k, none⟩ = some y ∧ w1.cell? ⟨b, 2, none⟩ = some z ∧ w1.cell? ⟨b, 3, none⟩ = some u ∧ w1.cell? ⟨b, 4, none⟩ = some v := by
  obtain ⟨s0, s1, s2, s3, s4⟩ := hS
  have hgl := (ownsRow_type h.rowP (g := gP) (by rw [hE]; rfl)).1
  have kw : w1.heap[wb]? = w.heap[wb]? := hm.block wb (Array.getElem?_eq_some_iff.1 h.blk).1 (by rw [h.oblk]; omega)
  have kg : w1.heap[gP]? = w.heap[gP]? := hm.block gP hgl (by rw [h.oP gP (by rw [hE]; rfl)]; omega)
  have kb : w1.heap[b]? = w.heap[b]? := hm.block b (Array.getElem?_eq_some_iff.1 hb).1 (by rw [ho]; omega)
  exact ⟨(World.cell?_of_block (a := ⟨wb, 0, none⟩) kw).trans s0, (World.cell?_of_block (a := ⟨gP, k, none⟩) kg).trans s1, (World.cell?_of_block (a := ⟨b, 2, none⟩) kb).trans s2, (World.cell?_of_block (a := ⟨b, 3, none⟩) kb).trans s3, (World.cell?_of_block (a := ⟨b, 4, none⟩) kb).trans s4⟩

theorem Inv.heldR {w w1 : World} {wb k b gR capR : Nat} {own : Nat → Nat} {qs : List Pair} {tv : List Value} {vps vrs vT x y z u v : Value} {bk : Bk} {c : Array Value} (h : Inv w wb own qs tv vps vrs vT bk) (hm : Moved (fun b => own b = 2 * k + 3) w w1) (ho : own b = 1) (hb : w.heap[b]? = some (.cells c 73 (0, 0))) (hE : vrs = .slice (some ⟨gR, 0, none⟩) qs.length capR)
    (hS : w.drew.cell? ⟨wb, 1, none⟩ = some x ∧ w.drew.cell? ⟨gR, k, none⟩ = some y ∧ w.drew.cell? ⟨b, 2, none⟩ = some z ∧ w.drew.cell? ⟨b, 3, none⟩ = some u ∧ w.drew.cell? ⟨b, 4, none⟩ = some v) :
    w1.cell? ⟨wb, 1, none⟩ = some x ∧ w1.cell? ⟨gR, k, none⟩ = some y ∧ w1.cell? ⟨b, 2, none⟩ = some z ∧ w1.cell? ⟨b, 3, none⟩ = some u ∧ w1.cell? ⟨b, 4, none⟩ = some v := by
  obtain ⟨s0, s1, s2, s3, s4⟩ := hS
  have hgl := (ownsRow_type h.rowR (g := gR) (by rw [hE]; rfl)).1
  have kw : w1.heap[wb]? = w.heap[wb]? := hm.block wb (Array.getElem?_eq_some_iff.1 h.blk).1 (by rw [h.oblk]; omega)
  have kg : w1.heap[gR]? = w.heap[gR]? := hm.block gR hgl (by rw [h.oR gR (by rw [hE]; rfl)]; omega)
  have kb : w1.heap[b]? = w.heap[b]? := hm.block b (Array.getElem?_eq_some_iff.1 hb).1 (by rw [ho]; omega)
  exact ⟨(World.cell?_of_block (a := ⟨wb, 1, none⟩) kw).trans s0, (World.cell?_of_block (a := ⟨gR, k, none⟩) kg).trans s1, (World.cell?_of_block (a := ⟨b, 2, none⟩) kb).trans s2, (World.cell?_of_block (a := ⟨b, 3, none⟩) kb).trans s3, (World.cell?_of_block (a := ⟨b, 4, none⟩) kb).trans s4⟩

set_option maxRecDepth 10000 in
set_option maxHeartbeats 4000000 in
theorem stepPush_any {w0 w : World} {T wb N M k : Nat} {own : Nat → Nat} {qs : List Pair} {tv : List Value} {vps vrs vT : Value} {bk : Bk} {on A B C : Int} {text line : List UInt8} {back : Bool} (h : Good w0 T w wb N M own qs tv vps vrs vT bk) (hN : N ≤ 4194304) (hk : k < N) (htx : text.length ≤ 1048576) (hln : line.length ≤ 1048576) :
    Calls Tryz.prog 32 #[.pointer (some ⟨wb, 0, none⟩), .int .i64 k, .agg #[.int .i64 2, .int .i64 on, .string ⟨text.toArray⟩, .string ⟨line.toArray⟩, .int .i64 A, .int .i64 B, .int .i64 C, .bool back]] w fun e w' => e = .returned (.bool true) ∧ ∃ own' qs', Good w0 T w' wb N M own' qs' tv vps vrs vT bk := by
  have hG := h.box (.cells (opCells 2 on text line A B C back) 73)
  have hob : ownAt own w 1 w.heap.size = 1 := ownAt_new (Nat.le_refl _)
  have hbl : (w.alloc (.cells (opCells 2 on text line A B C back) 73)).heap[w.heap.size]? = some (.cells (opCells 2 on text line A B C back) 73 (0, 0)) := heap_alloc_new w _
  have hkq : k < qs.length := by rw [h.num]; exact hk
  have hlen : qs.length = N := h.num
  clear h
  unfold opCells at hG hbl
  generalize ownAt own w 1 = own1 at *
  go_enter Tryz.func32, Tryz.ntmps32
  go_upto_region 5 with fail
  generalize hb : w.heap.size = b at *
  generalize w.alloc (.cells #[.int .i64 2, .int .i64 on, .string ⟨text.toArray⟩, .string ⟨line.toArray⟩, .int .i64 A, .int .i64 B, .int .i64 C, .bool back] 73) = W at *
  clear hb
  obtain ⟨-, -, d2, d3, d4, -, -, -⟩ := opCells_at hbl
  obtain ⟨gP, capP, eP, c0, cP⟩ := hG.inv.cellP hkq
  have hki : (k : Int) < (qs.length : Int) := by omega
  have hrel := hG.rel k hkq
  have hn6 : qs[k].ns.length ≤ 6 := by rw [hrel.len']; exact hrel.six
  have ht3 : total qs[k].ns ≤ 300 := by rw [hrel.total]; exact hrel.many
  have HST := hide (hG.inv.st k hkq)
  have HRI := hide hrel.rising
  have HG := hide hG
  have HR := hide hrel
  have HL := hide hlen
  have HOB := hide hob
  have HBL := hide hbl
  clear hG hrel hlen hob hbl
  have hS0 : W.drew.cell? ⟨wb, 0, none⟩ = some (.slice (some ⟨gP, 0, none⟩) qs.length capP) ∧ W.drew.cell? ⟨gP, k, none⟩ = some (.pointer (some ⟨qs[k].pp, 0, none⟩)) ∧ W.drew.cell? ⟨b, 2, none⟩ = some (.string ⟨text.toArray⟩) ∧ W.drew.cell? ⟨b, 3, none⟩ = some (.string ⟨line.toArray⟩) ∧ W.drew.cell? ⟨b, 4, none⟩ = some (.int .i64 A) := ⟨c0, cP, d2, d3, d4⟩
  have HS0 := hide hS0
  have hE : Hid (vps = .slice (some ⟨gP, 0, none⟩) qs.length capP) := eP
  clear hS0 c0 cP d2 d3 d4 eP
  go_region_held (fun w' => w'.cell? ⟨wb, 0, none⟩ = some (.slice (some ⟨gP, 0, none⟩) qs.length capP) ∧ w'.cell? ⟨gP, k, none⟩ = some (.pointer (some ⟨qs[k].pp, 0, none⟩)) ∧ w'.cell? ⟨b, 2, none⟩ = some (.string ⟨text.toArray⟩) ∧ w'.cell? ⟨b, 3, none⟩ = some (.string ⟨line.toArray⟩) ∧ w'.cell? ⟨b, 4, none⟩ = some (.int .i64 A)) (first | exact unhide HS0 | exact unhide HS4)
    (first | (go_at_call 23; refine (push_any text line A (by exact (unhide HST).keep (fun _ _ _ => rfl)) hn6 (unhide HRI) ht3 htx hln).mono ?_; rintro e w4 ⟨rfl, ⟨ns', va', hst4, hab4⟩, hmv4⟩; have HMV : Hid (Moved (fun b => own1 b = 2 * k + 2) W w4) := ⟨hmv4.os, hmv4.tape, hmv4.output, hmv4.size, hmv4.block⟩; have HS4 := hide ((unhide HG).inv.heldP (unhide HMV) (unhide HOB) (unhide HBL) hE (unhide HS0)); have HAB := hide hab4; have HST4 := hide hst4; clear hmv4 hab4 hst4))
  have hI4 := (unhide HG).inv.updP hkq (unhide HST4) (unhide HMV)
  have he : (qs.set k { qs[k] with ns := ns', va := va' })[k]'(by simpa using hkq) = { qs[k] with ns := ns', va := va' } := by rw [List.getElem_set_self]
  obtain ⟨gR, capR, eR, c1, cR⟩ := hI4.cellR (k := k) (by simpa using hkq)
  have hrf := hI4.rf k (by simpa using hkq)
  rw [he] at cR hrf
  rw [List.length_set] at eR c1
  have hb4 : w4.heap[b]? = some (.cells (opCells 2 on text line A B C back) 73 (0, 0)) := by
    rw [(unhide HMV).block b (Array.getElem?_eq_some_iff.1 (unhide HBL)).1 (by rw [unhide HOB]; omega)]; exact unhide HBL
  have ho4 : ownAt own1 W (2 * k + 2) b = 1 := by rw [ownAt_old (Array.getElem?_eq_some_iff.1 (unhide HBL)).1]; exact unhide HOB
  obtain ⟨-, -, f2, f3, f4, -, -, -⟩ := opCells_at hb4
  have HT0 : Hid (w4.drew.cell? ⟨wb, 1, none⟩ = some (.slice (some ⟨gR, 0, none⟩) qs.length capR) ∧ w4.drew.cell? ⟨gR, k, none⟩ = some (.pointer (some ⟨qs[k].pr, 0, none⟩)) ∧ w4.drew.cell? ⟨b, 2, none⟩ = some (.string ⟨text.toArray⟩) ∧ w4.drew.cell? ⟨b, 3, none⟩ = some (.string ⟨line.toArray⟩) ∧ w4.drew.cell? ⟨b, 4, none⟩ = some (.int .i64 A)) := ⟨c1, cR, f2, f3, f4⟩
  have HER := hide eR
  have HI4 := hide hI4
  have HRF := hide hrf
  have HB4 := hide hb4
  have HO4 := hide ho4
  have hcode : (codeP qs[k].ns text A line == (pushR qs[k].S qs[k].L text A line).1) = true := by rw [(unhide HR).code]; simp
  clear he eR c1 cR f2 f3 f4 hI4 hrf hb4 ho4 HS4
  go_wp2
  go_region_held (fun w' => w'.cell? ⟨wb, 1, none⟩ = some (.slice (some ⟨gR, 0, none⟩) qs.length capR) ∧ w'.cell? ⟨gR, k, none⟩ = some (.pointer (some ⟨qs[k].pr, 0, none⟩)) ∧ w'.cell? ⟨b, 2, none⟩ = some (.string ⟨text.toArray⟩) ∧ w'.cell? ⟨b, 3, none⟩ = some (.string ⟨line.toArray⟩) ∧ w'.cell? ⟨b, 4, none⟩ = some (.int .i64 A)) (first | exact unhide HT0 | exact unhide HS5)
    (first | (go_at_call 56; refine (refPush_any text line A _ (by exact (unhide HRF).keep (fun _ _ _ => rfl)) (unhide HR).six (unhide HR).many htx hln).mono ?_; rintro e w5 ⟨rfl, ⟨vS', vL', hrf5⟩, hmv5⟩; have HMV5 : Hid (Moved (fun b => ownAt own1 W (2 * k + 2) b = 2 * k + 3) w4 w5) := ⟨hmv5.os, hmv5.tape, hmv5.output, hmv5.size, hmv5.block⟩; have HS5 := hide ((unhide HI4).heldR (unhide HMV5) (unhide HO4) (unhide HB4) (by rw [List.length_set]; exact unhide HER) (unhide HT0)); have HRF5 := hide hrf5; clear hmv5 hrf5))
  have hfin := (unhide HG).pushed hkq hN htx (unhide HST4) (unhide HAB) (unhide HMV) (unhide HRF5) (unhide HMV5)
  have HFN := hide hfin
  clear hfin HS5
  go_wp2_with (go_at_call 57; refine (num_any _ _).mono ?_; rintro e w' ⟨rfl, rfl⟩)
  go_ret
  exact ⟨rfl, unhide HFN⟩

set_option maxRecDepth 10000 in
set_option maxHeartbeats 4000000 in
theorem stepDrop_any {w0 w : World} {T wb N M k : Nat} {own : Nat → Nat} {qs : List Pair} {tv : List Value} {vps vrs vT : Value} {bk : Bk} {on A B C : Int} {text line : List UInt8} {back : Bool} (h : Good w0 T w wb N M own qs tv vps vrs vT bk) (hN : N ≤ 4194304) (hk : k < N) :
    Calls Tryz.prog 32 #[.pointer (some ⟨wb, 0, none⟩), .int .i64 k, .agg #[.int .i64 4, .int .i64 on, .string ⟨text.toArray⟩, .string ⟨line.toArray⟩, .int .i64 A, .int .i64 B, .int .i64 C, .bool back]] w fun e w' => e = .returned (.bool true) ∧ ∃ own' qs', Good w0 T w' wb N M own' qs' tv vps vrs vT bk := by
  have hG := h.box (.cells (opCells 4 on text line A B C back) 73)
  have hob : ownAt own w 1 w.heap.size = 1 := ownAt_new (Nat.le_refl _)
  have hbl : (w.alloc (.cells (opCells 4 on text line A B C back) 73)).heap[w.heap.size]? = some (.cells (opCells 4 on text line A B C back) 73 (0, 0)) := heap_alloc_new w _
  have hkq : k < qs.length := by rw [h.num]; exact hk
  have hlen : qs.length = N := h.num
  clear h
  unfold opCells at hG hbl
  generalize ownAt own w 1 = own1 at *
  go_enter Tryz.func32, Tryz.ntmps32
  go_upto_region 11 with fail
  generalize hb : w.heap.size = b at *
  generalize w.alloc (.cells #[.int .i64 4, .int .i64 on, .string ⟨text.toArray⟩, .string ⟨line.toArray⟩, .int .i64 A, .int .i64 B, .int .i64 C, .bool back] 73) = W at *
  clear hb
  obtain ⟨-, -, d2, d3, d4, -, -, -⟩ := opCells_at hbl
  obtain ⟨gP, capP, eP, c0, cP⟩ := hG.inv.cellP hkq
  have hki : (k : Int) < (qs.length : Int) := by omega
  have hrel := hG.rel k hkq
  have hn6 : qs[k].ns.length ≤ 6 := by rw [hrel.len']; exact hrel.six
  have ht3 : total qs[k].ns ≤ 300 := by rw [hrel.total]; exact hrel.many
  have HST := hide (hG.inv.st k hkq)
  have HIO := hide (show ∀ n ∈ qs[k].ns, InOrder n.lines from fun n hn => hrel.order _ (List.mem_map_of_mem hn))
  have HG := hide hG
  have HR := hide hrel
  have HL := hide hlen
  have HOB := hide hob
  have HBL := hide hbl
  clear hG hrel hlen hob hbl
  have hS0 : W.drew.cell? ⟨wb, 0, none⟩ = some (.slice (some ⟨gP, 0, none⟩) qs.length capP) ∧ W.drew.cell? ⟨gP, k, none⟩ = some (.pointer (some ⟨qs[k].pp, 0, none⟩)) ∧ W.drew.cell? ⟨b, 2, none⟩ = some (.string ⟨text.toArray⟩) ∧ W.drew.cell? ⟨b, 3, none⟩ = some (.string ⟨line.toArray⟩) ∧ W.drew.cell? ⟨b, 4, none⟩ = some (.int .i64 A) := ⟨c0, cP, d2, d3, d4⟩
  have HS0 := hide hS0
  have hE : Hid (vps = .slice (some ⟨gP, 0, none⟩) qs.length capP) := eP
  clear hS0 c0 cP d2 d3 d4 eP
  go_region_held (fun w' => w'.cell? ⟨wb, 0, none⟩ = some (.slice (some ⟨gP, 0, none⟩) qs.length capP) ∧ w'.cell? ⟨gP, k, none⟩ = some (.pointer (some ⟨qs[k].pp, 0, none⟩)) ∧ w'.cell? ⟨b, 2, none⟩ = some (.string ⟨text.toArray⟩) ∧ w'.cell? ⟨b, 3, none⟩ = some (.string ⟨line.toArray⟩) ∧ w'.cell? ⟨b, 4, none⟩ = some (.int .i64 A)) (first | exact unhide HS0 | exact unhide HS4)
    (first | (go_at_call 22; refine (drop_any A (by exact (unhide HST).keep (fun _ _ _ => rfl)) hn6 ht3 (unhide HIO)).mono ?_; rintro e w4 ⟨rfl, ⟨ns', va', hst4, hab4⟩, hmv4⟩; have HMV : Hid (Moved (fun b => own1 b = 2 * k + 2) W w4) := ⟨hmv4.os, hmv4.tape, hmv4.output, hmv4.size, hmv4.block⟩; have HS4 := hide ((unhide HG).inv.heldP (unhide HMV) (unhide HOB) (unhide HBL) hE (unhide HS0)); have HAB := hide hab4; have HST4 := hide hst4; clear hmv4 hab4 hst4))
  have hI4 := (unhide HG).inv.updP hkq (unhide HST4) (unhide HMV)
  have he : (qs.set k { qs[k] with ns := ns', va := va' })[k]'(by simpa using hkq) = { qs[k] with ns := ns', va := va' } := by rw [List.getElem_set_self]
  obtain ⟨gR, capR, eR, c1, cR⟩ := hI4.cellR (k := k) (by simpa using hkq)
  have hrf := hI4.rf k (by simpa using hkq)
  rw [he] at cR hrf
  rw [List.length_set] at eR c1
  have hb4 : w4.heap[b]? = some (.cells (opCells 4 on text line A B C back) 73 (0, 0)) := by
    rw [(unhide HMV).block b (Array.getElem?_eq_some_iff.1 (unhide HBL)).1 (by rw [unhide HOB]; omega)]; exact unhide HBL
  have ho4 : ownAt own1 W (2 * k + 2) b = 1 := by rw [ownAt_old (Array.getElem?_eq_some_iff.1 (unhide HBL)).1]; exact unhide HOB
  obtain ⟨-, -, f2, f3, f4, -, -, -⟩ := opCells_at hb4
  have HT0 : Hid (w4.drew.cell? ⟨wb, 1, none⟩ = some (.slice (some ⟨gR, 0, none⟩) qs.length capR) ∧ w4.drew.cell? ⟨gR, k, none⟩ = some (.pointer (some ⟨qs[k].pr, 0, none⟩)) ∧ w4.drew.cell? ⟨b, 2, none⟩ = some (.string ⟨text.toArray⟩) ∧ w4.drew.cell? ⟨b, 3, none⟩ = some (.string ⟨line.toArray⟩) ∧ w4.drew.cell? ⟨b, 4, none⟩ = some (.int .i64 A)) := ⟨c1, cR, f2, f3, f4⟩
  have HER := hide eR
  have HI4 := hide hI4
  have HRF := hide hrf
  have HB4 := hide hb4
  have HO4 := hide ho4
  have hcode : (dropI qs[k].ns A == (dropR qs[k].L A).1) = true := by rw [((unhide HR).drop A).1]; simp
  have hcode2 : (dropE A == (dropR qs[k].L A).2.1) = true := by rw [((unhide HR).drop A).2.1]; simp
  clear he eR c1 cR f2 f3 f4 hI4 hrf hb4 ho4 HS4
  go_wp2
  go_region_held (fun w' => w'.cell? ⟨wb, 1, none⟩ = some (.slice (some ⟨gR, 0, none⟩) qs.length capR) ∧ w'.cell? ⟨gR, k, none⟩ = some (.pointer (some ⟨qs[k].pr, 0, none⟩)) ∧ w'.cell? ⟨b, 2, none⟩ = some (.string ⟨text.toArray⟩) ∧ w'.cell? ⟨b, 3, none⟩ = some (.string ⟨line.toArray⟩) ∧ w'.cell? ⟨b, 4, none⟩ = some (.int .i64 A)) (first | exact unhide HT0 | exact unhide HS5)
    (first | (go_at_call 59; refine (refDrop_any A _ (by exact (unhide HRF).keep (fun _ _ _ => rfl)) (unhide HR).many).mono ?_; rintro e w5 ⟨rfl, ⟨vS', vL', hrf5⟩, hmv5⟩; have HMV5 : Hid (Moved (fun b => ownAt own1 W (2 * k + 2) b = 2 * k + 3) w4 w5) := ⟨hmv5.os, hmv5.tape, hmv5.output, hmv5.size, hmv5.block⟩; have HS5 := hide ((unhide HI4).heldR (unhide HMV5) (unhide HO4) (unhide HB4) (by rw [List.length_set]; exact unhide HER) (unhide HT0)); have HRF5 := hide hrf5; clear hmv5 hrf5))
  have hfin := (unhide HG).dropped hkq hN (unhide HST4) (unhide HAB) (unhide HMV) (unhide HRF5) (unhide HMV5)
  have HFN := hide hfin
  clear hfin HS5
  go_wp2_with (go_at_call 57; refine (num_any _ _).mono ?_; rintro e w' ⟨rfl, rfl⟩)
  go_ret
  exact ⟨rfl, unhide HFN⟩

set_option maxRecDepth 10000 in
set_option maxHeartbeats 2000000 in
theorem stepNew_any {w0 w : World} {T wb N M k : Nat} {own : Nat → Nat} {qs : List Pair} {tv : List Value} {vps vrs vT : Value} {bk : Bk} {on A B C : Int} {text line : List UInt8} {back : Bool} (h : Good w0 T w wb N M own qs tv vps vrs vT bk) (hN : N ≤ 4194304) :
    Calls Tryz.prog 32 #[.pointer (some ⟨wb, 0, none⟩), .int .i64 k, .agg #[.int .i64 1, .int .i64 on, .string ⟨text.toArray⟩, .string ⟨line.toArray⟩, .int .i64 A, .int .i64 B, .int .i64 C, .bool back]] w fun e w' => e = .returned (.bool true) ∧ ∃ own' qs' vps' vrs', Good w0 T w' wb (N + 1) M own' qs' tv vps' vrs' vT bk := by
  have hG := h.box (.cells #[.int .i64 1, .int .i64 on, .string ⟨text.toArray⟩, .string ⟨line.toArray⟩, .int .i64 A, .int .i64 B, .int .i64 C, .bool back] 73)
  have hlen : qs.length ≤ 4194304 := by rw [h.num]; exact hN
  have HG := hide hG
  clear h hG
  go_enter Tryz.func32, Tryz.ntmps32
  go_wp2_with fail
  refine (begins_any (unhide HG).inv hlen).mono ?_
  rintro e w1 ⟨rfl, own', vps', vrs', pp, pr, hI, hm, how⟩
  have hfin : ∃ own' qs' vps' vrs', Good w0 T w1 wb (N + 1) M own' qs' tv vps' vrs' vT bk := by
    have hs0 := (unhide HG).bel.size
    have hbig := (unhide HG).big
    have b1 : Below w0.heap.size _ w1 := ⟨hm.os, hm.tape, hm.output, hm.size, fun b hb => hm.block b (by omega) (by rw [(unhide HG).low b hb]; omega)⟩
    refine ⟨_, _, _, _, hI, ?_, (unhide HG).four, by simp [(unhide HG).num], (unhide HG).most, ?_, (unhide HG).fourB, (unhide HG).fourC, (unhide HG).mostB, (unhide HG).mostC, (unhide HG).bel.trans b1, fun b hb => by rw [how b (by omega)]; exact (unhide HG).low b hb, hbig⟩
    rotate_left
    · intro i hi
      simp only [List.length_append, List.length_singleton] at hi
      by_cases e : i < qs.length
      · rw [List.getElem_append_left e]; exact (unhide HG).fine i e
      · rw [List.getElem_append_right (by omega)]
        have : i - qs.length = 0 := by omega
        simp only [this, List.getElem_cons_zero]
        exact Fine.empty
    intro i hi
    simp only [List.length_append, List.length_singleton] at hi
    by_cases e : i < qs.length
    · rw [List.getElem_append_left e]; exact (unhide HG).rel i e
    · rw [List.getElem_append_right (by omega)]
      have : i - qs.length = 0 := by omega
      simp only [this, List.getElem_cons_zero]
      exact RelA.empty
  have HFN := hide hfin
  clear hfin hI hm how
  go_wp2
  go_ret
  exact ⟨rfl, unhide HFN⟩

set_option maxRecDepth 10000 in
set_option maxHeartbeats 2000000 in
theorem stepStreams_any {w0 w : World} {T wb N M k : Nat} {own : Nat → Nat} {qs : List Pair} {tv : List Value} {vps vrs vT : Value} {bk : Bk} {on A B C : Int} {text line : List UInt8} {back : Bool} (h : Good w0 T w wb N M own qs tv vps vrs vT bk) (hN : N ≤ 4194304) (hM : M ≤ 8388608) (hk : k < N) :
    Calls Tryz.prog 32 #[.pointer (some ⟨wb, 0, none⟩), .int .i64 k, .agg #[.int .i64 3, .int .i64 on, .string ⟨text.toArray⟩, .string ⟨line.toArray⟩, .int .i64 A, .int .i64 B, .int .i64 C, .bool back]] w fun e w' => e = .returned (.bool true) ∧ ∃ own' tv' vT', Good w0 T w' wb N (M + 4) own' qs tv' vps vrs vT' bk := by
  have hG := h.box (.cells #[.int .i64 3, .int .i64 on, .string ⟨text.toArray⟩, .string ⟨line.toArray⟩, .int .i64 A, .int .i64 B, .int .i64 C, .bool back] 73)
  have hlen : qs.length ≤ 4194304 := by rw [h.num]; exact hN
  have hkq : k < qs.length := by rw [h.num]; exact hk
  have htl : tv.length ≤ 8388608 := Nat.le_trans h.most hM
  have HG := hide hG
  clear h hG
  go_enter Tryz.func32, Tryz.ntmps32
  go_wp2_with fail
  refine (lawStreams_any (unhide HG).inv (unhide HG).four htl hlen hkq ((unhide HG).rel k hkq)).mono ?_
  rintro e w1 ⟨rfl, own', tv', vT', hI, hl, hm, how⟩
  have hfin : ∃ own' tv' vT', Good w0 T w1 wb N (M + 4) own' qs tv' vps vrs vT' bk := by
    have hs0 := (unhide HG).bel.size
    have hbig := (unhide HG).big
    have b1 : Below w0.heap.size _ w1 := ⟨hm.os, hm.tape, hm.output, hm.size, fun b hb => hm.block b (by omega) (by rw [(unhide HG).low b hb]; omega)⟩
    exact ⟨_, _, _, hI, (unhide HG).rel, by rw [hl]; have := (unhide HG).four; omega, (unhide HG).num, by rw [hl]; have := (unhide HG).most; omega, (unhide HG).fine, (unhide HG).fourB, (unhide HG).fourC, Nat.le_trans (unhide HG).mostB (by omega), Nat.le_trans (unhide HG).mostC (by omega), (unhide HG).bel.trans b1, fun b hb => by rw [how b (by omega)]; exact (unhide HG).low b hb, hbig⟩
  have HFN := hide hfin
  clear hfin hI hl hm how
  go_wp2
  go_ret
  exact ⟨rfl, unhide HFN⟩

set_option maxRecDepth 10000 in
set_option maxHeartbeats 2000000 in
theorem stepRows_any {w0 w : World} {T wb N M k : Nat} {own : Nat → Nat} {qs : List Pair} {tv : List Value} {vps vrs vT : Value} {bk : Bk} {on A B C : Int} {text line : List UInt8} {back : Bool} (h : Good w0 T w wb N M own qs tv vps vrs vT bk) (hgl : Glob w0) (hM : M ≤ 8388608) (hk : k < N) (htx : text.length ≤ 1048576) :
    Calls Tryz.prog 32 #[.pointer (some ⟨wb, 0, none⟩), .int .i64 k, .agg #[.int .i64 5, .int .i64 on, .string ⟨text.toArray⟩, .string ⟨line.toArray⟩, .int .i64 A, .int .i64 B, .int .i64 C, .bool back]] w fun e w' => e = .returned (.bool true) ∧ ∃ own' bk', Good w0 T w' wb N (M + 4) own' qs tv vps vrs vT bk' := by
  have hG := h.box (.cells #[.int .i64 5, .int .i64 on, .string ⟨text.toArray⟩, .string ⟨line.toArray⟩, .int .i64 A, .int .i64 B, .int .i64 C, .bool back] 73)
  have hkq : k < qs.length := by rw [h.num]; exact hk
  have htl : bk.tr.length ≤ 8388608 := Nat.le_trans h.mostB hM
  have hgl' := hgl.below hG.bel
  have HG := hide hG
  have hlr := lawRows_any (on := on) (A := A) (B := B) (C := C) (text := text) (line := line) (back := back) hG.inv hG.fourB htl hkq (hG.rel k hkq) (hG.fine k hkq) hgl' htx
  clear h hG hgl'
  go_enter Tryz.func32, Tryz.ntmps32
  go_wp2_with fail
  refine hlr.mono ?_
  rintro e w1 ⟨rfl, own', bk', hI, hl, hlm, hm, how⟩
  have hfin : ∃ own' bk', Good w0 T w1 wb N (M + 4) own' qs tv vps vrs vT bk' := by
    have hs0 := (unhide HG).bel.size
    have hbig := (unhide HG).big
    have b1 : Below w0.heap.size _ w1 := ⟨hm.os, hm.tape, hm.output, hm.size, fun b hb => hm.block b (by omega) (by rw [(unhide HG).low b hb]; omega)⟩
    exact ⟨_, _, hI, (unhide HG).rel, (unhide HG).four, (unhide HG).num, Nat.le_trans (unhide HG).most (by omega), (unhide HG).fine, by rw [hl]; have := (unhide HG).fourB; omega, by rw [hlm]; exact (unhide HG).fourC, by rw [hl]; have := (unhide HG).mostB; omega, by rw [hlm]; exact Nat.le_trans (unhide HG).mostC (by omega), (unhide HG).bel.trans b1, fun b hb => by rw [how b (by omega)]; exact (unhide HG).low b hb, hbig⟩
  have HFN := hide hfin
  clear hfin hI hl hlm hm how hlr
  go_wp2
  go_ret
  exact ⟨rfl, unhide HFN⟩

end Go.Proofs.YtbljamcdaoofbaaGreatDoor
