/-
  EtherAlike: four stores in a row behind four new rows, for whatever frame.
-/
import Derived.Test.YtolgakgimcbkpaaLive3
import Derived.Test.YtolgakgimcbkpaaBytesN
import Derived.Test.YtolgakgimcbkpaaRegW
import Derived.Deep.RegionHeld3
namespace Go.Proofs.Ytolgakgimcbkpaa
open Go.RowKit
set_option linter.unusedVariables false
set_option linter.unusedSimpArgs false

/-- What a block holds when the values have been laid from o on. -/
def setsA (xs : Array Value) : Nat → List Value → Array Value
  | _, [] => xs
  | o, v :: vs => setsA (xs.setIfInBounds o v) (o + 1) vs

theorem heap_sets {b : Nat} {t : TypeId} {f : Nat × Nat} : ∀ (vs : List Value) (o : Nat) (w : World) (xs : Array Value), w.heap[b]? = some (.cells xs t f) → (w.setCells b o vs).heap[b]? = some (.cells (setsA xs o vs) t f)
  | [], o, w, xs, h => h
  | v :: vs, o, w, xs, h => heap_sets vs (o + 1) _ _ (heap_store h)
theorem heap_sets_far {b c : Nat} (hne : b ≠ c) {ob : Obj} : ∀ (vs : List Value) (o : Nat) (w : World), w.heap[b]? = some ob → (w.setCells c o vs).heap[b]? = some ob
  | [], o, w, h => h
  | v :: vs, o, w, h => heap_sets_far hne vs (o + 1) _ (heap_store_other h hne)
theorem below_sets {B c : Nat} {w0 : World} (hc : B ≤ c) : ∀ (vs : List Value) (o : Nat) (w : World), Below B w0 w → Below B w0 (w.setCells c o vs)
  | [], o, w, h => h
  | v :: vs, o, w, h => below_sets hc vs (o + 1) _ (h.setCell (p := ⟨c, o, none⟩) hc v)
theorem there_of {b n : Nat} {t : TypeId} {w : World} {xs : Array Value} (h : w.heap[b]? = some (.cells xs t (0, 0))) (hn : xs.size = n) : w.there b 0 n := fun j hj => by
  rw [Nat.zero_add]
  refine ⟨?_, free_of_block h⟩
  rw [cell_of_block (v := xs[j]) h (by rw [Array.getElem?_eq_getElem (by omega)])]
  rfl

/-- Four blocks with four rows. -/
structure Rows4 (w0 : World) (P : Nat) (X : Obj) (k3 k4 k5 k6 : Nat) (A B C D : Array Value) (W : World) : Prop where
  hP : W.heap[P]? = some X
  h3 : W.heap[k3]? = some (.cells A 22 (0, 0))
  h4 : W.heap[k4]? = some (.cells B 22 (0, 0))
  h5 : W.heap[k5]? = some (.cells C 23 (0, 0))
  h6 : W.heap[k6]? = some (.cells D 23 (0, 0))
  d34 : k3 ≠ k4
  d35 : k3 ≠ k5
  d36 : k3 ≠ k6
  d45 : k4 ≠ k5
  d46 : k4 ≠ k6
  d56 : k5 ≠ k6
  p3 : P < k3
  p4 : P < k4
  p5 : P < k5
  p6 : P < k6
  bl : Below P w0 W

theorem rows_3 {w0 : World} {P k3 k4 k5 k6 : Nat} {X : Obj} {A B C D : Array Value} {W : World} (h : Rows4 w0 P X k3 k4 k5 k6 A B C D W) (o : Nat) (vs : List Value) : Rows4 w0 P X k3 k4 k5 k6 (setsA A o vs) B C D (W.setCells k3 o vs) :=
  ⟨heap_sets_far (by have := h.p3; omega) _ _ _ h.hP, heap_sets _ _ _ _ h.h3, heap_sets_far (Ne.symm h.d34) _ _ _ h.h4, heap_sets_far (Ne.symm h.d35) _ _ _ h.h5, heap_sets_far (Ne.symm h.d36) _ _ _ h.h6, h.d34, h.d35, h.d36, h.d45, h.d46, h.d56, h.p3, h.p4, h.p5, h.p6, below_sets (Nat.le_of_lt h.p3) _ _ _ h.bl⟩
theorem rows_4 {w0 : World} {P k3 k4 k5 k6 : Nat} {X : Obj} {A B C D : Array Value} {W : World} (h : Rows4 w0 P X k3 k4 k5 k6 A B C D W) (o : Nat) (vs : List Value) : Rows4 w0 P X k3 k4 k5 k6 A (setsA B o vs) C D (W.setCells k4 o vs) :=
  ⟨heap_sets_far (by have := h.p4; omega) _ _ _ h.hP, heap_sets_far h.d34 _ _ _ h.h3, heap_sets _ _ _ _ h.h4, heap_sets_far (Ne.symm h.d45) _ _ _ h.h5, heap_sets_far (Ne.symm h.d46) _ _ _ h.h6, h.d34, h.d35, h.d36, h.d45, h.d46, h.d56, h.p3, h.p4, h.p5, h.p6, below_sets (Nat.le_of_lt h.p4) _ _ _ h.bl⟩
theorem rows_5 {w0 : World} {P k3 k4 k5 k6 : Nat} {X : Obj} {A B C D : Array Value} {W : World} (h : Rows4 w0 P X k3 k4 k5 k6 A B C D W) (o : Nat) (vs : List Value) : Rows4 w0 P X k3 k4 k5 k6 A B (setsA C o vs) D (W.setCells k5 o vs) :=
  ⟨heap_sets_far (by have := h.p5; omega) _ _ _ h.hP, heap_sets_far h.d35 _ _ _ h.h3, heap_sets_far h.d45 _ _ _ h.h4, heap_sets _ _ _ _ h.h5, heap_sets_far (Ne.symm h.d56) _ _ _ h.h6, h.d34, h.d35, h.d36, h.d45, h.d46, h.d56, h.p3, h.p4, h.p5, h.p6, below_sets (Nat.le_of_lt h.p5) _ _ _ h.bl⟩
theorem rows_6 {w0 : World} {P k3 k4 k5 k6 : Nat} {X : Obj} {A B C D : Array Value} {W : World} (h : Rows4 w0 P X k3 k4 k5 k6 A B C D W) (o : Nat) (vs : List Value) : Rows4 w0 P X k3 k4 k5 k6 A B C (setsA D o vs) (W.setCells k6 o vs) :=
  ⟨heap_sets_far (by have := h.p6; omega) _ _ _ h.hP, heap_sets_far h.d36 _ _ _ h.h3, heap_sets_far h.d46 _ _ _ h.h4, heap_sets_far h.d56 _ _ _ h.h5, heap_sets _ _ _ _ h.h6, h.d34, h.d35, h.d36, h.d45, h.d46, h.d56, h.p3, h.p4, h.p5, h.p6, below_sets (Nat.le_of_lt h.p6) _ _ _ h.bl⟩

theorem info4 : (Try.prog.info? 22).map (·.size) = some 4 := by kernel_rfl
theorem info16 : (Try.prog.info? 23).map (·.size) = some 16 := by kernel_rfl
theorem byteRow_one (l : List UInt8) : (byteRow l).all (·.oneCell') = true := by
  unfold byteRow
  rw [List.all_toArray, List.all_eq_true]
  intro x hx
  obtain ⟨b, _, rfl⟩ := List.mem_map.1 hx
  rfl

/-- One store of a whole row, as an operation of a region. -/
theorem op_store {ops : Array Oper} {Q : Exit → Act → World → Prop} {i : Nat} {o : Oper} {a : Act} {W : World} {K : Act → World → Prop} (ho : ops[i]? = some o) (hg : o.guard = none) (hd : o.dst = none) (ty : TypeId) (p q k n : Nat) (l : List UInt8)
    (hop : o.op = .store ty (.tmp p) (.tmp q)) (hp : a.eval (.tmp p) = .pointer (some ⟨k, 0, none⟩)) (hq : a.eval (.tmp q) = .agg (byteRow l)) (hl : l.length = n) (ht : W.there k 0 n) (hi : (Try.prog.info? ty).map (·.size) = some n)
    (h : K a (W.setCells k 0 (byteRow l).toList)) : wpOp Try.prog ops Q i K a W := by
  unfold wpOp
  rw [ho]
  have hw : Region.wanted o (yielded ops a.tmps) = true := by unfold Region.wanted; rw [hg]
  simp only [hw, if_true]
  refine .inl (wp_store_mid ty (.tmp p) (.tmp q) hop k 0 (byteRow l) hp hq (by rw [byteRow_size, hl]; exact ht) (by rw [byteRow_size, hl]; exact hi) (byteRow_one l) ?_)
  rw [hd]
  exact h

theorem tail4 {ops : Array Oper} {Q : Exit → Act → World → Prop} {w0 : World} {P k3 k4 k5 k6 : Nat} {X : Obj} {A B C D : Array Value} {W : World} {L : Array Bool} {a : Act} {o12 o13 o14 o15 : Oper} (la lb lc ld : List UInt8)
    (r0 : Region.ready .any ops L = [12]) (r1 : Region.ready .any ops (L.setIfInBounds 12 true) = [13]) (r2 : Region.ready .any ops ((L.setIfInBounds 12 true).setIfInBounds 13 true) = [14])
    (r3 : Region.ready .any ops (((L.setIfInBounds 12 true).setIfInBounds 13 true).setIfInBounds 14 true) = [15]) (r4 : Region.ready .any ops ((((L.setIfInBounds 12 true).setIfInBounds 13 true).setIfInBounds 14 true).setIfInBounds 15 true) = [])
    (h12 : ops[12]? = some o12) (h13 : ops[13]? = some o13) (h14 : ops[14]? = some o14) (h15 : ops[15]? = some o15)
    (g12 : o12.guard = none ∧ o12.dst = none ∧ o12.op = .store 22 (.tmp 3) (.tmp 18)) (g13 : o13.guard = none ∧ o13.dst = none ∧ o13.op = .store 22 (.tmp 4) (.tmp 20))
    (g14 : o14.guard = none ∧ o14.dst = none ∧ o14.op = .store 23 (.tmp 5) (.tmp 22)) (g15 : o15.guard = none ∧ o15.dst = none ∧ o15.op = .store 23 (.tmp 6) (.tmp 24))
    (e3 : a.eval (.tmp 3) = .pointer (some ⟨k3, 0, none⟩)) (e4 : a.eval (.tmp 4) = .pointer (some ⟨k4, 0, none⟩)) (e5 : a.eval (.tmp 5) = .pointer (some ⟨k5, 0, none⟩)) (e6 : a.eval (.tmp 6) = .pointer (some ⟨k6, 0, none⟩))
    (e18 : a.eval (.tmp 18) = .agg (byteRow la)) (e20 : a.eval (.tmp 20) = .agg (byteRow lb)) (e22 : a.eval (.tmp 22) = .agg (byteRow lc)) (e24 : a.eval (.tmp 24) = .agg (byteRow ld))
    (na : la.length = 4) (nb : lb.length = 4) (nc : lc.length = 16) (nd : ld.length = 16) (zA : A.size = 4) (zB : B.size = 4) (zC : C.size = 16) (zD : D.size = 16)
    (R : Rows4 w0 P X k3 k4 k5 k6 A B C D W)
    (sA : setsA A 0 (byteRow la).toList = byteRow la) (sB : setsA B 0 (byteRow lb).toList = byteRow lb) (sC : setsA C 0 (byteRow lc).toList = byteRow lc) (sD : setsA D 0 (byteRow ld).toList = byteRow ld)
    (H : ∀ W', Rows4 w0 P X k3 k4 k5 k6 (byteRow la) (byteRow lb) (byteRow lc) (byteRow ld) W' → Q .normal a W') :
    wpAnyH Try.prog .any ops Q (fun w' => w'.heap[P]? = some X) 4 L a W := by
  refine wpAnyH_all (rs := [12]) r0 (by simp) fun i hi => ?_
  obtain rfl := List.mem_singleton.1 hi
  have R1 := rows_3 R 0 (byteRow la).toList
  refine op_store h12 g12.1 g12.2.1 _ 3 18 k3 4 la g12.2.2 e3 e18 na (there_of R.h3 zA) info4 ⟨R1.hP, ?_⟩
  refine wpAnyH_all (rs := [13]) r1 (by simp) fun i hi => ?_
  obtain rfl := List.mem_singleton.1 hi
  have R2 := rows_4 R1 0 (byteRow lb).toList
  refine op_store h13 g13.1 g13.2.1 _ 4 20 k4 4 lb g13.2.2 e4 e20 nb (there_of R1.h4 zB) info4 ⟨R2.hP, ?_⟩
  refine wpAnyH_all (rs := [14]) r2 (by simp) fun i hi => ?_
  obtain rfl := List.mem_singleton.1 hi
  have R3 := rows_5 R2 0 (byteRow lc).toList
  refine op_store h14 g14.1 g14.2.1 _ 5 22 k5 16 lc g14.2.2 e5 e22 nc (there_of R2.h5 zC) info16 ⟨R3.hP, ?_⟩
  refine wpAnyH_all (rs := [15]) r3 (by simp) fun i hi => ?_
  obtain rfl := List.mem_singleton.1 hi
  have R4 := rows_6 R3 0 (byteRow ld).toList
  refine op_store h15 g15.1 g15.2.1 _ 6 24 k6 16 ld g15.2.2 e6 e24 nd (there_of R3.h6 zD) info16 ⟨R4.hP, ?_⟩
  rw [sA, sB, sC, sD] at R4
  exact wpAnyH_done r4 (H _ R4) _

/-- Zeros. -/
def z4 : Array Value := #[.int .u8 0, .int .u8 0, .int .u8 0, .int .u8 0]
def z16 : Array Value := #[.int .u8 0, .int .u8 0, .int .u8 0, .int .u8 0, .int .u8 0, .int .u8 0, .int .u8 0, .int .u8 0, .int .u8 0, .int .u8 0, .int .u8 0, .int .u8 0, .int .u8 0, .int .u8 0, .int .u8 0, .int .u8 0]
theorem setsA_all : ∀ (vs : List Value) (o : Nat) (xs : Array Value), xs.size = o + vs.length → (setsA xs o vs).toList = xs.toList.take o ++ vs
  | [], o, xs, h => by
    simp only [List.length_nil, Nat.add_zero] at h
    rw [List.append_nil, List.take_of_length_le (by rw [Array.length_toList]; omega)]; rfl
  | v :: vs, o, xs, h => by
    rw [List.length_cons] at h
    have ho : o < xs.toList.length := by rw [Array.length_toList]; omega
    show (setsA (xs.setIfInBounds o v) (o + 1) vs).toList = _
    rw [setsA_all vs (o + 1) _ (by rw [Array.size_setIfInBounds]; omega), Array.toList_setIfInBounds, List.take_succ_eq_append_getElem (by rw [List.length_set]; exact ho), List.take_set_of_le (Nat.le_refl _), List.getElem_set_self, List.append_assoc]
    rfl
theorem sets_row (z : Array Value) (l : List UInt8) (h : z.size = l.length) : setsA z 0 (byteRow l).toList = byteRow l := by
  apply Array.ext'
  rw [setsA_all _ _ _ (by rw [Array.length_toList, byteRow_size]; omega)]
  simp
theorem row16 (c0 c1 c2 c3 c4 c5 c6 c7 c8 c9 c10 c11 c12 c13 c14 c15 : UInt8) : byteRow [c0, c1, c2, c3, c4, c5, c6, c7, c8, c9, c10, c11, c12, c13, c14, c15] = #[.int .u8 (c0.toNat : Int), .int .u8 (c1.toNat : Int), .int .u8 (c2.toNat : Int), .int .u8 (c3.toNat : Int), .int .u8 (c4.toNat : Int), .int .u8 (c5.toNat : Int), .int .u8 (c6.toNat : Int), .int .u8 (c7.toNat : Int), .int .u8 (c8.toNat : Int), .int .u8 (c9.toNat : Int), .int .u8 (c10.toNat : Int), .int .u8 (c11.toNat : Int), .int .u8 (c12.toNat : Int), .int .u8 (c13.toNat : Int), .int .u8 (c14.toNat : Int), .int .u8 (c15.toNat : Int)] := by simp [byteRow]

theorem op_alloc4 {ops : Array Oper} {Q : Exit → Act → World → Prop} {i : Nat} {o : Oper} {a : Act} {W : World} {K : Act → World → Prop} (ho : ops[i]? = some o) (hg : o.guard = none) (d : Nat) (hd : o.dst = some d) (hop : o.op = .alloc 22)
    (h : K (a.put (some d) (.pointer (some ⟨W.heap.size, 0, none⟩))) (W.alloc (.cells z4 22))) : wpOp Try.prog ops Q i K a W := by
  unfold wpOp
  rw [ho]
  have hw : Region.wanted o (yielded ops a.tmps) = true := by unfold Region.wanted; rw [hg]
  simp only [hw, if_true]
  refine .inl ?_
  unfold Oper.wp
  simp only [execOp, hop]
  go_simp
  exact h
theorem op_alloc16 {ops : Array Oper} {Q : Exit → Act → World → Prop} {i : Nat} {o : Oper} {a : Act} {W : World} {K : Act → World → Prop} (ho : ops[i]? = some o) (hg : o.guard = none) (d : Nat) (hd : o.dst = some d) (hop : o.op = .alloc 23)
    (h : K (a.put (some d) (.pointer (some ⟨W.heap.size, 0, none⟩))) (W.alloc (.cells z16 23))) : wpOp Try.prog ops Q i K a W := by
  unfold wpOp
  rw [ho]
  have hw : Region.wanted o (yielded ops a.tmps) = true := by unfold Region.wanted; rw [hg]
  simp only [hw, if_true]
  refine .inl ?_
  unfold Oper.wp
  simp only [execOp, hop]
  go_simp
  exact h

/-- Four blocks made one behind the other. -/
structure Al4 (w0 : World) (P : Nat) (X : Obj) (q1 q2 q3 q4 : Nat) (o1 o2 o3 o4 : Obj) (W : World) : Prop where
  hP : W.heap[P]? = some X
  h1 : W.heap[q1]? = some o1
  h2 : W.heap[q2]? = some o2
  h3 : W.heap[q3]? = some o3
  h4 : W.heap[q4]? = some o4
  p1 : P < q1
  l1 : q1 < q2
  l2 : q2 < q3
  l3 : q3 < q4
  bl : Below P w0 W
theorem al4 {w0 W : World} {P : Nat} {X : Obj} (o1 o2 o3 o4 : Obj) (hP : W.heap[P]? = some X) (hb : Below P w0 W) :
    Al4 w0 P X W.heap.size (W.alloc o1).heap.size ((W.alloc o1).alloc o2).heap.size (((W.alloc o1).alloc o2).alloc o3).heap.size o1 o2 o3 o4 ((((W.alloc o1).alloc o2).alloc o3).alloc o4) := by
  have hp := lt_of_block hP
  refine ⟨heap_old (heap_old (heap_old (heap_old hP))), heap_old (heap_old (heap_old (heap_new _ _))), heap_old (heap_old (heap_new _ _)), heap_old (heap_new _ _), heap_new _ _, hp, by simp, by simp, by simp, ?_⟩
  exact (((hb.alloc (by omega) o1).alloc (by simp; omega) o2).alloc (by simp; omega) o3).alloc (by simp; omega) o4
theorem wpAnyH_act {P : Program} {md : Region.Mode} {ops : Array Oper} {Q : Exit → Act → World → Prop} {S : World → Prop} {n : Nat} {L : Array Bool} {a : Act} {W : World} (h : ∀ b, b = a → wpAnyH P md ops Q S n L b W) : wpAnyH P md ops Q S n L a W := h a rfl

end Go.Proofs.Ytolgakgimcbkpaa
