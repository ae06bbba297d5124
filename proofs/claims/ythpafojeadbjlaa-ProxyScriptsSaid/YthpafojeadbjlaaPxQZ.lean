/-
  The document's proxy whole: its memory, cut, none, IsGroup, Forget, All, Tell; two proxies that remember alike. (ApR, EthDR, PxQ, PxX, PxY, PxZ in one text.)
-/
import Derived.Test.YthpafojeadbjlaaAppA
import Derived.Test.YthpafojeadbjlaaRowO
import Derived.Test.YthpafojeadbjlaaEthD
import Derived.Test.YthpafojeadbjlaaPxKE
import Derived.Test.YthpafojeadbjlaaFlX
import Derived.Test.YthpafojeadbjlaaPxFM
import Derived.Deep.RegionLaw
import Derived.Test.YthpafojeadbjlaaPxT
import Derived.Test.YthpafojeadbjlaaSame
namespace Go.Proofs.Ythpafojeadbjlaa
open Go Go.Maps Go.WideMaps Go.RowKit
set_option linter.unusedVariables false
set_option linter.unusedSimpArgs false

theorem wpList_append_rows {α : Type} {cells : α → List Value} {size bytes : Nat} (hcl : ∀ x, (cells x).length = size)
    {w : World} {ops : Array Oper} {rest : List Oper} {o : Oper} {a : Act} {Q : Exit → Act → World → Prop} (hgd : o.guard = none) (s x : Operand) (t e : TypeId)
    (ho : o.op = .call { callee := .builtin .append, args := #[s, x], argTypes := #[t, t] }) (i : TypeInfo) (z : Value) (ht : Try.prog.underlying t = some (.slice e)) (hi : Try.prog.info? e = some i) (hz : i.zero = some z)
    (hsize : i.size = size) (hby : i.bytes = bytes) (hzs : z.cells.size = size) (hsz : 0 < size)
    (base : Nat) (v : Value) (n : Nat) (xs : List Value) (hs : a.eval s = v) (hown : w.ownsRow base e size v n xs) (vs : Value) (l : List α) (hone : ∀ x ∈ l, ∀ u ∈ cells x, u.oneCell' = true) (hx : a.eval x = vs) (ha : RowsAt size cells w vs l)
    (h63 : n + l.length ≤ maxLen) (hbytes : (n + l.length) * bytes ≤ 140737488355328) (hbase : base ≤ w.heap.size)
    (h : ∀ v' w', w'.ownsRow base e size v' (n + l.length) (xs ++ l.flatMap cells) → w.grownBy w' v.ownBlock → wpList Try.prog ops Q rest (a.put o.dst v') w') : wpList Try.prog ops Q (o :: rest) a w := by
  obtain ⟨p, cap, b, off, rfl, hp, hc⟩ := ha
  rcases p with _ | ad
  · have hl : l = [] := by
      rcases l with _ | ⟨y, ys⟩
      · rfl
      · exact absurd (hp (by simp)) (by simp)
    subst hl
    have hrun := run_app_nil (P := Try.prog) (w := w) base t o.type e i size ht hi v n xs hown cap
    refine wpList_plain hgd fun K hK => ?_
    have hk := hK _ _ (h v w (by simpa using hown) (World.grownBy.refl w _))
    unfold Oper.wp
    simp [execOp, ho, resolve, invoke, builtin, hs, hx, hrun, Result.andThen]
    exact hk
  · refine wpList_append_own w hgd s x t ho base e i z size bytes ht hi hz hsize hby hzs hsz v n xs hs hown ad l.length cap (l.flatMap cells) hx (flat_len (cells := cells) hcl l) (fun j u hj => ?_) (fun u hu => ?_) h63 hbytes hbase fun v' w' h1 h2 _ => h v' w' h1 h2
    · have hjl : j < (l.flatMap cells).length := (List.getElem?_eq_some_iff.1 hj).1
      rw [flat_len (cells := cells) hcl l] at hjl
      have hq : j / size < l.length := (Nat.div_lt_iff_lt_mul hsz).2 hjl
      have hne : l ≠ [] := by rintro rfl; simp at hq
      obtain rfl : ad = ⟨b, off, none⟩ := by have := hp hne; simpa using this
      have e1 : (⟨b, off, none⟩ : Addr).add j = ⟨b, off + j, none⟩ := by unfold Addr.add; split <;> simp_all
      rw [e1]
      have hm : j / size * size + j % size = j := by rw [Nat.mul_comm]; exact Nat.div_add_mod j size
      have hg := flat_get (cells := cells) hcl l (j / size) (j % size) _ (List.getElem?_eq_getElem hq) (Nat.mod_lt _ hsz)
      rw [hm, hj] at hg
      have := hc (j / size) _ (List.getElem?_eq_getElem hq) (j % size) u hg.symm
      rw [Nat.add_assoc, hm] at this
      exact this
    · obtain ⟨y, hy, hu⟩ := List.mem_flatMap.1 hu
      exact hone y hy u hu
/-- An own row can be cut. -/
theorem own_cap {w : World} {base e size n : Nat} {v : Value} {xs : List Value} (h : w.ownsRow base e size v n xs) : ∀ p m c, v = .slice p m c → m ≤ c := by
  intro p m c hv
  rcases h.2 with ⟨rfl, h0⟩ | ⟨g, cap, cur, rfl, hb, hg, h1, -⟩
  · simp only [Value.slice.injEq] at hv
    obtain ⟨-, rfl, rfl⟩ := hv
    exact Nat.le_refl _
  · simp only [Value.slice.injEq] at hv
    obtain ⟨-, rfl, rfl⟩ := hv
    exact h1
theorem own_slice {w : World} {base e size n : Nat} {v : Value} {xs : List Value} (h : w.ownsRow base e size v n xs) : ∃ p c, v = .slice p n c := by
  rcases h.2 with ⟨rfl, rfl⟩ | ⟨g, cap, cur, rfl, hb, hg, h1, -⟩
  · exact ⟨_, _, rfl⟩
  · exact ⟨_, _, rfl⟩

theorem ret_bt {a b : ByteArray} {v : Value} (h : a = b) : Ending.returned (.tuple #[.string a, v]) = .returned (.tuple #[.string b, v]) := by rw [h]

set_option maxHeartbeats 1000000 in
set_option maxRecDepth 100000 in
theorem isgrp_yes (s : ByteArray) (w : World) (h : (s.size = 4 ∧ 224 ≤ (byteAt s 0).toNat ∧ (byteAt s 0).toNat ≤ 239) ∨ (s.size = 16 ∧ (byteAt s 0).toNat = 255)) :
    Calls Try.prog 39 #[.string s] w fun e w' => e = .returned (.bool true) ∧ w = w' := by
  have k0 : 0 < s.size := by omega
  have e0 : s[0] = byteAt s 0 := byteAt_get s 0 k0
  have u1 : (0 : Int) < (s.size : Int) := by omega
  rcases h with ⟨h4, h0, h1⟩ | ⟨h16, h0⟩
  · obtain ⟨q1, q2⟩ := eq_t (show (s.size : Int) = 4 by omega)
    have j0 : (224 : Int) ≤ (s[0].toNat : Int) := by rw [e0]; omega
    have j1 : (s[0].toNat : Int) ≤ 239 := by rw [e0]; omega
    clear h4 h0 h1 e0
    go_enter Try.func39, Try.ntmps39
    go_wp2_with fail
    go_ret
    exact ⟨rfl, rfl⟩
  · obtain ⟨q1, q2⟩ := ne_t (show (s.size : Int) ≠ 4 by omega)
    obtain ⟨r1, r2⟩ := eq_t (show (s.size : Int) = 16 by omega)
    obtain ⟨p1, p2⟩ := eq_t (show (s[0].toNat : Int) = 255 by rw [e0]; omega)
    clear h16 h0 e0
    go_enter Try.func39, Try.ntmps39
    go_wp2_with fail
    go_ret
    exact ⟨rfl, rfl⟩

set_option maxHeartbeats 1000000 in
set_option maxRecDepth 100000 in
theorem isgrp_no (s : ByteArray) (w : World) (n4 : ¬ (s.size = 4 ∧ 224 ≤ (byteAt s 0).toNat ∧ (byteAt s 0).toNat ≤ 239)) (n16 : ¬ (s.size = 16 ∧ (byteAt s 0).toNat = 255)) :
    Calls Try.prog 39 #[.string s] w fun e w' => e = .returned (.bool false) ∧ w = w' := by
  by_cases h4 : s.size = 4
  · have k0 : 0 < s.size := by omega
    have e0 : s[0] = byteAt s 0 := byteAt_get s 0 k0
    obtain ⟨q1, q2⟩ := eq_t (show (s.size : Int) = 4 by omega)
    have u1 : (0 : Int) < (s.size : Int) := by omega
    by_cases hlo : (s[0].toNat : Int) < 224
    · clear n4 n16 h4 e0
      go_enter Try.func39, Try.ntmps39
      go_wp2_with fail
      go_ret
      exact ⟨rfl, rfl⟩
    · have hlo' : (224 : Int) ≤ (s[0].toNat : Int) := by omega
      have hhi : (239 : Int) < (s[0].toNat : Int) := by rw [e0] at hlo' ⊢; omega
      have hd : decide ((s[0].toNat : Int) ≤ 239) = false := decide_eq_false (by omega)
      clear n4 n16 h4 e0 hlo
      go_enter Try.func39, Try.ntmps39
      go_wp2_with fail
      go_ret
      exact ⟨rfl, rfl⟩
  · obtain ⟨q1, q2⟩ := ne_t (show (s.size : Int) ≠ 4 by omega)
    by_cases h16 : s.size = 16
    · have k0 : 0 < s.size := by omega
      have e0 : s[0] = byteAt s 0 := byteAt_get s 0 k0
      obtain ⟨r1, r2⟩ := eq_t (show (s.size : Int) = 16 by omega)
      have u1 : (0 : Int) < (s.size : Int) := by omega
      obtain ⟨p1, p2⟩ := ne_t (show (s[0].toNat : Int) ≠ 255 by rw [e0]; omega)
      clear n4 n16 h4 h16 e0
      go_enter Try.func39, Try.ntmps39
      go_wp2_with fail
      go_ret
      exact ⟨rfl, rfl⟩
    · obtain ⟨r1, r2⟩ := ne_t (show (s.size : Int) ≠ 16 by omega)
      clear n4 n16 h4 h16
      go_enter Try.func39, Try.ntmps39
      go_wp2_with fail
      go_ret
      exact ⟨rfl, rfl⟩

theorem grp4_bytes (s : ByteArray) (h4 : s.size = 4) :
    (⟨#[1, 0, 94]⟩ ++ ⟨#[UInt8.ofNat ((byteAt s 1).toNat % 128)]⟩ ++ s.extract 2 s.size : ByteArray) = ⟨#[1, 0, 94, UInt8.ofNat ((byteAt s 1).toNat % 128), byteAt s 2, byteAt s 3]⟩ := by
  rw [h4]
  obtain ⟨⟨l⟩⟩ := s
  match l, h4 with
  | [b0, b1, b2, b3], _ =>
    apply ByteArray.ext
    simp [ByteArray.data_append, ByteArray.data_extract, byteAt]

def cellsPr (x : Pr) : List Value := [.int .i64 x.vl, .string x.gr, .bool x.f.ex, x.v]
theorem len_Pr (x : Pr) : (cellsPr x).length = 4 := rfl
theorem info_Pr : (Try.prog.info? 84).map (fun i => (i.zero, i.size, i.bytes)) = some (some (.agg #[.int .i64 0, .string ⟨#[]⟩, .bool false, .slice none 0 0]), 4, 56) := by kernel_rfl
/-- A PROXY OF THE DOCUMENT AT BLOCK k: its room, its rows. -/
structure HasK (w : World) (kb : Nat) (room : Int) (K : List Pr) : Prop where
  blk : ∃ q c, w.heap[kb]? = some (.cells #[.int .i64 room, .slice q K.length c] 47 (0, 0)) ∧ K.length ≤ c ∧ RowsAt 4 cellsPr w (.slice q K.length c) K
  row : ∀ x ∈ K, AddrsAt w x.v x.f.src
variable {w w' : World} {kb : Nat} {room : Int} {K : List Pr}
theorem one_Pr (h : ∀ x ∈ K, AddrsAt w x.v x.f.src) (x : Pr) (hx : x ∈ K) : ∀ u ∈ cellsPr x, u.oneCell' = true := by
  obtain ⟨p, n, c, hv⟩ := addrs_slice (h x hx)
  intro u hu
  unfold cellsPr at hu
  rw [hv] at hu
  simp at hu
  rcases hu with rfl | rfl | rfl | rfl <;> rfl
theorem rows_tws {S : Nat → Prop} {v : Value} (h : RowsAt 4 cellsPr w v K) (k : TwS S w w') (hS : ∀ b, S b → NoStr w b) : RowsAt 4 cellsPr w' v K := by
  obtain ⟨p, cap, b, off, hv, hp, hc⟩ := h
  refine ⟨p, cap, b, off, hv, hp, fun j x hj i u hu => ?_⟩
  have hb : ¬ S b := fun e => str_ne (hc j x hj 1 (.string x.gr) rfl) (hS b e) rfl
  exact k.cell (hc j x hj i u hu) hb
theorem HasK.noStr (h : HasK w kb room K) : NoStr w kb := by
  obtain ⟨q, c, hb, -⟩ := h.blk
  refine NoStr.of hb ?_
  intro j s hj
  rcases j with _ | _ | j <;> simp at hj
theorem HasK.lt (h : HasK w kb room K) : kb < w.heap.size := by
  obtain ⟨q, c, hb, -⟩ := h.blk
  exact lt_of_block hb
theorem HasK.tws {S : Nat → Prop} (h : HasK w kb room K) (k : TwS S w w') (hS : ∀ b, S b → NoStr w b) (h1 : ¬ S kb) : HasK w' kb room K := by
  obtain ⟨q, c, hb, hc, hr⟩ := h.blk
  exact ⟨⟨q, c, k.blk hb h1, hc, rows_tws hr k hS⟩, fun x hx => (h.row x hx).tws k hS⟩
theorem HasK.below (h : HasK w kb room K) (k : Below w.heap.size w w') : HasK w' kb room K := by
  obtain ⟨q, c, hb, hc, hr⟩ := h.blk
  exact ⟨⟨q, c, below_block k (lt_of_block hb) hb, hc, hr.below k⟩, fun x hx => (h.row x hx).below k⟩
theorem HasK.drew (h : HasK w kb room K) : HasK w.drew kb room K := ⟨h.blk, h.row⟩
theorem len_of_rows {q : Option Addr} {n c : Nat} (h : RowsAt 4 cellsPr w (.slice q n c) K) : n = K.length := by
  obtain ⟨p, cap, b, off, hv, -⟩ := h
  simp only [Value.slice.injEq] at hv
  exact hv.2.1
theorem rows_take {q : Option Addr} {n c : Nat} (h : RowsAt 4 cellsPr w (.slice q n c) K) (k : Nat) (hk : k ≤ n) : RowsAt 4 cellsPr w (.slice q k c) (K.take k) := by
  obtain ⟨p, d, b, off, hv, hp, hc⟩ := h
  simp only [Value.slice.injEq] at hv
  obtain ⟨rfl, rfl, rfl⟩ := hv
  have e : (K.take k).length = k := by rw [List.length_take]; omega
  refine ⟨q, c, b, off, by rw [e], fun hne => hp (by rintro rfl; simp at hne), fun j x hj => hc j x ?_⟩
  have hjk : j < k := by have := (List.getElem?_eq_some_iff.1 hj).1; omega
  rw [List.getElem?_take_of_lt hjk] at hj
  exact hj
/-- Where what is behind the first k begins. -/
def cutQ (q : Option Addr) (c k : Nat) : Option Addr := if c = k then q else q.map (·.add (k * 4))
theorem rows_drop {q : Option Addr} {n c : Nat} (h : RowsAt 4 cellsPr w (.slice q n c) K) (hc0 : n ≤ c) (k : Nat) (hk : k ≤ n) : RowsAt 4 cellsPr w (.slice (cutQ q c k) (n - k) (c - k)) (K.drop k) := by
  obtain ⟨p, d, b, off, hv, hp, hc⟩ := h
  simp only [Value.slice.injEq] at hv
  obtain ⟨rfl, rfl, rfl⟩ := hv
  refine ⟨_, c - k, b, off + k * 4, by rw [List.length_drop], fun hne => ?_, fun j x hj i u hu => ?_⟩
  · have hlt : k < K.length := by
      have : (K.drop k).length ≠ 0 := fun e => hne (List.eq_nil_of_length_eq_zero e)
      rw [List.length_drop] at this
      omega
    have e := hp (by rintro rfl; simp at hlt)
    rw [e]
    unfold cutQ
    rw [if_neg (by omega)]
    show some ((⟨b, off, none⟩ : Addr).add (k * 4)) = _
    unfold Addr.add
    split <;> simp_all
  · rw [List.getElem?_drop] at hj
    have := hc (k + j) x hj i u hu
    rw [show off + k * 4 + j * 4 + i = off + (k + j) * 4 + i from by omega]
    exact this
theorem run_loR (q : Option Addr) (n c h : Nat) (hh : h ≤ c) (U : World) : (Instr.slice 45 (.slice q n c) none (some (.int .i64 h)) none).run Try.prog U = .ok (.slice q h c) U := by
  have := run_slice_h (P := Try.prog) (w := U) 45 q n c (by rw [show Try.prog.elem 45 = 84 from by kernel_rfl]; exact Try.underlying45) .i64 h (by omega) (by omega)
  rw [this, show Try.prog.elem 45 = 84 from by kernel_rfl, Try.sizeOf84]
  rcases q with _ | ⟨b, o, e⟩
  · simp [Result.andThen, sliced]
  · simp [Result.andThen, sliced, Addr.add]
theorem run_hiR (q : Option Addr) (n c h : Nat) (hh : h ≤ n) (U : World) : (Instr.slice 45 (.slice q n c) (some (.int .i64 h)) none none).run Try.prog U = .ok (.slice (cutQ q c h) (n - h) (c - h)) U := by
  have := run_slice_l (P := Try.prog) (w := U) 45 q n c (by rw [show Try.prog.elem 45 = 84 from by kernel_rfl]; exact Try.underlying45) .i64 h (by omega) (by omega)
  rw [this, show Try.prog.elem 45 = 84 from by kernel_rfl, Try.sizeOf84]
  simp [Result.andThen, sliced, cutQ]

theorem none_c (ex : Bool) (q : Option Addr) (n c : Nat) (hn : n ≤ 9223372036854775807) (w : World) :
    Calls Try.prog 41 #[.agg #[.bool ex, .slice q n c]] w fun e w' => e = .returned (.bool (!(ex || decide (0 < n)))) ∧ Below w.heap.size w w' := by
  have KA := Lib.hid ((Below.refl w.heap.size w).alloc (Nat.le_refl _) (.cells #[.bool ex, .slice q n c] 28))
  cases ex
  · by_cases h : n = 0
    · subst h
      go_enter Try.func41, Try.ntmps41
      go_wp2
      go_ret
      exact ⟨rfl, KA.out⟩
    · have d1 : decide (0 < n) = true := decide_eq_true (by omega)
      obtain ⟨f1, f2⟩ := ne_t (show (n : Int) ≠ 0 by omega)
      rw [d1]
      clear h
      go_enter Try.func41, Try.ntmps41
      go_wp2
      go_ret
      exact ⟨rfl, KA.out⟩
  · go_enter Try.func41, Try.ntmps41
    go_wp2
    go_ret
    exact ⟨by simp, KA.out⟩
theorem isgrp_c (s : ByteArray) (w : World) :
    Calls Try.prog 39 #[.string s] w fun e w' => e = .returned (.bool (decide ((grpSpec s).2 = 0))) ∧ w = w' := by
  by_cases h4 : s.size = 4 ∧ 224 ≤ (byteAt s 0).toNat ∧ (byteAt s 0).toNat ≤ 239
  · have e : (grpSpec s).2 = 0 := by unfold grpSpec; rw [if_pos h4]
    rw [decide_eq_true e]
    exact isgrp_yes s w (Or.inl h4)
  · by_cases h16 : s.size = 16 ∧ (byteAt s 0).toNat = 255
    · have e : (grpSpec s).2 = 0 := by unfold grpSpec; rw [if_neg h4, if_pos h16]
      rw [decide_eq_true e]
      exact isgrp_yes s w (Or.inr h16)
    · have e : ¬ (grpSpec s).2 = 0 := by unfold grpSpec; rw [if_neg h4, if_neg h16]; decide
      rw [decide_eq_false e]
      exact isgrp_no s w h4 h16

theorem HasK.snd {S : Nat → Prop} {w1 w2 : World} (h : TwS S w w1) (k : TwS S w1 w2) : TwS S w w2 := h.trans k (fun _ _ h => h)
set_option maxHeartbeats 8000000 in
set_option maxRecDepth 100000 in
theorem cut_c (h : HasK w kb room K) (i : Nat) (hi : i < K.length) (hn : K.length ≤ 5000) :
    Calls Try.prog 42 #[.pointer (some ⟨kb, 0, none⟩), .int .i64 i] w fun e w' => e = .returned (.tuple #[]) ∧ HasK w' kb room (K.take i ++ K.drop (i + 1)) ∧ TwS (fun b => b = kb) w w' := by
  obtain ⟨i0, hi0, hz0, hz1, hz2⟩ := info_parts info_Pr
  obtain ⟨q, c, hb, hc, hr⟩ := h.blk
  have HR := Lib.hid h.row
  have HB0 := Lib.hid hb
  have RT := Lib.hid (rows_take hr i (by omega))
  have RD := Lib.hid (rows_drop hr hc (i + 1) (by omega))
  have OT := Lib.hid (fun x (hx : x ∈ K.take i) => one_Pr h.row x (List.mem_of_mem_take hx))
  have OD := Lib.hid (fun x (hx : x ∈ K.drop (i + 1)) => one_Pr h.row x (List.mem_of_mem_drop hx))
  have LT := Lib.hid h.lt
  have NS := Lib.hid h.noStr
  obtain ⟨n, hnn⟩ : ∃ n, n = K.length := ⟨_, rfl⟩
  rw [← hnn] at hb hc hi hn RD
  have HN := Lib.hid hnn
  have r1 := run_loR q n c i (by omega)
  have r2 := run_hiR q n c (i + 1) (by omega)
  have R1 := Lib.hid r1
  have R2 := Lib.hid r2
  have x1 := cell_of_block (j := 1) hb rfl
  have e1 : (((i + 1 : Nat)) : Int) = (i : Int) + 1 := by omega
  have TL := Lib.hid (show (K.take i).length = i by rw [List.length_take]; have := HN.out; omega)
  have DL := Lib.hid (show (K.drop (i + 1)).length = n - (i + 1) by rw [List.length_drop, ← HN.out])
  rw [e1] at r2
  have hw1 : IntKind.i64.wrap ((i : Int) + 1) = (i : Int) + 1 := IntWalk.i64_in _ (by omega)
  clear hnn e1 hr hb h R1 R2
  go_enter Try.func42, Try.ntmps42
  go_wp2_with (at_builtin; refine wpList_append_rows (cells := cellsPr) len_Pr rfl _ _ 45 84 rfl i0 (.agg #[.int .i64 0, .string ⟨#[]⟩, .bool false, .slice none 0 0]) Try.underlying45 hi0 hz0 hz1 hz2 rfl (by decide) w.heap.size _ 0 [] rfl (World.ownsRow_nil _ _ _ _) _ (K.take i) OT.out rfl RT.out ?a1 ?a2 ?a3 ?_)
  case a1 => rw [TL.out]; unfold maxLen; omega
  case a2 => rw [TL.out]; omega
  case a3 => exact Nat.le_refl _
  intro v1 w1 hown hgrow
  have K1 := (Below.refl w.heap.size w).grown hgrow (Nat.le_refl _) (fun j hj => by simp [Value.ownBlock] at hj)
  have em : min i K.length = i := by rw [← HN.out]; omega
  rw [em] at hown
  obtain ⟨p1, c1, rfl⟩ := own_slice hown
  have KK1 := Lib.hid K1
  have OW := Lib.hid hown
  have RD1 := Lib.hid (RD.out.below K1)
  have HB1 := Lib.hid (below_block K1 LT.out HB0.out)
  have HR1 := Lib.hid (fun x hx => (HR.out x hx).below K1)
  have S1 := Lib.hid K1.size
  clear hown hgrow K1 em x1 RD RT OT r1
  have x1 : w1.cell? ⟨kb, 1, none⟩ = some (.slice q n c) := by rw [HN.out]; exact cell_of_block HB1.out rfl
  go_wp2_with (at_builtin; refine wpList_append_rows (cells := cellsPr) len_Pr rfl _ _ 45 84 rfl i0 (.agg #[.int .i64 0, .string ⟨#[]⟩, .bool false, .slice none 0 0]) Try.underlying45 hi0 hz0 hz1 hz2 rfl (by decide) w.heap.size _ i _ rfl OW.out _ (K.drop (i + 1)) OD.out rfl RD1.out ?a1 ?a2 ?a3 ?_)
  case a1 => rw [DL.out]; unfold maxLen; omega
  case a2 => rw [DL.out]; omega
  case a3 => exact S1.out
  intro v2 w2 hown hgrow
  have K2 := KK1.out.grown hgrow S1.out (fun j hj => (OW.out.lt j hj).1)
  have NK := Lib.hid (show NoStr w2 kb from fun ys t f hy => NS.out ys t f (by rw [← hy]; exact (K2.block kb LT.out).symm))
  rw [← List.flatMap_append] at hown
  have RR := Lib.hid (rowsAt_own (cells := cellsPr) (by decide) len_Pr hown)
  have CP := Lib.hid (own_cap hown)
  obtain ⟨p2, c2, rfl⟩ := own_slice hown
  have HB2 := Lib.hid (below_block K2 LT.out HB0.out)
  have HR2 := Lib.hid (fun x hx => (HR.out x hx).below K2)
  have EL := Lib.hid (show i + (K.length - (i + 1)) = (K.take i ++ K.drop (i + 1)).length by rw [List.length_append, TL.out, List.length_drop])
  have KK2 := Lib.hid K2
  clear hown hgrow K2 x1 HB1 RD1 OW KK1 r2
  have x0 := cell_of_block (j := 0) HB2.out rfl
  have x1 : w2.cell? ⟨kb, 1, none⟩ = some (.slice q n c) := by rw [HN.out]; exact cell_of_block HB2.out rfl
  have fr := free_of_block (j := 1) HB2.out
  have HF := Lib.hid (show HasK (w2.setCell ⟨kb, 1, none⟩ (.slice p2 (i + (K.length - (i + 1))) c2)) kb room (K.take i ++ K.drop (i + 1)) ∧ TwS (fun b => b = kb) w (w2.setCell ⟨kb, 1, none⟩ (.slice p2 (i + (K.length - (i + 1))) c2)) from by
    have T2 := TwS.set (S := fun b => b = kb) w2 kb 1 (.slice p2 (i + (K.length - (i + 1))) c2) rfl
    have NB : ∀ b, b = kb → NoStr w2 b := fun b hb => by rw [hb]; exact NK.out
    refine ⟨⟨⟨p2, c2, ?_, ?_, ?_⟩, fun x hx => ?_⟩, HasK.snd (TwS.ofBelow KK2.out) T2⟩
    · rw [← EL.out]; exact heap_store HB2.out
    · rw [← EL.out]; exact CP.out _ _ _ rfl
    · rw [← EL.out]; exact rows_tws RR.out T2 NB
    · refine AddrsG.tws (HR2.out x ?_) T2 NB
      rcases List.mem_append.1 hx with hx | hx
      · exact List.mem_of_mem_take hx
      · exact List.mem_of_mem_drop hx)
  clear RR CP HB2 HR2 KK2 NK
  go_wp2_with fail
  exact bodyPost_end (v := .tuple #[]) (by simp [results, Try.results42, go_sem]) rfl ⟨rfl, HF.out⟩

theorem take_keep {F : List Pr} {k : Nat} (h : k < K.length) : (K.take (k + 1) ++ F).take k = K.take k := by
  rw [List.take_append_of_le_length (by rw [List.length_take]; omega), List.take_take]
  congr 1
  omega
theorem drop_keep {F : List Pr} {k : Nat} (h : k < K.length) : (K.take (k + 1) ++ F).drop (k + 1) = F := by
  rw [List.drop_append_of_le_length (by rw [List.length_take]; omega), List.drop_eq_nil_of_le (by rw [List.length_take]; omega)]
  rfl
theorem drop_cons {k : Nat} {x : Pr} (h : K[k]? = some x) : K.drop k = x :: K.drop (k + 1) := by
  obtain ⟨hk, rfl⟩ := List.getElem?_eq_some_iff.1 h
  exact List.drop_eq_getElem_cons hk
theorem take_snoc {k : Nat} {x : Pr} (h : K[k]? = some x) : K.take (k + 1) = K.take k ++ [x] := by
  rw [List.take_add_one, h]
  rfl
/-- What is left of the rows from j on: those of other VLANs. -/
def leftK (K : List Pr) (v : Int) (j : Nat) : List Pr := K.take j ++ offR (K.drop j) v
theorem left_all (v : Int) : leftK K v K.length = K := by unfold leftK; rw [List.take_length, List.drop_length]; simp [offR]
theorem left_zero (v : Int) : leftK K v 0 = offR K v := by unfold leftK; simp
theorem left_get {v : Int} {k : Nat} {x : Pr} (h : K[k]? = some x) : (leftK K v (k + 1))[k]? = some x := by
  unfold leftK
  have hk := (List.getElem?_eq_some_iff.1 h).1
  rw [List.getElem?_append_left (by rw [List.length_take]; omega), List.getElem?_take_of_lt (by omega), h]
theorem left_no {v : Int} {k : Nat} {x : Pr} (h : K[k]? = some x) (hv : x.vl ≠ v) : leftK K v k = leftK K v (k + 1) ∧ (ofR (K.drop k) v).length = (ofR (K.drop (k + 1)) v).length := by
  unfold leftK
  rw [drop_cons h, take_snoc h]
  simp [offR, ofR, hv]
theorem left_yes {v : Int} {k : Nat} {x : Pr} (h : K[k]? = some x) (hv : x.vl = v) : leftK K v k = (leftK K v (k + 1)).take k ++ (leftK K v (k + 1)).drop (k + 1) ∧ (ofR (K.drop k) v).length = (ofR (K.drop (k + 1)) v).length + 1 := by
  have hk := (List.getElem?_eq_some_iff.1 h).1
  unfold leftK
  rw [take_keep hk, drop_keep hk, drop_cons h]
  simp [offR, ofR, hv]
theorem left_len (v : Int) (j : Nat) : (leftK K v j).length ≤ K.length := by
  unfold leftK offR
  have h1 := List.length_filter_le (fun x : Pr => !decide (x.vl = v)) (K.drop j)
  rw [List.length_append, List.length_take]
  rw [List.length_drop] at h1
  omega

/-- A row's cells. -/
theorem HasK.cells (h : HasK w kb room K) {k : Nat} {x : Pr} (hx : K[k]? = some x) : ∃ b off c, w.cell? ⟨kb, 1, none⟩ = some (.slice (some ⟨b, off, none⟩) K.length c) ∧
    w.cell? ⟨b, off + k * 4, none⟩ = some (.int .i64 x.vl) ∧ w.cell? ⟨b, off + k * 4 + 1, none⟩ = some (.string x.gr) ∧ w.cell? ⟨b, off + k * 4 + 2, none⟩ = some (.bool x.f.ex) ∧ w.cell? ⟨b, off + k * 4 + 3, none⟩ = some x.v := by
  obtain ⟨q, c, hb, hc, p, d, b, off, hv, hp, hcc⟩ := h.blk
  simp only [Value.slice.injEq] at hv
  obtain ⟨rfl, -, rfl⟩ := hv
  have e := hp (by rintro rfl; simp at hx)
  subst e
  exact ⟨b, off, c, cell_of_block hb rfl, by simpa using hcc k x hx 0 _ rfl, hcc k x hx 1 _ rfl, hcc k x hx 2 _ rfl, hcc k x hx 3 _ rfl⟩

set_option maxHeartbeats 8000000 in
set_option maxRecDepth 100000 in
theorem kfor_c (h : HasK w kb room K) (hn : K.length ≤ 5000) (v : Int) :
    Calls Try.prog 23 #[.pointer (some ⟨kb, 0, none⟩), .int .i64 v] w fun e w' => e = .returned (.int .i64 (ofR K v).length) ∧ HasK w' kb room (offR K v) ∧ TwS (fun b => b = kb) w w' := by
  obtain ⟨n, hnn⟩ : ∃ n, n = K.length := ⟨_, rfl⟩
  have HN := Lib.hid hnn
  have x1 : ∃ q c, w.cell? ⟨kb, 1, none⟩ = some (.slice q n c) := by
    obtain ⟨q, c, hb, -⟩ := h.blk
    exact ⟨q, c, by rw [hnn]; exact cell_of_block hb rfl⟩
  obtain ⟨q0, c0, x1⟩ := x1
  have H0 := Lib.hid h
  rw [← hnn] at hn
  have hq : ∃ r : Nat, r = (ofR K v).length := ⟨_, rfl⟩
  obtain ⟨rr, hrr⟩ := hq
  rw [← hrr]
  have HR := Lib.hid hrr
  clear h hnn hrr
  go_enter Try.func23, Try.ntmps23
  go_upto_region 3 with fail
  clear x1
  go_loopw [5, 6] (fun cv i wr => ∃ (j cn : Nat) (ii : Int), j ≤ n ∧ i = .int .i64 ii ∧ Hid (ii = (j : Int) - 1) ∧ -1 ≤ ii ∧ ii ≤ 5000 ∧ cv = .int .i64 (cn : Int) ∧ Hid (cn = (ofR (K.drop j) v).length) ∧ cn ≤ 5000 ∧ Hid (HasK wr kb room (leftK K v j)) ∧ Hid (TwS (fun b => b = kb) w wr)) (fun _ i _ => (intOf i + 1).toNat)
  case atStart => exact ⟨n, 0, _, Nat.le_refl _, rfl, Lib.hid rfl, by omega, by omega, rfl, Lib.hid (by rw [HN.out, List.drop_length]; rfl), by omega, Lib.hid (by rw [HN.out, left_all]; exact H0.out), Lib.hid (TwS.refl _ _)⟩
  case round =>
    obtain ⟨j, cn, ii, hj, rfl, hI, hi1, hi2, rfl, hC, hc5, hH, hT⟩ := hrel
    by_cases h0 : j = 0
    · subst h0
      obtain rfl : ii = -1 := by have := hI.out; omega
      rw [left_zero] at hH
      have e9 : cn = rr := by rw [hC.out, List.drop_zero]; exact HR.out.symm
      subst e9
      clear hI hj hi1 hi2 hC H0
      go_wp2_with fail
      go_ret
      exact ⟨rfl, hH.out, hT.out⟩
    · obtain ⟨k, rfl⟩ : ∃ k, j = k + 1 := ⟨j - 1, by omega⟩
      obtain rfl : ii = (k : Int) := by have := hI.out; omega
      obtain ⟨x, hx⟩ : ∃ x, K[k]? = some x := ⟨_, List.getElem?_eq_getElem (by rw [← HN.out]; omega)⟩
      obtain ⟨b, off, c, z0, z1, -, -, -⟩ := hH.out.cells (left_get (v := v) hx)
      have LL := left_len (K := K) v (k + 1)
      rw [← HN.out] at LL
      have KL := (List.getElem?_eq_some_iff.1 (left_get (v := v) hx)).1
      have CC := Lib.hid (cut_c hH.out k KL (by omega))
      have d0 : decide (0 ≤ (k : Int)) = true := decide_eq_true (by omega)
      have hcl : cn + 1 ≤ 5001 := by omega
      generalize hml : (leftK K v (k + 1)).length = ml at z0 LL KL
      have d3 : decide ((k : Int) < (ml : Int)) = true := decide_eq_true (by omega)
      have d4 : decide (k < ml) = true := decide_eq_true KL
      by_cases hv : x.vl = v
      · obtain ⟨l1, l2⟩ := left_yes hx hv
        rw [← l1] at CC
        obtain ⟨f1, f2⟩ := eq_t hv
        have f3 : decide (x.vl = v) = true := decide_eq_true hv
        have L2 := Lib.hid l2
        have cn5 : cn + 1 ≤ 5000 := by
          have := List.length_filter_le (fun x : Pr => decide (x.vl = v)) (K.drop k)
          have h9 := hC.out
          have h8 := HN.out
          unfold ofR at l2 h9
          rw [List.length_drop] at this
          omega
        clear hml hx l1 l2 hI hv
        go_wp2_with fail
        ((with_reducible refine CC.out.mono ?_); rintro e w3 ⟨rfl, h3, t3⟩)
        have H3 := Lib.hid h3
        have T3 := Lib.hid (HasK.snd hT.out t3)
        clear h3 t3 CC hH hT z0 z1
        go_wp2_with fail
        go_roundw
        case rel => exact ⟨k, cn + 1, _, by omega, rfl, Lib.hid (by omega), by omega, by omega, by go_num, Lib.hid (by rw [L2.out, hC.out]), cn5, H3, T3⟩
        case measure => simp [intOf] <;> omega
      · obtain ⟨l1, l2⟩ := left_no hx hv
        obtain ⟨f1, f2⟩ := ne_t hv
        have f3 : decide (x.vl = v) = false := decide_eq_false hv
        have L1 := Lib.hid l1
        have L2 := Lib.hid l2
        clear hml hx l1 l2 hI hv CC
        go_wp2_with fail
        go_roundw
        case rel => exact ⟨k, cn, _, by omega, rfl, Lib.hid (by omega), by omega, by omega, rfl, Lib.hid (by rw [L2.out, hC.out]), hc5, Lib.hid (by rw [L1.out]; exact hH.out), hT⟩
        case measure => simp [intOf] <;> omega

theorem of_snoc {k : Nat} {x : Pr} (h : K[k]? = some x) (v : Int) : (ofR (K.take (k + 1)) v).map recR = (ofR (K.take k) v).map recR ++ (if x.vl = v then [recR x] else []) := by
  rw [take_snoc h]
  unfold ofR
  rw [List.filter_append, List.map_append]
  by_cases hv : x.vl = v <;> simp [hv]

set_option maxHeartbeats 8000000 in
set_option maxRecDepth 100000 in
theorem kall_c (h : HasK w kb room K) (hn : K.length ≤ 5000) (hl : ∀ x ∈ K, x.f.src.length ≤ 1000) (v : Int) :
    Calls Try.prog 25 #[.pointer (some ⟨kb, 0, none⟩), .int .i64 v] w fun e w' => ∃ u, e = .returned u ∧ RecsO w.heap.size w' u ((ofR K v).map recR) ∧ Below w.heap.size w w' := by
  obtain ⟨n, hnn⟩ : ∃ n, n = K.length := ⟨_, rfl⟩
  have HN := Lib.hid hnn
  have H0 := Lib.hid h
  have HLN := Lib.hid hl
  have x1 : ∃ q c, ∀ U, Below w.heap.size w U → U.cell? ⟨kb, 1, none⟩ = some (.slice q n c) := by
    obtain ⟨q, c, hb, -⟩ := h.blk
    exact ⟨q, c, fun U hU => by rw [hnn]; exact cell_of_block (below_block hU (lt_of_block hb) hb) rfl⟩
  obtain ⟨q0, c0, x1⟩ := x1
  have X1 := Lib.hid x1
  rw [← hnn] at hn
  obtain ⟨i0, hi, hz0, hz1, hz2⟩ := info_parts info_Rc
  clear h hnn x1 hl
  go_enter Try.func25, Try.ntmps25
  go_upto_region 3 with fail
  go_loopw [5, 6, 7, 8, 9] (fun s i _ _ _ wr => ∃ (k : Nat) (T : List Rv) (po : Option Addr) (co : Nat), k ≤ n ∧ i = .int .i64 k ∧ s = .slice po T.length co ∧ T.length ≤ k ∧ Hid (T.map (·.1) = (ofR (K.take k) v).map recR) ∧ Hid (wr.ownsRow w.heap.size 57 3 (.slice po T.length co) T.length (rowRv T)) ∧ Hid (∀ t ∈ T, OwnS w.heap.size wr t.2 t.1.srcs) ∧ Hid (Below w.heap.size w wr)) (fun _ i _ _ _ _ => n - (intOf i).toNat)
  case atStart => exact ⟨0, [], none, 0, Nat.zero_le _, rfl, rfl, Nat.zero_le _, Lib.hid rfl, Lib.hid (World.ownsRow_nil _ _ _ _), Lib.hid (fun t ht => by cases ht), Lib.hid (Below.refl _ _)⟩
  case round =>
    obtain ⟨k, T, po, co, hk, rfl, rfl, hTk, hT, hO, hS, hB⟩ := hrel
    have x1 := X1.out _ hB.out
    by_cases hlt : k < n
    · obtain ⟨x, hx⟩ : ∃ x, K[k]? = some x := ⟨_, List.getElem?_eq_getElem (by rw [← HN.out]; exact hlt)⟩
      obtain ⟨b, off, c, y1, z0, z1, z2, z3⟩ := (H0.out.below hB.out).cells hx
      rw [x1] at y1
      simp only [Option.some.injEq, Value.slice.injEq] at y1
      obtain ⟨rfl, -, -⟩ := y1
      have HA := Lib.hid (fun U (kz : Below w.heap.size w U) => (H0.out.below kz).row x (List.mem_of_getElem? hx))
      have HXL := Lib.hid (HLN.out x (List.mem_of_getElem? hx))
      have HOS := Lib.hid (of_snoc hx v)
      obtain ⟨sq, sc, hsv⟩ := (H0.out.row x (List.mem_of_getElem? hx)).slice
      have d1 : decide (k < n) = true := decide_eq_true hlt
      have d2 : decide ((k : Int) < (n : Int)) = true := decide_eq_true (by omega)
      have d4 : decide (0 ≤ (k : Int)) = true := decide_eq_true (by omega)
      obtain ⟨xvl, xgr, ⟨xex, xsrc⟩, xv⟩ := x
      simp only at z0 z1 z2 z3 HA HXL HOS hsv
      subst hsv
      have KA := (Below.refl wr.heap.size wr).alloc (Nat.le_refl _) (.cells #[.int .i64 xvl, .string xgr, .bool xex, .slice sq xsrc.length sc] 84)
      have PB := Lib.hid (heap_new wr (.cells #[.int .i64 xvl, .string xgr, .bool xex, .slice sq xsrc.length sc] 84))
      have B1 := Lib.hid (pj_call hB.out KA)
      have O1 := Lib.hid (owns_below hO.out KA)
      have S1 := Lib.hid (fun t ht => (hS.out t ht).below KA)
      by_cases hv : xvl = v
      · obtain ⟨f1, f2⟩ := eq_t hv
        have f3 : decide (xvl = v) = true := decide_eq_true hv
        rw [if_pos hv] at HOS
        clear hx hv hB hO hS KA
        go_upto_region 6 with fail
        clear z0 z1 z2 z3 x1
        generalize wr.alloc (.cells #[.int .i64 xvl, .string xgr, .bool xex, .slice sq xsrc.length sc] 84) = W at PB B1 O1 S1 ⊢
        generalize wr.heap.size = rb at PB ⊢
        have z0 := cell_of_block (j := 0) PB.out rfl
        have z1 := cell_of_block (j := 1) PB.out rfl
        have z2 := cell_of_block (j := 2) PB.out rfl
        have z3 := cell_of_block (j := 3) PB.out rfl
        have LB := Lib.hid B1.out.size
        obtain ⟨ki, hki⟩ : ∃ ki : Int, ki = if xex then 2 else 1 := ⟨_, rfl⟩
        have HKI := Lib.hid (show recR ⟨xvl, xgr, ⟨xex, xsrc⟩, .slice sq xsrc.length sc⟩ = ⟨ki, xgr, xsrc⟩ by rw [hki]; rfl)
        rw [HKI.out] at HOS
        have AR := Lib.hid (HA.out _ B1.out)
        cases xex with
        | true =>
          simp only [if_true] at hki
          subst hki
          go_wp2_with (at_builtin; refine wpList_append_addrs rfl _ _ rfl w.heap.size _ 0 [] rfl (World.ownsRow_nil _ _ _ _) _ xsrc rfl AR.out ?a1 ?a2 ?a3 ?_)
          case a1 => unfold maxLen; have := HXL.out; omega
          case a2 => have := HXL.out; omega
          case a3 => exact LB.out
          intro v5 w5 hown hgrow
          have B5 := Lib.hid (B1.out.grown hgrow LB.out (fun j hj => by simp [Value.ownBlock] at hj))
          have K5 := (Below.refl W.heap.size W).grown hgrow (Nat.le_refl _) (fun j hj => by simp [Value.ownBlock] at hj)
          have OS := Lib.hid (OwnS.of_owns (l := xsrc) (by simpa using hown))
          obtain ⟨sp5, sc5, rfl⟩ := own_slice hown
          have O5 := Lib.hid (owns_below O1.out K5)
          have S5 := Lib.hid (fun t ht => (S1.out t ht).below K5)
          have P5 := Lib.hid (below_block K5 (lt_of_block PB.out) PB.out)
          clear hown hgrow K5 z0 z1 z2 z3 O1 S1 B1 PB AR
          have z1 := cell_of_block (j := 1) P5.out rfl
          have A6 := Lib.hid (cellsB (xs := [.int .i64 2, .string xgr, .slice sp5 xsrc.length sc5]) (heap_new w5 (.cells #[.int .i64 2, .string xgr, .slice sp5 xsrc.length sc5] 57)))
          have oc := Lib.hid (show ∀ z ∈ [Value.int .i64 2, .string xgr, .slice sp5 xsrc.length sc5], z.oneCell' = true from fun z hz => by simp at hz; rcases hz with rfl | rfl | rfl <;> rfl)
          have A3 := Lib.hid (show T.length + 1 ≤ maxLen by unfold maxLen; omega)
          have A4 := Lib.hid (show (T.length + 1) * 48 ≤ 140737488355328 by omega)
          have A5 := Lib.hid (show w.heap.size ≤ (w5.alloc (.cells #[.int .i64 2, .string xgr, .slice sp5 xsrc.length sc5] 57)).heap.size by have := B5.out.size; simp; omega)
          have KA := (Below.refl w5.heap.size w5).alloc (Nat.le_refl _) (.cells #[.int .i64 2, .string xgr, .slice sp5 xsrc.length sc5] 57)
          have B6 := Lib.hid (pj_call B5.out KA)
          have O6 := Lib.hid (owns_below O5.out KA)
          have S6 := Lib.hid (fun t ht => (S5.out t ht).below KA)
          have OS6 := Lib.hid (OS.out.below KA)
          clear KA B5 S5 OS
          go_wp2_with (at_builtin; refine wpList_append_own _ rfl _ _ 50 rfl w.heap.size 57 i0 (.agg #[.int .i64 0, .string ⟨#[]⟩, .slice none 0 0]) 3 48 Try.underlying50 hi hz0 hz1 hz2 rfl (by decide) _ _ _ rfl O6.out ⟨w5.heap.size, 0, none⟩ 1 1 [.int .i64 2, .string xgr, .slice sp5 xsrc.length sc5] rfl rfl A6.out oc.out A3.out A4.out A5.out ?_)
          intro v7 w7 hown hgrow _
          have B7 := Lib.hid (B6.out.grown hgrow A5.out (fun j hj => (O6.out.lt j hj).1))
          have S7 := Lib.hid (fun t ht => (S6.out t ht).grown hgrow (own_type O6.out (by decide)))
          have OS7 := Lib.hid (OS6.out.grown hgrow (own_type O6.out (by decide)))
          obtain ⟨p7, c7, rfl⟩ := own_slice hown
          have O7 := Lib.hid hown
          clear hown hgrow O6 O5 B6 S6 OS6 A6 z1
          go_wp2_with fail
          go_roundw
          case rel =>
            refine ⟨k + 1, T ++ [(⟨2, xgr, xsrc⟩, .slice sp5 xsrc.length sc5)], p7, c7, by omega, by go_num, by rw [List.length_append]; rfl, by rw [List.length_append]; show T.length + 1 ≤ k + 1; omega, ?_, ?_, ?_, B7⟩
            · rw [List.map_append, HOS.out, hT.out]; exact Lib.hid rfl
            · rw [List.length_append, rowRv_snoc]; exact O7
            · refine Lib.hid fun t ht => ?_
              rcases List.mem_append.1 ht with ht | ht
              · exact S7.out t ht
              · simp at ht; subst ht; exact OS7.out
          case measure => simp [intOf]; omega
        | false =>
          simp only [Bool.false_eq_true, if_false] at hki
          subst hki
          go_wp2_with (at_builtin; refine wpList_append_addrs rfl _ _ rfl w.heap.size _ 0 [] rfl (World.ownsRow_nil _ _ _ _) _ xsrc rfl AR.out ?a1 ?a2 ?a3 ?_)
          case a1 => unfold maxLen; have := HXL.out; omega
          case a2 => have := HXL.out; omega
          case a3 => exact LB.out
          intro v5 w5 hown hgrow
          have B5 := Lib.hid (B1.out.grown hgrow LB.out (fun j hj => by simp [Value.ownBlock] at hj))
          have K5 := (Below.refl W.heap.size W).grown hgrow (Nat.le_refl _) (fun j hj => by simp [Value.ownBlock] at hj)
          have OS := Lib.hid (OwnS.of_owns (l := xsrc) (by simpa using hown))
          obtain ⟨sp5, sc5, rfl⟩ := own_slice hown
          have O5 := Lib.hid (owns_below O1.out K5)
          have S5 := Lib.hid (fun t ht => (S1.out t ht).below K5)
          have P5 := Lib.hid (below_block K5 (lt_of_block PB.out) PB.out)
          clear hown hgrow K5 z0 z1 z2 z3 O1 S1 B1 PB AR
          have z1 := cell_of_block (j := 1) P5.out rfl
          have A6 := Lib.hid (cellsB (xs := [.int .i64 1, .string xgr, .slice sp5 xsrc.length sc5]) (heap_new w5 (.cells #[.int .i64 1, .string xgr, .slice sp5 xsrc.length sc5] 57)))
          have oc := Lib.hid (show ∀ z ∈ [Value.int .i64 1, .string xgr, .slice sp5 xsrc.length sc5], z.oneCell' = true from fun z hz => by simp at hz; rcases hz with rfl | rfl | rfl <;> rfl)
          have A3 := Lib.hid (show T.length + 1 ≤ maxLen by unfold maxLen; omega)
          have A4 := Lib.hid (show (T.length + 1) * 48 ≤ 140737488355328 by omega)
          have A5 := Lib.hid (show w.heap.size ≤ (w5.alloc (.cells #[.int .i64 1, .string xgr, .slice sp5 xsrc.length sc5] 57)).heap.size by have := B5.out.size; simp; omega)
          have KA := (Below.refl w5.heap.size w5).alloc (Nat.le_refl _) (.cells #[.int .i64 1, .string xgr, .slice sp5 xsrc.length sc5] 57)
          have B6 := Lib.hid (pj_call B5.out KA)
          have O6 := Lib.hid (owns_below O5.out KA)
          have S6 := Lib.hid (fun t ht => (S5.out t ht).below KA)
          have OS6 := Lib.hid (OS.out.below KA)
          clear KA B5 S5 OS
          go_wp2_with (at_builtin; refine wpList_append_own _ rfl _ _ 50 rfl w.heap.size 57 i0 (.agg #[.int .i64 0, .string ⟨#[]⟩, .slice none 0 0]) 3 48 Try.underlying50 hi hz0 hz1 hz2 rfl (by decide) _ _ _ rfl O6.out ⟨w5.heap.size, 0, none⟩ 1 1 [.int .i64 1, .string xgr, .slice sp5 xsrc.length sc5] rfl rfl A6.out oc.out A3.out A4.out A5.out ?_)
          intro v7 w7 hown hgrow _
          have B7 := Lib.hid (B6.out.grown hgrow A5.out (fun j hj => (O6.out.lt j hj).1))
          have S7 := Lib.hid (fun t ht => (S6.out t ht).grown hgrow (own_type O6.out (by decide)))
          have OS7 := Lib.hid (OS6.out.grown hgrow (own_type O6.out (by decide)))
          obtain ⟨p7, c7, rfl⟩ := own_slice hown
          have O7 := Lib.hid hown
          clear hown hgrow O6 O5 B6 S6 OS6 A6 z1
          go_wp2_with fail
          go_roundw
          case rel =>
            refine ⟨k + 1, T ++ [(⟨1, xgr, xsrc⟩, .slice sp5 xsrc.length sc5)], p7, c7, by omega, by go_num, by rw [List.length_append]; rfl, by rw [List.length_append]; show T.length + 1 ≤ k + 1; omega, ?_, ?_, ?_, B7⟩
            · rw [List.map_append, HOS.out, hT.out]; exact Lib.hid rfl
            · rw [List.length_append, rowRv_snoc]; exact O7
            · refine Lib.hid fun t ht => ?_
              rcases List.mem_append.1 ht with ht | ht
              · exact S7.out t ht
              · simp at ht; subst ht; exact OS7.out
          case measure => simp [intOf]; omega
      · obtain ⟨f1, f2⟩ := ne_t hv
        have f3 : decide (xvl = v) = false := decide_eq_false hv
        rw [if_neg hv, List.append_nil] at HOS
        clear hx hv hB hO hS KA
        go_upto_region 6 with fail
        clear z0 z1 z2 z3 x1
        generalize wr.alloc (.cells #[.int .i64 xvl, .string xgr, .bool xex, .slice sq xsrc.length sc] 84) = W at PB B1 O1 S1 ⊢
        generalize wr.heap.size = rb at PB ⊢
        have z0 := cell_of_block (j := 0) PB.out rfl
        go_wp2_with fail
        go_roundw
        case rel => exact ⟨k + 1, T, po, co, by omega, by go_num, rfl, by omega, Lib.hid (by rw [HOS.out, hT.out]), O1, S1, B1⟩
        case measure => simp [intOf]; omega
    · obtain rfl : k = n := by omega
      have d1 : decide (k < k) = false := by simp
      have d2 : decide ((k : Int) < (k : Int)) = false := by simp
      rw [List.take_of_length_le (by rw [← HN.out]; exact Nat.le_refl _)] at hT
      have HF := Lib.hid (show RecsO w.heap.size wr (.slice po T.length co) ((ofR K v).map recR) from ⟨T, hT.out, hO.out, fun t ht => hS.out t ht⟩)
      clear hlt hT hO hS H0
      go_wp2_with fail
      go_ret
      exact ⟨_, rfl, HF.out, hB.out⟩

theorem lo_all {v : Int} {g : ByteArray} {L : List Pr} (h : ∀ y ∈ L, ltK y.vl y.gr v g = true) : loR L v g = L := by
  unfold loR
  rw [List.filter_eq_self]
  exact h
theorem lo_none {v : Int} {g : ByteArray} {L : List Pr} (h : ∀ y ∈ L, ltK y.vl y.gr v g = false) : loR L v g = [] := by
  unfold loR
  rw [List.filter_eq_nil_iff]
  intro y hy
  rw [h y hy]
  simp
theorem up_before (h : UpR K) {m : Nat} {x : Pr} (hx : K[m]? = some x) : (∀ y ∈ K.take m, ltK y.vl y.gr x.vl x.gr = true) ∧ ∀ y ∈ K.drop (m + 1), ltK x.vl x.gr y.vl y.gr = true := by
  have e : K = K.take m ++ x :: K.drop (m + 1) := by rw [← drop_cons hx, List.take_append_drop]
  unfold UpR at h
  rw [e, List.pairwise_append, List.pairwise_cons] at h
  exact ⟨fun y hy => h.2.2 y hy x (by simp), fun y hy => h.2.1.1 y hy⟩
theorem lo_snoc {v : Int} {g : ByteArray} {m : Nat} {x : Pr} (hx : K[m]? = some x) : loR (K.take (m + 1)) v g = loR (K.take m) v g ++ (if ltK x.vl x.gr v g then [x] else []) := by
  rw [take_snoc hx]
  unfold loR
  rw [List.filter_append]
  congr 1
  rcases ha : ltK x.vl x.gr v g with _ | _ <;> simp [ha]
theorem lo_step (h : UpR K) {v : Int} {g : ByteArray} {m : Nat} {x : Pr} (hx : K[m]? = some x) : (loR (K.take (m + 1)) v g).length = if ltK x.vl x.gr v g then m + 1 else (loR (K.take m) v g).length := by
  rw [lo_snoc hx]
  rcases ha : ltK x.vl x.gr v g with _ | _
  · simp
  · rw [lo_all (fun y hy => ltK_trans ((up_before h hx).1 y hy) ha)]
    have := (List.getElem?_eq_some_iff.1 hx).1
    simp
    omega
theorem same_at (h : UpR K) {v : Int} {g : ByteArray} {m : Nat} {x : Pr} (hx : K[m]? = some x) (hs : sameK x v g = true) : (loR K v g).length = m := by
  obtain ⟨rfl, rfl⟩ := (sameK_iff _ _ _).1 hs
  obtain ⟨h1, h2⟩ := up_before h hx
  have e : K = K.take m ++ x :: K.drop (m + 1) := by rw [← drop_cons hx, List.take_append_drop]
  have e2 : loR K x.vl x.gr = K.take m := by
    conv => lhs; rw [e]
    unfold loR
    rw [List.filter_append, List.filter_cons, ltK_irrefl]
    have a := lo_all h1
    have b := lo_none (fun y hy => ltK_asym (h2 y hy))
    unfold loR at a b
    rw [a, b]
    simp
  rw [e2, List.length_take]
  have := (List.getElem?_eq_some_iff.1 hx).1
  omega
theorem has_snoc {v : Int} {g : ByteArray} {m : Nat} {x : Pr} (hx : K[m]? = some x) : hasR (K.take (m + 1)) v g = (hasR (K.take m) v g || sameK x v g) := by
  rw [take_snoc hx]
  unfold hasR
  rw [List.any_append]
  simp
theorem has_at (h : UpR K) {v : Int} {g : ByteArray} (hh : hasR K v g = true) : ∃ x, K[(loR K v g).length]? = some x ∧ getR K v g = some x ∧ x.vl = v ∧ x.gr = g := by
  obtain ⟨x, h1, h2, h3, h4⟩ := get_has hh
  obtain ⟨m, hm, hx⟩ := List.mem_iff_getElem.1 h2
  have hx' : K[m]? = some x := List.getElem?_eq_some_iff.2 ⟨hm, hx⟩
  have := same_at h hx' ((sameK_iff x v g).2 ⟨h3, h4⟩)
  exact ⟨x, by rw [this]; exact hx', h1, h3, h4⟩
theorem at_take (h : UpR K) {v : Int} {g : ByteArray} {m : Nat} {x : Pr} (hx : K[m]? = some x) : (if hasR (K.take (m + 1)) v g then ((loR K v g).length : Int) else -1) = if sameK x v g then (m : Int) else if hasR (K.take m) v g then ((loR K v g).length : Int) else -1 := by
  rw [has_snoc hx]
  rcases hs : sameK x v g with _ | _
  · simp
  · simp [same_at h hx hs]
theorem del_lo (h : UpR K) (v : Int) (g : ByteArray) : (delR K v g).take (loR K v g).length = loR K v g ∧ (delR K v g).drop (loR K v g).length = hiR K v g := by
  rw [del_split h]
  exact ⟨List.take_left, List.drop_left⟩
theorem cut_del (h : UpR K) {v : Int} {g : ByteArray} (hh : hasR K v g = true) : K.take (loR K v g).length ++ K.drop ((loR K v g).length + 1) = delR K v g := by
  obtain ⟨x, hx, -, rfl, rfl⟩ := has_at h hh
  obtain ⟨h1, h2⟩ := up_before h hx
  generalize (loR K x.vl x.gr).length = m at hx h1 h2 ⊢
  have e : K = K.take m ++ x :: K.drop (m + 1) := by rw [← drop_cons hx, List.take_append_drop]
  conv => rhs; rw [e]
  unfold delR
  rw [List.filter_append, List.filter_cons]
  have a : (K.take m).filter (fun y => !sameK y x.vl x.gr) = K.take m := by
    rw [List.filter_eq_self]
    intro y hy
    rw [not_same, h1 y hy]
    rfl
  have b : (K.drop (m + 1)).filter (fun y => !sameK y x.vl x.gr) = K.drop (m + 1) := by
    rw [List.filter_eq_self]
    intro y hy
    rw [not_same, h2 y hy]
    simp
  rw [a, b, (sameK_iff x x.vl x.gr).2 ⟨rfl, rfl⟩]
  simp
theorem ris_up2 {l : List ByteArray} (h : Up l) : ris l = l := up_unique _ _ (ris_up _) h (fun x => ris_mem l x)
theorem hasS_ris (l : List ByteArray) (s : ByteArray) : hasS (ris l) s = hasS l s := by
  rw [Bool.eq_iff_iff, hasS_iff, hasS_iff]
  exact ris_mem l s
theorem diff_norm (g : ByteArray) (o f : Fl) : diffF g o (normF f) = diffF g o f := by
  have e1 : ris (ris f.src) = ris f.src := ris_up2 (ris_up _)
  unfold diffF normF lessF
  simp only [e1, hasS_ris]
/-- What the document's Tell leaves. -/
def TkPost (kb : Nat) (room : Int) (K : List Pr) (v : Int) (g : ByteArray) (f : Fl) (w : World) (e : Ending) (w' : World) : Prop :=
  ∃ u r, e = .returned (.tuple #[r, .int .i64 (tellR room K v g f u).2.1]) ∧ RecsAt w' r (tellR room K v g f u).1 ∧ HasK w' kb room (tellR room K v g f u).2.2 ∧ TwS (fun b => b = kb) w w'

set_option maxHeartbeats 8000000 in
set_option maxRecDepth 100000 in
theorem ktell_no (h : HasK w kb room K) (v : Int) (g : ByteArray) (hm : mayP v g = false) (ex : Bool) (vs : Value) (l : List ByteArray) (ha : AddrsAt w vs l) :
    Calls Try.prog 20 #[.pointer (some ⟨kb, 0, none⟩), .int .i64 v, .string g, .agg #[.bool ex, vs]] w (TkPost kb room K v g ⟨ex, l⟩ w) := by
  have E : tellR room K v g ⟨ex, l⟩ (.bool false) = ([], 1, K) := by unfold tellR; rw [if_pos hm]
  have HQ := Lib.hid (show ∀ U, Below w.heap.size w U → TkPost kb room K v g ⟨ex, l⟩ w (.returned (.tuple #[.slice none 0 0, .int .i64 1])) U from fun U hU =>
    ⟨.bool false, .slice none 0 0, by rw [E], by rw [E]; exact RecsG.nil _ _ _, by rw [E]; exact h.below hU, TwS.ofBelow hU⟩)
  generalize TkPost kb room K v g ⟨ex, l⟩ w = Q at HQ ⊢
  have MC := Lib.hid (fun U => isgrp_c g U)
  unfold mayP at hm
  obtain ⟨q, n, c, rfl⟩ := addrs_slice ha
  have HF := Lib.hid (HQ.out (w.alloc (.cells #[.bool ex, .slice q n c] 28)) ((Below.refl _ w).alloc (Nat.le_refl _) _))
  clear h E ha
  by_cases h1 : v < 1
  · have d1 : decide (v < 1) = true := decide_eq_true h1
    clear h1 hm
    go_enter Try.func20, Try.ntmps20
    go_wp2_with fail
    exact HF.out
  have d1 : decide (v < 1) = false := decide_eq_false h1
  by_cases h2 : 4094 < v
  · have d2 : decide (4094 < v) = true := decide_eq_true h2
    clear h1 h2 hm
    go_enter Try.func20, Try.ntmps20
    go_wp2_with fail
    exact HF.out
  have d2 : decide (4094 < v) = false := decide_eq_false h2
  have hg : decide ((grpSpec g).2 = 0) = false := by
    rcases hx : decide ((grpSpec g).2 = 0) with _ | _
    · rfl
    · rw [hx, decide_eq_true (by omega), decide_eq_true (by omega)] at hm
      cases hm
  rw [hg] at MC
  clear h1 h2 hm hg
  go_enter Try.func20, Try.ntmps20
  go_wp2_with fail
  ((with_reducible refine (MC.out _).mono ?_); rintro e w1 ⟨rfl, h9⟩; subst h9)
  go_wp2_with fail
  exact HF.out

set_option maxHeartbeats 16000000 in
set_option maxRecDepth 100000 in
theorem ktell_ok (h : HasK w kb room K) (hg : GoodR K room) (hr1 : 1 ≤ room) (hr : room ≤ 4096) (v : Int) (g : ByteArray) (hm : mayP v g = true) (ex : Bool) (vs : Value) (l : List ByteArray) (hl : l.length ≤ 1000) (ha : AddrsAt w vs l) :
    Calls Try.prog 20 #[.pointer (some ⟨kb, 0, none⟩), .int .i64 v, .string g, .agg #[.bool ex, vs]] w (TkPost kb room K v g ⟨ex, l⟩ w) := by
  have hmm := hm
  unfold mayP at hmm
  simp only [Bool.and_eq_true, decide_eq_true_iff] at hmm
  have MC := Lib.hid (fun U => isgrp_c g U)
  rw [decide_eq_true hmm.1] at MC
  have d1 : decide (v < 1) = false := decide_eq_false (by omega)
  have d2 : decide (4094 < v) = false := decide_eq_false (by omega)
  obtain ⟨n, hnn⟩ : ∃ n, n = K.length := ⟨_, rfl⟩
  have HN := Lib.hid hnn
  have hn5 : n ≤ 4096 := by have := hg.len; omega
  have UP := Lib.hid hg.up
  have HK := Lib.hid h
  have HA := Lib.hid ha
  have OLN := Lib.hid (old_len hg v g)
  obtain ⟨q, m, c, rfl⟩ := addrs_slice ha
  have hml : m = l.length := by obtain ⟨p2, cap, hv⟩ := ha.slice; simp only [Value.slice.injEq] at hv; exact hv.2.1
  have hm1 : m ≤ 1000 := by omega
  have NC0 := fun (U : World) (a : AddrsAt U (.slice q m c) l) => rnorm_c ex _ l U (by omega) a
  have NL0 : (normF ⟨ex, l⟩).src.length ≤ 1000 := Nat.le_trans (ris_len _) hl
  have AN0 : anyF (normF ⟨ex, l⟩) = anyF ⟨ex, l⟩ := any_norm _
  have NX0 : (normF ⟨ex, l⟩).ex = ex := rfl
  have HQF := Lib.hid (show hasR K v g = false → anyF ⟨ex, l⟩ = true → room ≤ K.length → ∀ U, HasK U kb room K → TwS (fun b => b = kb) w U → TkPost kb room K v g ⟨ex, l⟩ w (.returned (.tuple #[.slice none 0 0, .int .i64 5])) U from fun h1 h2 h3 U hU tU => by
    have E : tellR room K v g ⟨ex, l⟩ (.bool false) = ([], 5, K) := by unfold tellR; rw [if_neg (by rw [hm]; simp), if_pos ⟨h1, h2, h3⟩]
    exact ⟨.bool false, .slice none 0 0, by rw [E], by rw [E]; exact RecsG.nil _ _ _, by rw [E]; exact hU, tU⟩)
  have HQT := Lib.hid (show anyF ⟨ex, l⟩ = true → (hasR K v g = true ∨ (K.length : Int) < room) → ∀ U u r, RecsAt U r (diffF g (oldR K v g) (normF ⟨ex, l⟩)) → HasK U kb room (loR K v g ++ ⟨v, g, normF ⟨ex, l⟩, u⟩ :: hiR K v g) → TwS (fun b => b = kb) w U → TkPost kb room K v g ⟨ex, l⟩ w (.returned (.tuple #[r, .int .i64 0])) U from fun h2 h3 U u r hr hU tU => by
    rw [diff_norm] at hr
    have E : tellR room K v g ⟨ex, l⟩ u = (diffF g (oldR K v g) ⟨ex, l⟩, 0, putR K ⟨v, g, normF ⟨ex, l⟩, u⟩) := by
      unfold tellR
      rw [if_neg (by rw [hm]; simp), if_neg (by rintro ⟨h4, -, h5⟩; exact h3.elim (fun h3 => by rw [h3] at h4; cases h4) (fun h3 => by omega)), if_pos h2]
    exact ⟨u, r, by rw [E], by rw [E]; exact hr, by rw [E]; exact hU, tU⟩)
  have HQN := Lib.hid (show anyF ⟨ex, l⟩ = false → ∀ U r, RecsAt U r (diffF g (oldR K v g) (normF ⟨ex, l⟩)) → HasK U kb room (delR K v g) → TwS (fun b => b = kb) w U → TkPost kb room K v g ⟨ex, l⟩ w (.returned (.tuple #[r, .int .i64 0])) U from fun h2 U r hr hU tU => by
    rw [diff_norm] at hr
    have E : tellR room K v g ⟨ex, l⟩ (.bool false) = (diffF g (oldR K v g) ⟨ex, l⟩, 0, delR K v g) := by
      unfold tellR
      rw [if_neg (by rw [hm]; simp), if_neg (by rintro ⟨-, h4, -⟩; rw [h2] at h4; cases h4), if_neg (by rw [h2]; simp)]
    exact ⟨.bool false, r, by rw [E], by rw [E]; exact hr, by rw [E]; exact hU, tU⟩)
  rw [← AN0] at HQF HQT HQN
  generalize TkPost kb room K v g ⟨ex, l⟩ w = Q at HQF HQT HQN ⊢
  unfold FPost at NC0
  generalize normF ⟨ex, l⟩ = NF at NC0 NL0 AN0 NX0 HQF HQT HQN
  obtain ⟨ne, nl⟩ := NF
  obtain rfl : ne = ex := NX0
  simp only at NC0 NL0
  have NC := Lib.hid NC0
  have NL := Lib.hid NL0
  have CDL := Lib.hid (fun hh => cut_del (v := v) (g := g) hg.up hh)
  have HAT := Lib.hid (fun hh => has_at (v := v) (g := g) hg.up hh)
  have DEL := Lib.hid (fun hh => del_no (R := K) (v := v) (g := g) hh)
  have DLO := Lib.hid (del_lo hg.up v g)
  obtain ⟨nlo, hnlo⟩ : ∃ k, k = (loR K v g).length := ⟨_, rfl⟩
  have LLO := Lib.hid (show nlo ≤ n by rw [hnlo, hnn]; exact List.length_filter_le _ _)
  have XB : ∃ qk ck, ∀ U, Below w.heap.size w U → U.cell? ⟨kb, 0, none⟩ = some (.int .i64 room) ∧ U.cell? ⟨kb, 1, none⟩ = some (.slice qk n ck) := by
    obtain ⟨qk, ck, hb, -⟩ := h.blk
    exact ⟨qk, ck, fun U hU => ⟨cell_of_block (below_block hU (lt_of_block hb) hb) rfl, by rw [hnn]; exact cell_of_block (below_block hU (lt_of_block hb) hb) rfl⟩⟩
  obtain ⟨qk, ck, xb⟩ := XB
  have X1 := Lib.hid xb
  have HNLO := Lib.hid hnlo
  have KLT := Lib.hid h.lt
  have KNS := Lib.hid h.noStr
  clear h hg ha hm hmm hl hml hnn xb hnlo NC0 NL0 AN0
  have K0 := Lib.hid ((Below.refl w.heap.size w).alloc (Nat.le_refl _) (.cells #[.bool ne, .slice q m c] 28))
  have FB := Lib.hid (heap_new w (.cells #[.bool ne, .slice q m c] 28))
  obtain ⟨fb, hfb⟩ : ∃ fb, fb = w.heap.size := ⟨_, rfl⟩
  rw [← hfb] at FB
  have HFB := Lib.hid hfb
  go_enter Try.func20, Try.ntmps20
  go_upto_region 1 with fail
  generalize w.alloc (.cells #[.bool ne, .slice q m c] 28) = W at K0 FB ⊢
  rw [← hfb]
  clear hfb
  go_wp2_with fail
  ((with_reducible refine (MC.out _).mono ?_); rintro e w1 ⟨rfl, h9⟩; subst h9)
  go_upto_region 6 with fail
  go_loopw [10, 11, 12] (fun av kv i wr => ∃ (k kl : Nat) (ai : Int), k ≤ n ∧ i = .int .i64 k ∧ kv = .int .i64 (kl : Int) ∧ Hid (kl = (loR (K.take k) v g).length) ∧ av = .int .i64 ai ∧ Hid (ai = if hasR (K.take k) v g then (nlo : Int) else -1) ∧ Hid (wr = W)) (fun _ _ i _ => n - (intOf i).toNat)
  case atStart => exact ⟨0, 0, -1, Nat.zero_le _, rfl, rfl, Lib.hid rfl, rfl, Lib.hid rfl, by first | trivial | exact Lib.hid rfl⟩
  case round =>
    obtain ⟨k, kl, ai, hk, rfl, rfl, hKL, rfl, hAI, hW⟩ := hrel
    replace hW := hW.out
    subst hW
    obtain ⟨x0, x1⟩ := X1.out _ K0.out
    by_cases hlt : k < n
    · obtain ⟨x, hx⟩ : ∃ x, K[k]? = some x := ⟨_, List.getElem?_eq_getElem (by rw [← HN.out]; exact hlt)⟩
      obtain ⟨b, off, cc, y1, z0, z1, z2, z3⟩ := (HK.out.below K0.out).cells hx
      rw [x1] at y1
      simp only [Option.some.injEq, Value.slice.injEq] at y1
      obtain ⟨rfl, -, -⟩ := y1
      have STL := Lib.hid (lo_step UP.out hx (v := v) (g := g))
      have STA := Lib.hid (at_take UP.out hx (v := v) (g := g))
      have dk : decide (k < n) = true := decide_eq_true hlt
      have dk2 : decide ((k : Int) < (n : Int)) = true := decide_eq_true (by omega)
      have dk4 : decide (0 ≤ (k : Int)) = true := decide_eq_true (by omega)
      clear hx
      obtain ⟨xvl, xgr, xf, xv⟩ := x
      simp only at STL STA z0 z1
      have LT := Lib.hid (ltK_iff xvl xgr v g)
      rcases hl : ltK xvl xgr v g with _ | _
      all_goals
        rw [hl] at STL
      rotate_left
      · rw [if_pos rfl] at STL
        have hns : sameK ⟨xvl, xgr, xf, xv⟩ v g = false := by
          rcases hs : sameK ⟨xvl, xgr, xf, xv⟩ v g with _ | _
          · rfl
          · obtain ⟨e1, e2⟩ := (sameK_iff _ _ _).1 hs
            simp only at e1 e2
            rw [e1, e2, ltK_irrefl] at hl
            cases hl
        rw [hns] at STA
        simp only [Bool.false_eq_true, if_false] at STA
        rw [← HNLO.out, ← hAI.out] at STA
        rcases (LT.out.1 hl) with hlv | ⟨hev, hsl⟩
        · have f1 : decide (xvl < v) = true := decide_eq_true hlv
          obtain ⟨f2, f3⟩ := ne_t (show xvl ≠ v by omega)
          have f4 : decide (xvl = v) = false := decide_eq_false (by omega)
          clear hlv hl LT hns
          go_wp2_with fail
          go_roundw
          case rel => exact ⟨k + 1, k + 1, ai, by omega, by go_num, by first | rfl | go_num, Lib.hid (by rw [STL.out]), rfl, Lib.hid (by rw [STA.out]), by first | trivial | exact Lib.hid rfl⟩
          case measure => simp [intOf]; omega
        · obtain ⟨f2, f3⟩ := eq_t hev
          have f1 : decide (xvl < v) = false := decide_eq_false (by omega)
          have f4 : decide (xvl = v) = true := decide_eq_true hev
          have s1 := fun t => slss_of (show blt xgr g = true from hsl) t
          have hng : ¬ xgr = g := by rintro rfl; rw [sl_irrefl] at hsl; cases hsl
          have s2 := fun t => seql_of (x := xgr) (y := g) (decide_eq_false hng) t
          clear hl LT hns hsl hng hev
          go_wp2_with fail
          go_roundw
          case rel => exact ⟨k + 1, k + 1, ai, by omega, by go_num, by first | rfl | go_num, Lib.hid (by rw [STL.out]), rfl, Lib.hid (by rw [STA.out]), by first | trivial | exact Lib.hid rfl⟩
          case measure => simp [intOf]; omega
      · rw [if_neg (by decide), ← hKL.out] at STL
        rcases hs : sameK ⟨xvl, xgr, xf, xv⟩ v g with _ | _
        · rw [hs] at STA
          simp only [Bool.false_eq_true, if_false] at STA
          rw [← HNLO.out, ← hAI.out] at STA
          by_cases hev : xvl = v
          · obtain ⟨f2, f3⟩ := eq_t hev
            have f1 : decide (xvl < v) = false := decide_eq_false (by omega)
            have f4 : decide (xvl = v) = true := decide_eq_true hev
            have hsl : sl xgr g = false := by
              rcases hz : sl xgr g with _ | _
              · rfl
              · have := LT.out.2 (Or.inr ⟨hev, hz⟩)
                rw [hl] at this
                cases this
            have s1 := fun t => slss_of (show blt xgr g = false from hsl) t
            have hng : ¬ xgr = g := fun e => by
              have := (sameK_iff ⟨xvl, xgr, xf, xv⟩ v g).2 ⟨hev, e⟩
              rw [hs] at this
              cases this
            have s2 := fun t => seql_of (x := xgr) (y := g) (decide_eq_false hng) t
            clear hl LT hs hsl hng hev
            go_wp2_with fail
            go_roundw
            case rel => exact ⟨k + 1, kl, ai, by omega, by go_num, by first | rfl | go_num, Lib.hid (by rw [STL.out]), rfl, Lib.hid (by rw [STA.out]), by first | trivial | exact Lib.hid rfl⟩
            case measure => simp [intOf]; omega
          · obtain ⟨f2, f3⟩ := ne_t hev
            have hnl : ¬ xvl < v := fun e => by
              have := LT.out.2 (Or.inl e)
              rw [hl] at this
              cases this
            have f1 : decide (xvl < v) = false := decide_eq_false hnl
            have f4 : decide (xvl = v) = false := decide_eq_false hev
            clear hl LT hs hev hnl
            go_wp2_with fail
            go_roundw
            case rel => exact ⟨k + 1, kl, ai, by omega, by go_num, by first | rfl | go_num, Lib.hid (by rw [STL.out]), rfl, Lib.hid (by rw [STA.out]), by first | trivial | exact Lib.hid rfl⟩
            case measure => simp [intOf]; omega
        · rw [hs] at STA
          simp only [if_true] at STA
          rw [← HNLO.out] at STA
          obtain ⟨hev, heg⟩ := (sameK_iff _ _ _).1 hs
          simp only at hev heg
          obtain ⟨f2, f3⟩ := eq_t hev
          have f1 : decide (xvl < v) = false := decide_eq_false (by omega)
          have f4 : decide (xvl = v) = true := decide_eq_true hev
          have s1 := fun t => slss_of (show blt xgr g = false from by rw [heg]; exact sl_irrefl g) t
          have s2 := fun t => seql_of (x := xgr) (y := g) (decide_eq_true heg) t
          clear hl LT hs hev heg
          go_wp2_with fail
          go_roundw
          case rel => exact ⟨k + 1, kl, (k : Int), by omega, by go_num, by first | rfl | go_num, Lib.hid (by rw [STL.out]), rfl, Lib.hid (by rw [STA.out]), by first | trivial | exact Lib.hid rfl⟩
          case measure => simp [intOf]; omega
    · obtain rfl : k = n := by omega
      have dk : decide (k < k) = false := by simp
      have dk2 : decide ((k : Int) < (k : Int)) = false := by simp
      rw [List.take_of_length_le (by rw [← HN.out]; exact Nat.le_refl _)] at hKL hAI
      obtain rfl : kl = nlo := hKL.out.trans HNLO.out.symm
      have f0 := cell_of_block (j := 0) FB.out rfl
      have f1 := cell_of_block (j := 1) FB.out rfl
      clear hlt hKL
      go_wp2_with fail
      ((with_reducible refine (NC.out _ (HA.out.below K0.out)).mono ?_); rintro e w2 ⟨vn, rfl, an, k2⟩)
      have AN := Lib.hid an.at
      obtain ⟨nq, nc, rfl⟩ := an.slice
      have FB2 := Lib.hid (below_block k2 (lt_of_block FB.out) FB.out)
      have K2 := Lib.hid (pj_call K0.out k2)
      clear f0 f1 k2 an FB K0 NC MC
      have f0 := cell_of_block (j := 0) FB2.out rfl
      have f1 := cell_of_block (j := 1) FB2.out rfl
      have fr := (fun j : Nat => free_of_block (j := j) FB2.out)
      have FBx := heap_store (j := 0) (v := .bool ne) FB2.out
      have FB3 := Lib.hid (heap_store (j := 1) (v := .slice nq nl.length nc) FBx)
      have AN3 := Lib.hid (addrs_set (p := fb) (j := 1) (u := .slice nq nl.length nc) (addrs_set (p := fb) (j := 0) (u := .bool ne) AN.out (NoStr.of FB2.out no_str_bs)) (NoStr.of FBx no_str_bs))
      have K3 := Lib.hid ((K2.out.setCell (p := ⟨fb, 0, none⟩) (by show _ ≤ fb; rw [HFB.out]; exact Nat.le_refl _) (.bool ne)).setCell (p := ⟨fb, 1, none⟩) (by show _ ≤ fb; rw [HFB.out]; exact Nat.le_refl _) (.slice nq nl.length nc))
      clear FBx AN K2
      go_upto_region 13 with fail
      clear f0 f1 fr FB2
      change Hid (((w2.setCell ⟨fb, 0, none⟩ (.bool ne)).setCell ⟨fb, 1, none⟩ (.slice nq nl.length nc)).heap[fb]? = some (.cells #[.bool ne, .slice nq nl.length nc] 28 (0, 0))) at FB3
      generalize (w2.setCell ⟨fb, 0, none⟩ (.bool ne)).setCell ⟨fb, 1, none⟩ (.slice nq nl.length nc) = w3 at FB3 AN3 K3 ⊢
      have HK3 := Lib.hid (HK.out.below K3.out)
      have FK : fb ≠ kb := by have := KLT.out; have := HFB.out; omega
      have FKH := Lib.hid FK
      have KF := Lib.hid (fun (U : World) (kz : Below w3.heap.size w3 U) => (⟨cell_of_block (below_block kz (lt_of_block FB3.out) FB3.out) rfl, cell_of_block (below_block kz (lt_of_block FB3.out) FB3.out) rfl, (X1.out U (pj_call K3.out kz)).1, (X1.out U (pj_call K3.out kz)).2⟩ : U.cell? ⟨fb, 0, none⟩ = some (.bool ne) ∧ U.cell? ⟨fb, 1, none⟩ = some (.slice nq nl.length nc) ∧ U.cell? ⟨kb, 0, none⟩ = some (.int .i64 room) ∧ U.cell? ⟨kb, 1, none⟩ = some (.slice qk k ck)))
      have k0 := (Below.refl w3.heap.size w3).drew
      have NO := Lib.hid (fun U => none_c ne nq nl.length nc (by have := NL.out; omega) U)
      have han : anyF ⟨ne, nl⟩ = (ne || decide (0 < nl.length)) := rfl
      rw [← han] at NO
      have LEN := Lib.hid (show ((K.length : Nat) : Int) = (k : Int) by rw [← HN.out])
      have RN := Lib.hid (fun (U : World) v1 v2 (l1 : List ByteArray) (oe : Bool) (h0 : l1.length ≤ 1000) (h1 : AddrsAt U v1 l1) (h2 : AddrsAt U v2 nl) => rdiff_c g oe ne v1 v2 l1 nl U (by omega) (by have := NL.out; omega) h1 h2)
      unfold DiPost at RN
      clear han FK HA X1
      generalize anyF ⟨ne, nl⟩ = an at NO HQF HQT HQN
      obtain ⟨nan, hnan⟩ : ∃ nan, nan = !an := ⟨_, rfl⟩
      rw [← hnan] at NO
      rcases hh : hasR K v g with _ | _
      · rw [hh] at hAI HQF HQT
        simp only [Bool.false_eq_true, if_false] at hAI
        obtain rfl : ai = -1 := hAI.out
        clear hAI
        have HD3 := Lib.hid (show HasK w3 kb room (delR K v g) by rw [DEL.out hh]; exact HK3.out)
        have HOE : oldR K v g = ⟨false, []⟩ := old_no hh
        rw [HOE] at HQT HQN
        clear hh HOE HAT CDL DEL
        cases an with
        | false =>
          obtain rfl : nan = true := hnan
          have kk := k0
          refine wp_region_held_drew (S := fun U => U.cell? ⟨fb, 0, none⟩ = some (.bool ne) ∧ U.cell? ⟨fb, 1, none⟩ = some (.slice nq nl.length nc) ∧ U.cell? ⟨kb, 0, none⟩ = some (.int .i64 room) ∧ U.cell? ⟨kb, 1, none⟩ = some (.slice qk k ck)) (by kernel_rfl) (KF.out _ kk) (fun hH => ?_)
          clear k0
          generalize w3.drew = Y0 at kk hH ⊢
          refine wpAnyH_take (i := 0) (oi := { dst := some 96, op := Op.move (Operand.tmp 10), type := 3, pos := "ref.go:68", after := #[], guard := none }) (v := .int .i64 (-1)) rfl (by kernel_rfl) (by kernel_rfl) (by kernel_rfl) (fun _ _ _ h => h) (Or.inl ⟨by kernel_rfl, ?_⟩) hH ?_
          · intro w hSw; (try dsimp only at hSw); go_simp; (try rfl)
          try simp only [Act.put, List.setIfInBounds_toArray, List.set_cons_zero, List.set_cons_succ]
          refine wpAnyH_take (i := 1) (oi := { dst := some 97, op := Op.binOp BinOp.lss 3 (Operand.tmp 96) (Operand.const (Value.int IntKind.i64 0)) 3, type := 4, pos := "ref.go:68", after := #[{ on := 0, ground := Ground.data }], guard := none }) (v := .bool true) rfl (by kernel_rfl) (by kernel_rfl) (by kernel_rfl) (fun _ _ _ h => h) (Or.inl ⟨by kernel_rfl, ?_⟩) hH ?_
          · intro w hSw; (try dsimp only at hSw); go_simp; (try rfl)
          try simp only [Act.put, List.setIfInBounds_toArray, List.set_cons_zero, List.set_cons_succ]
          refine wpAnyH_take (i := 2) (oi := { dst := some 98, op := Op.move (Operand.tmp 97), type := 4, pos := "ref.go:68", after := #[{ on := 1, ground := Ground.data }], guard := none }) (v := .bool true) rfl (by kernel_rfl) (by kernel_rfl) (by kernel_rfl) (fun _ _ _ h => h) (Or.inl ⟨by kernel_rfl, ?_⟩) hH ?_
          · intro w hSw; (try dsimp only at hSw); go_simp; (try rfl)
          try simp only [Act.put, List.setIfInBounds_toArray, List.set_cons_zero, List.set_cons_succ]
          refine wpAnyH_take (i := 3) (oi := { dst := some 99, op := Op.load 28 (Operand.tmp 7), type := 28, pos := "ref.go:68", after := #[{ on := 2, ground := Ground.guard }], guard := some (2, true) }) (v := .agg #[.bool ne, .slice nq nl.length nc]) rfl (by kernel_rfl) (by kernel_rfl) (by kernel_rfl) (fun _ _ _ h => h) (Or.inl ⟨by kernel_rfl, ?_⟩) hH ?_
          · intro w hSw; (try dsimp only at hSw); go_simp; (try rfl)
          try simp only [Act.put, List.setIfInBounds_toArray, List.set_cons_zero, List.set_cons_succ]
          refine wpAnyH_ready (rs := [4]) (by kernel_rfl) (by simp) ?_
          refine AllReadyH.cons rfl (fun K hK => ?_) AllReadyH.nil
          go_simp
          with_reducible refine (NO.out _).mono ?_
          rintro e Y1 ⟨rfl, hb⟩
          (try go_wp2_with fail)
          replace kk := kk.trans (hb.mono kk.size)
          clear hb
          refine hK.out _ _ (KF.out _ kk) (fun hH => ?_)
          clear hK K
          try simp only [Act.put, List.setIfInBounds_toArray, List.set_cons_zero, List.set_cons_succ]
          refine wpAnyH_take (i := 5) (oi := { dst := some 101, op := Op.unOp UnOp.not 4 (Operand.tmp 100), type := 4, pos := "ref.go:68", after := #[{ on := 4, ground := Ground.data }, { on := 2, ground := Ground.guard }], guard := some (2, true) }) (v := .bool false) rfl (by kernel_rfl) (by kernel_rfl) (by kernel_rfl) (fun _ _ _ h => h) (Or.inl ⟨by kernel_rfl, ?_⟩) hH ?_
          · intro w hSw; (try dsimp only at hSw); go_simp; (try rfl)
          try simp only [Act.put, List.setIfInBounds_toArray, List.set_cons_zero, List.set_cons_succ]
          refine wpAnyH_take (i := 6) (oi := { dst := some 102, op := Op.pick (Operand.tmp 98) (Operand.tmp 101) (Operand.const (Value.bool false)), type := 4, pos := "ref.go:68", after := #[{ on := 2, ground := Ground.data }, { on := 5, ground := Ground.data }], guard := none }) (v := .bool false) rfl (by kernel_rfl) (by kernel_rfl) (by kernel_rfl) (fun _ _ _ h => h) (Or.inl ⟨by kernel_rfl, ?_⟩) hH ?_
          · intro w hSw; (try dsimp only at hSw); go_simp; (try rfl)
          try simp only [Act.put, List.setIfInBounds_toArray, List.set_cons_zero, List.set_cons_succ]
          refine wpAnyH_take (i := 7) (oi := { dst := some 103, op := Op.move (Operand.tmp 102), type := 4, pos := "ref.go:68", after := #[{ on := 6, ground := Ground.data }, { on := 4, ground := Ground.chain }], guard := none }) (v := .bool false) rfl (by kernel_rfl) (by kernel_rfl) (by kernel_rfl) (fun _ _ _ h => h) (Or.inl ⟨by kernel_rfl, ?_⟩) hH ?_
          · intro w hSw; (try dsimp only at hSw); go_simp; (try rfl)
          try simp only [Act.put, List.setIfInBounds_toArray, List.set_cons_zero, List.set_cons_succ]
          refine wpAnyH_take (i := 8) (oi := { dst := some 104, op := Op.move (Operand.tmp 0), type := 44, pos := "ref.go:68", after := #[{ on := 7, ground := Ground.guard }], guard := some (7, true) }) rfl (by kernel_rfl) (by kernel_rfl) (by kernel_rfl) (fun _ _ _ h => h) (Or.inr ⟨by kernel_rfl, rfl⟩) hH ?_
          try simp only [Act.put, List.setIfInBounds_toArray, List.set_cons_zero, List.set_cons_succ]
          refine wpAnyH_take (i := 9) (oi := { dst := some 105, op := Op.nilCheck (Operand.tmp 104), type := 0, pos := "ref.go:68", after := #[{ on := 8, ground := Ground.data }, { on := 7, ground := Ground.guard }], guard := some (7, true) }) rfl (by kernel_rfl) (by kernel_rfl) (by kernel_rfl) (fun _ _ _ h => h) (Or.inr ⟨by kernel_rfl, rfl⟩) hH ?_
          try simp only [Act.put, List.setIfInBounds_toArray, List.set_cons_zero, List.set_cons_succ]
          refine wpAnyH_take (i := 10) (oi := { dst := some 106, op := Op.fieldAddr 47 (Operand.tmp 105) 1, type := 0, pos := "ref.go:68", after := #[{ on := 9, ground := Ground.data }, { on := 7, ground := Ground.guard }], guard := some (7, true) }) rfl (by kernel_rfl) (by kernel_rfl) (by kernel_rfl) (fun _ _ _ h => h) (Or.inr ⟨by kernel_rfl, rfl⟩) hH ?_
          try simp only [Act.put, List.setIfInBounds_toArray, List.set_cons_zero, List.set_cons_succ]
          refine wpAnyH_take (i := 11) (oi := { dst := some 107, op := Op.load 45 (Operand.tmp 106), type := 45, pos := "ref.go:68", after := #[{ on := 10, ground := Ground.data }, { on := 7, ground := Ground.guard }], guard := some (7, true) }) rfl (by kernel_rfl) (by kernel_rfl) (by kernel_rfl) (fun _ _ _ h => h) (Or.inr ⟨by kernel_rfl, rfl⟩) hH ?_
          try simp only [Act.put, List.setIfInBounds_toArray, List.set_cons_zero, List.set_cons_succ]
          refine wpAnyH_take (i := 12) (oi := { dst := some 108, op := Op.call { callee := Callee.builtin Builtin.len, args := #[Operand.tmp 107], argTypes := #[45] }, type := 3, pos := "ref.go:68", after := #[{ on := 11, ground := Ground.data }, { on := 7, ground := Ground.guard }], guard := some (7, true) }) rfl (by kernel_rfl) (by kernel_rfl) (by kernel_rfl) (fun _ _ _ h => h) (Or.inr ⟨by kernel_rfl, rfl⟩) hH ?_
          try simp only [Act.put, List.setIfInBounds_toArray, List.set_cons_zero, List.set_cons_succ]
          refine wpAnyH_take (i := 13) (oi := { dst := some 109, op := Op.move (Operand.tmp 0), type := 44, pos := "ref.go:68", after := #[{ on := 7, ground := Ground.guard }], guard := some (7, true) }) rfl (by kernel_rfl) (by kernel_rfl) (by kernel_rfl) (fun _ _ _ h => h) (Or.inr ⟨by kernel_rfl, rfl⟩) hH ?_
          try simp only [Act.put, List.setIfInBounds_toArray, List.set_cons_zero, List.set_cons_succ]
          refine wpAnyH_take (i := 14) (oi := { dst := some 110, op := Op.nilCheck (Operand.tmp 109), type := 0, pos := "ref.go:68", after := #[{ on := 13, ground := Ground.data }, { on := 7, ground := Ground.guard }], guard := some (7, true) }) rfl (by kernel_rfl) (by kernel_rfl) (by kernel_rfl) (fun _ _ _ h => h) (Or.inr ⟨by kernel_rfl, rfl⟩) hH ?_
          try simp only [Act.put, List.setIfInBounds_toArray, List.set_cons_zero, List.set_cons_succ]
          refine wpAnyH_take (i := 15) (oi := { dst := some 111, op := Op.fieldAddr 47 (Operand.tmp 110) 0, type := 0, pos := "ref.go:68", after := #[{ on := 14, ground := Ground.data }, { on := 7, ground := Ground.guard }], guard := some (7, true) }) rfl (by kernel_rfl) (by kernel_rfl) (by kernel_rfl) (fun _ _ _ h => h) (Or.inr ⟨by kernel_rfl, rfl⟩) hH ?_
          try simp only [Act.put, List.setIfInBounds_toArray, List.set_cons_zero, List.set_cons_succ]
          refine wpAnyH_take (i := 16) (oi := { dst := some 112, op := Op.load 3 (Operand.tmp 111), type := 3, pos := "ref.go:68", after := #[{ on := 15, ground := Ground.data }, { on := 7, ground := Ground.guard }], guard := some (7, true) }) rfl (by kernel_rfl) (by kernel_rfl) (by kernel_rfl) (fun _ _ _ h => h) (Or.inr ⟨by kernel_rfl, rfl⟩) hH ?_
          try simp only [Act.put, List.setIfInBounds_toArray, List.set_cons_zero, List.set_cons_succ]
          refine wpAnyH_take (i := 17) (oi := { dst := some 113, op := Op.binOp BinOp.geq 3 (Operand.tmp 108) (Operand.tmp 112) 3, type := 4, pos := "ref.go:68", after := #[{ on := 12, ground := Ground.data }, { on := 16, ground := Ground.data }, { on := 7, ground := Ground.guard }], guard := some (7, true) }) rfl (by kernel_rfl) (by kernel_rfl) (by kernel_rfl) (fun _ _ _ h => h) (Or.inr ⟨by kernel_rfl, rfl⟩) hH ?_
          try simp only [Act.put, List.setIfInBounds_toArray, List.set_cons_zero, List.set_cons_succ]
          refine wpAnyH_take (i := 18) (oi := { dst := some 114, op := Op.pick (Operand.tmp 103) (Operand.tmp 113) (Operand.const (Value.bool false)), type := 4, pos := "ref.go:68", after := #[{ on := 7, ground := Ground.data }, { on := 17, ground := Ground.data }], guard := none }) (v := .bool false) rfl (by kernel_rfl) (by kernel_rfl) (by kernel_rfl) (fun _ _ _ h => h) (Or.inl ⟨by kernel_rfl, ?_⟩) hH ?_
          · intro w hSw; (try dsimp only at hSw); go_simp; (try rfl)
          try simp only [Act.put, List.setIfInBounds_toArray, List.set_cons_zero, List.set_cons_succ]
          refine wpAnyH_done (by kernel_rfl) ?_ _
          have k3 := kk
          clear hH kk
          have K4 := Lib.hid (pj_call K3.out k3)
          have FB4 := Lib.hid (below_block k3 (lt_of_block FB3.out) FB3.out)
          have AN4 := Lib.hid (AN3.out.below k3)
          have HD4 := Lib.hid (HD3.out.below k3)
          clear FB3 AN3 K3 HK3 KF k3 HD3
          go_upto_region 19 with fail
          have KA := (Below.refl Y1.heap.size Y1).alloc (Nat.le_refl _) (.cells #[.bool false, .slice none 0 0] 28)
          have OB7 := Lib.hid (heap_new Y1 (.cells #[.bool false, .slice none 0 0] 28))
          have FB7 := Lib.hid (below_block KA (lt_of_block FB4.out) FB4.out)
          have AN7 := Lib.hid (AN4.out.below KA)
          have HD7 := Lib.hid (HD4.out.below KA)
          have TW7 := Lib.hid (TwS.ofBelow (S := fun b => b = kb) (pj_call K4.out KA))
          have OKB := Lib.hid (show Y1.heap.size ≠ kb from fun e => by have := HD4.out.lt; omega)
          clear FB4 AN4 HD4 KA K4
          generalize Y1.alloc (.cells #[.bool false, .slice none 0 0] 28) = w7 at OB7 FB7 AN7 HD7 TW7 ⊢
          generalize Y1.heap.size = ob at OB7 OKB ⊢
          have XA7 : Hid (AddrsAt w7 (.slice none 0 0) []) := Lib.hid (AddrsG.nil _ _ _)
          obtain ⟨oe, hoe⟩ : ∃ oe, oe = false := ⟨_, rfl⟩
          obtain ⟨ol, hol⟩ : ∃ ol : List ByteArray, ol = [] := ⟨_, rfl⟩
          obtain ⟨oq, hoq⟩ : ∃ oq : Option Addr, oq = none := ⟨_, rfl⟩
          obtain ⟨oc, hoc⟩ : ∃ oc, oc = 0 := ⟨_, rfl⟩
          obtain ⟨on, hon⟩ : ∃ on, on = 0 := ⟨_, rfl⟩
          have XA8 : Hid (AddrsAt w7 (.slice oq on oc) ol) := by rw [hoq, hon, hoc, hol]; exact XA7
          have OB8 : Hid (w7.heap[ob]? = some (.cells #[.bool oe, .slice oq on oc] 28 (0, 0))) := by rw [hoe, hoq, hon, hoc]; exact OB7
          rw [← hoe, ← hol] at HQN
          have OLL := Lib.hid (show ol.length ≤ 1000 by rw [hol]; exact Nat.zero_le _)
          clear XA7 OB7 hoe hol hoq hoc hon
          clear HQF HQT
          have f0 := cell_of_block (j := 0) FB7.out rfl
          have f1 := cell_of_block (j := 1) FB7.out rfl
          go_wp2_with fail
          ((with_reducible refine (NO.out _).mono ?_); rintro e w8 ⟨rfl, k8⟩)
          have OB9 := Lib.hid (below_block k8 (lt_of_block OB8.out) OB8.out)
          have FB9 := Lib.hid (below_block k8 (lt_of_block FB7.out) FB7.out)
          have AN9 := Lib.hid (AN7.out.below k8)
          have XA9 := Lib.hid (XA8.out.below k8)
          have HD9 := Lib.hid (HD7.out.below k8)
          have TW9 := Lib.hid (HasK.snd TW7.out (TwS.ofBelow k8))
          clear k8 f0 f1 OB8 FB7 AN7 XA8 HD7 TW7
          have o0 := cell_of_block (j := 0) OB9.out rfl
          have o1 := cell_of_block (j := 1) OB9.out rfl
          have f0 := cell_of_block (j := 0) FB9.out rfl
          have f1 := cell_of_block (j := 1) FB9.out rfl
          go_wp2_with fail
          ((with_reducible refine (RN.out _ _ _ _ _ OLL.out XA9.out AN9.out).mono ?_); rintro e w10 ⟨r, rfl, r10, k10⟩)
          obtain ⟨rq, rc, rfl⟩ := r10.slice
          have HF := Lib.hid (HQN.out (by first | rfl | trivial) _ _ r10 (HD9.out.below k10) (HasK.snd TW9.out (TwS.ofBelow k10)))
          clear r10 k10 o0 o1 f0 f1
          go_wp2_with fail
          exact HF.out
        | true =>
          obtain rfl : nan = false := hnan
          by_cases hfull : room ≤ (k : Int)
          · have df : decide (room ≤ (k : Int)) = true := decide_eq_true hfull
            have df2 : decide ((k : Int) ≥ room) = true := decide_eq_true hfull
            have kk := k0
            refine wp_region_held_drew (S := fun U => U.cell? ⟨fb, 0, none⟩ = some (.bool ne) ∧ U.cell? ⟨fb, 1, none⟩ = some (.slice nq nl.length nc) ∧ U.cell? ⟨kb, 0, none⟩ = some (.int .i64 room) ∧ U.cell? ⟨kb, 1, none⟩ = some (.slice qk k ck)) (by kernel_rfl) (KF.out _ kk) (fun hH => ?_)
            clear k0
            generalize w3.drew = Y0 at kk hH ⊢
            refine wpAnyH_take (i := 0) (oi := { dst := some 96, op := Op.move (Operand.tmp 10), type := 3, pos := "ref.go:68", after := #[], guard := none }) (v := .int .i64 (-1)) rfl (by kernel_rfl) (by kernel_rfl) (by kernel_rfl) (fun _ _ _ h => h) (Or.inl ⟨by kernel_rfl, ?_⟩) hH ?_
            · intro w hSw; (try dsimp only at hSw); go_simp; (try rfl)
            try simp only [Act.put, List.setIfInBounds_toArray, List.set_cons_zero, List.set_cons_succ]
            refine wpAnyH_take (i := 1) (oi := { dst := some 97, op := Op.binOp BinOp.lss 3 (Operand.tmp 96) (Operand.const (Value.int IntKind.i64 0)) 3, type := 4, pos := "ref.go:68", after := #[{ on := 0, ground := Ground.data }], guard := none }) (v := .bool true) rfl (by kernel_rfl) (by kernel_rfl) (by kernel_rfl) (fun _ _ _ h => h) (Or.inl ⟨by kernel_rfl, ?_⟩) hH ?_
            · intro w hSw; (try dsimp only at hSw); go_simp; (try rfl)
            try simp only [Act.put, List.setIfInBounds_toArray, List.set_cons_zero, List.set_cons_succ]
            refine wpAnyH_take (i := 2) (oi := { dst := some 98, op := Op.move (Operand.tmp 97), type := 4, pos := "ref.go:68", after := #[{ on := 1, ground := Ground.data }], guard := none }) (v := .bool true) rfl (by kernel_rfl) (by kernel_rfl) (by kernel_rfl) (fun _ _ _ h => h) (Or.inl ⟨by kernel_rfl, ?_⟩) hH ?_
            · intro w hSw; (try dsimp only at hSw); go_simp; (try rfl)
            try simp only [Act.put, List.setIfInBounds_toArray, List.set_cons_zero, List.set_cons_succ]
            refine wpAnyH_take (i := 3) (oi := { dst := some 99, op := Op.load 28 (Operand.tmp 7), type := 28, pos := "ref.go:68", after := #[{ on := 2, ground := Ground.guard }], guard := some (2, true) }) (v := .agg #[.bool ne, .slice nq nl.length nc]) rfl (by kernel_rfl) (by kernel_rfl) (by kernel_rfl) (fun _ _ _ h => h) (Or.inl ⟨by kernel_rfl, ?_⟩) hH ?_
            · intro w hSw; (try dsimp only at hSw); go_simp; (try rfl)
            try simp only [Act.put, List.setIfInBounds_toArray, List.set_cons_zero, List.set_cons_succ]
            refine wpAnyH_ready (rs := [4]) (by kernel_rfl) (by simp) ?_
            refine AllReadyH.cons rfl (fun K hK => ?_) AllReadyH.nil
            go_simp
            with_reducible refine (NO.out _).mono ?_
            rintro e Y1 ⟨rfl, hb⟩
            (try go_wp2_with fail)
            replace kk := kk.trans (hb.mono kk.size)
            clear hb
            refine hK.out _ _ (KF.out _ kk) (fun hH => ?_)
            clear hK K
            try simp only [Act.put, List.setIfInBounds_toArray, List.set_cons_zero, List.set_cons_succ]
            refine wpAnyH_take (i := 5) (oi := { dst := some 101, op := Op.unOp UnOp.not 4 (Operand.tmp 100), type := 4, pos := "ref.go:68", after := #[{ on := 4, ground := Ground.data }, { on := 2, ground := Ground.guard }], guard := some (2, true) }) (v := .bool true) rfl (by kernel_rfl) (by kernel_rfl) (by kernel_rfl) (fun _ _ _ h => h) (Or.inl ⟨by kernel_rfl, ?_⟩) hH ?_
            · intro w hSw; (try dsimp only at hSw); go_simp; (try rfl)
            try simp only [Act.put, List.setIfInBounds_toArray, List.set_cons_zero, List.set_cons_succ]
            refine wpAnyH_take (i := 6) (oi := { dst := some 102, op := Op.pick (Operand.tmp 98) (Operand.tmp 101) (Operand.const (Value.bool false)), type := 4, pos := "ref.go:68", after := #[{ on := 2, ground := Ground.data }, { on := 5, ground := Ground.data }], guard := none }) (v := .bool true) rfl (by kernel_rfl) (by kernel_rfl) (by kernel_rfl) (fun _ _ _ h => h) (Or.inl ⟨by kernel_rfl, ?_⟩) hH ?_
            · intro w hSw; (try dsimp only at hSw); go_simp; (try rfl)
            try simp only [Act.put, List.setIfInBounds_toArray, List.set_cons_zero, List.set_cons_succ]
            refine wpAnyH_take (i := 7) (oi := { dst := some 103, op := Op.move (Operand.tmp 102), type := 4, pos := "ref.go:68", after := #[{ on := 6, ground := Ground.data }, { on := 4, ground := Ground.chain }], guard := none }) (v := .bool true) rfl (by kernel_rfl) (by kernel_rfl) (by kernel_rfl) (fun _ _ _ h => h) (Or.inl ⟨by kernel_rfl, ?_⟩) hH ?_
            · intro w hSw; (try dsimp only at hSw); go_simp; (try rfl)
            try simp only [Act.put, List.setIfInBounds_toArray, List.set_cons_zero, List.set_cons_succ]
            refine wpAnyH_take (i := 8) (oi := { dst := some 104, op := Op.move (Operand.tmp 0), type := 44, pos := "ref.go:68", after := #[{ on := 7, ground := Ground.guard }], guard := some (7, true) }) (v := .pointer (some ⟨kb, 0, none⟩)) rfl (by kernel_rfl) (by kernel_rfl) (by kernel_rfl) (fun _ _ _ h => h) (Or.inl ⟨by kernel_rfl, ?_⟩) hH ?_
            · intro w hSw; (try dsimp only at hSw); go_simp; (try rfl)
            try simp only [Act.put, List.setIfInBounds_toArray, List.set_cons_zero, List.set_cons_succ]
            refine wpAnyH_take (i := 9) (oi := { dst := some 105, op := Op.nilCheck (Operand.tmp 104), type := 0, pos := "ref.go:68", after := #[{ on := 8, ground := Ground.data }, { on := 7, ground := Ground.guard }], guard := some (7, true) }) (v := .pointer (some ⟨kb, 0, none⟩)) rfl (by kernel_rfl) (by kernel_rfl) (by kernel_rfl) (fun _ _ _ h => h) (Or.inl ⟨by kernel_rfl, ?_⟩) hH ?_
            · intro w hSw; (try dsimp only at hSw); go_simp; (try rfl)
            try simp only [Act.put, List.setIfInBounds_toArray, List.set_cons_zero, List.set_cons_succ]
            refine wpAnyH_take (i := 10) (oi := { dst := some 106, op := Op.fieldAddr 47 (Operand.tmp 105) 1, type := 0, pos := "ref.go:68", after := #[{ on := 9, ground := Ground.data }, { on := 7, ground := Ground.guard }], guard := some (7, true) }) (v := .pointer (some ⟨kb, 1, none⟩)) rfl (by kernel_rfl) (by kernel_rfl) (by kernel_rfl) (fun _ _ _ h => h) (Or.inl ⟨by kernel_rfl, ?_⟩) hH ?_
            · intro w hSw; (try dsimp only at hSw); go_simp; (try rfl)
            try simp only [Act.put, List.setIfInBounds_toArray, List.set_cons_zero, List.set_cons_succ]
            refine wpAnyH_take (i := 11) (oi := { dst := some 107, op := Op.load 45 (Operand.tmp 106), type := 45, pos := "ref.go:68", after := #[{ on := 10, ground := Ground.data }, { on := 7, ground := Ground.guard }], guard := some (7, true) }) (v := .slice qk k ck) rfl (by kernel_rfl) (by kernel_rfl) (by kernel_rfl) (fun _ _ _ h => h) (Or.inl ⟨by kernel_rfl, ?_⟩) hH ?_
            · intro w hSw; (try dsimp only at hSw); go_simp; (try rfl)
            try simp only [Act.put, List.setIfInBounds_toArray, List.set_cons_zero, List.set_cons_succ]
            refine wpAnyH_take (i := 12) (oi := { dst := some 108, op := Op.call { callee := Callee.builtin Builtin.len, args := #[Operand.tmp 107], argTypes := #[45] }, type := 3, pos := "ref.go:68", after := #[{ on := 11, ground := Ground.data }, { on := 7, ground := Ground.guard }], guard := some (7, true) }) (v := .int .i64 k) rfl (by kernel_rfl) (by kernel_rfl) (by kernel_rfl) (fun _ _ _ h => h) (Or.inl ⟨by kernel_rfl, ?_⟩) hH ?_
            · intro w hSw; (try dsimp only at hSw); go_simp; (try rfl)
            try simp only [Act.put, List.setIfInBounds_toArray, List.set_cons_zero, List.set_cons_succ]
            refine wpAnyH_take (i := 13) (oi := { dst := some 109, op := Op.move (Operand.tmp 0), type := 44, pos := "ref.go:68", after := #[{ on := 7, ground := Ground.guard }], guard := some (7, true) }) (v := .pointer (some ⟨kb, 0, none⟩)) rfl (by kernel_rfl) (by kernel_rfl) (by kernel_rfl) (fun _ _ _ h => h) (Or.inl ⟨by kernel_rfl, ?_⟩) hH ?_
            · intro w hSw; (try dsimp only at hSw); go_simp; (try rfl)
            try simp only [Act.put, List.setIfInBounds_toArray, List.set_cons_zero, List.set_cons_succ]
            refine wpAnyH_take (i := 14) (oi := { dst := some 110, op := Op.nilCheck (Operand.tmp 109), type := 0, pos := "ref.go:68", after := #[{ on := 13, ground := Ground.data }, { on := 7, ground := Ground.guard }], guard := some (7, true) }) (v := .pointer (some ⟨kb, 0, none⟩)) rfl (by kernel_rfl) (by kernel_rfl) (by kernel_rfl) (fun _ _ _ h => h) (Or.inl ⟨by kernel_rfl, ?_⟩) hH ?_
            · intro w hSw; (try dsimp only at hSw); go_simp; (try rfl)
            try simp only [Act.put, List.setIfInBounds_toArray, List.set_cons_zero, List.set_cons_succ]
            refine wpAnyH_take (i := 15) (oi := { dst := some 111, op := Op.fieldAddr 47 (Operand.tmp 110) 0, type := 0, pos := "ref.go:68", after := #[{ on := 14, ground := Ground.data }, { on := 7, ground := Ground.guard }], guard := some (7, true) }) (v := .pointer (some ⟨kb, 0, none⟩)) rfl (by kernel_rfl) (by kernel_rfl) (by kernel_rfl) (fun _ _ _ h => h) (Or.inl ⟨by kernel_rfl, ?_⟩) hH ?_
            · intro w hSw; (try dsimp only at hSw); go_simp; (try rfl)
            try simp only [Act.put, List.setIfInBounds_toArray, List.set_cons_zero, List.set_cons_succ]
            refine wpAnyH_take (i := 16) (oi := { dst := some 112, op := Op.load 3 (Operand.tmp 111), type := 3, pos := "ref.go:68", after := #[{ on := 15, ground := Ground.data }, { on := 7, ground := Ground.guard }], guard := some (7, true) }) (v := .int .i64 room) rfl (by kernel_rfl) (by kernel_rfl) (by kernel_rfl) (fun _ _ _ h => h) (Or.inl ⟨by kernel_rfl, ?_⟩) hH ?_
            · intro w hSw; (try dsimp only at hSw); go_simp; (try rfl)
            try simp only [Act.put, List.setIfInBounds_toArray, List.set_cons_zero, List.set_cons_succ]
            refine wpAnyH_take (i := 17) (oi := { dst := some 113, op := Op.binOp BinOp.geq 3 (Operand.tmp 108) (Operand.tmp 112) 3, type := 4, pos := "ref.go:68", after := #[{ on := 12, ground := Ground.data }, { on := 16, ground := Ground.data }, { on := 7, ground := Ground.guard }], guard := some (7, true) }) (v := .bool true) rfl (by kernel_rfl) (by kernel_rfl) (by kernel_rfl) (fun _ _ _ h => h) (Or.inl ⟨by kernel_rfl, ?_⟩) hH ?_
            · intro w hSw; (try dsimp only at hSw); go_simp; (try rfl)
            try simp only [Act.put, List.setIfInBounds_toArray, List.set_cons_zero, List.set_cons_succ]
            refine wpAnyH_take (i := 18) (oi := { dst := some 114, op := Op.pick (Operand.tmp 103) (Operand.tmp 113) (Operand.const (Value.bool false)), type := 4, pos := "ref.go:68", after := #[{ on := 7, ground := Ground.data }, { on := 17, ground := Ground.data }], guard := none }) (v := .bool true) rfl (by kernel_rfl) (by kernel_rfl) (by kernel_rfl) (fun _ _ _ h => h) (Or.inl ⟨by kernel_rfl, ?_⟩) hH ?_
            · intro w hSw; (try dsimp only at hSw); go_simp; (try rfl)
            try simp only [Act.put, List.setIfInBounds_toArray, List.set_cons_zero, List.set_cons_succ]
            refine wpAnyH_done (by kernel_rfl) ?_ _
            have k3 := kk
            clear hH kk
            have HF := Lib.hid (HQF.out (by first | rfl | trivial) (by first | rfl | trivial) (by have := LEN.out; omega) _ (HK.out.below (pj_call K3.out k3)) (TwS.ofBelow (pj_call K3.out k3)))
            clear KF k3 FB3 AN3 K3 HK3 HD3
            go_wp2_with fail
            exact HF.out
          · have df : decide (room ≤ (k : Int)) = false := decide_eq_false hfull
            have df2 : decide ((k : Int) ≥ room) = false := decide_eq_false hfull
            have HLR := Lib.hid (show (K.length : Int) < room by have := LEN.out; omega)
            have kk := k0
            refine wp_region_held_drew (S := fun U => U.cell? ⟨fb, 0, none⟩ = some (.bool ne) ∧ U.cell? ⟨fb, 1, none⟩ = some (.slice nq nl.length nc) ∧ U.cell? ⟨kb, 0, none⟩ = some (.int .i64 room) ∧ U.cell? ⟨kb, 1, none⟩ = some (.slice qk k ck)) (by kernel_rfl) (KF.out _ kk) (fun hH => ?_)
            clear k0
            generalize w3.drew = Y0 at kk hH ⊢
            refine wpAnyH_take (i := 0) (oi := { dst := some 96, op := Op.move (Operand.tmp 10), type := 3, pos := "ref.go:68", after := #[], guard := none }) (v := .int .i64 (-1)) rfl (by kernel_rfl) (by kernel_rfl) (by kernel_rfl) (fun _ _ _ h => h) (Or.inl ⟨by kernel_rfl, ?_⟩) hH ?_
            · intro w hSw; (try dsimp only at hSw); go_simp; (try rfl)
            try simp only [Act.put, List.setIfInBounds_toArray, List.set_cons_zero, List.set_cons_succ]
            refine wpAnyH_take (i := 1) (oi := { dst := some 97, op := Op.binOp BinOp.lss 3 (Operand.tmp 96) (Operand.const (Value.int IntKind.i64 0)) 3, type := 4, pos := "ref.go:68", after := #[{ on := 0, ground := Ground.data }], guard := none }) (v := .bool true) rfl (by kernel_rfl) (by kernel_rfl) (by kernel_rfl) (fun _ _ _ h => h) (Or.inl ⟨by kernel_rfl, ?_⟩) hH ?_
            · intro w hSw; (try dsimp only at hSw); go_simp; (try rfl)
            try simp only [Act.put, List.setIfInBounds_toArray, List.set_cons_zero, List.set_cons_succ]
            refine wpAnyH_take (i := 2) (oi := { dst := some 98, op := Op.move (Operand.tmp 97), type := 4, pos := "ref.go:68", after := #[{ on := 1, ground := Ground.data }], guard := none }) (v := .bool true) rfl (by kernel_rfl) (by kernel_rfl) (by kernel_rfl) (fun _ _ _ h => h) (Or.inl ⟨by kernel_rfl, ?_⟩) hH ?_
            · intro w hSw; (try dsimp only at hSw); go_simp; (try rfl)
            try simp only [Act.put, List.setIfInBounds_toArray, List.set_cons_zero, List.set_cons_succ]
            refine wpAnyH_take (i := 3) (oi := { dst := some 99, op := Op.load 28 (Operand.tmp 7), type := 28, pos := "ref.go:68", after := #[{ on := 2, ground := Ground.guard }], guard := some (2, true) }) (v := .agg #[.bool ne, .slice nq nl.length nc]) rfl (by kernel_rfl) (by kernel_rfl) (by kernel_rfl) (fun _ _ _ h => h) (Or.inl ⟨by kernel_rfl, ?_⟩) hH ?_
            · intro w hSw; (try dsimp only at hSw); go_simp; (try rfl)
            try simp only [Act.put, List.setIfInBounds_toArray, List.set_cons_zero, List.set_cons_succ]
            refine wpAnyH_ready (rs := [4]) (by kernel_rfl) (by simp) ?_
            refine AllReadyH.cons rfl (fun K hK => ?_) AllReadyH.nil
            go_simp
            with_reducible refine (NO.out _).mono ?_
            rintro e Y1 ⟨rfl, hb⟩
            (try go_wp2_with fail)
            replace kk := kk.trans (hb.mono kk.size)
            clear hb
            refine hK.out _ _ (KF.out _ kk) (fun hH => ?_)
            clear hK K
            try simp only [Act.put, List.setIfInBounds_toArray, List.set_cons_zero, List.set_cons_succ]
            refine wpAnyH_take (i := 5) (oi := { dst := some 101, op := Op.unOp UnOp.not 4 (Operand.tmp 100), type := 4, pos := "ref.go:68", after := #[{ on := 4, ground := Ground.data }, { on := 2, ground := Ground.guard }], guard := some (2, true) }) (v := .bool true) rfl (by kernel_rfl) (by kernel_rfl) (by kernel_rfl) (fun _ _ _ h => h) (Or.inl ⟨by kernel_rfl, ?_⟩) hH ?_
            · intro w hSw; (try dsimp only at hSw); go_simp; (try rfl)
            try simp only [Act.put, List.setIfInBounds_toArray, List.set_cons_zero, List.set_cons_succ]
            refine wpAnyH_take (i := 6) (oi := { dst := some 102, op := Op.pick (Operand.tmp 98) (Operand.tmp 101) (Operand.const (Value.bool false)), type := 4, pos := "ref.go:68", after := #[{ on := 2, ground := Ground.data }, { on := 5, ground := Ground.data }], guard := none }) (v := .bool true) rfl (by kernel_rfl) (by kernel_rfl) (by kernel_rfl) (fun _ _ _ h => h) (Or.inl ⟨by kernel_rfl, ?_⟩) hH ?_
            · intro w hSw; (try dsimp only at hSw); go_simp; (try rfl)
            try simp only [Act.put, List.setIfInBounds_toArray, List.set_cons_zero, List.set_cons_succ]
            refine wpAnyH_take (i := 7) (oi := { dst := some 103, op := Op.move (Operand.tmp 102), type := 4, pos := "ref.go:68", after := #[{ on := 6, ground := Ground.data }, { on := 4, ground := Ground.chain }], guard := none }) (v := .bool true) rfl (by kernel_rfl) (by kernel_rfl) (by kernel_rfl) (fun _ _ _ h => h) (Or.inl ⟨by kernel_rfl, ?_⟩) hH ?_
            · intro w hSw; (try dsimp only at hSw); go_simp; (try rfl)
            try simp only [Act.put, List.setIfInBounds_toArray, List.set_cons_zero, List.set_cons_succ]
            refine wpAnyH_take (i := 8) (oi := { dst := some 104, op := Op.move (Operand.tmp 0), type := 44, pos := "ref.go:68", after := #[{ on := 7, ground := Ground.guard }], guard := some (7, true) }) (v := .pointer (some ⟨kb, 0, none⟩)) rfl (by kernel_rfl) (by kernel_rfl) (by kernel_rfl) (fun _ _ _ h => h) (Or.inl ⟨by kernel_rfl, ?_⟩) hH ?_
            · intro w hSw; (try dsimp only at hSw); go_simp; (try rfl)
            try simp only [Act.put, List.setIfInBounds_toArray, List.set_cons_zero, List.set_cons_succ]
            refine wpAnyH_take (i := 9) (oi := { dst := some 105, op := Op.nilCheck (Operand.tmp 104), type := 0, pos := "ref.go:68", after := #[{ on := 8, ground := Ground.data }, { on := 7, ground := Ground.guard }], guard := some (7, true) }) (v := .pointer (some ⟨kb, 0, none⟩)) rfl (by kernel_rfl) (by kernel_rfl) (by kernel_rfl) (fun _ _ _ h => h) (Or.inl ⟨by kernel_rfl, ?_⟩) hH ?_
            · intro w hSw; (try dsimp only at hSw); go_simp; (try rfl)
            try simp only [Act.put, List.setIfInBounds_toArray, List.set_cons_zero, List.set_cons_succ]
            refine wpAnyH_take (i := 10) (oi := { dst := some 106, op := Op.fieldAddr 47 (Operand.tmp 105) 1, type := 0, pos := "ref.go:68", after := #[{ on := 9, ground := Ground.data }, { on := 7, ground := Ground.guard }], guard := some (7, true) }) (v := .pointer (some ⟨kb, 1, none⟩)) rfl (by kernel_rfl) (by kernel_rfl) (by kernel_rfl) (fun _ _ _ h => h) (Or.inl ⟨by kernel_rfl, ?_⟩) hH ?_
            · intro w hSw; (try dsimp only at hSw); go_simp; (try rfl)
            try simp only [Act.put, List.setIfInBounds_toArray, List.set_cons_zero, List.set_cons_succ]
            refine wpAnyH_take (i := 11) (oi := { dst := some 107, op := Op.load 45 (Operand.tmp 106), type := 45, pos := "ref.go:68", after := #[{ on := 10, ground := Ground.data }, { on := 7, ground := Ground.guard }], guard := some (7, true) }) (v := .slice qk k ck) rfl (by kernel_rfl) (by kernel_rfl) (by kernel_rfl) (fun _ _ _ h => h) (Or.inl ⟨by kernel_rfl, ?_⟩) hH ?_
            · intro w hSw; (try dsimp only at hSw); go_simp; (try rfl)
            try simp only [Act.put, List.setIfInBounds_toArray, List.set_cons_zero, List.set_cons_succ]
            refine wpAnyH_take (i := 12) (oi := { dst := some 108, op := Op.call { callee := Callee.builtin Builtin.len, args := #[Operand.tmp 107], argTypes := #[45] }, type := 3, pos := "ref.go:68", after := #[{ on := 11, ground := Ground.data }, { on := 7, ground := Ground.guard }], guard := some (7, true) }) (v := .int .i64 k) rfl (by kernel_rfl) (by kernel_rfl) (by kernel_rfl) (fun _ _ _ h => h) (Or.inl ⟨by kernel_rfl, ?_⟩) hH ?_
            · intro w hSw; (try dsimp only at hSw); go_simp; (try rfl)
            try simp only [Act.put, List.setIfInBounds_toArray, List.set_cons_zero, List.set_cons_succ]
            refine wpAnyH_take (i := 13) (oi := { dst := some 109, op := Op.move (Operand.tmp 0), type := 44, pos := "ref.go:68", after := #[{ on := 7, ground := Ground.guard }], guard := some (7, true) }) (v := .pointer (some ⟨kb, 0, none⟩)) rfl (by kernel_rfl) (by kernel_rfl) (by kernel_rfl) (fun _ _ _ h => h) (Or.inl ⟨by kernel_rfl, ?_⟩) hH ?_
            · intro w hSw; (try dsimp only at hSw); go_simp; (try rfl)
            try simp only [Act.put, List.setIfInBounds_toArray, List.set_cons_zero, List.set_cons_succ]
            refine wpAnyH_take (i := 14) (oi := { dst := some 110, op := Op.nilCheck (Operand.tmp 109), type := 0, pos := "ref.go:68", after := #[{ on := 13, ground := Ground.data }, { on := 7, ground := Ground.guard }], guard := some (7, true) }) (v := .pointer (some ⟨kb, 0, none⟩)) rfl (by kernel_rfl) (by kernel_rfl) (by kernel_rfl) (fun _ _ _ h => h) (Or.inl ⟨by kernel_rfl, ?_⟩) hH ?_
            · intro w hSw; (try dsimp only at hSw); go_simp; (try rfl)
            try simp only [Act.put, List.setIfInBounds_toArray, List.set_cons_zero, List.set_cons_succ]
            refine wpAnyH_take (i := 15) (oi := { dst := some 111, op := Op.fieldAddr 47 (Operand.tmp 110) 0, type := 0, pos := "ref.go:68", after := #[{ on := 14, ground := Ground.data }, { on := 7, ground := Ground.guard }], guard := some (7, true) }) (v := .pointer (some ⟨kb, 0, none⟩)) rfl (by kernel_rfl) (by kernel_rfl) (by kernel_rfl) (fun _ _ _ h => h) (Or.inl ⟨by kernel_rfl, ?_⟩) hH ?_
            · intro w hSw; (try dsimp only at hSw); go_simp; (try rfl)
            try simp only [Act.put, List.setIfInBounds_toArray, List.set_cons_zero, List.set_cons_succ]
            refine wpAnyH_take (i := 16) (oi := { dst := some 112, op := Op.load 3 (Operand.tmp 111), type := 3, pos := "ref.go:68", after := #[{ on := 15, ground := Ground.data }, { on := 7, ground := Ground.guard }], guard := some (7, true) }) (v := .int .i64 room) rfl (by kernel_rfl) (by kernel_rfl) (by kernel_rfl) (fun _ _ _ h => h) (Or.inl ⟨by kernel_rfl, ?_⟩) hH ?_
            · intro w hSw; (try dsimp only at hSw); go_simp; (try rfl)
            try simp only [Act.put, List.setIfInBounds_toArray, List.set_cons_zero, List.set_cons_succ]
            refine wpAnyH_take (i := 17) (oi := { dst := some 113, op := Op.binOp BinOp.geq 3 (Operand.tmp 108) (Operand.tmp 112) 3, type := 4, pos := "ref.go:68", after := #[{ on := 12, ground := Ground.data }, { on := 16, ground := Ground.data }, { on := 7, ground := Ground.guard }], guard := some (7, true) }) (v := .bool false) rfl (by kernel_rfl) (by kernel_rfl) (by kernel_rfl) (fun _ _ _ h => h) (Or.inl ⟨by kernel_rfl, ?_⟩) hH ?_
            · intro w hSw; (try dsimp only at hSw); go_simp; (try rfl)
            try simp only [Act.put, List.setIfInBounds_toArray, List.set_cons_zero, List.set_cons_succ]
            refine wpAnyH_take (i := 18) (oi := { dst := some 114, op := Op.pick (Operand.tmp 103) (Operand.tmp 113) (Operand.const (Value.bool false)), type := 4, pos := "ref.go:68", after := #[{ on := 7, ground := Ground.data }, { on := 17, ground := Ground.data }], guard := none }) (v := .bool false) rfl (by kernel_rfl) (by kernel_rfl) (by kernel_rfl) (fun _ _ _ h => h) (Or.inl ⟨by kernel_rfl, ?_⟩) hH ?_
            · intro w hSw; (try dsimp only at hSw); go_simp; (try rfl)
            try simp only [Act.put, List.setIfInBounds_toArray, List.set_cons_zero, List.set_cons_succ]
            refine wpAnyH_done (by kernel_rfl) ?_ _
            have k3 := kk
            clear hH kk
            have K4 := Lib.hid (pj_call K3.out k3)
            have FB4 := Lib.hid (below_block k3 (lt_of_block FB3.out) FB3.out)
            have AN4 := Lib.hid (AN3.out.below k3)
            have HD4 := Lib.hid (HD3.out.below k3)
            clear FB3 AN3 K3 HK3 KF k3 HD3
            go_upto_region 19 with fail
            have KA := (Below.refl Y1.heap.size Y1).alloc (Nat.le_refl _) (.cells #[.bool false, .slice none 0 0] 28)
            have OB7 := Lib.hid (heap_new Y1 (.cells #[.bool false, .slice none 0 0] 28))
            have FB7 := Lib.hid (below_block KA (lt_of_block FB4.out) FB4.out)
            have AN7 := Lib.hid (AN4.out.below KA)
            have HD7 := Lib.hid (HD4.out.below KA)
            have TW7 := Lib.hid (TwS.ofBelow (S := fun b => b = kb) (pj_call K4.out KA))
            have OKB := Lib.hid (show Y1.heap.size ≠ kb from fun e => by have := HD4.out.lt; omega)
            clear FB4 AN4 HD4 KA K4
            generalize Y1.alloc (.cells #[.bool false, .slice none 0 0] 28) = w7 at OB7 FB7 AN7 HD7 TW7 ⊢
            generalize Y1.heap.size = ob at OB7 OKB ⊢
            have XA7 : Hid (AddrsAt w7 (.slice none 0 0) []) := Lib.hid (AddrsG.nil _ _ _)
            obtain ⟨oe, hoe⟩ : ∃ oe, oe = false := ⟨_, rfl⟩
            obtain ⟨ol, hol⟩ : ∃ ol : List ByteArray, ol = [] := ⟨_, rfl⟩
            obtain ⟨oq, hoq⟩ : ∃ oq : Option Addr, oq = none := ⟨_, rfl⟩
            obtain ⟨oc, hoc⟩ : ∃ oc, oc = 0 := ⟨_, rfl⟩
            obtain ⟨on, hon⟩ : ∃ on, on = 0 := ⟨_, rfl⟩
            have XA8 : Hid (AddrsAt w7 (.slice oq on oc) ol) := by rw [hoq, hon, hoc, hol]; exact XA7
            have OB8 : Hid (w7.heap[ob]? = some (.cells #[.bool oe, .slice oq on oc] 28 (0, 0))) := by rw [hoe, hoq, hon, hoc]; exact OB7
            rw [← hoe, ← hol] at HQT
            have OLL := Lib.hid (show ol.length ≤ 1000 by rw [hol]; exact Nat.zero_le _)
            clear XA7 OB7 hoe hol hoq hoc hon
            have f0 := cell_of_block (j := 0) FB7.out rfl
            have f1 := cell_of_block (j := 1) FB7.out rfl
            go_wp2_with fail
            ((with_reducible refine (NO.out _).mono ?_); rintro e w8 ⟨rfl, k8⟩)
            obtain ⟨i0, hi0, hz0, hz1, hz2⟩ := info_parts info_Pr
            have OB8 := Lib.hid (below_block k8 (lt_of_block OB8.out) OB8.out)
            have FB8 := Lib.hid (below_block k8 (lt_of_block FB7.out) FB7.out)
            have AN8 := Lib.hid (AN7.out.below k8)
            have XA8 := Lib.hid (XA8.out.below k8)
            have HD8 := Lib.hid (HD7.out.below k8)
            have TW8 := Lib.hid (HasK.snd TW7.out (TwS.ofBelow k8))
            clear k8 f0 f1 FB7 AN7 HD7 TW7
            have D1 : (delR K v g).take kl = loR K v g := by rw [HNLO.out]; exact DLO.out.1
            have D2 : (delR K v g).drop kl = hiR K v g := by rw [HNLO.out]; exact DLO.out.2
            have DK : kl ≤ (delR K v g).length := by
              have h9 := congrArg List.length D1
              rw [List.length_take, ← HNLO.out] at h9
              omega
            have DX := del_len K v g
            obtain ⟨q1, c1, hb1, hc1, hr1⟩ := HD8.out.blk
            have RT := rows_take hr1 kl DK
            have RD := rows_drop hr1 hc1 kl DK
            have HDL : (hiR K v g).length = (delR K v g).length - kl := by rw [← D2, List.length_drop]
            rw [D1] at RT
            rw [D2] at RD
            have RT8 := Lib.hid RT
            have RD8 := Lib.hid RD
            have OT := Lib.hid (fun x (hx : x ∈ loR K v g) => one_Pr HD8.out.row x (by rw [← D1] at hx; exact List.mem_of_mem_take hx))
            have OD := Lib.hid (fun x (hx : x ∈ hiR K v g) => one_Pr HD8.out.row x (by rw [← D2] at hx; exact List.mem_of_mem_drop hx))
            have RW8 := Lib.hid (fun x (hx : x ∈ loR K v g ++ hiR K v g) => HD8.out.row x (by
              rcases List.mem_append.1 hx with hx | hx
              · rw [← D1] at hx; exact List.mem_of_mem_take hx
              · rw [← D2] at hx; exact List.mem_of_mem_drop hx))
            have r1 := run_loR q1 (delR K v g).length c1 kl (by omega)
            have r2 := run_hiR q1 (delR K v g).length c1 kl DK
            have HB8 := Lib.hid hb1
            have LTK := Lib.hid HD8.out.lt
            have NSK := Lib.hid HD8.out.noStr
            have hk9 : (delR K v g).length ≤ 4096 := by have := HN.out; omega
            have LLN := Lib.hid (show (loR K v g).length = kl from HNLO.out.symm)
            have HLN := Lib.hid (show (hiR K v g).length ≤ 4096 by omega)
            generalize loR K v g = lo at *
            generalize hiR K v g = hi at *
            generalize delR K v g = D at *
            have x1 : w8.cell? ⟨kb, 1, none⟩ = some (.slice q1 D.length c1) := cell_of_block HB8.out rfl
            have KL5 : kl ≤ 4096 := by omega
            clear D1 D2 DK DX hr1 RT RD hb1 hc1 HD8 DLO HDL
            go_wp2_with (at_builtin; refine wpList_append_rows (cells := cellsPr) len_Pr rfl _ _ 45 84 rfl i0 (.agg #[.int .i64 0, .string ⟨#[]⟩, .bool false, .slice none 0 0]) Try.underlying45 hi0 hz0 hz1 hz2 rfl (by decide) w8.heap.size _ 0 [] rfl (World.ownsRow_nil _ _ _ _) _ lo OT.out rfl RT8.out ?a1 ?a2 ?a3 ?_)
            case a1 => rw [LLN.out]; unfold maxLen; omega
            case a2 => rw [LLN.out]; omega
            case a3 => exact Nat.le_refl _
            intro va wa hown hgrow
            have Ka := Lib.hid ((Below.refl w8.heap.size w8).grown hgrow (Nat.le_refl _) (fun j hj => by simp [Value.ownBlock] at hj))
            have hown9 : wa.ownsRow w8.heap.size 84 4 va kl (lo.flatMap cellsPr) := by have h9 := hown; simp only [LLN.out] at h9; simpa using h9
            obtain ⟨pa, ca, rfl⟩ := own_slice hown9
            have Oa := Lib.hid (hown9.alloc (.cells #[.int .i64 v, .string g, .bool ne, .slice nq nl.length nc] 84))
            have FBa := Lib.hid (below_block Ka.out (lt_of_block FB8.out) FB8.out)
            have A6 := Lib.hid (cellsB (xs := [.int .i64 v, .string g, .bool ne, .slice nq nl.length nc]) (heap_new wa (.cells #[.int .i64 v, .string g, .bool ne, .slice nq nl.length nc] 84)))
            have ocl := Lib.hid (show ∀ z ∈ [Value.int .i64 v, .string g, .bool ne, .slice nq nl.length nc], z.oneCell' = true from fun z hz => by simp at hz; rcases hz with rfl | rfl | rfl | rfl <;> rfl)
            have A3 := Lib.hid (show kl + 1 ≤ maxLen by unfold maxLen; omega)
            have A4 := Lib.hid (show (kl + 1) * 56 ≤ 140737488355328 by omega)
            have A5 := Lib.hid (show w8.heap.size ≤ (wa.alloc (.cells #[.int .i64 v, .string g, .bool ne, .slice nq nl.length nc] 84)).heap.size by have := Ka.out.size; simp; omega)
            have Kb := Lib.hid (Ka.out.alloc Ka.out.size (.cells #[.int .i64 v, .string g, .bool ne, .slice nq nl.length nc] 84))
            have f0 := cell_of_block (j := 0) FBa.out rfl
            have f1 := cell_of_block (j := 1) FBa.out rfl
            clear hown hown9 hgrow x1 r1 Ka RT8 OT
            go_wp2_with (at_builtin; refine wpList_append_own _ rfl _ _ 45 rfl w8.heap.size 84 i0 (.agg #[.int .i64 0, .string ⟨#[]⟩, .bool false, .slice none 0 0]) 4 56 Try.underlying45 hi0 hz0 hz1 hz2 rfl (by decide) _ _ _ rfl Oa.out ⟨wa.heap.size, 0, none⟩ 1 1 [.int .i64 v, .string g, .bool ne, .slice nq nl.length nc] rfl rfl A6.out ocl.out A3.out A4.out A5.out ?_)
            intro vc wc hown hgrow _
            have Kc := Lib.hid (Kb.out.grown hgrow A5.out (fun j hj => (Oa.out.lt j hj).1))
            obtain ⟨pc, cc, rfl⟩ := own_slice hown
            have Oc := Lib.hid hown
            have Sc := Lib.hid Kc.out.size
            have RDc := Lib.hid (RD8.out.below Kc.out)
            have x1 : wc.cell? ⟨kb, 1, none⟩ = some (.slice q1 D.length c1) := cell_of_block (below_block Kc.out LTK.out HB8.out) rfl
            clear hown hgrow f0 f1 A6 A3 A4 A5 Oa FBa Kb RD8
            go_wp2_with (at_builtin; refine wpList_append_rows (cells := cellsPr) len_Pr rfl _ _ 45 84 rfl i0 (.agg #[.int .i64 0, .string ⟨#[]⟩, .bool false, .slice none 0 0]) Try.underlying45 hi0 hz0 hz1 hz2 rfl (by decide) w8.heap.size _ (kl + 1) _ rfl Oc.out _ hi OD.out rfl RDc.out ?a1 ?a2 ?a3 ?_)
            case a1 => have := HLN.out; unfold maxLen; omega
            case a2 => have := HLN.out; omega
            case a3 => exact Sc.out
            intro vd wd hown hgrow
            have Kd := Lib.hid (Kc.out.grown hgrow Sc.out (fun j hj => (Oc.out.lt j hj).1))
            have hrow : wd.ownsRow w8.heap.size 84 4 vd (kl + 1 + hi.length) ((lo ++ ⟨v, g, ⟨ne, nl⟩, .slice nq nl.length nc⟩ :: hi).flatMap cellsPr) := by
              have e9 : (lo ++ (⟨v, g, ⟨ne, nl⟩, .slice nq nl.length nc⟩ : Pr) :: hi).flatMap cellsPr = lo.flatMap cellsPr ++ (.int .i64 v :: .string g :: .bool ne :: .slice nq nl.length nc :: hi.flatMap cellsPr) := by
                rw [List.flatMap_append, List.flatMap_cons]
                rfl
              rw [e9]
              exact hown
            obtain ⟨pd, cd, rfl⟩ := own_slice hrow
            have RR := Lib.hid (rowsAt_own (cells := cellsPr) (by decide) len_Pr hrow)
            have CP := Lib.hid (own_cap hrow)
            have EL := Lib.hid (show kl + 1 + hi.length = (lo ++ (⟨v, g, ⟨ne, nl⟩, .slice nq nl.length nc⟩ : Pr) :: hi).length by rw [List.length_append, List.length_cons, LLN.out]; omega)
            have HBd := Lib.hid (below_block Kd.out LTK.out HB8.out)
            have NSd := Lib.hid (show NoStr wd kb from fun ys t f hy => NSK.out ys t f (by rw [← hy]; exact (Kd.out.block kb LTK.out).symm))
            clear hown hgrow hrow x1 Oc RDc Kc Sc r2
            have x0 := cell_of_block (j := 0) HBd.out rfl
            have x1 : wd.cell? ⟨kb, 1, none⟩ = some (.slice q1 D.length c1) := cell_of_block HBd.out rfl
            have fr := free_of_block (j := 1) HBd.out
            have T9 := Lib.hid (TwS.set (S := fun b => b = kb) wd kb 1 (.slice pd (kl + 1 + hi.length) cd) rfl)
            have NB := Lib.hid (fun b (hb : b = kb) => show NoStr wd b from by rw [hb]; exact NSd.out)
            have OB9 := Lib.hid (T9.out.blk (below_block Kd.out (lt_of_block OB8.out) OB8.out) OKB.out)
            have FB9 := Lib.hid (T9.out.blk (below_block Kd.out (lt_of_block FB8.out) FB8.out) FKH.out)
            have AN9 := Lib.hid ((AN8.out.below Kd.out).tws T9.out NB.out)
            have XA9 := Lib.hid ((XA8.out.below Kd.out).tws T9.out NB.out)
            have TW9 := Lib.hid (HasK.snd (HasK.snd TW8.out (TwS.ofBelow Kd.out)) T9.out)
            have HD9 := Lib.hid (show HasK (wd.setCell ⟨kb, 1, none⟩ (.slice pd (kl + 1 + hi.length) cd)) kb room (lo ++ ⟨v, g, ⟨ne, nl⟩, .slice nq nl.length nc⟩ :: hi) from by
              refine ⟨⟨pd, cd, ?_, ?_, ?_⟩, fun x hx => ?_⟩
              · rw [← EL.out]; exact heap_store HBd.out
              · rw [← EL.out]; exact CP.out _ _ _ rfl
              · rw [← EL.out]; exact rows_tws RR.out T9.out NB.out
              · rcases List.mem_append.1 hx with hx | hx
                · exact AddrsG.tws ((RW8.out x (List.mem_append.2 (Or.inl hx))).below Kd.out) T9.out NB.out
                · rcases List.mem_cons.1 hx with hx | hx
                  · subst hx; exact AN9.out
                  · exact AddrsG.tws ((RW8.out x (List.mem_append.2 (Or.inr hx))).below Kd.out) T9.out NB.out)
            clear Kd RR CP EL HBd NSd NB T9 OB8 FB8 AN8 XA8 TW8 RW8 HB8
            go_upto_region 24 with fail
            clear x0 x1 fr
            generalize wd.setCell ⟨kb, 1, none⟩ (.slice pd (kl + 1 + hi.length) cd) = w9 at OB9 FB9 AN9 XA9 TW9 HD9 ⊢
            have o0 := cell_of_block (j := 0) OB9.out rfl
            have o1 := cell_of_block (j := 1) OB9.out rfl
            have f0 := cell_of_block (j := 0) FB9.out rfl
            have f1 := cell_of_block (j := 1) FB9.out rfl
            go_wp2_with fail
            ((with_reducible refine (RN.out _ _ _ _ _ OLL.out XA9.out AN9.out).mono ?_); rintro e w10 ⟨r, rfl, r10, k10⟩)
            obtain ⟨rq, rc, rfl⟩ := r10.slice
            have HF := Lib.hid (HQT.out (by first | rfl | trivial) (Or.inr HLR.out) _ _ _ r10 (HD9.out.below k10) (HasK.snd TW9.out (TwS.ofBelow k10)))
            clear r10 k10 o0 o1 f0 f1
            go_wp2_with fail
            exact HF.out
      · rw [hh] at hAI HQF HQT
        simp only [if_true] at hAI
        obtain rfl : ai = (kl : Int) := hAI.out
        clear hAI
        obtain ⟨x, hx, hgx, hxv, hxg⟩ := HAT.out hh
        rw [← HNLO.out] at hx
        have HX := Lib.hid hx
        have KLL := Lib.hid (show kl < k by have h9 := (List.getElem?_eq_some_iff.1 hx).1; have := HN.out; omega)
        have XA0 := Lib.hid (HK.out.row x (List.mem_of_getElem? hx))
        have CUT := Lib.hid (CDL.out hh)
        rw [← HNLO.out] at CUT
        have HOE : oldR K v g = x.f := by unfold oldR; rw [hgx]; rfl
        rw [HOE] at HQT HQN OLN
        obtain ⟨xvl, xgr, ⟨oe, ol⟩, xv⟩ := x
        obtain ⟨oq, on, oc, hov⟩ := addrs_slice XA0.out
        simp only at hov
        subst hov
        simp only at XA0 HQT HQN OLN
        have OLL := OLN
        have HD3 := HK3
        clear hx hgx hxv hxg hh HOE HAT CDL DEL HQF
        have dk0 : decide ((kl : Int) < 0) = false := decide_eq_false (by omega)
        have dk1 : decide ((0 : Int) ≤ (kl : Int)) = true := decide_eq_true (by omega)
        cases an with
        | false =>
          obtain rfl : nan = true := hnan
          clear HQT
          have kk := k0
          refine wp_region_held_drew (S := fun U => U.cell? ⟨fb, 0, none⟩ = some (.bool ne) ∧ U.cell? ⟨fb, 1, none⟩ = some (.slice nq nl.length nc) ∧ U.cell? ⟨kb, 0, none⟩ = some (.int .i64 room) ∧ U.cell? ⟨kb, 1, none⟩ = some (.slice qk k ck)) (by kernel_rfl) (KF.out _ kk) (fun hH => ?_)
          clear k0
          generalize w3.drew = Y0 at kk hH ⊢
          refine wpAnyH_take (i := 0) (oi := { dst := some 96, op := Op.move (Operand.tmp 10), type := 3, pos := "ref.go:68", after := #[], guard := none }) (v := .int .i64 kl) rfl (by kernel_rfl) (by kernel_rfl) (by kernel_rfl) (fun _ _ _ h => h) (Or.inl ⟨by kernel_rfl, ?_⟩) hH ?_
          · intro w hSw; (try dsimp only at hSw); go_simp; (try rfl)
          try simp only [Act.put, List.setIfInBounds_toArray, List.set_cons_zero, List.set_cons_succ]
          refine wpAnyH_take (i := 1) (oi := { dst := some 97, op := Op.binOp BinOp.lss 3 (Operand.tmp 96) (Operand.const (Value.int IntKind.i64 0)) 3, type := 4, pos := "ref.go:68", after := #[{ on := 0, ground := Ground.data }], guard := none }) (v := .bool false) rfl (by kernel_rfl) (by kernel_rfl) (by kernel_rfl) (fun _ _ _ h => h) (Or.inl ⟨by kernel_rfl, ?_⟩) hH ?_
          · intro w hSw; (try dsimp only at hSw); go_simp; (try rfl)
          try simp only [Act.put, List.setIfInBounds_toArray, List.set_cons_zero, List.set_cons_succ]
          refine wpAnyH_take (i := 2) (oi := { dst := some 98, op := Op.move (Operand.tmp 97), type := 4, pos := "ref.go:68", after := #[{ on := 1, ground := Ground.data }], guard := none }) (v := .bool false) rfl (by kernel_rfl) (by kernel_rfl) (by kernel_rfl) (fun _ _ _ h => h) (Or.inl ⟨by kernel_rfl, ?_⟩) hH ?_
          · intro w hSw; (try dsimp only at hSw); go_simp; (try rfl)
          try simp only [Act.put, List.setIfInBounds_toArray, List.set_cons_zero, List.set_cons_succ]
          refine wpAnyH_take (i := 3) (oi := { dst := some 99, op := Op.load 28 (Operand.tmp 7), type := 28, pos := "ref.go:68", after := #[{ on := 2, ground := Ground.guard }], guard := some (2, true) }) rfl (by kernel_rfl) (by kernel_rfl) (by kernel_rfl) (fun _ _ _ h => h) (Or.inr ⟨by kernel_rfl, rfl⟩) hH ?_
          try simp only [Act.put, List.setIfInBounds_toArray, List.set_cons_zero, List.set_cons_succ]
          refine wpAnyH_take (i := 4) (oi := { dst := some 100, op := Op.call { callee := Callee.value (Operand.func 41), args := #[Operand.tmp 99], argTypes := #[28] }, type := 4, pos := "ref.go:68", after := #[{ on := 3, ground := Ground.data }, { on := 2, ground := Ground.chain }, { on := 2, ground := Ground.guard }], guard := some (2, true) }) rfl (by kernel_rfl) (by kernel_rfl) (by kernel_rfl) (fun _ _ _ h => h) (Or.inr ⟨by kernel_rfl, rfl⟩) hH ?_
          try simp only [Act.put, List.setIfInBounds_toArray, List.set_cons_zero, List.set_cons_succ]
          refine wpAnyH_take (i := 5) (oi := { dst := some 101, op := Op.unOp UnOp.not 4 (Operand.tmp 100), type := 4, pos := "ref.go:68", after := #[{ on := 4, ground := Ground.data }, { on := 2, ground := Ground.guard }], guard := some (2, true) }) rfl (by kernel_rfl) (by kernel_rfl) (by kernel_rfl) (fun _ _ _ h => h) (Or.inr ⟨by kernel_rfl, rfl⟩) hH ?_
          try simp only [Act.put, List.setIfInBounds_toArray, List.set_cons_zero, List.set_cons_succ]
          refine wpAnyH_take (i := 6) (oi := { dst := some 102, op := Op.pick (Operand.tmp 98) (Operand.tmp 101) (Operand.const (Value.bool false)), type := 4, pos := "ref.go:68", after := #[{ on := 2, ground := Ground.data }, { on := 5, ground := Ground.data }], guard := none }) (v := .bool false) rfl (by kernel_rfl) (by kernel_rfl) (by kernel_rfl) (fun _ _ _ h => h) (Or.inl ⟨by kernel_rfl, ?_⟩) hH ?_
          · intro w hSw; (try dsimp only at hSw); go_simp; (try rfl)
          try simp only [Act.put, List.setIfInBounds_toArray, List.set_cons_zero, List.set_cons_succ]
          refine wpAnyH_take (i := 7) (oi := { dst := some 103, op := Op.move (Operand.tmp 102), type := 4, pos := "ref.go:68", after := #[{ on := 6, ground := Ground.data }, { on := 4, ground := Ground.chain }], guard := none }) (v := .bool false) rfl (by kernel_rfl) (by kernel_rfl) (by kernel_rfl) (fun _ _ _ h => h) (Or.inl ⟨by kernel_rfl, ?_⟩) hH ?_
          · intro w hSw; (try dsimp only at hSw); go_simp; (try rfl)
          try simp only [Act.put, List.setIfInBounds_toArray, List.set_cons_zero, List.set_cons_succ]
          refine wpAnyH_take (i := 8) (oi := { dst := some 104, op := Op.move (Operand.tmp 0), type := 44, pos := "ref.go:68", after := #[{ on := 7, ground := Ground.guard }], guard := some (7, true) }) rfl (by kernel_rfl) (by kernel_rfl) (by kernel_rfl) (fun _ _ _ h => h) (Or.inr ⟨by kernel_rfl, rfl⟩) hH ?_
          try simp only [Act.put, List.setIfInBounds_toArray, List.set_cons_zero, List.set_cons_succ]
          refine wpAnyH_take (i := 9) (oi := { dst := some 105, op := Op.nilCheck (Operand.tmp 104), type := 0, pos := "ref.go:68", after := #[{ on := 8, ground := Ground.data }, { on := 7, ground := Ground.guard }], guard := some (7, true) }) rfl (by kernel_rfl) (by kernel_rfl) (by kernel_rfl) (fun _ _ _ h => h) (Or.inr ⟨by kernel_rfl, rfl⟩) hH ?_
          try simp only [Act.put, List.setIfInBounds_toArray, List.set_cons_zero, List.set_cons_succ]
          refine wpAnyH_take (i := 10) (oi := { dst := some 106, op := Op.fieldAddr 47 (Operand.tmp 105) 1, type := 0, pos := "ref.go:68", after := #[{ on := 9, ground := Ground.data }, { on := 7, ground := Ground.guard }], guard := some (7, true) }) rfl (by kernel_rfl) (by kernel_rfl) (by kernel_rfl) (fun _ _ _ h => h) (Or.inr ⟨by kernel_rfl, rfl⟩) hH ?_
          try simp only [Act.put, List.setIfInBounds_toArray, List.set_cons_zero, List.set_cons_succ]
          refine wpAnyH_take (i := 11) (oi := { dst := some 107, op := Op.load 45 (Operand.tmp 106), type := 45, pos := "ref.go:68", after := #[{ on := 10, ground := Ground.data }, { on := 7, ground := Ground.guard }], guard := some (7, true) }) rfl (by kernel_rfl) (by kernel_rfl) (by kernel_rfl) (fun _ _ _ h => h) (Or.inr ⟨by kernel_rfl, rfl⟩) hH ?_
          try simp only [Act.put, List.setIfInBounds_toArray, List.set_cons_zero, List.set_cons_succ]
          refine wpAnyH_take (i := 12) (oi := { dst := some 108, op := Op.call { callee := Callee.builtin Builtin.len, args := #[Operand.tmp 107], argTypes := #[45] }, type := 3, pos := "ref.go:68", after := #[{ on := 11, ground := Ground.data }, { on := 7, ground := Ground.guard }], guard := some (7, true) }) rfl (by kernel_rfl) (by kernel_rfl) (by kernel_rfl) (fun _ _ _ h => h) (Or.inr ⟨by kernel_rfl, rfl⟩) hH ?_
          try simp only [Act.put, List.setIfInBounds_toArray, List.set_cons_zero, List.set_cons_succ]
          refine wpAnyH_take (i := 13) (oi := { dst := some 109, op := Op.move (Operand.tmp 0), type := 44, pos := "ref.go:68", after := #[{ on := 7, ground := Ground.guard }], guard := some (7, true) }) rfl (by kernel_rfl) (by kernel_rfl) (by kernel_rfl) (fun _ _ _ h => h) (Or.inr ⟨by kernel_rfl, rfl⟩) hH ?_
          try simp only [Act.put, List.setIfInBounds_toArray, List.set_cons_zero, List.set_cons_succ]
          refine wpAnyH_take (i := 14) (oi := { dst := some 110, op := Op.nilCheck (Operand.tmp 109), type := 0, pos := "ref.go:68", after := #[{ on := 13, ground := Ground.data }, { on := 7, ground := Ground.guard }], guard := some (7, true) }) rfl (by kernel_rfl) (by kernel_rfl) (by kernel_rfl) (fun _ _ _ h => h) (Or.inr ⟨by kernel_rfl, rfl⟩) hH ?_
          try simp only [Act.put, List.setIfInBounds_toArray, List.set_cons_zero, List.set_cons_succ]
          refine wpAnyH_take (i := 15) (oi := { dst := some 111, op := Op.fieldAddr 47 (Operand.tmp 110) 0, type := 0, pos := "ref.go:68", after := #[{ on := 14, ground := Ground.data }, { on := 7, ground := Ground.guard }], guard := some (7, true) }) rfl (by kernel_rfl) (by kernel_rfl) (by kernel_rfl) (fun _ _ _ h => h) (Or.inr ⟨by kernel_rfl, rfl⟩) hH ?_
          try simp only [Act.put, List.setIfInBounds_toArray, List.set_cons_zero, List.set_cons_succ]
          refine wpAnyH_take (i := 16) (oi := { dst := some 112, op := Op.load 3 (Operand.tmp 111), type := 3, pos := "ref.go:68", after := #[{ on := 15, ground := Ground.data }, { on := 7, ground := Ground.guard }], guard := some (7, true) }) rfl (by kernel_rfl) (by kernel_rfl) (by kernel_rfl) (fun _ _ _ h => h) (Or.inr ⟨by kernel_rfl, rfl⟩) hH ?_
          try simp only [Act.put, List.setIfInBounds_toArray, List.set_cons_zero, List.set_cons_succ]
          refine wpAnyH_take (i := 17) (oi := { dst := some 113, op := Op.binOp BinOp.geq 3 (Operand.tmp 108) (Operand.tmp 112) 3, type := 4, pos := "ref.go:68", after := #[{ on := 12, ground := Ground.data }, { on := 16, ground := Ground.data }, { on := 7, ground := Ground.guard }], guard := some (7, true) }) rfl (by kernel_rfl) (by kernel_rfl) (by kernel_rfl) (fun _ _ _ h => h) (Or.inr ⟨by kernel_rfl, rfl⟩) hH ?_
          try simp only [Act.put, List.setIfInBounds_toArray, List.set_cons_zero, List.set_cons_succ]
          refine wpAnyH_take (i := 18) (oi := { dst := some 114, op := Op.pick (Operand.tmp 103) (Operand.tmp 113) (Operand.const (Value.bool false)), type := 4, pos := "ref.go:68", after := #[{ on := 7, ground := Ground.data }, { on := 17, ground := Ground.data }], guard := none }) (v := .bool false) rfl (by kernel_rfl) (by kernel_rfl) (by kernel_rfl) (fun _ _ _ h => h) (Or.inl ⟨by kernel_rfl, ?_⟩) hH ?_
          · intro w hSw; (try dsimp only at hSw); go_simp; (try rfl)
          try simp only [Act.put, List.setIfInBounds_toArray, List.set_cons_zero, List.set_cons_succ]
          refine wpAnyH_done (by kernel_rfl) ?_ _
          have k3 := kk
          clear hH kk
          have K4 := Lib.hid (pj_call K3.out k3)
          have FB4 := Lib.hid (below_block k3 (lt_of_block FB3.out) FB3.out)
          have AN4 := Lib.hid (AN3.out.below k3)
          have HD4 := Lib.hid (HD3.out.below k3)
          clear FB3 AN3 K3 HK3 KF k3 HD3
          go_upto_region 17 with fail
          have KA := (Below.refl Y0.heap.size Y0).alloc (Nat.le_refl _) (.cells #[.bool false, .slice none 0 0] 28)
          have OB5 := Lib.hid (heap_new Y0 (.cells #[.bool false, .slice none 0 0] 28))
          have FB5 := Lib.hid (below_block KA (lt_of_block FB4.out) FB4.out)
          have AN5 := Lib.hid (AN4.out.below KA)
          have K5 := Lib.hid (pj_call K4.out KA)
          have OKB := Lib.hid (show Y0.heap.size ≠ kb from fun e => by have := (HK.out.below K4.out).lt; omega)
          have OFB := Lib.hid (show fb ≠ Y0.heap.size from fun e => by have := lt_of_block FB4.out; omega)
          have OSZ := Lib.hid (show w.heap.size ≤ Y0.heap.size from K4.out.size)
          clear FB4 AN4 KA K4 HD4
          generalize Y0.alloc (.cells #[.bool false, .slice none 0 0] 28) = w5 at OB5 FB5 AN5 K5 ⊢
          generalize Y0.heap.size = ob at OB5 OKB OFB OSZ ⊢
          obtain ⟨b, off, cc, y1, z0, z1, z2, z3⟩ := (HK.out.below K5.out).cells HX.out
          simp only at z2 z3
          have x1 : w5.cell? ⟨kb, 1, none⟩ = some (.slice (some ⟨b, off, none⟩) k cc) := by have h9 := HN.out; rw [h9]; exact y1
          have o0 := cell_of_block (j := 0) OB5.out rfl
          have o1 := cell_of_block (j := 1) OB5.out rfl
          have fro := (fun j : Nat => free_of_block (j := j) OB5.out)
          have dkl : decide ((kl : Int) < (k : Int)) = true := decide_eq_true (by have := KLL.out; omega)
          have dkl2 : decide (kl < k) = true := decide_eq_true KLL.out
          have dkl3 : decide (0 ≤ (kl : Int)) = true := decide_eq_true (by omega)
          have OBx := heap_store (j := 0) (v := .bool oe) OB5.out
          have OB6 := Lib.hid (heap_store (j := 1) (v := .slice oq on oc) OBx)
          have FB6 := Lib.hid (heap_store_other (c := ob) (j := 1) (v := .slice oq on oc) (heap_store_other (c := ob) (j := 0) (v := .bool oe) FB5.out OFB.out) OFB.out)
          have AN6 := Lib.hid (addrs_set (p := ob) (j := 1) (u := .slice oq on oc) (addrs_set (p := ob) (j := 0) (u := .bool oe) AN5.out (NoStr.of OB5.out no_str_bs)) (NoStr.of OBx no_str_bs))
          have K6 := Lib.hid ((K5.out.setCell (p := ⟨ob, 0, none⟩) OSZ.out (.bool oe)).setCell (p := ⟨ob, 1, none⟩) OSZ.out (.slice oq on oc))
          clear OBx y1 z0 z1
          go_upto_region 18 with fail
          clear o0 o1 fro x1 z2 z3 OB5 FB5 AN5 K5
          change Hid (((w5.setCell ⟨ob, 0, none⟩ (.bool oe)).setCell ⟨ob, 1, none⟩ (.slice oq on oc)).heap[ob]? = some (.cells #[.bool oe, .slice oq on oc] 28 (0, 0))) at OB6
          generalize (w5.setCell ⟨ob, 0, none⟩ (.bool oe)).setCell ⟨ob, 1, none⟩ (.slice oq on oc) = w6 at OB6 FB6 AN6 K6 ⊢
          have HK6 := Lib.hid (HK.out.below K6.out)
          have CC := Lib.hid (cut_c HK6.out kl (by have := KLL.out; have := HN.out; omega) (by have := HN.out; omega))
          go_wp2_with fail
          ((with_reducible refine CC.out.mono ?_); rintro e w7 ⟨rfl, h7, t7⟩)
          rw [CUT.out] at h7
          have HD7 := Lib.hid h7
          have NB7 := Lib.hid (fun b (hb : b = kb) => show NoStr w6 b from by rw [hb]; exact HK6.out.noStr)
          have FB7 := Lib.hid (t7.blk FB6.out FKH.out)
          have OB8 := Lib.hid (t7.blk OB6.out OKB.out)
          have AN7 := Lib.hid (AN6.out.tws t7 NB7.out)
          have XA8 := Lib.hid ((XA0.out.below K6.out).tws t7 NB7.out)
          have TW7 := Lib.hid (HasK.snd (TwS.ofBelow (S := fun b => b = kb) K6.out) t7)
          clear h7 t7 CC NB7 FB6 OB6 AN6 K6 HK6 XA0 CUT
          have f0 := cell_of_block (j := 0) FB7.out rfl
          have f1 := cell_of_block (j := 1) FB7.out rfl
          go_wp2_with fail
          ((with_reducible refine (NO.out _).mono ?_); rintro e w8 ⟨rfl, k8⟩)
          have OB9 := Lib.hid (below_block k8 (lt_of_block OB8.out) OB8.out)
          have FB9 := Lib.hid (below_block k8 (lt_of_block FB7.out) FB7.out)
          have AN9 := Lib.hid (AN7.out.below k8)
          have XA9 := Lib.hid (XA8.out.below k8)
          have HD9 := Lib.hid (HD7.out.below k8)
          have TW9 := Lib.hid (HasK.snd TW7.out (TwS.ofBelow k8))
          clear k8 f0 f1 OB8 FB7 AN7 XA8 HD7 TW7
          have o0 := cell_of_block (j := 0) OB9.out rfl
          have o1 := cell_of_block (j := 1) OB9.out rfl
          have f0 := cell_of_block (j := 0) FB9.out rfl
          have f1 := cell_of_block (j := 1) FB9.out rfl
          go_wp2_with fail
          ((with_reducible refine (RN.out _ _ _ _ _ OLL.out XA9.out AN9.out).mono ?_); rintro e w10 ⟨r, rfl, r10, k10⟩)
          obtain ⟨rq, rc, rfl⟩ := r10.slice
          have HF := Lib.hid (HQN.out (by first | rfl | trivial) _ _ r10 (HD9.out.below k10) (HasK.snd TW9.out (TwS.ofBelow k10)))
          clear r10 k10 o0 o1 f0 f1
          go_wp2_with fail
          exact HF.out
        | true =>
          obtain rfl : nan = false := hnan
          clear HQN
          have kk := k0
          refine wp_region_held_drew (S := fun U => U.cell? ⟨fb, 0, none⟩ = some (.bool ne) ∧ U.cell? ⟨fb, 1, none⟩ = some (.slice nq nl.length nc) ∧ U.cell? ⟨kb, 0, none⟩ = some (.int .i64 room) ∧ U.cell? ⟨kb, 1, none⟩ = some (.slice qk k ck)) (by kernel_rfl) (KF.out _ kk) (fun hH => ?_)
          clear k0
          generalize w3.drew = Y0 at kk hH ⊢
          refine wpAnyH_take (i := 0) (oi := { dst := some 96, op := Op.move (Operand.tmp 10), type := 3, pos := "ref.go:68", after := #[], guard := none }) (v := .int .i64 kl) rfl (by kernel_rfl) (by kernel_rfl) (by kernel_rfl) (fun _ _ _ h => h) (Or.inl ⟨by kernel_rfl, ?_⟩) hH ?_
          · intro w hSw; (try dsimp only at hSw); go_simp; (try rfl)
          try simp only [Act.put, List.setIfInBounds_toArray, List.set_cons_zero, List.set_cons_succ]
          refine wpAnyH_take (i := 1) (oi := { dst := some 97, op := Op.binOp BinOp.lss 3 (Operand.tmp 96) (Operand.const (Value.int IntKind.i64 0)) 3, type := 4, pos := "ref.go:68", after := #[{ on := 0, ground := Ground.data }], guard := none }) (v := .bool false) rfl (by kernel_rfl) (by kernel_rfl) (by kernel_rfl) (fun _ _ _ h => h) (Or.inl ⟨by kernel_rfl, ?_⟩) hH ?_
          · intro w hSw; (try dsimp only at hSw); go_simp; (try rfl)
          try simp only [Act.put, List.setIfInBounds_toArray, List.set_cons_zero, List.set_cons_succ]
          refine wpAnyH_take (i := 2) (oi := { dst := some 98, op := Op.move (Operand.tmp 97), type := 4, pos := "ref.go:68", after := #[{ on := 1, ground := Ground.data }], guard := none }) (v := .bool false) rfl (by kernel_rfl) (by kernel_rfl) (by kernel_rfl) (fun _ _ _ h => h) (Or.inl ⟨by kernel_rfl, ?_⟩) hH ?_
          · intro w hSw; (try dsimp only at hSw); go_simp; (try rfl)
          try simp only [Act.put, List.setIfInBounds_toArray, List.set_cons_zero, List.set_cons_succ]
          refine wpAnyH_take (i := 3) (oi := { dst := some 99, op := Op.load 28 (Operand.tmp 7), type := 28, pos := "ref.go:68", after := #[{ on := 2, ground := Ground.guard }], guard := some (2, true) }) rfl (by kernel_rfl) (by kernel_rfl) (by kernel_rfl) (fun _ _ _ h => h) (Or.inr ⟨by kernel_rfl, rfl⟩) hH ?_
          try simp only [Act.put, List.setIfInBounds_toArray, List.set_cons_zero, List.set_cons_succ]
          refine wpAnyH_take (i := 4) (oi := { dst := some 100, op := Op.call { callee := Callee.value (Operand.func 41), args := #[Operand.tmp 99], argTypes := #[28] }, type := 4, pos := "ref.go:68", after := #[{ on := 3, ground := Ground.data }, { on := 2, ground := Ground.chain }, { on := 2, ground := Ground.guard }], guard := some (2, true) }) rfl (by kernel_rfl) (by kernel_rfl) (by kernel_rfl) (fun _ _ _ h => h) (Or.inr ⟨by kernel_rfl, rfl⟩) hH ?_
          try simp only [Act.put, List.setIfInBounds_toArray, List.set_cons_zero, List.set_cons_succ]
          refine wpAnyH_take (i := 5) (oi := { dst := some 101, op := Op.unOp UnOp.not 4 (Operand.tmp 100), type := 4, pos := "ref.go:68", after := #[{ on := 4, ground := Ground.data }, { on := 2, ground := Ground.guard }], guard := some (2, true) }) rfl (by kernel_rfl) (by kernel_rfl) (by kernel_rfl) (fun _ _ _ h => h) (Or.inr ⟨by kernel_rfl, rfl⟩) hH ?_
          try simp only [Act.put, List.setIfInBounds_toArray, List.set_cons_zero, List.set_cons_succ]
          refine wpAnyH_take (i := 6) (oi := { dst := some 102, op := Op.pick (Operand.tmp 98) (Operand.tmp 101) (Operand.const (Value.bool false)), type := 4, pos := "ref.go:68", after := #[{ on := 2, ground := Ground.data }, { on := 5, ground := Ground.data }], guard := none }) (v := .bool false) rfl (by kernel_rfl) (by kernel_rfl) (by kernel_rfl) (fun _ _ _ h => h) (Or.inl ⟨by kernel_rfl, ?_⟩) hH ?_
          · intro w hSw; (try dsimp only at hSw); go_simp; (try rfl)
          try simp only [Act.put, List.setIfInBounds_toArray, List.set_cons_zero, List.set_cons_succ]
          refine wpAnyH_take (i := 7) (oi := { dst := some 103, op := Op.move (Operand.tmp 102), type := 4, pos := "ref.go:68", after := #[{ on := 6, ground := Ground.data }, { on := 4, ground := Ground.chain }], guard := none }) (v := .bool false) rfl (by kernel_rfl) (by kernel_rfl) (by kernel_rfl) (fun _ _ _ h => h) (Or.inl ⟨by kernel_rfl, ?_⟩) hH ?_
          · intro w hSw; (try dsimp only at hSw); go_simp; (try rfl)
          try simp only [Act.put, List.setIfInBounds_toArray, List.set_cons_zero, List.set_cons_succ]
          refine wpAnyH_take (i := 8) (oi := { dst := some 104, op := Op.move (Operand.tmp 0), type := 44, pos := "ref.go:68", after := #[{ on := 7, ground := Ground.guard }], guard := some (7, true) }) rfl (by kernel_rfl) (by kernel_rfl) (by kernel_rfl) (fun _ _ _ h => h) (Or.inr ⟨by kernel_rfl, rfl⟩) hH ?_
          try simp only [Act.put, List.setIfInBounds_toArray, List.set_cons_zero, List.set_cons_succ]
          refine wpAnyH_take (i := 9) (oi := { dst := some 105, op := Op.nilCheck (Operand.tmp 104), type := 0, pos := "ref.go:68", after := #[{ on := 8, ground := Ground.data }, { on := 7, ground := Ground.guard }], guard := some (7, true) }) rfl (by kernel_rfl) (by kernel_rfl) (by kernel_rfl) (fun _ _ _ h => h) (Or.inr ⟨by kernel_rfl, rfl⟩) hH ?_
          try simp only [Act.put, List.setIfInBounds_toArray, List.set_cons_zero, List.set_cons_succ]
          refine wpAnyH_take (i := 10) (oi := { dst := some 106, op := Op.fieldAddr 47 (Operand.tmp 105) 1, type := 0, pos := "ref.go:68", after := #[{ on := 9, ground := Ground.data }, { on := 7, ground := Ground.guard }], guard := some (7, true) }) rfl (by kernel_rfl) (by kernel_rfl) (by kernel_rfl) (fun _ _ _ h => h) (Or.inr ⟨by kernel_rfl, rfl⟩) hH ?_
          try simp only [Act.put, List.setIfInBounds_toArray, List.set_cons_zero, List.set_cons_succ]
          refine wpAnyH_take (i := 11) (oi := { dst := some 107, op := Op.load 45 (Operand.tmp 106), type := 45, pos := "ref.go:68", after := #[{ on := 10, ground := Ground.data }, { on := 7, ground := Ground.guard }], guard := some (7, true) }) rfl (by kernel_rfl) (by kernel_rfl) (by kernel_rfl) (fun _ _ _ h => h) (Or.inr ⟨by kernel_rfl, rfl⟩) hH ?_
          try simp only [Act.put, List.setIfInBounds_toArray, List.set_cons_zero, List.set_cons_succ]
          refine wpAnyH_take (i := 12) (oi := { dst := some 108, op := Op.call { callee := Callee.builtin Builtin.len, args := #[Operand.tmp 107], argTypes := #[45] }, type := 3, pos := "ref.go:68", after := #[{ on := 11, ground := Ground.data }, { on := 7, ground := Ground.guard }], guard := some (7, true) }) rfl (by kernel_rfl) (by kernel_rfl) (by kernel_rfl) (fun _ _ _ h => h) (Or.inr ⟨by kernel_rfl, rfl⟩) hH ?_
          try simp only [Act.put, List.setIfInBounds_toArray, List.set_cons_zero, List.set_cons_succ]
          refine wpAnyH_take (i := 13) (oi := { dst := some 109, op := Op.move (Operand.tmp 0), type := 44, pos := "ref.go:68", after := #[{ on := 7, ground := Ground.guard }], guard := some (7, true) }) rfl (by kernel_rfl) (by kernel_rfl) (by kernel_rfl) (fun _ _ _ h => h) (Or.inr ⟨by kernel_rfl, rfl⟩) hH ?_
          try simp only [Act.put, List.setIfInBounds_toArray, List.set_cons_zero, List.set_cons_succ]
          refine wpAnyH_take (i := 14) (oi := { dst := some 110, op := Op.nilCheck (Operand.tmp 109), type := 0, pos := "ref.go:68", after := #[{ on := 13, ground := Ground.data }, { on := 7, ground := Ground.guard }], guard := some (7, true) }) rfl (by kernel_rfl) (by kernel_rfl) (by kernel_rfl) (fun _ _ _ h => h) (Or.inr ⟨by kernel_rfl, rfl⟩) hH ?_
          try simp only [Act.put, List.setIfInBounds_toArray, List.set_cons_zero, List.set_cons_succ]
          refine wpAnyH_take (i := 15) (oi := { dst := some 111, op := Op.fieldAddr 47 (Operand.tmp 110) 0, type := 0, pos := "ref.go:68", after := #[{ on := 14, ground := Ground.data }, { on := 7, ground := Ground.guard }], guard := some (7, true) }) rfl (by kernel_rfl) (by kernel_rfl) (by kernel_rfl) (fun _ _ _ h => h) (Or.inr ⟨by kernel_rfl, rfl⟩) hH ?_
          try simp only [Act.put, List.setIfInBounds_toArray, List.set_cons_zero, List.set_cons_succ]
          refine wpAnyH_take (i := 16) (oi := { dst := some 112, op := Op.load 3 (Operand.tmp 111), type := 3, pos := "ref.go:68", after := #[{ on := 15, ground := Ground.data }, { on := 7, ground := Ground.guard }], guard := some (7, true) }) rfl (by kernel_rfl) (by kernel_rfl) (by kernel_rfl) (fun _ _ _ h => h) (Or.inr ⟨by kernel_rfl, rfl⟩) hH ?_
          try simp only [Act.put, List.setIfInBounds_toArray, List.set_cons_zero, List.set_cons_succ]
          refine wpAnyH_take (i := 17) (oi := { dst := some 113, op := Op.binOp BinOp.geq 3 (Operand.tmp 108) (Operand.tmp 112) 3, type := 4, pos := "ref.go:68", after := #[{ on := 12, ground := Ground.data }, { on := 16, ground := Ground.data }, { on := 7, ground := Ground.guard }], guard := some (7, true) }) rfl (by kernel_rfl) (by kernel_rfl) (by kernel_rfl) (fun _ _ _ h => h) (Or.inr ⟨by kernel_rfl, rfl⟩) hH ?_
          try simp only [Act.put, List.setIfInBounds_toArray, List.set_cons_zero, List.set_cons_succ]
          refine wpAnyH_take (i := 18) (oi := { dst := some 114, op := Op.pick (Operand.tmp 103) (Operand.tmp 113) (Operand.const (Value.bool false)), type := 4, pos := "ref.go:68", after := #[{ on := 7, ground := Ground.data }, { on := 17, ground := Ground.data }], guard := none }) (v := .bool false) rfl (by kernel_rfl) (by kernel_rfl) (by kernel_rfl) (fun _ _ _ h => h) (Or.inl ⟨by kernel_rfl, ?_⟩) hH ?_
          · intro w hSw; (try dsimp only at hSw); go_simp; (try rfl)
          try simp only [Act.put, List.setIfInBounds_toArray, List.set_cons_zero, List.set_cons_succ]
          refine wpAnyH_done (by kernel_rfl) ?_ _
          have k3 := kk
          clear hH kk
          have K4 := Lib.hid (pj_call K3.out k3)
          have FB4 := Lib.hid (below_block k3 (lt_of_block FB3.out) FB3.out)
          have AN4 := Lib.hid (AN3.out.below k3)
          have HD4 := Lib.hid (HD3.out.below k3)
          clear FB3 AN3 K3 HK3 KF k3 HD3
          go_upto_region 17 with fail
          have KA := (Below.refl Y0.heap.size Y0).alloc (Nat.le_refl _) (.cells #[.bool false, .slice none 0 0] 28)
          have OB5 := Lib.hid (heap_new Y0 (.cells #[.bool false, .slice none 0 0] 28))
          have FB5 := Lib.hid (below_block KA (lt_of_block FB4.out) FB4.out)
          have AN5 := Lib.hid (AN4.out.below KA)
          have K5 := Lib.hid (pj_call K4.out KA)
          have OKB := Lib.hid (show Y0.heap.size ≠ kb from fun e => by have := (HK.out.below K4.out).lt; omega)
          have OFB := Lib.hid (show fb ≠ Y0.heap.size from fun e => by have := lt_of_block FB4.out; omega)
          have OSZ := Lib.hid (show w.heap.size ≤ Y0.heap.size from K4.out.size)
          clear FB4 AN4 KA K4 HD4
          generalize Y0.alloc (.cells #[.bool false, .slice none 0 0] 28) = w5 at OB5 FB5 AN5 K5 ⊢
          generalize Y0.heap.size = ob at OB5 OKB OFB OSZ ⊢
          obtain ⟨b, off, cc, y1, z0, z1, z2, z3⟩ := (HK.out.below K5.out).cells HX.out
          simp only at z2 z3
          have x1 : w5.cell? ⟨kb, 1, none⟩ = some (.slice (some ⟨b, off, none⟩) k cc) := by have h9 := HN.out; rw [h9]; exact y1
          have o0 := cell_of_block (j := 0) OB5.out rfl
          have o1 := cell_of_block (j := 1) OB5.out rfl
          have fro := (fun j : Nat => free_of_block (j := j) OB5.out)
          have dkl : decide ((kl : Int) < (k : Int)) = true := decide_eq_true (by have := KLL.out; omega)
          have dkl2 : decide (kl < k) = true := decide_eq_true KLL.out
          have dkl3 : decide (0 ≤ (kl : Int)) = true := decide_eq_true (by omega)
          have OBx := heap_store (j := 0) (v := .bool oe) OB5.out
          have OB6 := Lib.hid (heap_store (j := 1) (v := .slice oq on oc) OBx)
          have FB6 := Lib.hid (heap_store_other (c := ob) (j := 1) (v := .slice oq on oc) (heap_store_other (c := ob) (j := 0) (v := .bool oe) FB5.out OFB.out) OFB.out)
          have AN6 := Lib.hid (addrs_set (p := ob) (j := 1) (u := .slice oq on oc) (addrs_set (p := ob) (j := 0) (u := .bool oe) AN5.out (NoStr.of OB5.out no_str_bs)) (NoStr.of OBx no_str_bs))
          have K6 := Lib.hid ((K5.out.setCell (p := ⟨ob, 0, none⟩) OSZ.out (.bool oe)).setCell (p := ⟨ob, 1, none⟩) OSZ.out (.slice oq on oc))
          clear OBx y1 z0 z1
          go_upto_region 18 with fail
          clear o0 o1 fro x1 z2 z3 OB5 FB5 AN5 K5
          change Hid (((w5.setCell ⟨ob, 0, none⟩ (.bool oe)).setCell ⟨ob, 1, none⟩ (.slice oq on oc)).heap[ob]? = some (.cells #[.bool oe, .slice oq on oc] 28 (0, 0))) at OB6
          generalize (w5.setCell ⟨ob, 0, none⟩ (.bool oe)).setCell ⟨ob, 1, none⟩ (.slice oq on oc) = w6 at OB6 FB6 AN6 K6 ⊢
          have HK6 := Lib.hid (HK.out.below K6.out)
          have CC := Lib.hid (cut_c HK6.out kl (by have := KLL.out; have := HN.out; omega) (by have := HN.out; omega))
          go_wp2_with fail
          ((with_reducible refine CC.out.mono ?_); rintro e w7 ⟨rfl, h7, t7⟩)
          rw [CUT.out] at h7
          have HD7 := Lib.hid h7
          have NB7 := Lib.hid (fun b (hb : b = kb) => show NoStr w6 b from by rw [hb]; exact HK6.out.noStr)
          have FB7 := Lib.hid (t7.blk FB6.out FKH.out)
          have OB8 := Lib.hid (t7.blk OB6.out OKB.out)
          have AN7 := Lib.hid (AN6.out.tws t7 NB7.out)
          have XA8 := Lib.hid ((XA0.out.below K6.out).tws t7 NB7.out)
          have TW7 := Lib.hid (HasK.snd (TwS.ofBelow (S := fun b => b = kb) K6.out) t7)
          clear h7 t7 CC NB7 FB6 OB6 AN6 K6 HK6 XA0 CUT
          have f0 := cell_of_block (j := 0) FB7.out rfl
          have f1 := cell_of_block (j := 1) FB7.out rfl
          go_wp2_with fail
          ((with_reducible refine (NO.out _).mono ?_); rintro e w8 ⟨rfl, k8⟩)
          obtain ⟨i0, hi0, hz0, hz1, hz2⟩ := info_parts info_Pr
          have OB8 := Lib.hid (below_block k8 (lt_of_block OB8.out) OB8.out)
          have FB8 := Lib.hid (below_block k8 (lt_of_block FB7.out) FB7.out)
          have AN8 := Lib.hid (AN7.out.below k8)
          have XA8 := Lib.hid (XA8.out.below k8)
          have HD8 := Lib.hid (HD7.out.below k8)
          have TW8 := Lib.hid (HasK.snd TW7.out (TwS.ofBelow k8))
          clear k8 f0 f1 FB7 AN7 HD7 TW7
          have D1 : (delR K v g).take kl = loR K v g := by rw [HNLO.out]; exact DLO.out.1
          have D2 : (delR K v g).drop kl = hiR K v g := by rw [HNLO.out]; exact DLO.out.2
          have DK : kl ≤ (delR K v g).length := by
            have h9 := congrArg List.length D1
            rw [List.length_take, ← HNLO.out] at h9
            omega
          have DX := del_len K v g
          obtain ⟨q1, c1, hb1, hc1, hr1⟩ := HD8.out.blk
          have RT := rows_take hr1 kl DK
          have RD := rows_drop hr1 hc1 kl DK
          have HDL : (hiR K v g).length = (delR K v g).length - kl := by rw [← D2, List.length_drop]
          rw [D1] at RT
          rw [D2] at RD
          have RT8 := Lib.hid RT
          have RD8 := Lib.hid RD
          have OT := Lib.hid (fun x (hx : x ∈ loR K v g) => one_Pr HD8.out.row x (by rw [← D1] at hx; exact List.mem_of_mem_take hx))
          have OD := Lib.hid (fun x (hx : x ∈ hiR K v g) => one_Pr HD8.out.row x (by rw [← D2] at hx; exact List.mem_of_mem_drop hx))
          have RW8 := Lib.hid (fun x (hx : x ∈ loR K v g ++ hiR K v g) => HD8.out.row x (by
            rcases List.mem_append.1 hx with hx | hx
            · rw [← D1] at hx; exact List.mem_of_mem_take hx
            · rw [← D2] at hx; exact List.mem_of_mem_drop hx))
          have r1 := run_loR q1 (delR K v g).length c1 kl (by omega)
          have r2 := run_hiR q1 (delR K v g).length c1 kl DK
          have HB8 := Lib.hid hb1
          have LTK := Lib.hid HD8.out.lt
          have NSK := Lib.hid HD8.out.noStr
          have hk9 : (delR K v g).length ≤ 4096 := by have := HN.out; omega
          have LLN := Lib.hid (show (loR K v g).length = kl from HNLO.out.symm)
          have HLN := Lib.hid (show (hiR K v g).length ≤ 4096 by omega)
          generalize loR K v g = lo at *
          generalize hiR K v g = hi at *
          generalize delR K v g = D at *
          have x1 : w8.cell? ⟨kb, 1, none⟩ = some (.slice q1 D.length c1) := cell_of_block HB8.out rfl
          have KL5 : kl ≤ 4096 := by omega
          clear D1 D2 DK DX hr1 RT RD hb1 hc1 HD8 DLO HDL
          go_wp2_with (at_builtin; refine wpList_append_rows (cells := cellsPr) len_Pr rfl _ _ 45 84 rfl i0 (.agg #[.int .i64 0, .string ⟨#[]⟩, .bool false, .slice none 0 0]) Try.underlying45 hi0 hz0 hz1 hz2 rfl (by decide) w8.heap.size _ 0 [] rfl (World.ownsRow_nil _ _ _ _) _ lo OT.out rfl RT8.out ?a1 ?a2 ?a3 ?_)
          case a1 => rw [LLN.out]; unfold maxLen; omega
          case a2 => rw [LLN.out]; omega
          case a3 => exact Nat.le_refl _
          intro va wa hown hgrow
          have Ka := Lib.hid ((Below.refl w8.heap.size w8).grown hgrow (Nat.le_refl _) (fun j hj => by simp [Value.ownBlock] at hj))
          have hown9 : wa.ownsRow w8.heap.size 84 4 va kl (lo.flatMap cellsPr) := by have h9 := hown; simp only [LLN.out] at h9; simpa using h9
          obtain ⟨pa, ca, rfl⟩ := own_slice hown9
          have Oa := Lib.hid (hown9.alloc (.cells #[.int .i64 v, .string g, .bool ne, .slice nq nl.length nc] 84))
          have FBa := Lib.hid (below_block Ka.out (lt_of_block FB8.out) FB8.out)
          have A6 := Lib.hid (cellsB (xs := [.int .i64 v, .string g, .bool ne, .slice nq nl.length nc]) (heap_new wa (.cells #[.int .i64 v, .string g, .bool ne, .slice nq nl.length nc] 84)))
          have ocl := Lib.hid (show ∀ z ∈ [Value.int .i64 v, .string g, .bool ne, .slice nq nl.length nc], z.oneCell' = true from fun z hz => by simp at hz; rcases hz with rfl | rfl | rfl | rfl <;> rfl)
          have A3 := Lib.hid (show kl + 1 ≤ maxLen by unfold maxLen; omega)
          have A4 := Lib.hid (show (kl + 1) * 56 ≤ 140737488355328 by omega)
          have A5 := Lib.hid (show w8.heap.size ≤ (wa.alloc (.cells #[.int .i64 v, .string g, .bool ne, .slice nq nl.length nc] 84)).heap.size by have := Ka.out.size; simp; omega)
          have Kb := Lib.hid (Ka.out.alloc Ka.out.size (.cells #[.int .i64 v, .string g, .bool ne, .slice nq nl.length nc] 84))
          have f0 := cell_of_block (j := 0) FBa.out rfl
          have f1 := cell_of_block (j := 1) FBa.out rfl
          clear hown hown9 hgrow x1 r1 Ka RT8 OT
          go_wp2_with (at_builtin; refine wpList_append_own _ rfl _ _ 45 rfl w8.heap.size 84 i0 (.agg #[.int .i64 0, .string ⟨#[]⟩, .bool false, .slice none 0 0]) 4 56 Try.underlying45 hi0 hz0 hz1 hz2 rfl (by decide) _ _ _ rfl Oa.out ⟨wa.heap.size, 0, none⟩ 1 1 [.int .i64 v, .string g, .bool ne, .slice nq nl.length nc] rfl rfl A6.out ocl.out A3.out A4.out A5.out ?_)
          intro vc wc hown hgrow _
          have Kc := Lib.hid (Kb.out.grown hgrow A5.out (fun j hj => (Oa.out.lt j hj).1))
          obtain ⟨pc, cc, rfl⟩ := own_slice hown
          have Oc := Lib.hid hown
          have Sc := Lib.hid Kc.out.size
          have RDc := Lib.hid (RD8.out.below Kc.out)
          have x1 : wc.cell? ⟨kb, 1, none⟩ = some (.slice q1 D.length c1) := cell_of_block (below_block Kc.out LTK.out HB8.out) rfl
          clear hown hgrow f0 f1 A6 A3 A4 A5 Oa FBa Kb RD8
          go_wp2_with (at_builtin; refine wpList_append_rows (cells := cellsPr) len_Pr rfl _ _ 45 84 rfl i0 (.agg #[.int .i64 0, .string ⟨#[]⟩, .bool false, .slice none 0 0]) Try.underlying45 hi0 hz0 hz1 hz2 rfl (by decide) w8.heap.size _ (kl + 1) _ rfl Oc.out _ hi OD.out rfl RDc.out ?a1 ?a2 ?a3 ?_)
          case a1 => have := HLN.out; unfold maxLen; omega
          case a2 => have := HLN.out; omega
          case a3 => exact Sc.out
          intro vd wd hown hgrow
          have Kd := Lib.hid (Kc.out.grown hgrow Sc.out (fun j hj => (Oc.out.lt j hj).1))
          have hrow : wd.ownsRow w8.heap.size 84 4 vd (kl + 1 + hi.length) ((lo ++ ⟨v, g, ⟨ne, nl⟩, .slice nq nl.length nc⟩ :: hi).flatMap cellsPr) := by
            have e9 : (lo ++ (⟨v, g, ⟨ne, nl⟩, .slice nq nl.length nc⟩ : Pr) :: hi).flatMap cellsPr = lo.flatMap cellsPr ++ (.int .i64 v :: .string g :: .bool ne :: .slice nq nl.length nc :: hi.flatMap cellsPr) := by
              rw [List.flatMap_append, List.flatMap_cons]
              rfl
            rw [e9]
            exact hown
          obtain ⟨pd, cd, rfl⟩ := own_slice hrow
          have RR := Lib.hid (rowsAt_own (cells := cellsPr) (by decide) len_Pr hrow)
          have CP := Lib.hid (own_cap hrow)
          have EL := Lib.hid (show kl + 1 + hi.length = (lo ++ (⟨v, g, ⟨ne, nl⟩, .slice nq nl.length nc⟩ : Pr) :: hi).length by rw [List.length_append, List.length_cons, LLN.out]; omega)
          have HBd := Lib.hid (below_block Kd.out LTK.out HB8.out)
          have NSd := Lib.hid (show NoStr wd kb from fun ys t f hy => NSK.out ys t f (by rw [← hy]; exact (Kd.out.block kb LTK.out).symm))
          clear hown hgrow hrow x1 Oc RDc Kc Sc r2
          have x0 := cell_of_block (j := 0) HBd.out rfl
          have x1 : wd.cell? ⟨kb, 1, none⟩ = some (.slice q1 D.length c1) := cell_of_block HBd.out rfl
          have fr := free_of_block (j := 1) HBd.out
          have T9 := Lib.hid (TwS.set (S := fun b => b = kb) wd kb 1 (.slice pd (kl + 1 + hi.length) cd) rfl)
          have NB := Lib.hid (fun b (hb : b = kb) => show NoStr wd b from by rw [hb]; exact NSd.out)
          have OB9 := Lib.hid (T9.out.blk (below_block Kd.out (lt_of_block OB8.out) OB8.out) OKB.out)
          have FB9 := Lib.hid (T9.out.blk (below_block Kd.out (lt_of_block FB8.out) FB8.out) FKH.out)
          have AN9 := Lib.hid ((AN8.out.below Kd.out).tws T9.out NB.out)
          have XA9 := Lib.hid ((XA8.out.below Kd.out).tws T9.out NB.out)
          have TW9 := Lib.hid (HasK.snd (HasK.snd TW8.out (TwS.ofBelow Kd.out)) T9.out)
          have HD9 := Lib.hid (show HasK (wd.setCell ⟨kb, 1, none⟩ (.slice pd (kl + 1 + hi.length) cd)) kb room (lo ++ ⟨v, g, ⟨ne, nl⟩, .slice nq nl.length nc⟩ :: hi) from by
            refine ⟨⟨pd, cd, ?_, ?_, ?_⟩, fun x hx => ?_⟩
            · rw [← EL.out]; exact heap_store HBd.out
            · rw [← EL.out]; exact CP.out _ _ _ rfl
            · rw [← EL.out]; exact rows_tws RR.out T9.out NB.out
            · rcases List.mem_append.1 hx with hx | hx
              · exact AddrsG.tws ((RW8.out x (List.mem_append.2 (Or.inl hx))).below Kd.out) T9.out NB.out
              · rcases List.mem_cons.1 hx with hx | hx
                · subst hx; exact AN9.out
                · exact AddrsG.tws ((RW8.out x (List.mem_append.2 (Or.inr hx))).below Kd.out) T9.out NB.out)
          clear Kd RR CP EL HBd NSd NB T9 OB8 FB8 AN8 XA8 TW8 RW8 HB8
          go_upto_region 24 with fail
          clear x0 x1 fr
          generalize wd.setCell ⟨kb, 1, none⟩ (.slice pd (kl + 1 + hi.length) cd) = w9 at OB9 FB9 AN9 XA9 TW9 HD9 ⊢
          have o0 := cell_of_block (j := 0) OB9.out rfl
          have o1 := cell_of_block (j := 1) OB9.out rfl
          have f0 := cell_of_block (j := 0) FB9.out rfl
          have f1 := cell_of_block (j := 1) FB9.out rfl
          go_wp2_with fail
          ((with_reducible refine (RN.out _ _ _ _ _ OLL.out XA9.out AN9.out).mono ?_); rintro e w10 ⟨r, rfl, r10, k10⟩)
          obtain ⟨rq, rc, rfl⟩ := r10.slice
          have HF := Lib.hid (HQT.out (by first | rfl | trivial) (Or.inl (by first | rfl | trivial)) _ _ _ r10 (HD9.out.below k10) (HasK.snd TW9.out (TwS.ofBelow k10)))
          clear r10 k10 o0 o1 f0 f1
          go_wp2_with fail
          exact HF.out

variable {R : List Pr}

/-- Tell, whatever it is told. -/
theorem ktell_c (h : HasK w kb room K) (hg : GoodR K room) (hr1 : 1 ≤ room) (hr : room ≤ 4096) (v : Int) (g : ByteArray) (ex : Bool) (vs : Value) (l : List ByteArray) (hl : l.length ≤ 1000) (ha : AddrsAt w vs l) :
    Calls Try.prog 20 #[.pointer (some ⟨kb, 0, none⟩), .int .i64 v, .string g, .agg #[.bool ex, vs]] w (TkPost kb room K v g ⟨ex, l⟩ w) := by
  rcases hm : mayP v g with _ | _
  · exact ktell_no h v g hm ex vs l ha
  · exact ktell_ok h hg hr1 hr v g hm ex vs l hl ha
def keyF (x : Pr) : Int × ByteArray × Fl := (x.vl, x.gr, x.f)
/-- They remember the same, wherever it lies. -/
def Alk (R K : List Pr) : Prop := R.map keyF = K.map keyF
theorem Alk.len (h : Alk R K) : R.length = K.length := by have := congrArg List.length h; simpa using this
theorem any_key (L : List Pr) (p : Int × ByteArray × Fl → Bool) : L.any (fun x => p (keyF x)) = (L.map keyF).any p := by rw [List.any_map]; rfl
theorem filter_key (L : List Pr) (p : Int × ByteArray × Fl → Bool) : (L.filter (fun x => p (keyF x))).map keyF = (L.map keyF).filter p := by rw [List.filter_map]; rfl
theorem Alk.any (h : Alk R K) (p : Int × ByteArray × Fl → Bool) : R.any (fun x => p (keyF x)) = K.any (fun x => p (keyF x)) := by rw [any_key, any_key, h]
theorem Alk.filter (h : Alk R K) (p : Int × ByteArray × Fl → Bool) : Alk (R.filter (fun x => p (keyF x))) (K.filter (fun x => p (keyF x))) := by unfold Alk; rw [filter_key, filter_key, h]
theorem Alk.has (h : Alk R K) (v : Int) (g : ByteArray) : hasR R v g = hasR K v g := h.any (fun t => decide (t.1 = v) && decide (t.2.1 = g))
theorem Alk.of (h : Alk R K) (v : Int) : Alk (ofR R v) (ofR K v) := h.filter (fun t => decide (t.1 = v))
theorem Alk.off (h : Alk R K) (v : Int) : Alk (offR R v) (offR K v) := h.filter (fun t => !decide (t.1 = v))
theorem Alk.del (h : Alk R K) (v : Int) (g : ByteArray) : Alk (delR R v g) (delR K v g) := h.filter (fun t => !(decide (t.1 = v) && decide (t.2.1 = g)))
theorem Alk.lo (h : Alk R K) (v : Int) (g : ByteArray) : Alk (loR R v g) (loR K v g) := h.filter (fun t => ltK t.1 t.2.1 v g)
theorem Alk.hi (h : Alk R K) (v : Int) (g : ByteArray) : Alk (hiR R v g) (hiR K v g) := h.filter (fun t => ltK v g t.1 t.2.1)
theorem Alk.put (h : Alk R K) (v : Int) (g : ByteArray) (f : Fl) (u u' : Value) : Alk (putR R ⟨v, g, f, u⟩) (putR K ⟨v, g, f, u'⟩) := by
  have h1 := h.lo v g
  have h2 := h.hi v g
  unfold Alk putR at *
  rw [List.map_append, List.map_append, List.map_cons, List.map_cons, h1, h2]
  rfl
theorem recR_key (x : Pr) : recR x = (⟨if x.f.ex then 2 else 1, x.gr, x.f.src⟩ : Rec) := rfl
theorem Alk.recs (h : Alk R K) : R.map recR = K.map recR := by
  have e : ∀ L : List Pr, L.map recR = (L.map keyF).map (fun t => (⟨if t.2.2.ex then 2 else 1, t.2.1, t.2.2.src⟩ : Rec)) := fun L => by rw [List.map_map]; rfl
  rw [e, e, h]
theorem old_key : ∀ (L : List Pr) (v : Int) (g : ByteArray), oldR L v g = (((L.map keyF).find? (fun t => decide (t.1 = v) && decide (t.2.1 = g))).map (fun t => t.2.2)).getD noF
  | [], v, g => rfl
  | x :: r, v, g => by
    have ih := old_key r v g
    unfold oldR getR at ih ⊢
    rw [List.map_cons, List.find?_cons, List.find?_cons]
    have e : sameK x v g = (decide ((keyF x).1 = v) && decide ((keyF x).2.1 = g)) := rfl
    rw [← e]
    rcases sameK x v g with _ | _
    · exact ih
    · rfl
theorem Alk.old (h : Alk R K) (v : Int) (g : ByteArray) : oldR R v g = oldR K v g := by rw [old_key, old_key, h]
theorem Alk.tell (h : Alk R K) (v : Int) (g : ByteArray) (f : Fl) (u u' : Value) : (tellR room R v g f u).1 = (tellR room K v g f u').1 ∧ (tellR room R v g f u).2.1 = (tellR room K v g f u').2.1 ∧ Alk (tellR room R v g f u).2.2 (tellR room K v g f u').2.2 := by
  unfold tellR
  rw [h.has v g, h.len, h.old v g]
  split
  · exact ⟨rfl, rfl, h⟩
  · split
    · exact ⟨rfl, rfl, h⟩
    · refine ⟨rfl, rfl, ?_⟩
      show Alk (if anyF f then _ else _) (if anyF f then _ else _)
      split
      · exact h.put v g _ u u'
      · exact h.del v g
theorem GoodR.tell (h : GoodR R room) (v : Int) (g : ByteArray) (f : Fl) (u : Value) (hl : f.src.length ≤ 1000) : GoodR (tellR room R v g f u).2.2 room := by
  unfold tellR
  split
  · exact h
  · next h1 =>
    split
    · exact h
    · next h2 =>
      show GoodR (if anyF f then _ else _) room
      split
      · next h3 =>
        refine h.put u (by revert h1; cases mayP v g <;> simp) h3 hl ?_
        rcases hh : hasR R v g with _ | _
        · right
          apply Classical.byContradiction
          intro hn
          exact h2 ⟨hh, h3, by omega⟩
        · exact Or.inl rfl
      · exact h.del v g
theorem GoodR.off (h : GoodR R room) (v : Int) : GoodR (offR R v) room := h.sub List.filter_sublist
theorem tell_recs (room : Int) (R : List Pr) (v : Int) (g : ByteArray) (f : Fl) (u : Value) (ho : (oldR R v g).src.length ≤ 1000) (hl : f.src.length ≤ 1000) : (tellR room R v g f u).1.length ≤ 2 ∧ ∀ r ∈ (tellR room R v g f u).1, r.srcs.length ≤ 1000 := by
  unfold tellR
  split
  · exact ⟨Nat.zero_le _, fun r hr => by cases hr⟩
  · split
    · exact ⟨Nat.zero_le _, fun r hr => by cases hr⟩
    · exact ⟨diff_len g _ f, diff_srcs g _ f 1000 ho hl⟩
theorem recs_tws {S : Nat → Prop} {v : Value} {L : List Rec} (h : RecsAt w v L) (k : TwS S w w') (hS : ∀ b, S b → NoStr w b) : RecsAt w' v L := by
  obtain ⟨p, cap, b, off, hv, hp, hc⟩ := h
  refine ⟨p, cap, b, off, hv, hp, fun j r hj => ?_⟩
  obtain ⟨h1, h2, vs, h3, h4⟩ := hc j r hj
  have hb : ¬ S b := fun e => str_ne h2 (hS b e) rfl
  exact ⟨k.cell h1 hb, k.cell h2 hb, vs, k.cell h3 hb, AddrsG.tws h4 k hS⟩
/-- A list of one's own that may be written over. -/
def OwnZ (B : Nat) (w : World) (v : Value) (n : Nat) : Prop :=
  ∃ p cap, v = .slice p n cap ∧ (n = 0 ∨ ∃ g cur, p = some ⟨g, 0, none⟩ ∧ B ≤ g ∧ w.heap[g]? = some (.cells cur 35 (0, 0)) ∧ n ≤ cur.size)
theorem OwnS.z {B : Nat} {v : Value} {l : List ByteArray} (h : OwnS B w v l) : OwnZ B w v l.length := by
  obtain ⟨p, cap, hv, h⟩ := h
  refine ⟨p, cap, hv, ?_⟩
  rcases h with h | ⟨g, cur, h1, h2, h3, h4, -, h5, -⟩
  · exact Or.inl (by rw [h]; rfl)
  · exact Or.inr ⟨g, cur, h1, h2, h3, by omega⟩
theorem OwnZ.set {B : Nat} {v : Value} {n b j : Nat} {u : Value} {cur : Array Value} (h : OwnZ B w v n) (hb : w.heap[b]? = some (.cells cur 35 (0, 0))) : OwnZ B (w.setCell ⟨b, j, none⟩ u) v n := by
  obtain ⟨p, cap, hv, h⟩ := h
  refine ⟨p, cap, hv, ?_⟩
  rcases h with h | ⟨g, cu, h1, h2, h3, h4⟩
  · exact Or.inl h
  · by_cases e : g = b
    · subst e
      rw [hb] at h3
      simp only [Option.some.injEq, Obj.cells.injEq] at h3
      obtain ⟨rfl, -, -⟩ := h3
      exact Or.inr ⟨g, _, h1, h2, heap_store (j := j) (v := u) hb, by simpa using h4⟩
    · exact Or.inr ⟨g, cu, h1, h2, heap_store_other h3 e, h4⟩
theorem own_set {base e size n : Nat} {v : Value} {xs : List Value} (h : w.ownsRow base e size v n xs) {g j : Nat} {u : Value} {cur : Array Value} {e2 : TypeId} (hb : w.heap[g]? = some (.cells cur e2 (0, 0))) (he : e ≠ e2) : (w.setCell ⟨g, j, none⟩ u).ownsRow base e size v n xs := by
  refine ⟨h.1, ?_⟩
  rcases h.2 with h | ⟨b, cap, cu, hv, h1, h2, hr⟩
  · exact Or.inl h
  · refine Or.inr ⟨b, cap, cu, hv, h1, heap_store_other h2 ?_, hr⟩
    rintro rfl
    rw [hb] at h2
    simp only [Option.some.injEq, Obj.cells.injEq] at h2
    exact he h2.2.1.symm

end Go.Proofs.Ythpafojeadbjlaa
