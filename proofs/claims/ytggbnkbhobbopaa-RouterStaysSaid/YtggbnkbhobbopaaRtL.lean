/-
  'router.List'. A contract over the translated program.
-/
import Derived.Test.YtggbnkbhobbopaaRtA
import Derived.Test.YtggbnkbhobbopaaRtI
import Derived.Laws.AppendOwn
namespace Go.Proofs.Ytggbnkbhobbopaa
open Go Go.Maps Go.WideMaps
open Go.RowKit
set_option linter.unusedVariables false
set_option linter.unusedSimpArgs false
variable {w w' : World} {p fb hb : Nat} {age : Int} {F : List MB.T3} {L : List T3}

/-- The ports below k of which f holds. -/
def gat (f : Nat → Bool) (k : Nat) : List Int := ((List.range k).filter f).map (fun (i : Nat) => (i : Int))
theorem gat_zero (f : Nat → Bool) : gat f 0 = [] := rfl
theorem gat_yes {f : Nat → Bool} {k : Nat} (h : f k = true) : gat f (k + 1) = gat f k ++ [(k : Int)] := by
  unfold gat
  rw [List.range_succ, List.filter_append, List.filter_cons, if_pos h]
  simp
theorem gat_no {f : Nat → Bool} {k : Nat} (h : f k = false) : gat f (k + 1) = gat f k := by
  unfold gat
  rw [List.range_succ, List.filter_append, List.filter_cons, if_neg (by rw [h]; simp)]
  simp
theorem gat_len (f : Nat → Bool) (k : Nat) : (gat f k).length ≤ k := by
  unfold gat
  have := List.length_filter_le f (List.range k)
  rw [List.length_range] at this
  simpa using this
theorem gat_mem (f : Nat → Bool) (k : Nat) (x : Int) : x ∈ gat f k ↔ ∃ i : Nat, i < k ∧ f i = true ∧ x = i := by
  unfold gat
  simp only [List.mem_map, List.mem_filter, List.mem_range]
  constructor
  · rintro ⟨i, ⟨h1, h2⟩, rfl⟩; exact ⟨i, h1, h2, rfl⟩
  · rintro ⟨i, h1, h2, rfl⟩; exact ⟨i, ⟨h1, h2⟩, rfl⟩

/-- Times that may be. -/
def GoodL (L : List T3) : Prop := ∀ x ∈ L, 0 ≤ x.2 ∧ x.2 ≤ 1099511627776
theorem GoodL.get (h : GoodL L) (k : Lit) : 0 ≤ getT L k ∧ getT L k ≤ 1099511627776 := by
  unfold getT
  cases hf : L.find? (fun x => x.1.sameKey k) with
  | none => simp
  | some y => exact h y (List.mem_of_find?_eq_some hf)
def fixB (F : List MB.T3) (v : Int) (i : Nat) : Bool := MB.getT F (litP v i)
def heardB (L : List T3) (age now v : Int) (i : Nat) : Bool := hasT L (litP v i) && !decide (getT L (litP v i) + age ≤ now)
def lstP (F : List MB.T3) (L : List T3) (age now v : Int) : List Int := risI (gat (fixB F v) 16 ++ gat (heardB L age now v) 16)
theorem lstP_mem (F : List MB.T3) (L : List T3) (age now v : Int) (x : Int) : x ∈ lstP F L age now v ↔ ∃ i : Nat, i < 16 ∧ (fixB F v i = true ∨ heardB L age now v i = true) ∧ x = i := by
  unfold lstP
  rw [risI_mem, List.mem_append, gat_mem, gat_mem]
  constructor
  · rintro (⟨i, h1, h2, h3⟩ | ⟨i, h1, h2, h3⟩)
    · exact ⟨i, h1, .inl h2, h3⟩
    · exact ⟨i, h1, .inr h2, h3⟩
  · rintro ⟨i, h1, h2 | h2, h3⟩
    · exact .inl ⟨i, h1, h2, h3⟩
    · exact .inr ⟨i, h1, h2, h3⟩

theorem info_In : (Try.prog.info? 3).map (fun i => (i.zero, i.size, i.bytes)) = some (some (.int .i64 0), 1, 8) := by kernel_rfl
theorem int_new (w : World) (xs : List Value) (t : TypeId) : ∀ j u, xs[j]? = some u → (w.alloc (.cells xs.toArray t)).cell? ((⟨w.heap.size, 0, none⟩ : Addr).add j) = some u := by
  intro j u hj
  have e : (⟨w.heap.size, 0, none⟩ : Addr).add j = ⟨w.heap.size, j, none⟩ := by unfold Addr.add; split <;> simp_all
  rw [e]
  exact cell_of_block (heap_new w _) (by simpa using hj)
theorem one_int (x : Int) : ∀ u ∈ [Value.int .i64 x], u.oneCell' = true := by intro u hu; simp at hu; subst hu; rfl

theorem list_nil (v now : Int) (w : World) : Calls Try.prog 8 #[.pointer none, .int .i64 v, .int .i64 now] w fun e w' => e = .returned (.slice none 0 0) ∧ w' = w := by
  go_enter Try.func8, Try.ntmps8
  go_wp2
  go_ret
  exact ⟨rfl, rfl⟩

set_option maxHeartbeats 8000000 in
set_option maxRecDepth 100000 in
theorem list_c (h : HasP w p fb hb age F L) (a1 : 1 ≤ age) (a2 : age ≤ 1000000) (hg : GoodL L) (v now : Int) (v1 : -9223372036854775808 ≤ v) (v2 : v ≤ 9223372036854775807) :
    Calls Try.prog 8 #[.pointer (some ⟨p, 0, none⟩), .int .i64 v, .int .i64 now] w fun e w' => ∃ u, e = .returned u ∧ IntsAt w' u (lstP F L age now v) ∧ Below w.heap.size w w' := by
  have H := Lib.hid h
  have GG := Lib.hid hg
  have KEY := Lib.hid (fun (k : Nat) (hk : k < 16) => keyP v k (WfP.of v1 v2 (by omega) (by omega)))
  have SO := Lib.hid (fun u n l U (hB : w.heap.size ≤ U.heap.size) (hl : l.length ≤ 1000000) ho => sortI_c w.heap.size u n l U hB hl ho)
  have CO := Lib.hid (fun u n l U (hB : w.heap.size ≤ U.heap.size) (hl : l.length ≤ 1000000) ho => compactI_c w.heap.size u n l U hB hl ho)
  obtain ⟨i0, hi0, hz0, hz1, hz2⟩ := info_parts info_In
  have V := Lib.hid (show lstP F L age now v = Lib.compact (srtI (gat (fixB F v) 16 ++ gat (heardB L age now v) 16)) from rfl)
  generalize lstP F L age now v = R at V ⊢
  obtain ⟨f, hf⟩ : ∃ f, f = fixB F v := ⟨_, rfl⟩
  obtain ⟨g, hgd⟩ : ∃ g, g = heardB L age now v := ⟨_, rfl⟩
  have HF := Lib.hid (show ∀ i, f i = MB.getT F (litP v i) from fun i => by rw [hf]; rfl)
  have HG := Lib.hid (show ∀ i, g i = (hasT L (litP v i) && !decide (getT L (litP v i) + age ≤ now)) from fun i => by rw [hgd]; rfl)
  rw [← hf, ← hgd] at V
  clear h hg hf hgd v1 v2
  go_enter Try.func8, Try.ntmps8
  go_wp2_with fail
  go_loopw [7, 14] (fun s7 i wr => ∃ k : Nat, k ≤ 16 ∧ i = .int .i64 k ∧ Hid (wr.ownsRow w.heap.size 3 1 s7 (gat f k).length ((gat f k).map (Value.int .i64))) ∧ Hid (Below w.heap.size w wr)) (fun _ i _ => 16 - (intOf i).toNat)
  case atStart => exact ⟨0, Nat.zero_le _, rfl, Lib.hid (World.ownsRow_nil _ _ _ _), Lib.hid (Below.refl _ _)⟩
  case round =>
    obtain ⟨k, hk, rfl, HO, KB⟩ := hrel
    by_cases hlt : k < 16
    · have d2 : decide ((k : Int) < 16) = true := decide_eq_true (by omega)
      have d1 : (k : Int) < 16 := by omega
      have H1 := Lib.hid (H.out.below KB.out)
      obtain ⟨c0, c1, c2⟩ := H1.out.c
      have HFX := Lib.hid H1.out.fix
      have hkey := Lib.hid (KEY.out k hlt)
      obtain ⟨fk, hfk⟩ : ∃ fk, f k = fk := ⟨_, rfl⟩
      have HFk : MB.getT F (litP v k) = fk := (HF.out k).symm.trans hfk
      have HFK := Lib.hid hfk
      clear hfk
      have HLN := Lib.hid (gat_len f k)
      rcases Bool.eq_false_or_eq_true fk with rfl | rfl
      · have HTK := Lib.hid (gat_yes HFK.out)
        go_upto_region 8 with (first | (at_lookup; refine MB.wpList_look1_mp _ rfl _ _ 40 rfl 46 4 law_PL und_MX (zero_BX _) fb F rfl HFX.out _ _ rfl hkey.out ?_; rw [HFk]) | go_in)
        have NEW := Lib.hid (int_new wr [.int .i64 (k : Int)] 3)
        have HO5 := Lib.hid (HO.out.alloc (.cells #[.int .i64 (k : Int)] 3))
        have K5 := Lib.hid (KB.out.alloc KB.out.size (.cells #[.int .i64 (k : Int)] 3))
        generalize hln : (gat f k).length = ln at HO5 HLN HO
        have HLE := Lib.hid hln
        clear hln
        have n11 := Lib.hid (show ln + 1 ≤ maxLen by have := HLN.out; unfold maxLen; omega)
        have n22 := Lib.hid (show (ln + 1) * 8 ≤ 140737488355328 by have := HLN.out; omega)
        have n33 := Lib.hid (show w.heap.size ≤ (wr.alloc (.cells #[.int .i64 (k : Int)] 3)).heap.size from K5.out.size)
        have oc := Lib.hid (one_int (k : Int))
        go_wp2_with (at_builtin; refine wpList_append_own _ rfl _ _ 30 rfl w.heap.size 3 i0 (.int .i64 0) 1 8 Try.underlying30 hi0 hz0 hz1 hz2 rfl (by decide) _ _ _ rfl HO5.out ⟨wr.heap.size, 0, none⟩ 1 1 [.int .i64 (k : Int)] rfl rfl NEW.out oc.out n11.out n22.out n33.out ?_)
        intro v' w6 hown' hgrow _
        have HO6 := Lib.hid hown'
        have K6 := Lib.hid (K5.out.grown hgrow n33.out (fun j hj => (HO5.out.lt j hj).1))
        clear hown' hgrow HO5 K5 NEW
        go_wp2_with fail
        go_roundw
        case rel => exact ⟨k + 1, by omega, by go_num, Lib.hid (by rw [HTK.out, List.length_append, List.map_append, HLE.out]; exact HO6.out), K6⟩
        case measure => simp [intOf]; omega
      · have HTK := Lib.hid (gat_no HFK.out)
        go_wp2_with (first | (at_lookup; refine MB.wpList_look1_mp _ rfl _ _ 40 rfl 46 4 law_PL und_MX (zero_BX _) fb F rfl HFX.out _ _ rfl hkey.out ?_; rw [HFk]) | go_in)
        go_roundw
        case rel => exact ⟨k + 1, by omega, by go_num, Lib.hid (by rw [HTK.out]; exact HO.out), KB⟩
        case measure => simp [intOf]; omega
    · have d2 : decide ((k : Int) < 16) = false := decide_eq_false (by omega)
      have d1 : ¬ (k : Int) < 16 := by omega
      obtain rfl : k = 16 := by omega
      clear hlt d1 d2 hk
      obtain ⟨wo, hwo⟩ : ∃ wo, wo = wr := ⟨_, rfl⟩
      rw [← hwo] at HO KB ⊢
      clear hwo
      have HLF := Lib.hid (gat_len f 16)
      go_wp2_with fail
      go_loopw [7, 30] (fun s7 i wr => ∃ k : Nat, k ≤ 16 ∧ i = .int .i64 k ∧ Hid (wr.ownsRow w.heap.size 3 1 s7 (gat f 16 ++ gat g k).length ((gat f 16 ++ gat g k).map (Value.int .i64))) ∧ Hid (Below w.heap.size w wr)) (fun _ i _ => 16 - (intOf i).toNat)
      case atStart => exact ⟨0, Nat.zero_le _, rfl, Lib.hid (by rw [gat_zero, List.append_nil]; exact HO.out), KB⟩
      case round =>
        clear HO KB
        obtain ⟨k, hk, rfl, HO, KB⟩ := hrel
        by_cases hlt : k < 16
        · have d2 : decide ((k : Int) < 16) = true := decide_eq_true (by omega)
          have d1 : (k : Int) < 16 := by omega
          have H1 := Lib.hid (H.out.below KB.out)
          obtain ⟨c0, c1, c2⟩ := H1.out.c
          have HMX := Lib.hid H1.out.heard
          have hkey := Lib.hid (KEY.out k hlt)
          have HLN := Lib.hid (show (gat f 16 ++ gat g k).length ≤ 32 by have h1 := gat_len g k; have h2 := HLF.out; rw [List.length_append]; omega)
          have OC := Lib.hid (old_c H1.out a1 a2 (getT L (litP v k)) now (GG.out.get _).1 (GG.out.get _).2)
          have hgk := HG.out k
          generalize hgt : getT L (litP v k) = gt at OC hgk
          generalize hhh : hasT L (litP v k) = hh at hgk
          have HGT := Lib.hid hgt
          have HHH := Lib.hid hhh
          clear hgt hhh
          rcases Bool.eq_false_or_eq_true hh with rfl | rfl
          · rw [Bool.true_and] at hgk
            generalize hde : decide (gt + age ≤ now) = de at hgk OC
            rcases Bool.eq_false_or_eq_true de with rfl | rfl
            · have HTK := Lib.hid (gat_no (f := g) (k := k) hgk)
              clear hgk
              go_wp2_with (first | (at_lookup; refine wpList_look_mp _ rfl _ _ 41 rfl 46 3 law_PL und_MH (zero_IH _) hb L rfl HMX.out _ _ rfl hkey.out ?_; rw [HGT.out, HHH.out]) | (go_at_call 14; refine OC.out.mono ?_; rintro e w9 ⟨rfl, h9⟩; replace h9 := h9.symm; subst h9) | go_in)
              refine ⟨?_, ?measure2⟩
              repeat apply Exists.intro
              refine ⟨?rel2, rfl⟩
              case rel2 => exact ⟨k + 1, by omega, by go_num, Lib.hid (by rw [HTK.out]; exact HO.out), KB⟩
              case measure2 => simp [intOf]; omega
            · have HTK := Lib.hid (gat_yes (f := g) (k := k) hgk)
              clear hgk
              go_upto_region 15 with (first | (at_lookup; refine wpList_look_mp _ rfl _ _ 41 rfl 46 3 law_PL und_MH (zero_IH _) hb L rfl HMX.out _ _ rfl hkey.out ?_; rw [HGT.out, HHH.out]) | (go_at_call 14; refine OC.out.mono ?_; rintro e w9 ⟨rfl, h9⟩; replace h9 := h9.symm; subst h9) | go_in)
              generalize hln : (gat f 16 ++ gat g k).length = ln at HO HLN
              have HLE := Lib.hid hln
              clear hln
              have NEW := Lib.hid (int_new wr [.int .i64 (k : Int)] 3)
              have HO5 := Lib.hid (HO.out.alloc (.cells #[.int .i64 (k : Int)] 3))
              have K5 := Lib.hid (KB.out.alloc KB.out.size (.cells #[.int .i64 (k : Int)] 3))
              have n11 := Lib.hid (show ln + 1 ≤ maxLen by have := HLN.out; unfold maxLen; omega)
              have n22 := Lib.hid (show (ln + 1) * 8 ≤ 140737488355328 by have := HLN.out; omega)
              have n33 := Lib.hid (show w.heap.size ≤ (wr.alloc (.cells #[.int .i64 (k : Int)] 3)).heap.size from K5.out.size)
              have oc := Lib.hid (one_int (k : Int))
              go_wp2_with (at_builtin; refine wpList_append_own _ rfl _ _ 30 rfl w.heap.size 3 i0 (.int .i64 0) 1 8 Try.underlying30 hi0 hz0 hz1 hz2 rfl (by decide) _ _ _ rfl HO5.out ⟨wr.heap.size, 0, none⟩ 1 1 [.int .i64 (k : Int)] rfl rfl NEW.out oc.out n11.out n22.out n33.out ?_)
              intro v' w6 hown' hgrow _
              have HO6 := Lib.hid hown'
              have K6 := Lib.hid (K5.out.grown hgrow n33.out (fun j hj => (HO5.out.lt j hj).1))
              clear hown' hgrow HO5 K5 NEW
              go_wp2_with fail
              refine ⟨?_, ?measure2⟩
              repeat apply Exists.intro
              refine ⟨?rel2, rfl⟩
              case rel2 => exact ⟨k + 1, by omega, by go_num, Lib.hid (by rw [HTK.out, ← List.append_assoc, List.length_append, HLE.out]; simpa using HO6.out), K6⟩
              case measure2 => simp [intOf]; omega
          · rw [Bool.false_and] at hgk
            have HTK := Lib.hid (gat_no (f := g) (k := k) hgk)
            clear hgk
            go_wp2_with (first | (at_lookup; refine wpList_look_mp _ rfl _ _ 41 rfl 46 3 law_PL und_MH (zero_IH _) hb L rfl HMX.out _ _ rfl hkey.out ?_; rw [HGT.out, HHH.out]) | go_in)
            refine ⟨?_, ?measure2⟩
            repeat apply Exists.intro
            refine ⟨?rel2, rfl⟩
            case rel2 => exact ⟨k + 1, by omega, by go_num, Lib.hid (by rw [HTK.out]; exact HO.out), KB⟩
            case measure2 => simp [intOf]; omega
        · have d2 : decide ((k : Int) < 16) = false := decide_eq_false (by omega)
          have d1 : ¬ (k : Int) < 16 := by omega
          obtain rfl : k = 16 := by omega
          clear hlt d1 d2 hk
          have HLN := Lib.hid (show (gat f 16 ++ gat g 16).length ≤ 1000000 by have h1 := gat_len g 16; have h2 := HLF.out; rw [List.length_append]; omega)
          generalize (gat f 16 ++ gat g 16).length = ln at HO
          go_wp2_with fail
          ((with_reducible refine (SO.out _ _ _ _ KB.out.size HLN.out HO.out).mono ?_); rintro e w6 ⟨rfl, o6, k6⟩)
          have HO6 := Lib.hid o6
          have K6 := Lib.hid (KB.out.trans k6)
          have HL6 := Lib.hid (show (srtI (gat f 16 ++ gat g 16)).length ≤ 1000000 by rw [srtI_len]; exact HLN.out)
          clear o6 k6 HO KB
          go_wp2_with fail
          ((with_reducible refine (CO.out _ _ _ _ K6.out.size HL6.out HO6.out).mono ?_); rintro e w7 ⟨u7, rfl, i7, k7⟩)
          go_wp2_with fail
          go_ret
          exact ⟨_, rfl, by rw [V.out]; exact i7, K6.out.trans k7⟩
end Go.Proofs.Ytggbnkbhobbopaa
