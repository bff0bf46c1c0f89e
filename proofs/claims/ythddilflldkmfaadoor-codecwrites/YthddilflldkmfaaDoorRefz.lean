import Derived.Test.YthddilflldkmfaaDoorRefa
import Derived.Test.YthddilflldkmfaaDoorUnf
import Derived.Deep.RegionLaw
namespace Go.Proofs.YthddilflldkmfaaDoor
open Go.RowKit Go.Lib
/-- Without the signs of filling at the end. -/
def unf (s : List UInt8) : List UInt8 := (s.reverse.dropWhile (· == 61)).reverse
theorem unf_nil : unf [] = [] := rfl
theorem unf_pad (x : List UInt8) : unf (x ++ [61]) = unf x := by simp [unf]
theorem unf_not (x : List UInt8) (c : UInt8) (h : c ≠ 61) : unf (x ++ [c]) = x ++ [c] := by
  simp [unf, h]
theorem ext_take (X : List UInt8) (a b : Nat) : (ByteArray.mk X.toArray).extract a b = ⟨((X.take b).drop a).toArray⟩ := by
  apply ByteArray.ext
  apply Array.ext'
  simp [ByteArray.data_extract, List.drop_take]
theorem split_last (X : List UInt8) (h : 0 < X.length) : X = X.take (X.length - 1) ++ [X[X.length - 1]'(by omega)] := by
  have := take_snoc X (X.length - 1) (by omega)
  rw [show X.length - 1 + 1 = X.length by omega, List.take_of_length_le (Nat.le_refl _)] at this
  exact this
set_option maxHeartbeats 1000000 in
set_option maxRecDepth 8000 in
theorem unfilled_any (s : List UInt8) (w : World) (hs : s.length ≤ 9223372036854775807) :
    Calls Tryd.prog 78 #[.string ⟨s.toArray⟩] w fun e w' => e = .returned (.string ⟨(unf s).toArray⟩) ∧ w' = w := by
  go_enter Tryd.func78, Tryd.ntmps78
  go_wp2
  go_loop [0] (fun v => ∃ X : List UInt8, v = .string ⟨X.toArray⟩ ∧ X.length ≤ s.length ∧ unf X = unf s) (fun v => match v with | .string b => b.size | _ => 0)
  case atStart => exact ⟨s, rfl, by omega, rfl⟩
  case round =>
    obtain ⟨X, rfl, hX, hu⟩ := hrel
    have HU := hide hu
    clear hu
    by_cases h0 : 0 < X.length
    · have hsp := hide (split_last X h0)
      have hsz : X.length - 1 < (ByteArray.mk X.toArray).size := by simp [ByteArray.size]; omega
      by_cases hc : X[X.length - 1]'(by omega) = 61
      · have hcc : (((ByteArray.mk X.toArray)[X.length - 1]'hsz).toNat : Int) = 61 := by
          have : (ByteArray.mk X.toArray)[X.length - 1]'hsz = X[X.length - 1]'(by omega) := rfl
          rw [this, hc]; rfl
        have HC := hide hc
        clear hc
        go_wp2
        go_round
        case rel =>
          refine ⟨X.take (X.length - 1), ?_, by rw [List.length_take]; omega, ?_⟩
          · rw [ext_take]; simp
          · rw [← unhide HU]
            conv => rhs; rw [unhide hsp, unhide HC, unf_pad]
        case measure => rw [ext_take]; simp [ByteArray.size]; omega
      · have hcc : (((ByteArray.mk X.toArray)[X.length - 1]'hsz).toNat : Int) ≠ 61 := by
          have : (ByteArray.mk X.toArray)[X.length - 1]'hsz = X[X.length - 1]'(by omega) := rfl
          rw [this]
          intro q
          exact hc (UInt8.toNat_inj.1 (by rw [show (61 : UInt8).toNat = 61 from rfl]; omega))
        have hcb : ((((ByteArray.mk X.toArray)[X.length - 1]'hsz).toNat : Int) == 61) = false := by simpa using hcc
        have HE : Hid (unf s = X) := hide (by rw [← unhide HU]; conv => lhs; rw [unhide hsp, unf_not _ _ hc]
                                              exact (unhide hsp).symm)
        clear hc hcc
        go_wp2
        go_ret
        exact ⟨ret_str (unhide HE).symm, rfl⟩
    · have h00 : X = [] := List.eq_nil_of_length_eq_zero (by omega)
      subst h00
      have HE : Hid (unf s = []) := hide (by rw [← unhide HU]; rfl)
      clear h0
      go_wp2
      go_ret
      exact ⟨ret_str (unhide HE).symm, rfl⟩
theorem sgn_app2' (A : List UInt8) (x y : List Nat) : sgn A (x ++ y) = sgn A x ++ sgn A y := by simp [sgn]
abbrev hexs : List UInt8 := [48, 49, 50, 51, 52, 53, 54, 55, 56, 57, 97, 98, 99, 100, 101, 102]
theorem Own.drew {base : Nat} {v : Value} {X : List UInt8} {W0 w : World} (h : Own base v X W0 w) : Own base v X W0 w.drew := ⟨h.1, h.2.1.drew, h.2.2⟩
theorem step_push2 {ops : Array Oper} {o : Oper} {a : Act} {K : Act → World → Prop} {Q : Exit → Act → World → Prop} {E : Prop} (hgd : o.guard = none) (s x : Operand)
    (ho : o.op = .call { callee := .builtin .append, args := #[s, x], argTypes := #[68, 68] })
    (base : Nat) (v : Value) (X : List UInt8) (hs : a.eval s = v) (W0 w0 : World) (ci di : Int) (c d : UInt8) (hci : ci = (c.toNat : Int)) (hdi : di = (d.toNat : Int)) (hb : Own base v X W0 w0)
    (hx : a.eval x = .slice (some ⟨w0.heap.size, 0, none⟩) 2 2) (hlen : X.length + 2 ≤ 140737488355328)
    (h : ∀ v' w', Own base v' (X ++ [c, d]) W0 w' → K (a.put o.dst v') w') :
    if Region.wanted o (yielded ops a.tmps) = true then Oper.wp Tryd.prog o a (w0.alloc (.cells #[.int .u8 ci, .int .u8 di] 5)) K Q else E := by
  have hw : Region.wanted o (yielded ops a.tmps) = true := by simp [Region.wanted, hgd]
  rw [if_pos hw]
  subst hci hdi
  obtain ⟨i0, hi, hz0, hz1, hz2⟩ := info_parts info5
  have hb' := OwnBuf.alloc hb (.cells #[.int .u8 (c.toNat : Int), .int .u8 (d.toNat : Int)] 5)
  obtain ⟨v', w', hr, h2, h3, _⟩ := run_append_ownF (P := Tryd.prog) (w0.alloc (.cells #[.int .u8 (c.toNat : Int), .int .u8 (d.toNat : Int)] 5)) base 68 o.type 5 i0 (.int .u8 0) 1 1 Tryd.underlying68 hi hz0 hz1 hz2 rfl (by decide) v X.length (X.map B) hb'.1 ⟨w0.heap.size, 0, none⟩ 2 2 [B c, B d] rfl (by
      intro j u hj
      match j, hj with
      | 0, hj => simp at hj; subst hj; simp [Addr.add, B]
      | 1, hj => simp at hj; subst hj; simp [Addr.add, B]
      | (j + 2), hj => simp at hj) (by intro u hu; simp at hu; rcases hu with rfl | rfl <;> rfl) (by unfold maxLen; omega) (by omega) hb'.2.2
  unfold Oper.wp execOp
  simp only [ho, resolve, invoke, builtin, Sem.run_bind, Sem.run_pure, Result.andThen_ok, List.map_toArray, List.map_cons, List.map_nil, hs, hx, hr]
  refine h v' w' ?_
  have := OwnBuf.grown hb' h2 h3
  unfold Own
  rw [List.length_append, List.map_append]
  exact this
theorem sgn4 (c : UInt8) : sgn hexs [c.toNat / 16, c.toNat % 16] = [hexs.getD (c.toNat / 16) 0, hexs.getD (c.toNat % 16) 0] := rfl
set_option maxHeartbeats 4000000 in
set_option maxRecDepth 8000 in
theorem refhex_any (s : List UInt8) (w : World) (hs : s.length ≤ 17592186044416) :
    Calls Tryd.prog 50 #[.string ⟨s.toArray⟩] w fun e w' => e = .returned (.string ⟨(sgn hexs (sig4 s)).toArray⟩) ∧ Below w.heap.size w w' := by
  go_enter Tryd.func50, Tryd.ntmps50
  go_wp2
  go_loopw [3, 4] (fun v i wr => ∃ k : Nat, k ≤ s.length ∧ i = .int .i64 k ∧ Own w.heap.size v (sgn hexs (sig4 (s.take k))) w wr) (fun _ i _ => s.length - (intOf i).toNat)
  case atStart => exact ⟨0, by omega, rfl, Own.nil w⟩
  case round =>
    obtain ⟨k, hk, rfl, hb⟩ := hrel
    by_cases hlt : k < s.length
    · have hnx := hide (show sig4 (s.take (k + 1)) = sig4 (s.take k) ++ [s[k].toNat / 16, s[k].toNat % 16] by rw [take_snoc s k hlt, sig4_app]; rfl)
      have hol := sig4_len (s.take k)
      have hol2 : (sig4 (s.take k)).length ≤ 2 * s.length := by rw [hol]; simp; omega
      clear hol
      have hsz : k < (ByteArray.mk s.toArray).size := by simpa [ByteArray.size] using hlt
      obtain ⟨C, hC⟩ : ∃ C, (ByteArray.mk s.toArray)[k]'hsz = C := ⟨_, rfl⟩
      have HC : Hid (s[k] = C) := hide hC
      have hcl := C.toNat_lt
      obtain ⟨M, hM⟩ : ∃ M, C.toNat = M := ⟨_, rfl⟩
      generalize sig4 (s.take k) = O at *
      have HB := hide hb
      clear hb
      have hM1 : M < 256 := by omega
      have HT : Hid (sgn hexs (sig4 (s.take (k + 1))) = sgn hexs O ++ [hexs.getD (M / 16) 0, hexs.getD (M % 16) 0]) := hide (by rw [unhide hnx, unhide HC, hM, sgn_app2']; rfl)
      clear hcl
      obtain ⟨Q1, hQ1⟩ : ∃ Q1, M / 16 = Q1 := ⟨_, rfl⟩
      obtain ⟨Q2, hQ2⟩ : ∃ Q2, M % 16 = Q2 := ⟨_, rfl⟩
      rw [hQ1, hQ2] at HT
      have w1 : IntKind.u8.wrap ((M : Int) / 16) = (Q1 : Int) := by
        rw [show (M : Int) / 16 = (Q1 : Int) by omega]
        exact IntWalk.u8_in _ (by omega)
      have w2 : (M : Int).tmod 16 = (Q2 : Int) := by rw [Int.tmod_eq_emod_of_nonneg (by omega)]; omega
      have q1 : (Q1 : Int) < 16 := by omega
      have q2 : (Q2 : Int) < 16 := by omega
      clear hQ1 hQ2
      go_wp2
      go_region_law (refine step_push2 rfl (.tmp 11) (.tmp 22) rfl w.heap.size _ (sgn hexs O) (by rfl) w _ _ _ (hexs.getD Q1 0) (hexs.getD Q2 0) (idx_eq hexs Q1 _) (idx_eq hexs Q2 _) (unhide HB).drew (by rfl) (by rw [sgn_len]; omega) ?_; intro v2 w2 hb2)
      all_goals go_wp2
      all_goals (
        go_roundw
        case rel => exact ⟨k + 1, by omega, by go_num, by rw [unhide HT]; exact hb2⟩
        case measure => simp [intOf]; omega)
    · have hlast := hide (show sig4 (s.take k) = sig4 s by rw [List.take_of_length_le (by omega)])
      generalize sig4 (s.take k) = O at *
      have hd : decide (k < s.length) = false := by simp; omega
      have HB := hide hb
      clear hb
      have HX := hide (unhide HB).text
      go_wp2_with (refine wpList_conv rfl 68 9 (.tmp 24) rfl _ _ (by rfl) (unhide HX) ?_)
      go_ret
      exact ⟨ret_str (by rw [unhide hlast]), (unhide HB).2.1⟩
end Go.Proofs.YthddilflldkmfaaDoor
namespace Go.Proofs.YthddilflldkmfaaDoor
open Go.RowKit Go.Lib
/-- Pairs of signs as bytes. -/
def pairs : List Nat → List UInt8
  | a :: b :: r => UInt8.ofNat (16 * a + b) :: pairs r
  | _ => []
theorem pairs_app (x y : List Nat) (h : x.length % 2 = 0) : pairs (x ++ y) = pairs x ++ pairs y := by
  induction x using pairs.induct with
  | case1 a b r ih => simp only [List.cons_append, pairs]; rw [ih (by simp only [List.length_cons] at h; omega)]
  | case2 x hx =>
    match x, h with
    | [], _ => rfl
    | [a], h => simp at h
    | a :: b :: r, _ => exact absurd rfl (hx a b r)
theorem pairs_len (x : List Nat) : (pairs x).length ≤ x.length := by
  induction x using pairs.induct with
  | case1 a b r ih => simp only [pairs, List.length_cons]; omega
  | case2 x hx =>
    match x with
    | [] => simp [pairs]
    | [a] => simp [pairs]
    | a :: b :: r => exact absurd rfl (hx a b r)
def refun4 (t : List UInt8) : Option (List UInt8) := if t.length % 2 = 0 ∧ allin hexs t then some (pairs (t.map (pl hexs))) else none
theorem refun4_no {t : List UInt8} (h : ¬ (t.length % 2 = 0 ∧ allin hexs t)) : refun4 t = none := by unfold refun4; rw [if_neg h]
theorem refun4_yes {t : List UInt8} (h : t.length % 2 = 0 ∧ allin hexs t) : refun4 t = some (pairs (t.map (pl hexs))) := by unfold refun4; rw [if_pos h]
theorem take2 (s : List UInt8) (i : Nat) (h : i + 1 < s.length) : s.take (i + 2) = s.take i ++ [s[i], s[i + 1]] := by
  have h1 := take_snoc s i (by omega)
  have h2 : s.take (i + 2) = s.take (i + 1) ++ [s[i + 1]] := take_snoc s (i + 1) (by omega)
  rw [h2, h1, List.append_assoc]; rfl
set_option maxHeartbeats 1000000 in
set_option maxRecDepth 8000 in
theorem reffromhex_any (t : List UInt8) (w : World) (ht : t.length ≤ 17592186044416) :
    Calls Tryd.prog 44 #[.string ⟨t.toArray⟩] w fun e w' => e = .returned (told2 (refun4 t)) ∧ Below w.heap.size w w' := by
  by_cases h2 : t.length % 2 = 0
  · have h2i : ((t.length : Int) % 2) = 0 := by omega
    go_enter Tryd.func44, Tryd.ntmps44
    go_wp2
    go_loopw [4, 5] (fun v i wr => ∃ k : Nat, k ≤ t.length ∧ k % 2 = 0 ∧ i = .int .i64 k ∧ allin hexs (t.take k) ∧ Own w.heap.size v (pairs ((t.take k).map (pl hexs))) w wr) (fun _ i _ => t.length - (intOf i).toNat)
    case atStart => exact ⟨0, by omega, rfl, rfl, (by intro c hc; simp at hc), Own.nil w⟩
    case round =>
      obtain ⟨k, hk, hk2, rfl, hall, hb⟩ := hrel
      clear h2i
      by_cases hlt : k < t.length
      · have hlt2 : k + 1 < t.length := by omega
        have hle2 : k + 2 ≤ t.length := by omega
        clear h2
        by_cases hin1 : 0 ≤ indexByte hexs t[k]
        · by_cases hin2 : 0 ≤ indexByte hexs t[k + 1]
          · have hallk : allin hexs (t.take (k + 2)) := by
              rw [take2 t k hlt2]
              intro c hc
              rcases List.mem_append.1 hc with hc | hc
              · exact hall c hc
              · simp at hc; rcases hc with rfl | rfl
                · exact hin1
                · exact hin2
            have HALL := hide hallk
            have hpl1 := pl_lt hexs t[k] hin1
            have hpl2 := pl_lt hexs t[k + 1] hin2
            rw [show hexs.length = 16 from rfl] at hpl1 hpl2
            have hnx := hide (show pairs ((t.take (k + 2)).map (pl hexs)) = pairs ((t.take k).map (pl hexs)) ++ [UInt8.ofNat (16 * pl hexs t[k] + pl hexs t[k + 1])] by rw [take2 t k hlt2, List.map_append, pairs_app _ _ (by rw [List.length_map, List.length_take]; omega)]; rfl)
            have hol := pairs_len ((t.take k).map (pl hexs))
            have hol2 : (pairs ((t.take k).map (pl hexs))).length ≤ t.length := by rw [List.length_map, List.length_take] at hol; omega
            have HP1 := hide (pl_int hin1)
            have HP2 := hide (pl_int hin2)
            clear hol hall hallk hin1 hin2
            generalize pairs ((t.take k).map (pl hexs)) = O at *
            generalize pl hexs t[k] = P1 at *
            generalize pl hexs t[k + 1] = P2 at *
            have HB := hide hb
            clear hb
            go_wp2_with fail
            refine (place_any hexs t[k] _ (by decide)).mono ?_
            rintro e w' ⟨rfl, rfl⟩
            rw [unhide HP1]
            go_wp2_with fail
            refine (place_any hexs t[k + 1] _ (by decide)).mono ?_
            rintro e w' ⟨rfl, rfl⟩
            rw [unhide HP2]
            go_wp2_with (at_builtin; refine push rfl (.tmp 33) (.tmp 39) rfl w.heap.size _ O (by rfl) w _ _ (UInt8.ofNat (16 * P1 + P2)) (by have := Six.toNat_ofNat (16 * P1 + P2) (by omega); omega) (unhide HB) (by rfl) (by omega) ?_; intro v2 w2 hb2)
            go_roundw
            case rel => exact ⟨k + 2, by omega, by omega, by go_num, unhide HALL, by rw [unhide hnx]; exact hb2⟩
            case measure => simp [intOf]; omega
          · have hno := hide (refun4_no (t := t) (fun h => hin2 (h.2 t[k + 1] (List.getElem_mem hlt2))))
            have hneg : indexByte hexs t[k + 1] < 0 := by omega
            have HP1 := hide (pl_int hin1)
            have hb2 := hb.2.1
            clear hall hin1 hin2 hb
            generalize pairs ((t.take k).map (pl hexs)) = O at *
            generalize pl hexs t[k] = P1 at *
            go_wp2_with fail
            refine (place_any hexs t[k] _ (by decide)).mono ?_
            rintro e w' ⟨rfl, rfl⟩
            rw [unhide HP1]
            go_wp2_with fail
            refine (place_any hexs t[k + 1] _ (by decide)).mono ?_
            rintro e w' ⟨rfl, rfl⟩
            go_wp2
            go_ret2
            exact ⟨ret_no (unhide hno), hb2⟩
        · have hno := hide (refun4_no (t := t) (fun h => hin1 (h.2 t[k] (List.getElem_mem hlt))))
          have hneg : indexByte hexs t[k] < 0 := by omega
          have hneg2 : decide (indexByte hexs t[k] < 0) = true := by simpa using hneg
          have hb2 := hb.2.1
          clear hall hin1 hb
          generalize pairs ((t.take k).map (pl hexs)) = O at *
          go_wp2_with fail
          refine (place_any hexs t[k] _ (by decide)).mono ?_
          rintro e w' ⟨rfl, rfl⟩
          go_wp2_with fail
          refine (place_any hexs t[k + 1] _ (by decide)).mono ?_
          rintro e w' ⟨rfl, rfl⟩
          go_wp2
          go_ret2
          exact ⟨ret_no (unhide hno), hb2⟩
      · have hkl : t.take k = t := List.take_of_length_le (by omega)
        have hd : decide (k < t.length) = false := by simp; omega
        rw [hkl] at hall hb
        have HY := hide (refun4_yes ⟨h2, hall⟩)
        have HB := hide hb
        have HX := hide hb.text
        clear hb hall hkl h2
        go_wp2_with (refine wpList_conv rfl 68 9 (.tmp 41) rfl _ _ (by rfl) (unhide HX) ?_)
        go_ret2
        exact ⟨ret_yes (unhide HY), (unhide HB).2.1⟩
  · have h2i : ((t.length : Int) % 2 != 0) = true := by simp; omega
    have hno := hide (refun4_no (t := t) (fun h => h2 h.1))
    go_enter Tryd.func44, Tryd.ntmps44
    go_wp2
    go_ret2
    exact ⟨ret_no (unhide hno), Below.refl _ _⟩
end Go.Proofs.YthddilflldkmfaaDoor
