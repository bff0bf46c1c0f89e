import Derived.Test.YthddilflldkmfaaDoorRefc
namespace Go.Proofs.YthddilflldkmfaaDoor
open Go.RowKit Go.Lib
/-- Pairs of signs as bytes. -/
def pairs : List Nat → List UInt8
  | a :: b :: r => UInt8.ofNat (16 * a + b) :: pairs r
  | _ => []
theorem pairs_app (x y : List Nat) (h : x.length % 2 = 0) : pairs (x ++ y) = pairs x ++ pairs y := by
  induction x using pairs.induct with
  | case1 a b r ih => simp only [List.cons_append, pairs]; rw [ih (by simp only [List.length_cons] at h; omega)]
  | case2 x hx =>
    match x, h with
    | [], _ => rfl
    | [a], h => simp at h
    | a :: b :: r, _ => exact absurd rfl (hx a b r)
theorem pairs_len (x : List Nat) : (pairs x).length ≤ x.length := by
  induction x using pairs.induct with
  | case1 a b r ih => simp only [pairs, List.length_cons]; omega
  | case2 x hx =>
    match x with
    | [] => simp [pairs]
    | [a] => simp [pairs]
    | a :: b :: r => exact absurd rfl (hx a b r)
def refun4 (t : List UInt8) : Option (List UInt8) := if t.length % 2 = 0 ∧ allin hexs t then some (pairs (t.map (pl hexs))) else none
theorem refun4_no {t : List UInt8} (h : ¬ (t.length % 2 = 0 ∧ allin hexs t)) : refun4 t = none := by unfold refun4; rw [if_neg h]
theorem refun4_yes {t : List UInt8} (h : t.length % 2 = 0 ∧ allin hexs t) : refun4 t = some (pairs (t.map (pl hexs))) := by unfold refun4; rw [if_pos h]
theorem take2 (s : List UInt8) (i : Nat) (h : i + 1 < s.length) : s.take (i + 2) = s.take i ++ [s[i], s[i + 1]] := by
  have h1 := take_snoc s i (by omega)
  have h2 : s.take (i + 2) = s.take (i + 1) ++ [s[i + 1]] := take_snoc s (i + 1) (by omega)
  rw [h2, h1, List.append_assoc]; rfl
set_option maxHeartbeats 1000000 in
set_option maxRecDepth 8000 in
theorem reffromhex_any (t : List UInt8) (w : World) (ht : t.length ≤ 17592186044416) :
    Calls Tryd.prog 44 #[.string ⟨t.toArray⟩] w fun e w' => e = .returned (told2 (refun4 t)) ∧ Below w.heap.size w w' := by
  by_cases h2 : t.length % 2 = 0
  · have h2i : ((t.length : Int) % 2) = 0 := by omega
    go_enter Tryd.func44, Tryd.ntmps44
    go_wp2
    go_loopw [4, 5] (fun v i wr => ∃ k : Nat, k ≤ t.length ∧ k % 2 = 0 ∧ i = .int .i64 k ∧ allin hexs (t.take k) ∧ Own w.heap.size v (pairs ((t.take k).map (pl hexs))) w wr) (fun _ i _ => t.length - (intOf i).toNat)
    case atStart => exact ⟨0, by omega, rfl, rfl, (by intro c hc; simp at hc), Own.nil w⟩
    case round =>
      obtain ⟨k, hk, hk2, rfl, hall, hb⟩ := hrel
      clear h2i
      by_cases hlt : k < t.length
      · have hlt2 : k + 1 < t.length := by omega
        have hle2 : k + 2 ≤ t.length := by omega
        clear h2
        by_cases hin1 : 0 ≤ indexByte hexs t[k]
        · by_cases hin2 : 0 ≤ indexByte hexs t[k + 1]
          · have hallk : allin hexs (t.take (k + 2)) := by
              rw [take2 t k hlt2]
              intro c hc
              rcases List.mem_append.1 hc with hc | hc
              · exact hall c hc
              · simp at hc; rcases hc with rfl | rfl
                · exact hin1
                · exact hin2
            have HALL := hide hallk
            have hpl1 := pl_lt hexs t[k] hin1
            have hpl2 := pl_lt hexs t[k + 1] hin2
            rw [show hexs.length = 16 from rfl] at hpl1 hpl2
            have hnx := hide (show pairs ((t.take (k + 2)).map (pl hexs)) = pairs ((t.take k).map (pl hexs)) ++ [UInt8.ofNat (16 * pl hexs t[k] + pl hexs t[k + 1])] by rw [take2 t k hlt2, List.map_append, pairs_app _ _ (by rw [List.length_map, List.length_take]; omega)]; rfl)
            have hol := pairs_len ((t.take k).map (pl hexs))
            have hol2 : (pairs ((t.take k).map (pl hexs))).length ≤ t.length := by rw [List.length_map, List.length_take] at hol; omega
            have HP1 := hide (pl_int hin1)
            have HP2 := hide (pl_int hin2)
            clear hol hall hallk hin1 hin2
            generalize pairs ((t.take k).map (pl hexs)) = O at *
            generalize pl hexs t[k] = P1 at *
            generalize pl hexs t[k + 1] = P2 at *
            have HB := hide hb
            clear hb
            go_wp2_with fail
            refine (place_any hexs t[k] _ (by decide)).mono ?_
            rintro e w' ⟨rfl, rfl⟩
            rw [unhide HP1]
            go_wp2_with fail
            refine (place_any hexs t[k + 1] _ (by decide)).mono ?_
            rintro e w' ⟨rfl, rfl⟩
            rw [unhide HP2]
            go_wp2_with (at_builtin; refine push rfl (.tmp 33) (.tmp 39) rfl w.heap.size _ O (by rfl) w _ _ (UInt8.ofNat (16 * P1 + P2)) (by have := Six.toNat_ofNat (16 * P1 + P2) (by omega); omega) (unhide HB) (by rfl) (by omega) ?_; intro v2 w2 hb2)
            go_roundw
            case rel => exact ⟨k + 2, by omega, by omega, by go_num, unhide HALL, by rw [unhide hnx]; exact hb2⟩
            case measure => simp [intOf]; omega
          · have hno := hide (refun4_no (t := t) (fun h => hin2 (h.2 t[k + 1] (List.getElem_mem hlt2))))
            have hneg : indexByte hexs t[k + 1] < 0 := by omega
            have HP1 := hide (pl_int hin1)
            have hb2 := hb.2.1
            clear hall hin1 hin2 hb
            generalize pairs ((t.take k).map (pl hexs)) = O at *
            generalize pl hexs t[k] = P1 at *
            go_wp2_with fail
            refine (place_any hexs t[k] _ (by decide)).mono ?_
            rintro e w' ⟨rfl, rfl⟩
            rw [unhide HP1]
            go_wp2_with fail
            refine (place_any hexs t[k + 1] _ (by decide)).mono ?_
            rintro e w' ⟨rfl, rfl⟩
            go_wp2
            go_ret2
            exact ⟨ret_no (unhide hno), hb2⟩
        · have hno := hide (refun4_no (t := t) (fun h => hin1 (h.2 t[k] (List.getElem_mem hlt))))
          have hneg : indexByte hexs t[k] < 0 := by omega
          have hneg2 : decide (indexByte hexs t[k] < 0) = true := by simpa using hneg
          have hb2 := hb.2.1
          clear hall hin1 hb
          generalize pairs ((t.take k).map (pl hexs)) = O at *
          go_wp2_with fail
          refine (place_any hexs t[k] _ (by decide)).mono ?_
          rintro e w' ⟨rfl, rfl⟩
          go_wp2_with fail
          refine (place_any hexs t[k + 1] _ (by decide)).mono ?_
          rintro e w' ⟨rfl, rfl⟩
          go_wp2
          go_ret2
          exact ⟨ret_no (unhide hno), hb2⟩
      · have hkl : t.take k = t := List.take_of_length_le (by omega)
        have hd : decide (k < t.length) = false := by simp; omega
        rw [hkl] at hall hb
        have HY := hide (refun4_yes ⟨h2, hall⟩)
        have HB := hide hb
        have HX := hide hb.text
        clear hb hall hkl h2
        go_wp2_with (refine wpList_conv rfl 68 9 (.tmp 41) rfl _ _ (by rfl) (unhide HX) ?_)
        go_ret2
        exact ⟨ret_yes (unhide HY), (unhide HB).2.1⟩
  · have h2i : ((t.length : Int) % 2 != 0) = true := by simp; omega
    have hno := hide (refun4_no (t := t) (fun h => h2 h.1))
    go_enter Tryd.func44, Tryd.ntmps44
    go_wp2
    go_ret2
    exact ⟨ret_no (unhide hno), Below.refl _ _⟩
end Go.Proofs.YthddilflldkmfaaDoor
