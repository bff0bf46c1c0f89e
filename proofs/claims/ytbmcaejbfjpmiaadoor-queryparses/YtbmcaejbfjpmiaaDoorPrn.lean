import Derived.Test.YtbmcaejbfjpmiaaDoorFls
namespace Go.Proofs.YtbmcaejbfjpmiaaDoor
open Go.RowKit Go.Lib
/-- A builder, and one block beside it that the calls leave alone. -/
theorem kept_at {b : Nat} {W W' : World} (o : OthersKept 5 (some b) W W') {f : Nat} {cs : Array Value} (h : W.heap[f]? = some (.cells cs 44 (0, 0))) (hf : f ≠ b) : W'.heap[f]? = some (.cells cs 44 (0, 0)) :=
  o f _ h (fun e => hf (Option.some.inj e)) (fun _ _ e => by cases e)
set_option maxHeartbeats 4000000 in
set_option maxRecDepth 8000 in
theorem print_any (a : Option Addr) (n cap : Nat) (fs : List Fl) (w : World) (hp : Fls w a n fs) (hE : Env w.heap.size w) (hs : 3 * siz fs ≤ 100000000000000) :
    Calls Tryd.prog 20 #[.slice a n cap] w fun e w' => e = .returned (.string ⟨(prt fs).toArray⟩) ∧ Below w.heap.size w w' := by
  have hb0 : Below w.heap.size w (w.alloc (.cells #[.pointer none, .slice none 0 0] 50)) := (Below.refl _ w).alloc (Nat.le_refl _) _
  have HB := hide (show Bd w.heap.size w.heap.size [] (w.alloc (.cells #[.pointer none, .slice none 0 0] 50)) from IsBuilderF.of (fresh_isBuilder 50 5 w))
  have HB0 := hide hb0
  have HP := hide hp
  have hn' : n = fs.length := hp.1
  have HN := hide hn'
  have hfl := siz_len fs
  have HE := hide hE
  have hnl : n ≤ siz fs := by omega
  clear hp hE hb0 hn'
  go_enter Tryd.func20, Tryd.ntmps20
  go_wp2
  go_loopw [8] (fun i wr => ∃ k : Nat, k ≤ n ∧ i = .int .i64 k ∧ Bd w.heap.size w.heap.size (prt (fs.take k)) wr ∧ Below w.heap.size w wr ∧ w.heap.size < wr.heap.size) (fun i _ => n - (Go.RowKit.intOf i).toNat)
  case atStart => exact ⟨0, by omega, rfl, unhide HB, unhide HB0, by simp⟩
  case round =>
    obtain ⟨k, hk, rfl, hbd, hbr, hsz⟩ := hrel
    clear HB HB0
    by_cases hlt : k < n
    · obtain ⟨p, o, rfl, hpl, hc0, hc1⟩ := ((unhide HP).below hbr).at hlt
      have hpa := hide (prt_at fs k (by have := unhide HN; omega))
      have hprl := prt_len fs k (by have := unhide HN; omega)
      have hsa := siz_at fs k (by have := unhide HN; omega)
      have hsl := siz_take_le fs (k + 1)
      generalize fs.getD k f0 = F at *
      obtain ⟨fn, fv⟩ := F
      simp only at hc0 hc1 hsa
      have hBD := hide hbd
      have hBR := hide hbr
      generalize prt (fs.take k) = O at *
      clear hbd hbr
      have hlt' : (k : Int) < (n : Int) := by omega
      have hF0 : (wr.alloc (.cells #[S fn, S fv] 44)).heap[wr.heap.size]? = some (.cells #[S fn, S fv] 44 (0, 0)) := by
        show (wr.heap.push _)[wr.heap.size]? = _
        simp
      have hE0 := hide ((unhide hBR).alloc (o := Obj.cells #[S fn, S fv] 44) (by omega))
      have hI0 := hide (IsBuilderF.alloc (unhide hBD) (.cells #[S fn, S fv] 44))
      have hs0 : wr.heap.size < (wr.alloc (.cells #[S fn, S fv] 44)).heap.size := by simp
      by_cases hk0 : k = 0
      · subst hk0
        rw [Nat.zero_mul, Nat.add_zero] at hc0 hc1
        have hi0 : ¬ ((0 : Int) < ((0 : Nat) : Int)) := by omega
        rw [if_pos rfl, List.nil_append] at hpa
        have hz : siz (fs.take 0) = 0 := by simp [siz]
        have hlO : O.length = 0 := by omega
        go_wp2_with fail
        go_wp2_with (go_at_call 27; refine (escape_any w.heap.size w.heap.size O fn (wr.alloc (.cells #[S fn, S fv] 44)) ((unhide HE).below (unhide hE0)) (unhide hI0) (by omega) (by omega)).mono ?_)
        rintro e W2 ⟨rfl, h2, k2, o2⟩
        have BW2 := hide ((unhide hE0).trans k2)
        have hf2 := kept_at o2 hF0 (by omega)
        have hs2 := k2.size
        have BB2 := hide h2
        have hl2 : (O ++ esc fn).length ≤ O.length + 3 * fn.length := by have := esc_len fn; rw [List.length_append]; omega
        have hpa3 := hide (show prt (fs.take (0 + 1)) = (O ++ esc fn) ++ 61 :: esc fv by rw [unhide hpa]; simp [fld])
        clear h2 o2 k2 hpa
        generalize O ++ esc fn = O2 at *
        go_wp2_with (go_at_call 34; refine (Tryd.Builder_WriteByte_k w.heap.size w.heap.size _ 61 W2 (unhide BB2) (by rw [byteCells_length]; omega) (by omega)).mono ?_)
        rintro e W3 ⟨rfl, h3, k3, o3⟩
        have BW3 := hide ((unhide BW2).trans k3)
        have hf3 := kept_at o3 hf2 (by omega)
        have hs3 := k3.size
        have BB3 := hide (show Bd w.heap.size w.heap.size (O2 ++ [61]) W3 from by unfold Bd; rw [byteCells_append]; exact .inr h3)
        have hl3 : (O2 ++ [61]).length = O2.length + 1 := by simp
        have hpa4 := hide (show prt (fs.take (0 + 1)) = (O2 ++ [61]) ++ esc fv by rw [unhide hpa3]; simp)
        clear h3 k3 o3 hpa3
        generalize O2 ++ [61] = O3 at *
        have cv : W3.cell? ⟨wr.heap.size, 1, none⟩ = some (S fv) := by rw [cell_of_heap hf3]; rfl
        go_wp2_with (go_at_call 27; refine (escape_any w.heap.size w.heap.size O3 fv W3 ((unhide HE).below (unhide BW3)) (unhide BB3) (by omega) (by omega)).mono ?_)
        rintro e W4 ⟨rfl, h4, k4, _⟩
        have BB4 := hide h4
        have BW4 := hide ((unhide BW3).trans k4)
        have hs4 := k4.size
        clear cv h4 k4
        go_wp2
        go_roundw
        case rel => exact ⟨0 + 1, by omega, by go_num, by rw [unhide hpa4]; exact unhide BB4, unhide BW4, by omega⟩
        case measure => simp [Go.RowKit.intOf]; omega
      · have hk1 : (0 : Int) < (k : Int) := by omega
        rw [if_neg hk0] at hpa
        go_wp2_with (go_at_call 34; refine (Tryd.Builder_WriteByte_k w.heap.size w.heap.size _ 38 _ (unhide hI0) (by rw [byteCells_length]; omega) (by omega)).mono ?_)
        rintro e W1 ⟨rfl, h1, k1, o1⟩
        have BW := hide ((unhide hE0).trans k1)
        have hf1 := kept_at o1 hF0 (by omega)
        have hs1 := k1.size
        have BB := hide (show Bd w.heap.size w.heap.size (O ++ [38]) W1 from by unfold Bd; rw [byteCells_append]; exact .inr h1)
        have hlO : (O ++ [38]).length = O.length + 1 := by simp
        have hpa2 := hide (show prt (fs.take (k + 1)) = (O ++ [38]) ++ fld (fn, fv) by rw [unhide hpa]; simp)
        clear h1 k1 o1 hpa
        generalize O ++ [38] = O1 at *
        have cn : W1.cell? ⟨wr.heap.size, 0, none⟩ = some (S fn) := by rw [cell_of_heap hf1]; rfl
        go_wp2_with (go_at_call 27; refine (escape_any w.heap.size w.heap.size O1 fn W1 ((unhide HE).below (unhide BW)) (unhide BB) (by omega) (by omega)).mono ?_)
        rintro e W2 ⟨rfl, h2, k2, o2⟩
        have BW2 := hide ((unhide BW).trans k2)
        have hf2 := kept_at o2 hf1 (by omega)
        have hs2 := k2.size
        have BB2 := hide h2
        have hl2 : (O1 ++ esc fn).length ≤ O1.length + 3 * fn.length := by have := esc_len fn; rw [List.length_append]; omega
        have hpa3 := hide (show prt (fs.take (k + 1)) = (O1 ++ esc fn) ++ 61 :: esc fv by rw [unhide hpa2]; simp [fld])
        clear cn h2 o2 k2 hpa2
        generalize O1 ++ esc fn = O2 at *
        go_wp2_with (go_at_call 34; refine (Tryd.Builder_WriteByte_k w.heap.size w.heap.size _ 61 W2 (unhide BB2) (by rw [byteCells_length]; omega) (by omega)).mono ?_)
        rintro e W3 ⟨rfl, h3, k3, o3⟩
        have BW3 := hide ((unhide BW2).trans k3)
        have hf3 := kept_at o3 hf2 (by omega)
        have hs3 := k3.size
        have BB3 := hide (show Bd w.heap.size w.heap.size (O2 ++ [61]) W3 from by unfold Bd; rw [byteCells_append]; exact .inr h3)
        have hl3 : (O2 ++ [61]).length = O2.length + 1 := by simp
        have hpa4 := hide (show prt (fs.take (k + 1)) = (O2 ++ [61]) ++ esc fv by rw [unhide hpa3]; simp)
        clear h3 k3 o3 hpa3
        generalize O2 ++ [61] = O3 at *
        have cv : W3.cell? ⟨wr.heap.size, 1, none⟩ = some (S fv) := by rw [cell_of_heap hf3]; rfl
        go_wp2_with (go_at_call 27; refine (escape_any w.heap.size w.heap.size O3 fv W3 ((unhide HE).below (unhide BW3)) (unhide BB3) (by omega) (by omega)).mono ?_)
        rintro e W4 ⟨rfl, h4, k4, _⟩
        have BB4 := hide h4
        have BW4 := hide ((unhide BW3).trans k4)
        have hs4 := k4.size
        clear cv h4 k4
        go_wp2
        go_roundw
        case rel => exact ⟨k + 1, by omega, by go_num, by rw [unhide hpa4]; exact unhide BB4, unhide BW4, by omega⟩
        case measure => simp [Go.RowKit.intOf]; omega
    · have hd : decide (k < n) = false := by simp; omega
      have e : fs.take k = fs := List.take_of_length_le (by have := unhide HN; omega)
      rw [e] at hbd
      have hBD := hide hbd
      have hBR := hide hbr
      clear hbd hbr e
      go_wp2_with (go_at_call 28; refine (Tryd.Builder_String_any_k w.heap.size w.heap.size (prt fs) wr (unhide hBD) (by omega)).mono ?_)
      rintro e W2 ⟨rfl, _, k2, _⟩
      go_wp2
      go_ret
      exact ⟨rfl, (unhide hBR).trans k2⟩
end Go.Proofs.YtbmcaejbfjpmiaaDoor
