import Derived.Test.YtbmcaejbfjpmiaaDoorFls
import Derived.Deep.QuietTactic
import Derived.BigQuiet
namespace Go.Proofs.YtbmcaejbfjpmiaaDoor
open Go.RowKit Go.Lib
theorem indexByte_hd (p : List UInt8) (c : UInt8) : indexByte p c = if (hd c p).length < p.length then ((hd c p).length : Int) else -1 := by
  induction p with
  | nil => simp [indexByte, hd]
  | cons a p ih =>
    unfold indexByte
    by_cases h : a = c
    · subst h
      simp [hd]
    · have h1 : (a == c) = false := by simpa using h
      have h2 : hd c (a :: p) = a :: hd c p := by simp [hd, h]
      rw [h1, ih, h2]
      simp only [Bool.false_eq_true, if_false, List.length_cons]
      split
      · rw [if_neg (by simp), if_pos (by omega)]
        omega
      · rw [if_pos (by simp), if_neg (by omega)]
set_option maxHeartbeats 4000000 in
set_option maxRecDepth 8000 in
theorem cutlite_any (l : List UInt8) (c : UInt8) (w : World) (hl : l.length ≤ 1099511627776) :
    Calls Tryd.prog 41 #[S l, .string ⟨#[c]⟩] w fun e w' => e = .returned (.tuple #[S (hd c l), S (tl c l), .bool (decide ((hd c l).length < l.length))]) ∧ ∃ n, w' = w.drewN n := by
  obtain ⟨X, hX⟩ : ∃ X : ByteArray, X = ⟨l.toArray⟩ := ⟨_, rfl⟩
  have hsz : X.size = l.length := by rw [hX]; simp [ByteArray.size]
  have hdl : X.data.toList = l := by rw [hX]
  have hxe : ∀ a b, X.extract a b = ⟨((l.drop a).take (b - a)).toArray⟩ := by
    intro a b
    subst hX
    rw [extract_eq]
  have HI := hide (Tryd.stringslite_Index_one X c w)
  rw [hdl, indexByte_hd] at HI
  show Calls Tryd.prog 41 #[.string ⟨l.toArray⟩, .string ⟨#[c]⟩] w _
  rw [← hX]
  by_cases hm : (hd c l).length < l.length
  · rw [if_pos hm] at HI
    rw [decide_eq_true hm]
    have e1 : Hid (X.extract 0 (hd c l).length = ⟨(hd c l).toArray⟩) := hide (by rw [hxe, List.drop_zero, Nat.sub_zero, hd_take])
    have e2 : Hid (X.extract ((hd c l).length + 1) l.length = ⟨(tl c l).toArray⟩) := hide (by rw [hxe, tl_drop c l hm, List.take_of_length_le (by simp)])
    generalize hd c l = H at *
    generalize tl c l = T at *
    have i0 : (0 : Int) ≤ (H.length : Int) := by omega
    have i1 : (H.length : Int) ≤ (l.length : Int) := by omega
    have i2 : (0 : Int) ≤ (H.length : Int) + 1 := by omega
    have i3 : (H.length : Int) + 1 ≤ (l.length : Int) := by omega
    clear hxe hdl hX
    go_enter Tryd.func41, Tryd.ntmps41
    go_wp2_with fail
    refine (unhide HI).mono ?_
    rintro e w' ⟨rfl, rfl⟩
    go_wp2_with fail
    go_quiet (fail)
    go_wp2
    go_ret3
    refine ⟨?_, _, rfl⟩
    show Ending.returned (.tuple #[.string (X.extract 0 H.length), .string (X.extract (H.length + 1) l.length), .bool true]) = _
    rw [unhide e1, unhide e2]
  · rw [if_neg hm] at HI
    rw [decide_eq_false hm]
    have hh : hd c l = l ∧ tl c l = [] := by
      rcases hd_tl c l with ⟨_, h1, h2⟩ | h1
      · exact ⟨h1, h2⟩
      · have h2 := congrArg List.length h1
        rw [List.length_append, List.length_cons] at h2
        exact absurd (show (hd c l).length < l.length by omega) hm
    rw [hh.1, hh.2]
    have hX2 := hide hX
    clear hxe hdl hX hh hm
    go_enter Tryd.func41, Tryd.ntmps41
    go_wp2_with fail
    refine (unhide HI).mono ?_
    rintro e w' ⟨rfl, rfl⟩
    go_wp2
    go_ret3
    refine ⟨?_, 0, rfl⟩
    rw [unhide hX2]
    rfl
theorem cut_any (l : List UInt8) (c : UInt8) (w : World) (hl : l.length ≤ 1099511627776) :
    Calls Tryd.prog 30 #[S l, S [c]] w fun e w' => e = .returned (.tuple #[S (hd c l), S (tl c l), .bool (decide ((hd c l).length < l.length))]) ∧ ∃ n, w' = w.drewN n := by
  have H := hide (cutlite_any l c w hl)
  go_enter Tryd.func30, Tryd.ntmps30
  go_wp2_with fail
  refine (unhide H).mono ?_
  rintro e w' ⟨rfl, q, rfl⟩
  go_wp2
  go_ret3
  exact ⟨rfl, q, rfl⟩
end Go.Proofs.YtbmcaejbfjpmiaaDoor
