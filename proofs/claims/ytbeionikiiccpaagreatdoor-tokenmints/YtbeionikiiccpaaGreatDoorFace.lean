import Derived.Test.YtbeionikiiccpaaGreatDoorDeco
import Derived.Test.YtbeionikiiccpaaGreatDoorZcsh
namespace Go.Proofs.YtbeionikiiccpaaGreatDoor
open Go.RowKit Go.Lib
theorem ba_app (a b : List UInt8) : ((⟨a.toArray⟩ : ByteArray) ++ ⟨b.toArray⟩) = ⟨(a ++ b).toArray⟩ := by
  apply ByteArray.ext
  rw [ByteArray.data_append]
  simp
theorem told2_is (r : Option (List UInt8)) : ∃ x y, told2 r = .tuple #[.string x, .int .i64 y] := ⟨_, _, rfl⟩
theorem repeat_one (n : Nat) : repeatL [61] n = List.replicate n 61 := by
  induction n with
  | zero => rfl
  | succ n ih => rw [repeatL, ih, List.replicate_succ]; rfl
set_option maxRecDepth 8000 in
set_option maxHeartbeats 1000000 in
theorem base64_any (s : List UInt8) (w : World) (hs : s.length ≤ 17592186044416) :
    Calls Tryz.prog 28 #[.string ⟨s.toArray⟩] w fun e w' => e = .returned (.string ⟨(enc names false s).toArray⟩) ∧ Below w.heap.size w w' := by
  go_enter Tryz.func28, Tryz.ntmps28
  go_wp2_with fail
  refine (spell6_any s names w hs rfl).mono ?_
  rintro e w1 ⟨rfl, hb⟩
  go_wp2
  go_ret
  exact ⟨ret_str (enc_false _ _).symm, hb⟩
set_option maxRecDepth 8000 in
set_option maxHeartbeats 1000000 in
theorem frombase64_any (t : List UInt8) (w : World) (ht : t.length ≤ 17592186044416) :
    Calls Tryz.prog 54 #[.string ⟨t.toArray⟩] w fun e w' => e = .returned (told2 (d64 t)) ∧ Below w.heap.size w w' := by
  unfold d64
  go_enter Tryz.func54, Tryz.ntmps54
  go_wp2_with fail
  refine (unspell6_any t names w ht rfl).mono ?_
  rintro e w1 ⟨rfl, hb⟩
  obtain ⟨x, y, hxy⟩ := told2_is (un6 names t)
  rw [hxy]
  have HX := hide hxy
  clear hxy
  go_wp2
  go_ret2
  exact ⟨by rw [unhide HX]; rfl, hb⟩
set_option maxRecDepth 8000 in
set_option maxHeartbeats 1000000 in
theorem refbase64_any (s : List UInt8) (w : World) (hs : s.length ≤ 17592186044416) :
    Calls Tryz.prog 15 #[.string ⟨s.toArray⟩] w fun e w' => e = .returned (.string ⟨(enc names false s).toArray⟩) ∧ Below w.heap.size w w' := by
  go_enter Tryz.func15, Tryz.ntmps15
  go_wp2_with fail
  refine (refsigns_any s names false w hs rfl).mono ?_
  rintro e w1 ⟨rfl, hb⟩
  go_wp2
  go_ret
  exact ⟨rfl, hb⟩
theorem by6_len {A t m : List UInt8} (h : by6 A t = some m) : m.length ≤ t.length := by
  unfold by6 at h
  split at h
  · have := readAll_len (t.map (pl A))
    rw [List.length_map] at this
    rw [← Option.some.inj h]; exact this
  · cases h
theorem unf_len (t : List UInt8) : (unf t).length ≤ t.length := by
  unfold unf
  rw [List.length_reverse]
  have := (List.dropWhile_sublist (l := t.reverse) (fun x => x == 61)).length_le
  rw [List.length_reverse] at this
  exact this
end Go.Proofs.YtbeionikiiccpaaGreatDoor
