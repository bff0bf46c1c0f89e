import Derived.Test.YtpidmpefodnffaaGreatDoorOrp
import Derived.Test.YtpidmpefodnffaaGreatDoorZpaa
import Derived.Test.YtpidmpefodnffaaGreatDoorZfde
import Derived.Test.YtpidmpefodnffaaGreatDoorZria
import Derived.Test.YtpidmpefodnffaaGreatDoorZpah
import Derived.Test.YtpidmpefodnffaaGreatDoorZpad
import Derived.Test.YtpidmpefodnffaaGreatDoorPaf

namespace Go.Proofs.YtpidmpefodnffaaGreatDoor
open Go.RowKit
set_option maxRecDepth 8000
/-- A text that was laid is read as it was. -/
theorem tv_laid (most : Nat) (s r : Bs) (hs : s.length ≤ most) (hm : most ≤ 255) : tv most ((be 1 s.length ++ s) ++ r, 0) = s ∧ ts most ((be 1 s.length ++ s) ++ r, 0) = (r, 0) := by
  have ha : ahd (most : Int) = 1 := by unfold ahd; rw [if_pos (by omega)]
  have hl := be_len 1 s.length
  have ht : ((be 1 s.length ++ s) ++ r).take 1 = be 1 s.length := by rw [List.append_assoc, List.take_append_of_le_length (by omega), List.take_of_length_le (by omega)]
  have hd : ((be 1 s.length ++ s) ++ r).drop 1 = s ++ r := by rw [List.append_assoc, List.drop_append_of_le_length (by omega), List.drop_of_length_le (by omega), List.nil_append]
  have hn : nat (be 1 s.length) = s.length := by rw [nat_be]; exact Nat.mod_eq_of_lt (by omega)
  have he : rTextE most ((be 1 s.length ++ s) ++ r) = 0 := by
    unfold rTextE
    rw [if_pos (by omega), ha, ht, hn, if_neg (by simp [hl]), if_neg (by omega), if_neg (by simp [hl])]
  constructor
  · unfold tv
    simp only [he]
    rw [if_pos fine_ok]
    unfold rTextS
    rw [ha, ht, hd, hn]
    simp
  · unfold ts
    simp only [he]
    rw [rGo_ok]
    unfold rTextK
    rw [ha, ht, hn, show (be 1 s.length ++ s ++ r).drop (1 + s.length) = ((be 1 s.length ++ s ++ r).drop 1).drop s.length by rw [List.drop_drop], hd]
    simp
end Go.Proofs.YtpidmpefodnffaaGreatDoor
