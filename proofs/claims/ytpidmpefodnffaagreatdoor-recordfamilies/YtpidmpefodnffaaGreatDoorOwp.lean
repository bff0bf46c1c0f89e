import Derived.Test.YtpidmpefodnffaaGreatDoorZidx
import Derived.Test.YtpidmpefodnffaaGreatDoorZfde
import Derived.Test.YtpidmpefodnffaaGreatDoorZfdj
import Derived.Test.YtpidmpefodnffaaGreatDoorZpaf
namespace Go.Proofs.YtpidmpefodnffaaGreatDoor
open Go.RowKit
set_option maxHeartbeats 4000000
set_option maxRecDepth 8000
theorem famG_is {k v : Bs} (h : famG k v = true) : famP (fam_id k) (fam_cl v) (fam_su v) (fam_sc v) (fam_cr v) (fam_us v) (fam_idl v) (fam_ab v) (fam_gr v) (fam_ge v) (fam_to v) (fam_st v) (fam_en v) (fam_co v) = ((k, v), 0) := beq_iff_eq.1 h
theorem famG_hd {k v : Bs} (h : famG k v = true) : k.getD 0 0 = 102 ∧ k.length ≤ 36 ∧ v.length ≤ 200 := by
  have e := famG_is h
  unfold famP at e
  split at e
  · rename_i hok
    obtain ⟨b0, b1, b2, hrg, b4, b5, b6, b7, b8, b9, b10, b11, b12, b13⟩ := famB hok
    have btx := (right_small hrg).2
    have e1 : cat (lx (famKl (fam_id k) (fam_cl v) (fam_su v) (fam_sc v) (fam_cr v) (fam_us v) (fam_idl v) (fam_ab v) (fam_gr v) (fam_ge v) (fam_to v) (fam_st v) (fam_en v) (fam_co v))) 2 = k := congrArg (fun q => q.1.1) e
    have e2 : cat (lx (famVl (fam_id k) (fam_cl v) (fam_su v) (fam_sc v) (fam_cr v) (fam_us v) (fam_idl v) (fam_ab v) (fam_gr v) (fam_ge v) (fam_to v) (fam_st v) (fam_en v) (fam_co v))) 13 = v := congrArg (fun q => q.1.2) e
    have h0 := congrArg (fun q => q.getD 0 0) e1
    have h1 := congrArg List.length e1
    have h2 := congrArg List.length e2
    simp [cat, lx, famKl] at h0
    simp [cat, lx, famKl, be_len] at h1
    simp [cat, lx, famVl, be_len] at h2
    exact ⟨by simpa using h0.symm, by omega, by omega⟩
  · have e3 := congrArg (fun q => q.2) e
    cases e3
end Go.Proofs.YtpidmpefodnffaaGreatDoor
