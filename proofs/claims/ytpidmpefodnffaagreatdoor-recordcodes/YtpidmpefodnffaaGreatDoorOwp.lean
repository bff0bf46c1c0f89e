import Derived.Test.YtpidmpefodnffaaGreatDoorZidx
import Derived.Test.YtpidmpefodnffaaGreatDoorZfde
import Derived.Test.YtpidmpefodnffaaGreatDoorZria
import Derived.Test.YtpidmpefodnffaaGreatDoorZpah
import Derived.Test.YtpidmpefodnffaaGreatDoorZpad
import Derived.Test.YtpidmpefodnffaaGreatDoorPaf
namespace Go.Proofs.YtpidmpefodnffaaGreatDoor
open Go.RowKit
set_option maxHeartbeats 4000000
set_option maxRecDepth 8000
theorem codG_is {k v : Bs} (h : codG k v = true) : codP (cod_id k) (cod_cl v) (cod_su v) (cod_sc v) (cod_ha v) (cod_ch v) (cod_un v) (cod_st v) (cod_fa v) = ((k, v), 0) := beq_iff_eq.1 h
theorem codG_hd {k v : Bs} (h : codG k v = true) : k.getD 0 0 = 97 ∧ k.length ≤ 36 ∧ v.length ≤ 200 := by
  have e := codG_is h
  unfold codP at e
  split at e
  · rename_i hok
    obtain ⟨b0, b1, b2, hrg, b4, b5, b6, b7, b8⟩ := codB hok
    have hx : (cod_ha v).length = 32 ∧ (cod_ch v).length = 32 := by have q := hok; simp only [codOK, Bool.and_eq_true, beq_iff_eq] at q; exact ⟨q.2.2.2.2.1, q.2.2.2.2.2.1⟩
    have btx := (right_small hrg).2
    have e1 : cat (lx (codKl (cod_id k) (cod_cl v) (cod_su v) (cod_sc v) (cod_ha v) (cod_ch v) (cod_un v) (cod_st v) (cod_fa v))) 2 = k := congrArg (fun q => q.1.1) e
    have e2 : cat (lx (codVl (cod_id k) (cod_cl v) (cod_su v) (cod_sc v) (cod_ha v) (cod_ch v) (cod_un v) (cod_st v) (cod_fa v))) 8 = v := congrArg (fun q => q.1.2) e
    have h0 := congrArg (fun q => q.getD 0 0) e1
    have h1 := congrArg List.length e1
    have h2 := congrArg List.length e2
    simp [cat, lx, codKl] at h0
    simp [cat, lx, codKl, be_len] at h1
    simp [cat, lx, codVl, be_len] at h2
    exact ⟨by simpa using h0.symm, by omega, by omega⟩
  · have e3 := congrArg (fun q => q.2) e
    cases e3
end Go.Proofs.YtpidmpefodnffaaGreatDoor
