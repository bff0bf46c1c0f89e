import Derived.Test.YtpidmpefodnffaaGreatDoorZidx
import Derived.Test.YtpidmpefodnffaaGreatDoorZfde
import Derived.Test.YtpidmpefodnffaaGreatDoorPrh
import Derived.Test.YtpidmpefodnffaaGreatDoorZpae
namespace Go.Proofs.YtpidmpefodnffaaGreatDoor
open Go.RowKit
set_option maxHeartbeats 4000000
set_option maxRecDepth 8000
theorem cliG_is {k v : Bs} (h : cliG k v = true) : cliP (cli_na k) (cli_pu v) (cli_of9 v) (cli_ha v) (cli_ol v) (cli_un v) (cli_sc v) (cli_idl v) (cli_ab v) (cli_gr v) (cli_li v) = ((k, v), 0) := beq_iff_eq.1 h
theorem cliG_hd {k v : Bs} (h : cliG k v = true) : k.getD 0 0 = 99 ∧ k.length ≤ 36 ∧ v.length ≤ 200 := by
  have e := cliG_is h
  unfold cliP at e
  split at e
  · rename_i hok
    obtain ⟨b0, b3, b4, b5, hrg, b7, b8, b9, b10⟩ := cliB hok
    have hx := (right_one (s := cli_na k) (by have q := hok; simp only [cliOK, Bool.and_eq_true] at q; exact q.1)).2
    have btx := (right_small hrg).2
    have e1 : cat (lx (cliKl (cli_na k) (cli_pu v) (cli_of9 v) (cli_ha v) (cli_ol v) (cli_un v) (cli_sc v) (cli_idl v) (cli_ab v) (cli_gr v) (cli_li v))) 2 = k := congrArg (fun q => q.1.1) e
    have e2 : cat (lx (cliVl (cli_na k) (cli_pu v) (cli_of9 v) (cli_ha v) (cli_ol v) (cli_un v) (cli_sc v) (cli_idl v) (cli_ab v) (cli_gr v) (cli_li v))) 9 = v := congrArg (fun q => q.1.2) e
    have h0 := congrArg (fun q => q.getD 0 0) e1
    have h1 := congrArg List.length e1
    have h2 := congrArg List.length e2
    simp [cat, lx, cliKl] at h0
    simp [cat, lx, cliKl] at h1
    simp [cat, lx, cliVl, be_len] at h2
    exact ⟨by simpa using h0.symm, by omega, by omega⟩
  · have e3 := congrArg (fun q => q.2) e
    cases e3
end Go.Proofs.YtpidmpefodnffaaGreatDoor
