import Derived.Test.YtpidmpefodnffaaGreatDoorZidx
import Derived.Test.YtpidmpefodnffaaGreatDoorZpac
import Derived.Test.YtpidmpefodnffaaGreatDoorZfde
import Derived.Test.YtpidmpefodnffaaGreatDoorZfdi
namespace Go.Proofs.YtpidmpefodnffaaGreatDoor
open Go.RowKit
set_option maxHeartbeats 4000000
set_option maxRecDepth 8000
theorem tokG_is {k v : Bs} (h : tokG k v = true) : tokP (tok_id k) (tok_fa v) (tok_ge v) (tok_ha v) (tok_mi v) (tok_sp v) (tok_at9 v) (tok_ne v) (tok_se v) = ((k, v), 0) := beq_iff_eq.1 h
theorem tokG_hd {k v : Bs} (h : tokG k v = true) : k.getD 0 0 = 116 ∧ k.length ≤ 36 ∧ v.length ≤ 200 := by
  have e := tokG_is h
  unfold tokP at e
  split at e
  · rename_i hok
    obtain ⟨b0, b1, b2, b3, b4, b6, b7, b8⟩ := tokB hok
    have e1 : cat (lx (tokKl (tok_id k) (tok_fa v) (tok_ge v) (tok_ha v) (tok_mi v) (tok_sp v) (tok_at9 v) (tok_ne v) (tok_se v))) 2 = k := congrArg (fun q => q.1.1) e
    have e2 : cat (lx (tokVl (tok_id k) (tok_fa v) (tok_ge v) (tok_ha v) (tok_mi v) (tok_sp v) (tok_at9 v) (tok_ne v) (tok_se v))) 8 = v := congrArg (fun q => q.1.2) e
    have h0 := congrArg (fun q => q.getD 0 0) e1
    have h1 := congrArg List.length e1
    have h2 := congrArg List.length e2
    simp [cat, lx, tokKl] at h0
    simp [cat, lx, tokKl, be_len] at h1
    simp [cat, lx, tokVl, be_len] at h2
    exact ⟨by simpa using h0.symm, by omega, by omega⟩
  · have e3 := congrArg (fun q => q.2) e
    cases e3
theorem keyG_is {k v : Bs} (h : keyG k v = true) : keyP (key_nu k) (key_se v) (key_fr v) (key_un v) = ((k, v), 0) := beq_iff_eq.1 h
theorem keyG_hd {k v : Bs} (h : keyG k v = true) : k.getD 0 0 = 107 ∧ k.length ≤ 36 ∧ v.length ≤ 200 := by
  have e := keyG_is h
  unfold keyP at e
  split at e
  · rename_i hok
    obtain ⟨b0, b1, b2, b3⟩ := keyB hok
    have e1 : cat (lx (keyKl (key_nu k) (key_se v) (key_fr v) (key_un v))) 2 = k := congrArg (fun q => q.1.1) e
    have e2 : cat (lx (keyVl (key_nu k) (key_se v) (key_fr v) (key_un v))) 3 = v := congrArg (fun q => q.1.2) e
    have h0 := congrArg (fun q => q.getD 0 0) e1
    have h1 := congrArg List.length e1
    have h2 := congrArg List.length e2
    simp [cat, lx, keyKl] at h0
    simp [cat, lx, keyKl, be_len] at h1
    simp [cat, lx, keyVl, be_len] at h2
    exact ⟨by simpa using h0.symm, by omega, by omega⟩
  · have e3 := congrArg (fun q => q.2) e
    cases e3
theorem eveG_is {k v : Bs} (h : eveG k v = true) : eveP (eve_nu k) (eve_ti v) (eve_ki v) (eve_fa v) (eve_wh v) = ((k, v), 0) := beq_iff_eq.1 h
theorem eveG_hd {k v : Bs} (h : eveG k v = true) : k.getD 0 0 = 101 ∧ k.length ≤ 36 ∧ v.length ≤ 200 := by
  have e := eveG_is h
  unfold eveP at e
  split at e
  · rename_i hok
    obtain ⟨b0, b1, b2, b3, b4⟩ := eveB hok
    have e1 : cat (lx (eveKl (eve_nu k) (eve_ti v) (eve_ki v) (eve_fa v) (eve_wh v))) 2 = k := congrArg (fun q => q.1.1) e
    have e2 : cat (lx (eveVl (eve_nu k) (eve_ti v) (eve_ki v) (eve_fa v) (eve_wh v))) 4 = v := congrArg (fun q => q.1.2) e
    have h0 := congrArg (fun q => q.getD 0 0) e1
    have h1 := congrArg List.length e1
    have h2 := congrArg List.length e2
    simp [cat, lx, eveKl] at h0
    simp [cat, lx, eveKl, be_len] at h1
    simp [cat, lx, eveVl, be_len] at h2
    exact ⟨by simpa using h0.symm, by omega, by omega⟩
  · have e3 := congrArg (fun q => q.2) e
    cases e3
theorem chaG_is {k v : Bs} (h : chaG k v = true) : chaP (cha_ba v) (cha_ne v) (cha_bh v) (cha_nh v) = ((k, v), 0) := beq_iff_eq.1 h
theorem chaG_hd {k v : Bs} (h : chaG k v = true) : k.getD 0 0 = 104 ∧ k.length ≤ 36 ∧ v.length ≤ 200 := by
  have e := chaG_is h
  unfold chaP at e
  split at e
  · rename_i hok
    obtain ⟨b0, b1, b2, b3⟩ := chaB hok
    have hx : (cha_bh v).length = 32 ∧ (cha_nh v).length = 32 := by have q := hok; simp only [chaOK, Bool.and_eq_true, beq_iff_eq] at q; exact ⟨q.2.2.2.2.2.1, q.2.2.2.2.2.2⟩
    have e1 : cat (lx (chaKl (cha_ba v) (cha_ne v) (cha_bh v) (cha_nh v))) 1 = k := congrArg (fun q => q.1.1) e
    have e2 : cat (lx (chaVl (cha_ba v) (cha_ne v) (cha_bh v) (cha_nh v))) 4 = v := congrArg (fun q => q.1.2) e
    have h0 := congrArg (fun q => q.getD 0 0) e1
    have h1 := congrArg List.length e1
    have h2 := congrArg List.length e2
    simp [cat, lx, chaKl] at h0
    simp [cat, lx, chaKl] at h1
    simp [cat, lx, chaVl, be_len] at h2
    exact ⟨by simpa using h0.symm, by omega, by omega⟩
  · have e3 := congrArg (fun q => q.2) e
    cases e3
end Go.Proofs.YtpidmpefodnffaaGreatDoor
