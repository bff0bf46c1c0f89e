import Derived.Test.YtpidmpefodnffaaGreatDoorZidx
import Derived.Test.YtpidmpefodnffaaGreatDoorZpac
import Derived.Test.YtpidmpefodnffaaGreatDoorZpad
import Derived.Test.YtpidmpefodnffaaGreatDoorZpae
import Derived.Test.YtpidmpefodnffaaGreatDoorZpaf
namespace Go.Proofs.YtpidmpefodnffaaGreatDoor
open Go.RowKit
set_option maxHeartbeats 4000000
set_option maxRecDepth 8000
theorem cliG_is {k v : Bs} (h : cliG k v = true) : cliP (cli_na k) (cli_pu v) (cli_of9 v) (cli_ha v) (cli_ol v) (cli_un v) (cli_sc v) (cli_idl v) (cli_ab v) (cli_gr v) (cli_li v) = ((k, v), 0) := beq_iff_eq.1 h
theorem cliG_hd {k v : Bs} (h : cliG k v = true) : k.getD 0 0 = 99 ∧ k.length ≤ 36 ∧ v.length ≤ 200 := by
  have e := cliG_is h
  unfold cliP at e
  split at e
  · rename_i hok
    obtain ⟨b0, b3, b4, b5, hrg, b7, b8, b9, b10⟩ := cliB hok
    have hx := (right_one (s := cli_na k) (by have q := hok; simp only [cliOK, Bool.and_eq_true] at q; exact q.1)).2
    have btx := (right_small hrg).2
    have e1 : cat (lx (cliKl (cli_na k) (cli_pu v) (cli_of9 v) (cli_ha v) (cli_ol v) (cli_un v) (cli_sc v) (cli_idl v) (cli_ab v) (cli_gr v) (cli_li v))) 2 = k := congrArg (fun q => q.1.1) e
    have e2 : cat (lx (cliVl (cli_na k) (cli_pu v) (cli_of9 v) (cli_ha v) (cli_ol v) (cli_un v) (cli_sc v) (cli_idl v) (cli_ab v) (cli_gr v) (cli_li v))) 9 = v := congrArg (fun q => q.1.2) e
    have h0 := congrArg (fun q => q.getD 0 0) e1
    have h1 := congrArg List.length e1
    have h2 := congrArg List.length e2
    simp [cat, lx, cliKl] at h0
    simp [cat, lx, cliKl] at h1
    simp [cat, lx, cliVl, be_len] at h2
    exact ⟨by simpa using h0.symm, by omega, by omega⟩
  · have e3 := congrArg (fun q => q.2) e
    cases e3
theorem famG_is {k v : Bs} (h : famG k v = true) : famP (fam_id k) (fam_cl v) (fam_su v) (fam_sc v) (fam_cr v) (fam_us v) (fam_idl v) (fam_ab v) (fam_gr v) (fam_ge v) (fam_to v) (fam_st v) (fam_en v) (fam_co v) = ((k, v), 0) := beq_iff_eq.1 h
theorem famG_hd {k v : Bs} (h : famG k v = true) : k.getD 0 0 = 102 ∧ k.length ≤ 36 ∧ v.length ≤ 200 := by
  have e := famG_is h
  unfold famP at e
  split at e
  · rename_i hok
    obtain ⟨b0, b1, b2, hrg, b4, b5, b6, b7, b8, b9, b10, b11, b12, b13⟩ := famB hok
    have btx := (right_small hrg).2
    have e1 : cat (lx (famKl (fam_id k) (fam_cl v) (fam_su v) (fam_sc v) (fam_cr v) (fam_us v) (fam_idl v) (fam_ab v) (fam_gr v) (fam_ge v) (fam_to v) (fam_st v) (fam_en v) (fam_co v))) 2 = k := congrArg (fun q => q.1.1) e
    have e2 : cat (lx (famVl (fam_id k) (fam_cl v) (fam_su v) (fam_sc v) (fam_cr v) (fam_us v) (fam_idl v) (fam_ab v) (fam_gr v) (fam_ge v) (fam_to v) (fam_st v) (fam_en v) (fam_co v))) 13 = v := congrArg (fun q => q.1.2) e
    have h0 := congrArg (fun q => q.getD 0 0) e1
    have h1 := congrArg List.length e1
    have h2 := congrArg List.length e2
    simp [cat, lx, famKl] at h0
    simp [cat, lx, famKl, be_len] at h1
    simp [cat, lx, famVl, be_len] at h2
    exact ⟨by simpa using h0.symm, by omega, by omega⟩
  · have e3 := congrArg (fun q => q.2) e
    cases e3
theorem tokG_is {k v : Bs} (h : tokG k v = true) : tokP (tok_id k) (tok_fa v) (tok_ge v) (tok_ha v) (tok_mi v) (tok_sp v) (tok_at9 v) (tok_ne v) (tok_se v) = ((k, v), 0) := beq_iff_eq.1 h
theorem tokG_hd {k v : Bs} (h : tokG k v = true) : k.getD 0 0 = 116 ∧ k.length ≤ 36 ∧ v.length ≤ 200 := by
  have e := tokG_is h
  unfold tokP at e
  split at e
  · rename_i hok
    obtain ⟨b0, b1, b2, b3, b4, b6, b7, b8⟩ := tokB hok
    have e1 : cat (lx (tokKl (tok_id k) (tok_fa v) (tok_ge v) (tok_ha v) (tok_mi v) (tok_sp v) (tok_at9 v) (tok_ne v) (tok_se v))) 2 = k := congrArg (fun q => q.1.1) e
    have e2 : cat (lx (tokVl (tok_id k) (tok_fa v) (tok_ge v) (tok_ha v) (tok_mi v) (tok_sp v) (tok_at9 v) (tok_ne v) (tok_se v))) 8 = v := congrArg (fun q => q.1.2) e
    have h0 := congrArg (fun q => q.getD 0 0) e1
    have h1 := congrArg List.length e1
    have h2 := congrArg List.length e2
    simp [cat, lx, tokKl] at h0
    simp [cat, lx, tokKl, be_len] at h1
    simp [cat, lx, tokVl, be_len] at h2
    exact ⟨by simpa using h0.symm, by omega, by omega⟩
  · have e3 := congrArg (fun q => q.2) e
    cases e3
theorem codG_is {k v : Bs} (h : codG k v = true) : codP (cod_id k) (cod_cl v) (cod_su v) (cod_sc v) (cod_ha v) (cod_ch v) (cod_un v) (cod_st v) (cod_fa v) = ((k, v), 0) := beq_iff_eq.1 h
theorem codG_hd {k v : Bs} (h : codG k v = true) : k.getD 0 0 = 97 ∧ k.length ≤ 36 ∧ v.length ≤ 200 := by
  have e := codG_is h
  unfold codP at e
  split at e
  · rename_i hok
    obtain ⟨b0, b1, b2, hrg, b4, b5, b6, b7, b8⟩ := codB hok
    have hx : (cod_ha v).length = 32 ∧ (cod_ch v).length = 32 := by have q := hok; simp only [codOK, Bool.and_eq_true, beq_iff_eq] at q; exact ⟨q.2.2.2.2.1, q.2.2.2.2.2.1⟩
    have btx := (right_small hrg).2
    have e1 : cat (lx (codKl (cod_id k) (cod_cl v) (cod_su v) (cod_sc v) (cod_ha v) (cod_ch v) (cod_un v) (cod_st v) (cod_fa v))) 2 = k := congrArg (fun q => q.1.1) e
    have e2 : cat (lx (codVl (cod_id k) (cod_cl v) (cod_su v) (cod_sc v) (cod_ha v) (cod_ch v) (cod_un v) (cod_st v) (cod_fa v))) 8 = v := congrArg (fun q => q.1.2) e
    have h0 := congrArg (fun q => q.getD 0 0) e1
    have h1 := congrArg List.length e1
    have h2 := congrArg List.length e2
    simp [cat, lx, codKl] at h0
    simp [cat, lx, codKl, be_len] at h1
    simp [cat, lx, codVl, be_len] at h2
    exact ⟨by simpa using h0.symm, by omega, by omega⟩
  · have e3 := congrArg (fun q => q.2) e
    cases e3
theorem keyG_is {k v : Bs} (h : keyG k v = true) : keyP (key_nu k) (key_se v) (key_fr v) (key_un v) = ((k, v), 0) := beq_iff_eq.1 h
theorem keyG_hd {k v : Bs} (h : keyG k v = true) : k.getD 0 0 = 107 ∧ k.length ≤ 36 ∧ v.length ≤ 200 := by
  have e := keyG_is h
  unfold keyP at e
  split at e
  · rename_i hok
    obtain ⟨b0, b1, b2, b3⟩ := keyB hok
    have e1 : cat (lx (keyKl (key_nu k) (key_se v) (key_fr v) (key_un v))) 2 = k := congrArg (fun q => q.1.1) e
    have e2 : cat (lx (keyVl (key_nu k) (key_se v) (key_fr v) (key_un v))) 3 = v := congrArg (fun q => q.1.2) e
    have h0 := congrArg (fun q => q.getD 0 0) e1
    have h1 := congrArg List.length e1
    have h2 := congrArg List.length e2
    simp [cat, lx, keyKl] at h0
    simp [cat, lx, keyKl, be_len] at h1
    simp [cat, lx, keyVl, be_len] at h2
    exact ⟨by simpa using h0.symm, by omega, by omega⟩
  · have e3 := congrArg (fun q => q.2) e
    cases e3
theorem eveG_is {k v : Bs} (h : eveG k v = true) : eveP (eve_nu k) (eve_ti v) (eve_ki v) (eve_fa v) (eve_wh v) = ((k, v), 0) := beq_iff_eq.1 h
theorem eveG_hd {k v : Bs} (h : eveG k v = true) : k.getD 0 0 = 101 ∧ k.length ≤ 36 ∧ v.length ≤ 200 := by
  have e := eveG_is h
  unfold eveP at e
  split at e
  · rename_i hok
    obtain ⟨b0, b1, b2, b3, b4⟩ := eveB hok
    have e1 : cat (lx (eveKl (eve_nu k) (eve_ti v) (eve_ki v) (eve_fa v) (eve_wh v))) 2 = k := congrArg (fun q => q.1.1) e
    have e2 : cat (lx (eveVl (eve_nu k) (eve_ti v) (eve_ki v) (eve_fa v) (eve_wh v))) 4 = v := congrArg (fun q => q.1.2) e
    have h0 := congrArg (fun q => q.getD 0 0) e1
    have h1 := congrArg List.length e1
    have h2 := congrArg List.length e2
    simp [cat, lx, eveKl] at h0
    simp [cat, lx, eveKl, be_len] at h1
    simp [cat, lx, eveVl, be_len] at h2
    exact ⟨by simpa using h0.symm, by omega, by omega⟩
  · have e3 := congrArg (fun q => q.2) e
    cases e3
theorem chaG_is {k v : Bs} (h : chaG k v = true) : chaP (cha_ba v) (cha_ne v) (cha_bh v) (cha_nh v) = ((k, v), 0) := beq_iff_eq.1 h
theorem chaG_hd {k v : Bs} (h : chaG k v = true) : k.getD 0 0 = 104 ∧ k.length ≤ 36 ∧ v.length ≤ 200 := by
  have e := chaG_is h
  unfold chaP at e
  split at e
  · rename_i hok
    obtain ⟨b0, b1, b2, b3⟩ := chaB hok
    have hx : (cha_bh v).length = 32 ∧ (cha_nh v).length = 32 := by have q := hok; simp only [chaOK, Bool.and_eq_true, beq_iff_eq] at q; exact ⟨q.2.2.2.2.2.1, q.2.2.2.2.2.2⟩
    have e1 : cat (lx (chaKl (cha_ba v) (cha_ne v) (cha_bh v) (cha_nh v))) 1 = k := congrArg (fun q => q.1.1) e
    have e2 : cat (lx (chaVl (cha_ba v) (cha_ne v) (cha_bh v) (cha_nh v))) 4 = v := congrArg (fun q => q.1.2) e
    have h0 := congrArg (fun q => q.getD 0 0) e1
    have h1 := congrArg List.length e1
    have h2 := congrArg List.length e2
    simp [cat, lx, chaKl] at h0
    simp [cat, lx, chaKl] at h1
    simp [cat, lx, chaVl, be_len] at h2
    exact ⟨by simpa using h0.symm, by omega, by omega⟩
  · have e3 := congrArg (fun q => q.2) e
    cases e3
theorem memG_is {k v : Bs} (h : memG k v = true) : memP (mem_fa k) (mem_ge k) (mem_id v) = ((k, v), 0) := beq_iff_eq.1 h
theorem memG_hd {k v : Bs} (h : memG k v = true) : k.getD 0 0 = 109 ∧ k.length ≤ 36 ∧ v.length ≤ 200 := by
  have e := memG_is h
  unfold memP at e
  split at e
  · rename_i hok
    obtain ⟨b0, b1, b2⟩ := memB hok
    have e1 : cat (lx (memKl (mem_fa k) (mem_ge k) (mem_id v))) 3 = k := congrArg (fun q => q.1.1) e
    have e2 : cat (lx (memVl (mem_fa k) (mem_ge k) (mem_id v))) 1 = v := congrArg (fun q => q.1.2) e
    have h0 := congrArg (fun q => q.getD 0 0) e1
    have h1 := congrArg List.length e1
    have h2 := congrArg List.length e2
    simp [cat, lx, memKl] at h0
    simp [cat, lx, memKl, be_len] at h1
    simp [cat, lx, memVl, be_len] at h2
    exact ⟨by simpa using h0.symm, by omega, by omega⟩
  · have e3 := congrArg (fun q => q.2) e
    cases e3
theorem endG_is {k v : Bs} (h : endG k v = true) : endP (end_en k) (end_id k) = ((k, v), 0) := beq_iff_eq.1 h
theorem endG_hd {k v : Bs} (h : endG k v = true) : k.getD 0 0 = 120 ∧ k.length ≤ 36 ∧ v.length ≤ 200 := by
  have e := endG_is h
  unfold endP at e
  split at e
  · rename_i hok
    obtain ⟨b0, b1⟩ := endB hok
    have e1 : cat (lx (endKl (end_en k) (end_id k))) 3 = k := congrArg (fun q => q.1.1) e
    have e2 : cat (lx (endVl (end_en k) (end_id k))) 0 = v := congrArg (fun q => q.1.2) e
    have h0 := congrArg (fun q => q.getD 0 0) e1
    have h1 := congrArg List.length e1
    have h2 := congrArg List.length e2
    simp [cat, lx, endKl] at h0
    simp [cat, lx, endKl, be_len] at h1
    simp [cat] at h2
    exact ⟨by simpa using h0.symm, by omega, by omega⟩
  · have e3 := congrArg (fun q => q.2) e
    cases e3
theorem subG_is {k v : Bs} (h : subG k v = true) : subP (sub_su k) (sub_id k) = ((k, v), 0) := beq_iff_eq.1 h
theorem subG_hd {k v : Bs} (h : subG k v = true) : k.getD 0 0 = 115 ∧ k.length ≤ 36 ∧ v.length ≤ 200 := by
  have e := subG_is h
  unfold subP at e
  split at e
  · rename_i hok
    obtain ⟨b0, b1⟩ := subB hok
    have hx := (right_one (s := sub_su k) (by have q := hok; simp only [subOK, Bool.and_eq_true] at q; exact q.1)).2
    have e1 : cat (lx (subKl (sub_su k) (sub_id k))) 4 = k := congrArg (fun q => q.1.1) e
    have e2 : cat (lx (subVl (sub_su k) (sub_id k))) 0 = v := congrArg (fun q => q.1.2) e
    have h0 := congrArg (fun q => q.getD 0 0) e1
    have h1 := congrArg List.length e1
    have h2 := congrArg List.length e2
    simp [cat, lx, subKl] at h0
    simp [cat, lx, subKl, be_len] at h1
    simp [cat] at h2
    exact ⟨by simpa using h0.symm, by omega, by omega⟩
  · have e3 := congrArg (fun q => q.2) e
    cases e3
theorem cold15 (k v : Bs) (W : World) (hk : k.length ≤ 9223372036854775807) (hv : v.length ≤ 9223372036854775807) (g : cliG k v = false) : Calls Tryz.prog 15 #[.agg #[S k, S v]] W fun e w' => e = .returned (.tuple #[.agg #[S [], .bool false, .bool false, S [], S [], I 0, .slice none 0 0, I 0, I 0, I 0, I 0], I 141]) ∧ Below W.heap.size W w' := by
  refine (Parse15 k v W hk hv).mono ?_
  rintro e w' ⟨hb, hor⟩
  rw [g] at hor
  rcases hor with ⟨q, _⟩ | ⟨_, q⟩
  · cases q
  · exact ⟨q, hb⟩
theorem cold25 (k v : Bs) (W : World) (hk : k.length ≤ 9223372036854775807) (hv : v.length ≤ 9223372036854775807) (g : famG k v = false) : Calls Tryz.prog 25 #[.agg #[S k, S v]] W fun e w' => e = .returned (.tuple #[.agg #[I 0, S [], S [], .slice none 0 0, I 0, I 0, I 0, I 0, I 0, I 0, I 0, I 0, I 0, I 0], I 141]) ∧ Below W.heap.size W w' := by
  refine (Parse25 k v W hk hv).mono ?_
  rintro e w' ⟨hb, hor⟩
  rw [g] at hor
  rcases hor with ⟨q, _⟩ | ⟨_, q⟩
  · cases q
  · exact ⟨q, hb⟩
theorem cold35 (k v : Bs) (W : World) (hk : k.length ≤ 9223372036854775807) (hv : v.length ≤ 9223372036854775807) (g : tokG k v = false) : Calls Tryz.prog 35 #[.agg #[S k, S v]] W fun e w' => e = .returned (.tuple #[.agg #[I 0, I 0, I 0, S [], I 0, .bool false, I 0, I 0, S []], I 141]) ∧ Below W.heap.size W w' := by
  refine (Parse35 k v W hk hv).mono ?_
  rintro e w' ⟨hb, hor⟩
  rw [g] at hor
  rcases hor with ⟨q, _⟩ | ⟨_, q⟩
  · cases q
  · exact ⟨q, hb⟩
theorem cold30 (k v : Bs) (W : World) (hk : k.length ≤ 9223372036854775807) (hv : v.length ≤ 9223372036854775807) (g : codG k v = false) : Calls Tryz.prog 30 #[.agg #[S k, S v]] W fun e w' => e = .returned (.tuple #[.agg #[I 0, S [], S [], .slice none 0 0, S [], S [], I 0, I 0, I 0], I 141]) ∧ Below W.heap.size W w' := by
  refine (Parse30 k v W hk hv).mono ?_
  rintro e w' ⟨hb, hor⟩
  rw [g] at hor
  rcases hor with ⟨q, _⟩ | ⟨_, q⟩
  · cases q
  · exact ⟨q, hb⟩
theorem cold40 (k v : Bs) (W : World) (hk : k.length ≤ 9223372036854775807) (hv : v.length ≤ 9223372036854775807) (g : keyG k v = false) : Calls Tryz.prog 40 #[.agg #[S k, S v]] W fun e w' => e = .returned (.tuple #[.agg #[I 0, S [], I 0, I 0], I 141]) ∧ Below W.heap.size W w' := by
  refine (Parse40 k v W hk hv).mono ?_
  rintro e w' ⟨hb, hor⟩
  rw [g] at hor
  rcases hor with ⟨q, _⟩ | ⟨_, q⟩
  · cases q
  · exact ⟨q, hb⟩
theorem cold43 (k v : Bs) (W : World) (hk : k.length ≤ 9223372036854775807) (hv : v.length ≤ 9223372036854775807) (g : eveG k v = false) : Calls Tryz.prog 43 #[.agg #[S k, S v]] W fun e w' => e = .returned (.tuple #[.agg #[I 0, I 0, I 0, I 0, S []], I 141]) ∧ Below W.heap.size W w' := by
  refine (Parse43 k v W hk hv).mono ?_
  rintro e w' ⟨hb, hor⟩
  rw [g] at hor
  rcases hor with ⟨q, _⟩ | ⟨_, q⟩
  · cases q
  · exact ⟨q, hb⟩
theorem cold46 (k v : Bs) (W : World) (hk : k.length ≤ 9223372036854775807) (hv : v.length ≤ 9223372036854775807) (g : chaG k v = false) : Calls Tryz.prog 46 #[.agg #[S k, S v]] W fun e w' => e = .returned (.tuple #[.agg #[I 0, I 0, S [], S []], I 141]) ∧ Below W.heap.size W w' := by
  refine (Parse46 k v W hk hv).mono ?_
  rintro e w' ⟨hb, hor⟩
  rw [g] at hor
  rcases hor with ⟨q, _⟩ | ⟨_, q⟩
  · cases q
  · exact ⟨q, hb⟩
theorem cb2 {w0 w1 w2 : World} {p : Addr} {v : Value} (c : w0.cell? p = some v) (h : Below w0.heap.size w0 w1) (g : Below w1.heap.size w1 w2) (hl : p.block < w0.heap.size) : w2.cell? p = some v := cell_below (cell_below c h hl) g (Nat.lt_of_lt_of_le hl h.size)
theorem bb2 {w w0 w1 w2 : World} (H : Hid (Below w.heap.size w w0)) (h : Below w0.heap.size w0 w1) (g : Below w1.heap.size w1 w2) : Hid (Below w.heap.size w w2) := hide ((unhide H).trans ((h.mono (unhide H).size).trans (g.mono (Nat.le_trans (unhide H).size h.size))))
theorem eq30 (a b k v : Bs) (W : World) : (binOp .eql 30 (.agg #[S a, S b]) (.agg #[S k, S v])).run Tryz.prog W = .ok (.bool (a == k && b == v)) W := by
  simp [go_sem]
  by_cases h1 : a = k <;> by_cases h2 : b = v <;> simp [h1, h2]
theorem idx_bad {k v : Bs} (h1 : memG k v = false) (h2 : endG k v = false) (h3 : subG k v = false) : (idx k v).2.2.2.2 = 141 := by simp [idx, h1, h2, h3]
theorem idx_good {k v : Bs} (h : memG k v = true ∨ endG k v = true ∨ subG k v = true) : (idx k v).2.2.2.2 = 0 := by
  unfold idx
  by_cases h1 : memG k v = true
  · rw [if_pos h1]
  · rw [if_neg h1]
    by_cases h2 : endG k v = true
    · rw [if_pos h2]
    · rw [if_neg h2, if_pos (by
        rcases h with q | q | q
        · exact absurd q h1
        · exact absurd q h2
        · exact q)]
end Go.Proofs.YtpidmpefodnffaaGreatDoor
namespace Go.Proofs.YtpidmpefodnffaaGreatDoor
open Go.RowKit
set_option maxHeartbeats 4000000
set_option maxRecDepth 8000
theorem owClient (k v : Bs) (w : World) (hk : k.length ≤ 9223372036854775807) (hv : v.length ≤ 9223372036854775807) (gClient : cliG k v = true) (gFamily : famG k v = false) (gToken : tokG k v = false) (gCode : codG k v = false) (gKey : keyG k v = false) (gEvent : eveG k v = false) (gChain : chaG k v = false) (gi : (idx k v).2.2.2.2 = 141) (l1 : k.length ≤ 36) (l2 : v.length ≤ 200) : Calls Tryz.prog 8 #[.agg #[S k, S v]] w fun e w' => e = .returned (.bool true) ∧ Below w.heap.size w w' := by
  have HA := hide (awake_any (w.alloc (.cells #[S k, S v] 30)))
  have HClient : Hid (∀ W, Calls Tryz.prog 15 #[.agg #[S k, S v]] W fun e w' => Below W.heap.size W w' ∧ ∃ va vc, e = .returned (.tuple #[.agg #[S (cli_na k), .bool (cli_pu v), .bool (cli_of9 v), S (cli_ha v), S (cli_ol v), I (cli_un v), .slice va (cli_sc v).length vc, I (cli_idl v), I (cli_ab v), I (cli_gr v), I (cli_li v)], I 0]) ∧ OwnS W.heap.size w' (.slice va (cli_sc v).length vc) (cli_sc v)) := hide (fun W => by
    refine (Parse15 k v W hk hv).mono ?_
    rintro e w' ⟨hb, hor⟩
    rw [gClient] at hor
    rcases hor with ⟨_, q⟩ | ⟨q, _⟩
    · exact ⟨hb, q⟩
    · cases q)
  have HPClient : Hid (∀ (va : Option Addr) (vc : Nat) (W : World), Sts W va (cli_sc v).length (cli_sc v) → Calls Tryz.prog 12 #[.agg #[S (cli_na k), .bool (cli_pu v), .bool (cli_of9 v), S (cli_ha v), S (cli_ol v), I (cli_un v), .slice va (cli_sc v).length vc, I (cli_idl v), I (cli_ab v), I (cli_gr v), I (cli_li v)]] W fun e w' => e = .returned (.tuple #[.agg #[S k, S v], I 0]) ∧ Below W.heap.size W w') := hide (fun va vc W hsc => by
    have q := Print12 (cli_na k) (cli_pu v) (cli_of9 v) (cli_ha v) (cli_ol v) (cli_un v) va vc (cli_sc v) (cli_idl v) (cli_ab v) (cli_gr v) (cli_li v) W (Nat.le_trans (Nat.le_trans (ra_len _ _) (show (cliK1 k).1.length ≤ (cliK0 k).1.length from rr2_len _ _)) (show (cliK0 k).1.length ≤ 9223372036854775807 from hk)) hsc (by have := (right_small (parse_ok (tv 60 (cliV4 v)))).1; exact Nat.le_trans this (by decide)) (lns_right (parse_ok _))
    rw [cliG_is gClient] at q
    exact q)
  have HFamily := hide (fun W => cold25 k v W hk hv gFamily)
  have HToken := hide (fun W => cold35 k v W hk hv gToken)
  have HCode := hide (fun W => cold30 k v W hk hv gCode)
  have HKey := hide (fun W => cold40 k v W hk hv gKey)
  have HEvent := hide (fun W => cold43 k v W hk hv gEvent)
  have HChain := hide (fun W => cold46 k v W hk hv gChain)
  have HI : Hid (∀ W, Calls Tryz.prog 54 #[.agg #[S k, S v]] W fun e w' => e = .returned (.tuple #[S (idx k v).1, I (idx k v).2.1, I (idx k v).2.2.1, S (idx k v).2.2.2.1, I 141]) ∧ Below W.heap.size W w') := hide (fun W => by
    have q := ParseIndex_any k v W hk hv
    rw [gi] at q
    exact q)
  have hb0 : Below w.heap.size w (w.alloc (.cells #[S k, S v] 30)) := (Below.refl _ w).alloc (Nat.le_refl _) _
  have c0 : (w.alloc (.cells #[S k, S v] 30)).cell? ⟨w.heap.size, 0, none⟩ = some (S k) := cell_new _ _ _ _ _ rfl
  have c1 : (w.alloc (.cells #[S k, S v] 30)).cell? ⟨w.heap.size, 1, none⟩ = some (S v) := cell_new _ _ _ _ _ rfl
  have hl : w.heap.size < (w.alloc (.cells #[S k, S v] 30)).heap.size := by simp
  have HB := hide hb0
  clear hb0 gi gClient gFamily gToken gCode gKey gEvent gChain hk hv
  have i1 : (k.length : Int) ≤ 36 := by omega
  have i2 : (v.length : Int) ≤ 200 := by omega
  clear l1 l2
  generalize (idx k v).1 = x1 at *
  generalize (idx k v).2.1 = x2 at *
  generalize (idx k v).2.2.1 = x3 at *
  generalize (idx k v).2.2.2.1 = x4 at *
  go_enter Tryz.func8, Tryz.ntmps8
  go_wp2_with fail
  refine (unhide HA).mono ?_
  rintro e w0 ⟨rfl, h0⟩
  replace c0 := cell_below c0 h0 hl
  replace c1 := cell_below c1 h0 hl
  replace hl := Nat.lt_of_lt_of_le hl h0.size
  replace HB := hide ((unhide HB).trans (h0.mono (unhide HB).size))
  clear h0 HA
  have X0 := hide (unhide HClient (w0))
  clear HClient
  go_wp2_with fail
  refine (unhide X0).mono ?_
  rintro e y0 ⟨h0, va, vc, rfl, hown⟩
  have ha : Below y0.heap.size y0 (y0.alloc (.cells #[S (cli_na k), .bool (cli_pu v), .bool (cli_of9 v), S (cli_ha v), S (cli_ol v), I (cli_un v), .slice va (cli_sc v).length vc, I (cli_idl v), I (cli_ab v), I (cli_gr v), I (cli_li v)] 24)) := (Below.refl _ _).alloc (Nat.le_refl _) _
  replace c0 := cb2 c0 h0 ha hl
  replace c1 := cb2 c1 h0 ha hl
  replace HB := bb2 HB h0 ha
  replace hl : w.heap.size < (y0.alloc (.cells #[S (cli_na k), .bool (cli_pu v), .bool (cli_of9 v), S (cli_ha v), S (cli_ol v), I (cli_un v), .slice va (cli_sc v).length vc, I (cli_idl v), I (cli_ab v), I (cli_gr v), I (cli_li v)] 24)).heap.size := Nat.lt_of_lt_of_le (Nat.lt_of_lt_of_le hl h0.size) ha.size
  have HSC := hide ((OwnS.sts hown).below ha)
  clear hown
  have d0 : (y0.alloc (.cells #[S (cli_na k), .bool (cli_pu v), .bool (cli_of9 v), S (cli_ha v), S (cli_ol v), I (cli_un v), .slice va (cli_sc v).length vc, I (cli_idl v), I (cli_ab v), I (cli_gr v), I (cli_li v)] 24)).cell? ⟨y0.heap.size, 0, none⟩ = some (S (cli_na k)) := cell_new _ _ _ _ _ rfl
  have d1 : (y0.alloc (.cells #[S (cli_na k), .bool (cli_pu v), .bool (cli_of9 v), S (cli_ha v), S (cli_ol v), I (cli_un v), .slice va (cli_sc v).length vc, I (cli_idl v), I (cli_ab v), I (cli_gr v), I (cli_li v)] 24)).cell? ⟨y0.heap.size, 1, none⟩ = some (.bool (cli_pu v)) := cell_new _ _ _ _ _ rfl
  have d2 : (y0.alloc (.cells #[S (cli_na k), .bool (cli_pu v), .bool (cli_of9 v), S (cli_ha v), S (cli_ol v), I (cli_un v), .slice va (cli_sc v).length vc, I (cli_idl v), I (cli_ab v), I (cli_gr v), I (cli_li v)] 24)).cell? ⟨y0.heap.size, 2, none⟩ = some (.bool (cli_of9 v)) := cell_new _ _ _ _ _ rfl
  have d3 : (y0.alloc (.cells #[S (cli_na k), .bool (cli_pu v), .bool (cli_of9 v), S (cli_ha v), S (cli_ol v), I (cli_un v), .slice va (cli_sc v).length vc, I (cli_idl v), I (cli_ab v), I (cli_gr v), I (cli_li v)] 24)).cell? ⟨y0.heap.size, 3, none⟩ = some (S (cli_ha v)) := cell_new _ _ _ _ _ rfl
  have d4 : (y0.alloc (.cells #[S (cli_na k), .bool (cli_pu v), .bool (cli_of9 v), S (cli_ha v), S (cli_ol v), I (cli_un v), .slice va (cli_sc v).length vc, I (cli_idl v), I (cli_ab v), I (cli_gr v), I (cli_li v)] 24)).cell? ⟨y0.heap.size, 4, none⟩ = some (S (cli_ol v)) := cell_new _ _ _ _ _ rfl
  have d5 : (y0.alloc (.cells #[S (cli_na k), .bool (cli_pu v), .bool (cli_of9 v), S (cli_ha v), S (cli_ol v), I (cli_un v), .slice va (cli_sc v).length vc, I (cli_idl v), I (cli_ab v), I (cli_gr v), I (cli_li v)] 24)).cell? ⟨y0.heap.size, 5, none⟩ = some (I (cli_un v)) := cell_new _ _ _ _ _ rfl
  have d6 : (y0.alloc (.cells #[S (cli_na k), .bool (cli_pu v), .bool (cli_of9 v), S (cli_ha v), S (cli_ol v), I (cli_un v), .slice va (cli_sc v).length vc, I (cli_idl v), I (cli_ab v), I (cli_gr v), I (cli_li v)] 24)).cell? ⟨y0.heap.size, 6, none⟩ = some (.slice va (cli_sc v).length vc) := cell_new _ _ _ _ _ rfl
  have d7 : (y0.alloc (.cells #[S (cli_na k), .bool (cli_pu v), .bool (cli_of9 v), S (cli_ha v), S (cli_ol v), I (cli_un v), .slice va (cli_sc v).length vc, I (cli_idl v), I (cli_ab v), I (cli_gr v), I (cli_li v)] 24)).cell? ⟨y0.heap.size, 7, none⟩ = some (I (cli_idl v)) := cell_new _ _ _ _ _ rfl
  have d8 : (y0.alloc (.cells #[S (cli_na k), .bool (cli_pu v), .bool (cli_of9 v), S (cli_ha v), S (cli_ol v), I (cli_un v), .slice va (cli_sc v).length vc, I (cli_idl v), I (cli_ab v), I (cli_gr v), I (cli_li v)] 24)).cell? ⟨y0.heap.size, 8, none⟩ = some (I (cli_ab v)) := cell_new _ _ _ _ _ rfl
  have d9 : (y0.alloc (.cells #[S (cli_na k), .bool (cli_pu v), .bool (cli_of9 v), S (cli_ha v), S (cli_ol v), I (cli_un v), .slice va (cli_sc v).length vc, I (cli_idl v), I (cli_ab v), I (cli_gr v), I (cli_li v)] 24)).cell? ⟨y0.heap.size, 9, none⟩ = some (I (cli_gr v)) := cell_new _ _ _ _ _ rfl
  have d10 : (y0.alloc (.cells #[S (cli_na k), .bool (cli_pu v), .bool (cli_of9 v), S (cli_ha v), S (cli_ol v), I (cli_un v), .slice va (cli_sc v).length vc, I (cli_idl v), I (cli_ab v), I (cli_gr v), I (cli_li v)] 24)).cell? ⟨y0.heap.size, 10, none⟩ = some (I (cli_li v)) := cell_new _ _ _ _ _ rfl
  have Z0 := hide (unhide HPClient va vc (y0.alloc (.cells #[S (cli_na k), .bool (cli_pu v), .bool (cli_of9 v), S (cli_ha v), S (cli_ol v), I (cli_un v), .slice va (cli_sc v).length vc, I (cli_idl v), I (cli_ab v), I (cli_gr v), I (cli_li v)] 24)) (unhide HSC))
  clear h0 ha X0 HPClient HSC
  go_wp2_with fail
  refine (unhide Z0).mono ?_
  rintro e z0 ⟨rfl, h0⟩
  have ha : Below z0.heap.size z0 (z0.alloc (.cells #[S k, S v] 30)) := (Below.refl _ _).alloc (Nat.le_refl _) _
  have e0 : (z0.alloc (.cells #[S k, S v] 30)).cell? ⟨z0.heap.size, 0, none⟩ = some (S k) := cell_new _ _ _ _ _ rfl
  have e1 : (z0.alloc (.cells #[S k, S v] 30)).cell? ⟨z0.heap.size, 1, none⟩ = some (S v) := cell_new _ _ _ _ _ rfl
  have heq := eq30 k v k v
  rw [show (k == k && v == v) = true by simp] at heq
  replace c0 := cb2 c0 h0 ha hl
  replace c1 := cb2 c1 h0 ha hl
  replace HB := bb2 HB h0 ha
  replace hl : w.heap.size < (z0.alloc (.cells #[S k, S v] 30)).heap.size := Nat.lt_of_lt_of_le (Nat.lt_of_lt_of_le hl h0.size) ha.size
  clear h0 ha Z0 d0 d1 d2 d3 d4 d5 d6 d7 d8 d9 d10
  have X1 := hide (unhide HFamily (z0.alloc (.cells #[S k, S v] 30)))
  clear HFamily
  go_wp2_with fail
  refine (unhide X1).mono ?_
  rintro e y1 ⟨rfl, h0⟩
  have ha : Below y1.heap.size y1 (y1.alloc (.cells #[I 0, S [], S [], .slice none 0 0, I 0, I 0, I 0, I 0, I 0, I 0, I 0, I 0, I 0, I 0] 40)) := (Below.refl _ _).alloc (Nat.le_refl _) _
  replace c0 := cb2 c0 h0 ha hl
  replace c1 := cb2 c1 h0 ha hl
  replace HB := bb2 HB h0 ha
  replace hl : w.heap.size < (y1.alloc (.cells #[I 0, S [], S [], .slice none 0 0, I 0, I 0, I 0, I 0, I 0, I 0, I 0, I 0, I 0, I 0] 40)).heap.size := Nat.lt_of_lt_of_le (Nat.lt_of_lt_of_le hl h0.size) ha.size
  clear h0 ha X1
  have X2 := hide (unhide HToken (y1.alloc (.cells #[I 0, S [], S [], .slice none 0 0, I 0, I 0, I 0, I 0, I 0, I 0, I 0, I 0, I 0, I 0] 40)))
  clear HToken
  go_wp2_with fail
  refine (unhide X2).mono ?_
  rintro e y2 ⟨rfl, h0⟩
  have ha : Below y2.heap.size y2 (y2.alloc (.cells #[I 0, I 0, I 0, S [], I 0, .bool false, I 0, I 0, S []] 58)) := (Below.refl _ _).alloc (Nat.le_refl _) _
  replace c0 := cb2 c0 h0 ha hl
  replace c1 := cb2 c1 h0 ha hl
  replace HB := bb2 HB h0 ha
  replace hl : w.heap.size < (y2.alloc (.cells #[I 0, I 0, I 0, S [], I 0, .bool false, I 0, I 0, S []] 58)).heap.size := Nat.lt_of_lt_of_le (Nat.lt_of_lt_of_le hl h0.size) ha.size
  clear h0 ha X2
  have X3 := hide (unhide HCode (y2.alloc (.cells #[I 0, I 0, I 0, S [], I 0, .bool false, I 0, I 0, S []] 58)))
  clear HCode
  go_wp2_with fail
  refine (unhide X3).mono ?_
  rintro e y3 ⟨rfl, h0⟩
  have ha : Below y3.heap.size y3 (y3.alloc (.cells #[I 0, S [], S [], .slice none 0 0, S [], S [], I 0, I 0, I 0] 51)) := (Below.refl _ _).alloc (Nat.le_refl _) _
  replace c0 := cb2 c0 h0 ha hl
  replace c1 := cb2 c1 h0 ha hl
  replace HB := bb2 HB h0 ha
  replace hl : w.heap.size < (y3.alloc (.cells #[I 0, S [], S [], .slice none 0 0, S [], S [], I 0, I 0, I 0] 51)).heap.size := Nat.lt_of_lt_of_le (Nat.lt_of_lt_of_le hl h0.size) ha.size
  clear h0 ha X3
  have X4 := hide (unhide HKey (y3.alloc (.cells #[I 0, S [], S [], .slice none 0 0, S [], S [], I 0, I 0, I 0] 51)))
  clear HKey
  go_wp2_with fail
  refine (unhide X4).mono ?_
  rintro e y4 ⟨rfl, h0⟩
  have ha : Below y4.heap.size y4 (y4.alloc (.cells #[I 0, S [], I 0, I 0] 60)) := (Below.refl _ _).alloc (Nat.le_refl _) _
  replace c0 := cb2 c0 h0 ha hl
  replace c1 := cb2 c1 h0 ha hl
  replace HB := bb2 HB h0 ha
  replace hl : w.heap.size < (y4.alloc (.cells #[I 0, S [], I 0, I 0] 60)).heap.size := Nat.lt_of_lt_of_le (Nat.lt_of_lt_of_le hl h0.size) ha.size
  clear h0 ha X4
  have X5 := hide (unhide HEvent (y4.alloc (.cells #[I 0, S [], I 0, I 0] 60)))
  clear HEvent
  go_wp2_with fail
  refine (unhide X5).mono ?_
  rintro e y5 ⟨rfl, h0⟩
  have ha : Below y5.heap.size y5 (y5.alloc (.cells #[I 0, I 0, I 0, I 0, S []] 62)) := (Below.refl _ _).alloc (Nat.le_refl _) _
  replace c0 := cb2 c0 h0 ha hl
  replace c1 := cb2 c1 h0 ha hl
  replace HB := bb2 HB h0 ha
  replace hl : w.heap.size < (y5.alloc (.cells #[I 0, I 0, I 0, I 0, S []] 62)).heap.size := Nat.lt_of_lt_of_le (Nat.lt_of_lt_of_le hl h0.size) ha.size
  clear h0 ha X5
  have X6 := hide (unhide HChain (y5.alloc (.cells #[I 0, I 0, I 0, I 0, S []] 62)))
  clear HChain
  go_wp2_with fail
  refine (unhide X6).mono ?_
  rintro e y6 ⟨rfl, h0⟩
  have ha : Below y6.heap.size y6 (y6.alloc (.cells #[I 0, I 0, S [], S []] 64)) := (Below.refl _ _).alloc (Nat.le_refl _) _
  replace c0 := cb2 c0 h0 ha hl
  replace c1 := cb2 c1 h0 ha hl
  replace HB := bb2 HB h0 ha
  replace hl : w.heap.size < (y6.alloc (.cells #[I 0, I 0, S [], S []] 64)).heap.size := Nat.lt_of_lt_of_le (Nat.lt_of_lt_of_le hl h0.size) ha.size
  clear h0 ha X6
  have X9 := hide (unhide HI (y6.alloc (.cells #[I 0, I 0, S [], S []] 64)))
  clear HI
  go_wp2_with fail
  refine (unhide X9).mono ?_
  rintro e w9 ⟨rfl, h0⟩
  replace c0 := cell_below c0 h0 hl
  replace c1 := cell_below c1 h0 hl
  replace HB := hide ((unhide HB).trans (h0.mono (unhide HB).size))
  clear h0 X9 hl
  go_wp2
  go_ret
  exact ⟨rfl, unhide HB⟩
end Go.Proofs.YtpidmpefodnffaaGreatDoor
namespace Go.Proofs.YtpidmpefodnffaaGreatDoor
open Go.RowKit
set_option maxHeartbeats 4000000
set_option maxRecDepth 8000
theorem owFamily (k v : Bs) (w : World) (hk : k.length ≤ 9223372036854775807) (hv : v.length ≤ 9223372036854775807) (gClient : cliG k v = false) (gFamily : famG k v = true) (gToken : tokG k v = false) (gCode : codG k v = false) (gKey : keyG k v = false) (gEvent : eveG k v = false) (gChain : chaG k v = false) (gi : (idx k v).2.2.2.2 = 141) (l1 : k.length ≤ 36) (l2 : v.length ≤ 200) : Calls Tryz.prog 8 #[.agg #[S k, S v]] w fun e w' => e = .returned (.bool true) ∧ Below w.heap.size w w' := by
  have HA := hide (awake_any (w.alloc (.cells #[S k, S v] 30)))
  have HClient := hide (fun W => cold15 k v W hk hv gClient)
  have HFamily : Hid (∀ W, Calls Tryz.prog 25 #[.agg #[S k, S v]] W fun e w' => Below W.heap.size W w' ∧ ∃ va vc, e = .returned (.tuple #[.agg #[I (fam_id k), S (fam_cl v), S (fam_su v), .slice va (fam_sc v).length vc, I (fam_cr v), I (fam_us v), I (fam_idl v), I (fam_ab v), I (fam_gr v), I (fam_ge v), I (fam_to v), I (fam_st v), I (fam_en v), I (fam_co v)], I 0]) ∧ OwnS W.heap.size w' (.slice va (fam_sc v).length vc) (fam_sc v)) := hide (fun W => by
    refine (Parse25 k v W hk hv).mono ?_
    rintro e w' ⟨hb, hor⟩
    rw [gFamily] at hor
    rcases hor with ⟨_, q⟩ | ⟨q, _⟩
    · exact ⟨hb, q⟩
    · cases q)
  have HPFamily : Hid (∀ (va : Option Addr) (vc : Nat) (W : World), Sts W va (fam_sc v).length (fam_sc v) → Calls Tryz.prog 19 #[.agg #[I (fam_id k), S (fam_cl v), S (fam_su v), .slice va (fam_sc v).length vc, I (fam_cr v), I (fam_us v), I (fam_idl v), I (fam_ab v), I (fam_gr v), I (fam_ge v), I (fam_to v), I (fam_st v), I (fam_en v), I (fam_co v)]] W fun e w' => e = .returned (.tuple #[.agg #[S k, S v], I 0]) ∧ Below W.heap.size W w') := hide (fun va vc W hsc => by
    have q := Print19 (fam_id k) (fam_cl v) (fam_su v) va vc (fam_sc v) (fam_cr v) (fam_us v) (fam_idl v) (fam_ab v) (fam_gr v) (fam_ge v) (fam_to v) (fam_st v) (fam_en v) (fam_co v) W (Nat.le_trans (tv_len _ _) (by decide)) (Nat.le_trans (tv_len _ _) (by decide)) hsc (by have := (right_small (parse_ok (tv 60 (famV2 v)))).1; exact Nat.le_trans this (by decide)) (lns_right (parse_ok _))
    rw [famG_is gFamily] at q
    exact q)
  have HToken := hide (fun W => cold35 k v W hk hv gToken)
  have HCode := hide (fun W => cold30 k v W hk hv gCode)
  have HKey := hide (fun W => cold40 k v W hk hv gKey)
  have HEvent := hide (fun W => cold43 k v W hk hv gEvent)
  have HChain := hide (fun W => cold46 k v W hk hv gChain)
  have HI : Hid (∀ W, Calls Tryz.prog 54 #[.agg #[S k, S v]] W fun e w' => e = .returned (.tuple #[S (idx k v).1, I (idx k v).2.1, I (idx k v).2.2.1, S (idx k v).2.2.2.1, I 141]) ∧ Below W.heap.size W w') := hide (fun W => by
    have q := ParseIndex_any k v W hk hv
    rw [gi] at q
    exact q)
  have hb0 : Below w.heap.size w (w.alloc (.cells #[S k, S v] 30)) := (Below.refl _ w).alloc (Nat.le_refl _) _
  have c0 : (w.alloc (.cells #[S k, S v] 30)).cell? ⟨w.heap.size, 0, none⟩ = some (S k) := cell_new _ _ _ _ _ rfl
  have c1 : (w.alloc (.cells #[S k, S v] 30)).cell? ⟨w.heap.size, 1, none⟩ = some (S v) := cell_new _ _ _ _ _ rfl
  have hl : w.heap.size < (w.alloc (.cells #[S k, S v] 30)).heap.size := by simp
  have HB := hide hb0
  clear hb0 gi gClient gFamily gToken gCode gKey gEvent gChain hk hv
  have i1 : (k.length : Int) ≤ 36 := by omega
  have i2 : (v.length : Int) ≤ 200 := by omega
  clear l1 l2
  generalize (idx k v).1 = x1 at *
  generalize (idx k v).2.1 = x2 at *
  generalize (idx k v).2.2.1 = x3 at *
  generalize (idx k v).2.2.2.1 = x4 at *
  go_enter Tryz.func8, Tryz.ntmps8
  go_wp2_with fail
  refine (unhide HA).mono ?_
  rintro e w0 ⟨rfl, h0⟩
  replace c0 := cell_below c0 h0 hl
  replace c1 := cell_below c1 h0 hl
  replace hl := Nat.lt_of_lt_of_le hl h0.size
  replace HB := hide ((unhide HB).trans (h0.mono (unhide HB).size))
  clear h0 HA
  have X0 := hide (unhide HClient (w0))
  clear HClient
  go_wp2_with fail
  refine (unhide X0).mono ?_
  rintro e y0 ⟨rfl, h0⟩
  have ha : Below y0.heap.size y0 (y0.alloc (.cells #[S [], .bool false, .bool false, S [], S [], I 0, .slice none 0 0, I 0, I 0, I 0, I 0] 24)) := (Below.refl _ _).alloc (Nat.le_refl _) _
  replace c0 := cb2 c0 h0 ha hl
  replace c1 := cb2 c1 h0 ha hl
  replace HB := bb2 HB h0 ha
  replace hl : w.heap.size < (y0.alloc (.cells #[S [], .bool false, .bool false, S [], S [], I 0, .slice none 0 0, I 0, I 0, I 0, I 0] 24)).heap.size := Nat.lt_of_lt_of_le (Nat.lt_of_lt_of_le hl h0.size) ha.size
  clear h0 ha X0
  have X1 := hide (unhide HFamily (y0.alloc (.cells #[S [], .bool false, .bool false, S [], S [], I 0, .slice none 0 0, I 0, I 0, I 0, I 0] 24)))
  clear HFamily
  go_wp2_with fail
  refine (unhide X1).mono ?_
  rintro e y1 ⟨h0, va, vc, rfl, hown⟩
  have ha : Below y1.heap.size y1 (y1.alloc (.cells #[I (fam_id k), S (fam_cl v), S (fam_su v), .slice va (fam_sc v).length vc, I (fam_cr v), I (fam_us v), I (fam_idl v), I (fam_ab v), I (fam_gr v), I (fam_ge v), I (fam_to v), I (fam_st v), I (fam_en v), I (fam_co v)] 40)) := (Below.refl _ _).alloc (Nat.le_refl _) _
  replace c0 := cb2 c0 h0 ha hl
  replace c1 := cb2 c1 h0 ha hl
  replace HB := bb2 HB h0 ha
  replace hl : w.heap.size < (y1.alloc (.cells #[I (fam_id k), S (fam_cl v), S (fam_su v), .slice va (fam_sc v).length vc, I (fam_cr v), I (fam_us v), I (fam_idl v), I (fam_ab v), I (fam_gr v), I (fam_ge v), I (fam_to v), I (fam_st v), I (fam_en v), I (fam_co v)] 40)).heap.size := Nat.lt_of_lt_of_le (Nat.lt_of_lt_of_le hl h0.size) ha.size
  have HSC := hide ((OwnS.sts hown).below ha)
  clear hown
  have d0 : (y1.alloc (.cells #[I (fam_id k), S (fam_cl v), S (fam_su v), .slice va (fam_sc v).length vc, I (fam_cr v), I (fam_us v), I (fam_idl v), I (fam_ab v), I (fam_gr v), I (fam_ge v), I (fam_to v), I (fam_st v), I (fam_en v), I (fam_co v)] 40)).cell? ⟨y1.heap.size, 0, none⟩ = some (I (fam_id k)) := cell_new _ _ _ _ _ rfl
  have d1 : (y1.alloc (.cells #[I (fam_id k), S (fam_cl v), S (fam_su v), .slice va (fam_sc v).length vc, I (fam_cr v), I (fam_us v), I (fam_idl v), I (fam_ab v), I (fam_gr v), I (fam_ge v), I (fam_to v), I (fam_st v), I (fam_en v), I (fam_co v)] 40)).cell? ⟨y1.heap.size, 1, none⟩ = some (S (fam_cl v)) := cell_new _ _ _ _ _ rfl
  have d2 : (y1.alloc (.cells #[I (fam_id k), S (fam_cl v), S (fam_su v), .slice va (fam_sc v).length vc, I (fam_cr v), I (fam_us v), I (fam_idl v), I (fam_ab v), I (fam_gr v), I (fam_ge v), I (fam_to v), I (fam_st v), I (fam_en v), I (fam_co v)] 40)).cell? ⟨y1.heap.size, 2, none⟩ = some (S (fam_su v)) := cell_new _ _ _ _ _ rfl
  have d3 : (y1.alloc (.cells #[I (fam_id k), S (fam_cl v), S (fam_su v), .slice va (fam_sc v).length vc, I (fam_cr v), I (fam_us v), I (fam_idl v), I (fam_ab v), I (fam_gr v), I (fam_ge v), I (fam_to v), I (fam_st v), I (fam_en v), I (fam_co v)] 40)).cell? ⟨y1.heap.size, 3, none⟩ = some (.slice va (fam_sc v).length vc) := cell_new _ _ _ _ _ rfl
  have d4 : (y1.alloc (.cells #[I (fam_id k), S (fam_cl v), S (fam_su v), .slice va (fam_sc v).length vc, I (fam_cr v), I (fam_us v), I (fam_idl v), I (fam_ab v), I (fam_gr v), I (fam_ge v), I (fam_to v), I (fam_st v), I (fam_en v), I (fam_co v)] 40)).cell? ⟨y1.heap.size, 4, none⟩ = some (I (fam_cr v)) := cell_new _ _ _ _ _ rfl
  have d5 : (y1.alloc (.cells #[I (fam_id k), S (fam_cl v), S (fam_su v), .slice va (fam_sc v).length vc, I (fam_cr v), I (fam_us v), I (fam_idl v), I (fam_ab v), I (fam_gr v), I (fam_ge v), I (fam_to v), I (fam_st v), I (fam_en v), I (fam_co v)] 40)).cell? ⟨y1.heap.size, 5, none⟩ = some (I (fam_us v)) := cell_new _ _ _ _ _ rfl
  have d6 : (y1.alloc (.cells #[I (fam_id k), S (fam_cl v), S (fam_su v), .slice va (fam_sc v).length vc, I (fam_cr v), I (fam_us v), I (fam_idl v), I (fam_ab v), I (fam_gr v), I (fam_ge v), I (fam_to v), I (fam_st v), I (fam_en v), I (fam_co v)] 40)).cell? ⟨y1.heap.size, 6, none⟩ = some (I (fam_idl v)) := cell_new _ _ _ _ _ rfl
  have d7 : (y1.alloc (.cells #[I (fam_id k), S (fam_cl v), S (fam_su v), .slice va (fam_sc v).length vc, I (fam_cr v), I (fam_us v), I (fam_idl v), I (fam_ab v), I (fam_gr v), I (fam_ge v), I (fam_to v), I (fam_st v), I (fam_en v), I (fam_co v)] 40)).cell? ⟨y1.heap.size, 7, none⟩ = some (I (fam_ab v)) := cell_new _ _ _ _ _ rfl
  have d8 : (y1.alloc (.cells #[I (fam_id k), S (fam_cl v), S (fam_su v), .slice va (fam_sc v).length vc, I (fam_cr v), I (fam_us v), I (fam_idl v), I (fam_ab v), I (fam_gr v), I (fam_ge v), I (fam_to v), I (fam_st v), I (fam_en v), I (fam_co v)] 40)).cell? ⟨y1.heap.size, 8, none⟩ = some (I (fam_gr v)) := cell_new _ _ _ _ _ rfl
  have d9 : (y1.alloc (.cells #[I (fam_id k), S (fam_cl v), S (fam_su v), .slice va (fam_sc v).length vc, I (fam_cr v), I (fam_us v), I (fam_idl v), I (fam_ab v), I (fam_gr v), I (fam_ge v), I (fam_to v), I (fam_st v), I (fam_en v), I (fam_co v)] 40)).cell? ⟨y1.heap.size, 9, none⟩ = some (I (fam_ge v)) := cell_new _ _ _ _ _ rfl
  have d10 : (y1.alloc (.cells #[I (fam_id k), S (fam_cl v), S (fam_su v), .slice va (fam_sc v).length vc, I (fam_cr v), I (fam_us v), I (fam_idl v), I (fam_ab v), I (fam_gr v), I (fam_ge v), I (fam_to v), I (fam_st v), I (fam_en v), I (fam_co v)] 40)).cell? ⟨y1.heap.size, 10, none⟩ = some (I (fam_to v)) := cell_new _ _ _ _ _ rfl
  have d11 : (y1.alloc (.cells #[I (fam_id k), S (fam_cl v), S (fam_su v), .slice va (fam_sc v).length vc, I (fam_cr v), I (fam_us v), I (fam_idl v), I (fam_ab v), I (fam_gr v), I (fam_ge v), I (fam_to v), I (fam_st v), I (fam_en v), I (fam_co v)] 40)).cell? ⟨y1.heap.size, 11, none⟩ = some (I (fam_st v)) := cell_new _ _ _ _ _ rfl
  have d12 : (y1.alloc (.cells #[I (fam_id k), S (fam_cl v), S (fam_su v), .slice va (fam_sc v).length vc, I (fam_cr v), I (fam_us v), I (fam_idl v), I (fam_ab v), I (fam_gr v), I (fam_ge v), I (fam_to v), I (fam_st v), I (fam_en v), I (fam_co v)] 40)).cell? ⟨y1.heap.size, 12, none⟩ = some (I (fam_en v)) := cell_new _ _ _ _ _ rfl
  have d13 : (y1.alloc (.cells #[I (fam_id k), S (fam_cl v), S (fam_su v), .slice va (fam_sc v).length vc, I (fam_cr v), I (fam_us v), I (fam_idl v), I (fam_ab v), I (fam_gr v), I (fam_ge v), I (fam_to v), I (fam_st v), I (fam_en v), I (fam_co v)] 40)).cell? ⟨y1.heap.size, 13, none⟩ = some (I (fam_co v)) := cell_new _ _ _ _ _ rfl
  have Z1 := hide (unhide HPFamily va vc (y1.alloc (.cells #[I (fam_id k), S (fam_cl v), S (fam_su v), .slice va (fam_sc v).length vc, I (fam_cr v), I (fam_us v), I (fam_idl v), I (fam_ab v), I (fam_gr v), I (fam_ge v), I (fam_to v), I (fam_st v), I (fam_en v), I (fam_co v)] 40)) (unhide HSC))
  clear h0 ha X1 HPFamily HSC
  go_wp2_with fail
  refine (unhide Z1).mono ?_
  rintro e z1 ⟨rfl, h0⟩
  have ha : Below z1.heap.size z1 (z1.alloc (.cells #[S k, S v] 30)) := (Below.refl _ _).alloc (Nat.le_refl _) _
  have e0 : (z1.alloc (.cells #[S k, S v] 30)).cell? ⟨z1.heap.size, 0, none⟩ = some (S k) := cell_new _ _ _ _ _ rfl
  have e1 : (z1.alloc (.cells #[S k, S v] 30)).cell? ⟨z1.heap.size, 1, none⟩ = some (S v) := cell_new _ _ _ _ _ rfl
  have heq := eq30 k v k v
  rw [show (k == k && v == v) = true by simp] at heq
  replace c0 := cb2 c0 h0 ha hl
  replace c1 := cb2 c1 h0 ha hl
  replace HB := bb2 HB h0 ha
  replace hl : w.heap.size < (z1.alloc (.cells #[S k, S v] 30)).heap.size := Nat.lt_of_lt_of_le (Nat.lt_of_lt_of_le hl h0.size) ha.size
  clear h0 ha Z1 d0 d1 d2 d3 d4 d5 d6 d7 d8 d9 d10 d11 d12 d13
  have X2 := hide (unhide HToken (z1.alloc (.cells #[S k, S v] 30)))
  clear HToken
  go_wp2_with fail
  refine (unhide X2).mono ?_
  rintro e y2 ⟨rfl, h0⟩
  have ha : Below y2.heap.size y2 (y2.alloc (.cells #[I 0, I 0, I 0, S [], I 0, .bool false, I 0, I 0, S []] 58)) := (Below.refl _ _).alloc (Nat.le_refl _) _
  replace c0 := cb2 c0 h0 ha hl
  replace c1 := cb2 c1 h0 ha hl
  replace HB := bb2 HB h0 ha
  replace hl : w.heap.size < (y2.alloc (.cells #[I 0, I 0, I 0, S [], I 0, .bool false, I 0, I 0, S []] 58)).heap.size := Nat.lt_of_lt_of_le (Nat.lt_of_lt_of_le hl h0.size) ha.size
  clear h0 ha X2
  have X3 := hide (unhide HCode (y2.alloc (.cells #[I 0, I 0, I 0, S [], I 0, .bool false, I 0, I 0, S []] 58)))
  clear HCode
  go_wp2_with fail
  refine (unhide X3).mono ?_
  rintro e y3 ⟨rfl, h0⟩
  have ha : Below y3.heap.size y3 (y3.alloc (.cells #[I 0, S [], S [], .slice none 0 0, S [], S [], I 0, I 0, I 0] 51)) := (Below.refl _ _).alloc (Nat.le_refl _) _
  replace c0 := cb2 c0 h0 ha hl
  replace c1 := cb2 c1 h0 ha hl
  replace HB := bb2 HB h0 ha
  replace hl : w.heap.size < (y3.alloc (.cells #[I 0, S [], S [], .slice none 0 0, S [], S [], I 0, I 0, I 0] 51)).heap.size := Nat.lt_of_lt_of_le (Nat.lt_of_lt_of_le hl h0.size) ha.size
  clear h0 ha X3
  have X4 := hide (unhide HKey (y3.alloc (.cells #[I 0, S [], S [], .slice none 0 0, S [], S [], I 0, I 0, I 0] 51)))
  clear HKey
  go_wp2_with fail
  refine (unhide X4).mono ?_
  rintro e y4 ⟨rfl, h0⟩
  have ha : Below y4.heap.size y4 (y4.alloc (.cells #[I 0, S [], I 0, I 0] 60)) := (Below.refl _ _).alloc (Nat.le_refl _) _
  replace c0 := cb2 c0 h0 ha hl
  replace c1 := cb2 c1 h0 ha hl
  replace HB := bb2 HB h0 ha
  replace hl : w.heap.size < (y4.alloc (.cells #[I 0, S [], I 0, I 0] 60)).heap.size := Nat.lt_of_lt_of_le (Nat.lt_of_lt_of_le hl h0.size) ha.size
  clear h0 ha X4
  have X5 := hide (unhide HEvent (y4.alloc (.cells #[I 0, S [], I 0, I 0] 60)))
  clear HEvent
  go_wp2_with fail
  refine (unhide X5).mono ?_
  rintro e y5 ⟨rfl, h0⟩
  have ha : Below y5.heap.size y5 (y5.alloc (.cells #[I 0, I 0, I 0, I 0, S []] 62)) := (Below.refl _ _).alloc (Nat.le_refl _) _
  replace c0 := cb2 c0 h0 ha hl
  replace c1 := cb2 c1 h0 ha hl
  replace HB := bb2 HB h0 ha
  replace hl : w.heap.size < (y5.alloc (.cells #[I 0, I 0, I 0, I 0, S []] 62)).heap.size := Nat.lt_of_lt_of_le (Nat.lt_of_lt_of_le hl h0.size) ha.size
  clear h0 ha X5
  have X6 := hide (unhide HChain (y5.alloc (.cells #[I 0, I 0, I 0, I 0, S []] 62)))
  clear HChain
  go_wp2_with fail
  refine (unhide X6).mono ?_
  rintro e y6 ⟨rfl, h0⟩
  have ha : Below y6.heap.size y6 (y6.alloc (.cells #[I 0, I 0, S [], S []] 64)) := (Below.refl _ _).alloc (Nat.le_refl _) _
  replace c0 := cb2 c0 h0 ha hl
  replace c1 := cb2 c1 h0 ha hl
  replace HB := bb2 HB h0 ha
  replace hl : w.heap.size < (y6.alloc (.cells #[I 0, I 0, S [], S []] 64)).heap.size := Nat.lt_of_lt_of_le (Nat.lt_of_lt_of_le hl h0.size) ha.size
  clear h0 ha X6
  have X9 := hide (unhide HI (y6.alloc (.cells #[I 0, I 0, S [], S []] 64)))
  clear HI
  go_wp2_with fail
  refine (unhide X9).mono ?_
  rintro e w9 ⟨rfl, h0⟩
  replace c0 := cell_below c0 h0 hl
  replace c1 := cell_below c1 h0 hl
  replace HB := hide ((unhide HB).trans (h0.mono (unhide HB).size))
  clear h0 X9 hl
  go_wp2
  go_ret
  exact ⟨rfl, unhide HB⟩
end Go.Proofs.YtpidmpefodnffaaGreatDoor
namespace Go.Proofs.YtpidmpefodnffaaGreatDoor
open Go.RowKit
set_option maxHeartbeats 4000000
set_option maxRecDepth 8000
theorem owToken (k v : Bs) (w : World) (hk : k.length ≤ 9223372036854775807) (hv : v.length ≤ 9223372036854775807) (gClient : cliG k v = false) (gFamily : famG k v = false) (gToken : tokG k v = true) (gCode : codG k v = false) (gKey : keyG k v = false) (gEvent : eveG k v = false) (gChain : chaG k v = false) (gi : (idx k v).2.2.2.2 = 141) (l1 : k.length ≤ 36) (l2 : v.length ≤ 200) : Calls Tryz.prog 8 #[.agg #[S k, S v]] w fun e w' => e = .returned (.bool true) ∧ Below w.heap.size w w' := by
  have HA := hide (awake_any (w.alloc (.cells #[S k, S v] 30)))
  have HClient := hide (fun W => cold15 k v W hk hv gClient)
  have HFamily := hide (fun W => cold25 k v W hk hv gFamily)
  have HToken : Hid (∀ W, Calls Tryz.prog 35 #[.agg #[S k, S v]] W fun e w' => Below W.heap.size W w' ∧ e = .returned (.tuple #[.agg #[I (tok_id k), I (tok_fa v), I (tok_ge v), S (tok_ha v), I (tok_mi v), .bool (tok_sp v), I (tok_at9 v), I (tok_ne v), S (tok_se v)], I 0])) := hide (fun W => by
    refine (Parse35 k v W hk hv).mono ?_
    rintro e w' ⟨hb, hor⟩
    rw [gToken] at hor
    rcases hor with ⟨_, q⟩ | ⟨q, _⟩
    · exact ⟨hb, q⟩
    · cases q)
  have HPToken : Hid (∀ W : World, Calls Tryz.prog 33 #[.agg #[I (tok_id k), I (tok_fa v), I (tok_ge v), S (tok_ha v), I (tok_mi v), .bool (tok_sp v), I (tok_at9 v), I (tok_ne v), S (tok_se v)]] W fun e w' => e = .returned (.tuple #[.agg #[S k, S v], I 0]) ∧ Below W.heap.size W w') := hide (fun W => by
    have q := Print33 (tok_id k) (tok_fa v) (tok_ge v) (tok_ha v) (tok_mi v) (tok_sp v) (tok_at9 v) (tok_ne v) (tok_se v) W 
    rw [tokG_is gToken] at q
    exact q)
  have HCode := hide (fun W => cold30 k v W hk hv gCode)
  have HKey := hide (fun W => cold40 k v W hk hv gKey)
  have HEvent := hide (fun W => cold43 k v W hk hv gEvent)
  have HChain := hide (fun W => cold46 k v W hk hv gChain)
  have HI : Hid (∀ W, Calls Tryz.prog 54 #[.agg #[S k, S v]] W fun e w' => e = .returned (.tuple #[S (idx k v).1, I (idx k v).2.1, I (idx k v).2.2.1, S (idx k v).2.2.2.1, I 141]) ∧ Below W.heap.size W w') := hide (fun W => by
    have q := ParseIndex_any k v W hk hv
    rw [gi] at q
    exact q)
  have hb0 : Below w.heap.size w (w.alloc (.cells #[S k, S v] 30)) := (Below.refl _ w).alloc (Nat.le_refl _) _
  have c0 : (w.alloc (.cells #[S k, S v] 30)).cell? ⟨w.heap.size, 0, none⟩ = some (S k) := cell_new _ _ _ _ _ rfl
  have c1 : (w.alloc (.cells #[S k, S v] 30)).cell? ⟨w.heap.size, 1, none⟩ = some (S v) := cell_new _ _ _ _ _ rfl
  have hl : w.heap.size < (w.alloc (.cells #[S k, S v] 30)).heap.size := by simp
  have HB := hide hb0
  clear hb0 gi gClient gFamily gToken gCode gKey gEvent gChain hk hv
  have i1 : (k.length : Int) ≤ 36 := by omega
  have i2 : (v.length : Int) ≤ 200 := by omega
  clear l1 l2
  generalize (idx k v).1 = x1 at *
  generalize (idx k v).2.1 = x2 at *
  generalize (idx k v).2.2.1 = x3 at *
  generalize (idx k v).2.2.2.1 = x4 at *
  go_enter Tryz.func8, Tryz.ntmps8
  go_wp2_with fail
  refine (unhide HA).mono ?_
  rintro e w0 ⟨rfl, h0⟩
  replace c0 := cell_below c0 h0 hl
  replace c1 := cell_below c1 h0 hl
  replace hl := Nat.lt_of_lt_of_le hl h0.size
  replace HB := hide ((unhide HB).trans (h0.mono (unhide HB).size))
  clear h0 HA
  have X0 := hide (unhide HClient (w0))
  clear HClient
  go_wp2_with fail
  refine (unhide X0).mono ?_
  rintro e y0 ⟨rfl, h0⟩
  have ha : Below y0.heap.size y0 (y0.alloc (.cells #[S [], .bool false, .bool false, S [], S [], I 0, .slice none 0 0, I 0, I 0, I 0, I 0] 24)) := (Below.refl _ _).alloc (Nat.le_refl _) _
  replace c0 := cb2 c0 h0 ha hl
  replace c1 := cb2 c1 h0 ha hl
  replace HB := bb2 HB h0 ha
  replace hl : w.heap.size < (y0.alloc (.cells #[S [], .bool false, .bool false, S [], S [], I 0, .slice none 0 0, I 0, I 0, I 0, I 0] 24)).heap.size := Nat.lt_of_lt_of_le (Nat.lt_of_lt_of_le hl h0.size) ha.size
  clear h0 ha X0
  have X1 := hide (unhide HFamily (y0.alloc (.cells #[S [], .bool false, .bool false, S [], S [], I 0, .slice none 0 0, I 0, I 0, I 0, I 0] 24)))
  clear HFamily
  go_wp2_with fail
  refine (unhide X1).mono ?_
  rintro e y1 ⟨rfl, h0⟩
  have ha : Below y1.heap.size y1 (y1.alloc (.cells #[I 0, S [], S [], .slice none 0 0, I 0, I 0, I 0, I 0, I 0, I 0, I 0, I 0, I 0, I 0] 40)) := (Below.refl _ _).alloc (Nat.le_refl _) _
  replace c0 := cb2 c0 h0 ha hl
  replace c1 := cb2 c1 h0 ha hl
  replace HB := bb2 HB h0 ha
  replace hl : w.heap.size < (y1.alloc (.cells #[I 0, S [], S [], .slice none 0 0, I 0, I 0, I 0, I 0, I 0, I 0, I 0, I 0, I 0, I 0] 40)).heap.size := Nat.lt_of_lt_of_le (Nat.lt_of_lt_of_le hl h0.size) ha.size
  clear h0 ha X1
  have X2 := hide (unhide HToken (y1.alloc (.cells #[I 0, S [], S [], .slice none 0 0, I 0, I 0, I 0, I 0, I 0, I 0, I 0, I 0, I 0, I 0] 40)))
  clear HToken
  go_wp2_with fail
  refine (unhide X2).mono ?_
  rintro e y2 ⟨h0, rfl⟩
  have ha : Below y2.heap.size y2 (y2.alloc (.cells #[I (tok_id k), I (tok_fa v), I (tok_ge v), S (tok_ha v), I (tok_mi v), .bool (tok_sp v), I (tok_at9 v), I (tok_ne v), S (tok_se v)] 58)) := (Below.refl _ _).alloc (Nat.le_refl _) _
  replace c0 := cb2 c0 h0 ha hl
  replace c1 := cb2 c1 h0 ha hl
  replace HB := bb2 HB h0 ha
  replace hl : w.heap.size < (y2.alloc (.cells #[I (tok_id k), I (tok_fa v), I (tok_ge v), S (tok_ha v), I (tok_mi v), .bool (tok_sp v), I (tok_at9 v), I (tok_ne v), S (tok_se v)] 58)).heap.size := Nat.lt_of_lt_of_le (Nat.lt_of_lt_of_le hl h0.size) ha.size
  have d0 : (y2.alloc (.cells #[I (tok_id k), I (tok_fa v), I (tok_ge v), S (tok_ha v), I (tok_mi v), .bool (tok_sp v), I (tok_at9 v), I (tok_ne v), S (tok_se v)] 58)).cell? ⟨y2.heap.size, 0, none⟩ = some (I (tok_id k)) := cell_new _ _ _ _ _ rfl
  have d1 : (y2.alloc (.cells #[I (tok_id k), I (tok_fa v), I (tok_ge v), S (tok_ha v), I (tok_mi v), .bool (tok_sp v), I (tok_at9 v), I (tok_ne v), S (tok_se v)] 58)).cell? ⟨y2.heap.size, 1, none⟩ = some (I (tok_fa v)) := cell_new _ _ _ _ _ rfl
  have d2 : (y2.alloc (.cells #[I (tok_id k), I (tok_fa v), I (tok_ge v), S (tok_ha v), I (tok_mi v), .bool (tok_sp v), I (tok_at9 v), I (tok_ne v), S (tok_se v)] 58)).cell? ⟨y2.heap.size, 2, none⟩ = some (I (tok_ge v)) := cell_new _ _ _ _ _ rfl
  have d3 : (y2.alloc (.cells #[I (tok_id k), I (tok_fa v), I (tok_ge v), S (tok_ha v), I (tok_mi v), .bool (tok_sp v), I (tok_at9 v), I (tok_ne v), S (tok_se v)] 58)).cell? ⟨y2.heap.size, 3, none⟩ = some (S (tok_ha v)) := cell_new _ _ _ _ _ rfl
  have d4 : (y2.alloc (.cells #[I (tok_id k), I (tok_fa v), I (tok_ge v), S (tok_ha v), I (tok_mi v), .bool (tok_sp v), I (tok_at9 v), I (tok_ne v), S (tok_se v)] 58)).cell? ⟨y2.heap.size, 4, none⟩ = some (I (tok_mi v)) := cell_new _ _ _ _ _ rfl
  have d5 : (y2.alloc (.cells #[I (tok_id k), I (tok_fa v), I (tok_ge v), S (tok_ha v), I (tok_mi v), .bool (tok_sp v), I (tok_at9 v), I (tok_ne v), S (tok_se v)] 58)).cell? ⟨y2.heap.size, 5, none⟩ = some (.bool (tok_sp v)) := cell_new _ _ _ _ _ rfl
  have d6 : (y2.alloc (.cells #[I (tok_id k), I (tok_fa v), I (tok_ge v), S (tok_ha v), I (tok_mi v), .bool (tok_sp v), I (tok_at9 v), I (tok_ne v), S (tok_se v)] 58)).cell? ⟨y2.heap.size, 6, none⟩ = some (I (tok_at9 v)) := cell_new _ _ _ _ _ rfl
  have d7 : (y2.alloc (.cells #[I (tok_id k), I (tok_fa v), I (tok_ge v), S (tok_ha v), I (tok_mi v), .bool (tok_sp v), I (tok_at9 v), I (tok_ne v), S (tok_se v)] 58)).cell? ⟨y2.heap.size, 7, none⟩ = some (I (tok_ne v)) := cell_new _ _ _ _ _ rfl
  have d8 : (y2.alloc (.cells #[I (tok_id k), I (tok_fa v), I (tok_ge v), S (tok_ha v), I (tok_mi v), .bool (tok_sp v), I (tok_at9 v), I (tok_ne v), S (tok_se v)] 58)).cell? ⟨y2.heap.size, 8, none⟩ = some (S (tok_se v)) := cell_new _ _ _ _ _ rfl
  have Z2 := hide (unhide HPToken (y2.alloc (.cells #[I (tok_id k), I (tok_fa v), I (tok_ge v), S (tok_ha v), I (tok_mi v), .bool (tok_sp v), I (tok_at9 v), I (tok_ne v), S (tok_se v)] 58)))
  clear h0 ha X2 HPToken
  go_wp2_with fail
  refine (unhide Z2).mono ?_
  rintro e z2 ⟨rfl, h0⟩
  have ha : Below z2.heap.size z2 (z2.alloc (.cells #[S k, S v] 30)) := (Below.refl _ _).alloc (Nat.le_refl _) _
  have e0 : (z2.alloc (.cells #[S k, S v] 30)).cell? ⟨z2.heap.size, 0, none⟩ = some (S k) := cell_new _ _ _ _ _ rfl
  have e1 : (z2.alloc (.cells #[S k, S v] 30)).cell? ⟨z2.heap.size, 1, none⟩ = some (S v) := cell_new _ _ _ _ _ rfl
  have heq := eq30 k v k v
  rw [show (k == k && v == v) = true by simp] at heq
  replace c0 := cb2 c0 h0 ha hl
  replace c1 := cb2 c1 h0 ha hl
  replace HB := bb2 HB h0 ha
  replace hl : w.heap.size < (z2.alloc (.cells #[S k, S v] 30)).heap.size := Nat.lt_of_lt_of_le (Nat.lt_of_lt_of_le hl h0.size) ha.size
  clear h0 ha Z2 d0 d1 d2 d3 d4 d5 d6 d7 d8
  have X3 := hide (unhide HCode (z2.alloc (.cells #[S k, S v] 30)))
  clear HCode
  go_wp2_with fail
  refine (unhide X3).mono ?_
  rintro e y3 ⟨rfl, h0⟩
  have ha : Below y3.heap.size y3 (y3.alloc (.cells #[I 0, S [], S [], .slice none 0 0, S [], S [], I 0, I 0, I 0] 51)) := (Below.refl _ _).alloc (Nat.le_refl _) _
  replace c0 := cb2 c0 h0 ha hl
  replace c1 := cb2 c1 h0 ha hl
  replace HB := bb2 HB h0 ha
  replace hl : w.heap.size < (y3.alloc (.cells #[I 0, S [], S [], .slice none 0 0, S [], S [], I 0, I 0, I 0] 51)).heap.size := Nat.lt_of_lt_of_le (Nat.lt_of_lt_of_le hl h0.size) ha.size
  clear h0 ha X3
  have X4 := hide (unhide HKey (y3.alloc (.cells #[I 0, S [], S [], .slice none 0 0, S [], S [], I 0, I 0, I 0] 51)))
  clear HKey
  go_wp2_with fail
  refine (unhide X4).mono ?_
  rintro e y4 ⟨rfl, h0⟩
  have ha : Below y4.heap.size y4 (y4.alloc (.cells #[I 0, S [], I 0, I 0] 60)) := (Below.refl _ _).alloc (Nat.le_refl _) _
  replace c0 := cb2 c0 h0 ha hl
  replace c1 := cb2 c1 h0 ha hl
  replace HB := bb2 HB h0 ha
  replace hl : w.heap.size < (y4.alloc (.cells #[I 0, S [], I 0, I 0] 60)).heap.size := Nat.lt_of_lt_of_le (Nat.lt_of_lt_of_le hl h0.size) ha.size
  clear h0 ha X4
  have X5 := hide (unhide HEvent (y4.alloc (.cells #[I 0, S [], I 0, I 0] 60)))
  clear HEvent
  go_wp2_with fail
  refine (unhide X5).mono ?_
  rintro e y5 ⟨rfl, h0⟩
  have ha : Below y5.heap.size y5 (y5.alloc (.cells #[I 0, I 0, I 0, I 0, S []] 62)) := (Below.refl _ _).alloc (Nat.le_refl _) _
  replace c0 := cb2 c0 h0 ha hl
  replace c1 := cb2 c1 h0 ha hl
  replace HB := bb2 HB h0 ha
  replace hl : w.heap.size < (y5.alloc (.cells #[I 0, I 0, I 0, I 0, S []] 62)).heap.size := Nat.lt_of_lt_of_le (Nat.lt_of_lt_of_le hl h0.size) ha.size
  clear h0 ha X5
  have X6 := hide (unhide HChain (y5.alloc (.cells #[I 0, I 0, I 0, I 0, S []] 62)))
  clear HChain
  go_wp2_with fail
  refine (unhide X6).mono ?_
  rintro e y6 ⟨rfl, h0⟩
  have ha : Below y6.heap.size y6 (y6.alloc (.cells #[I 0, I 0, S [], S []] 64)) := (Below.refl _ _).alloc (Nat.le_refl _) _
  replace c0 := cb2 c0 h0 ha hl
  replace c1 := cb2 c1 h0 ha hl
  replace HB := bb2 HB h0 ha
  replace hl : w.heap.size < (y6.alloc (.cells #[I 0, I 0, S [], S []] 64)).heap.size := Nat.lt_of_lt_of_le (Nat.lt_of_lt_of_le hl h0.size) ha.size
  clear h0 ha X6
  have X9 := hide (unhide HI (y6.alloc (.cells #[I 0, I 0, S [], S []] 64)))
  clear HI
  go_wp2_with fail
  refine (unhide X9).mono ?_
  rintro e w9 ⟨rfl, h0⟩
  replace c0 := cell_below c0 h0 hl
  replace c1 := cell_below c1 h0 hl
  replace HB := hide ((unhide HB).trans (h0.mono (unhide HB).size))
  clear h0 X9 hl
  go_wp2
  go_ret
  exact ⟨rfl, unhide HB⟩
end Go.Proofs.YtpidmpefodnffaaGreatDoor
namespace Go.Proofs.YtpidmpefodnffaaGreatDoor
open Go.RowKit
set_option maxHeartbeats 4000000
set_option maxRecDepth 8000
theorem owCode (k v : Bs) (w : World) (hk : k.length ≤ 9223372036854775807) (hv : v.length ≤ 9223372036854775807) (gClient : cliG k v = false) (gFamily : famG k v = false) (gToken : tokG k v = false) (gCode : codG k v = true) (gKey : keyG k v = false) (gEvent : eveG k v = false) (gChain : chaG k v = false) (gi : (idx k v).2.2.2.2 = 141) (l1 : k.length ≤ 36) (l2 : v.length ≤ 200) : Calls Tryz.prog 8 #[.agg #[S k, S v]] w fun e w' => e = .returned (.bool true) ∧ Below w.heap.size w w' := by
  have HA := hide (awake_any (w.alloc (.cells #[S k, S v] 30)))
  have HClient := hide (fun W => cold15 k v W hk hv gClient)
  have HFamily := hide (fun W => cold25 k v W hk hv gFamily)
  have HToken := hide (fun W => cold35 k v W hk hv gToken)
  have HCode : Hid (∀ W, Calls Tryz.prog 30 #[.agg #[S k, S v]] W fun e w' => Below W.heap.size W w' ∧ ∃ va vc, e = .returned (.tuple #[.agg #[I (cod_id k), S (cod_cl v), S (cod_su v), .slice va (cod_sc v).length vc, S (cod_ha v), S (cod_ch v), I (cod_un v), I (cod_st v), I (cod_fa v)], I 0]) ∧ OwnS W.heap.size w' (.slice va (cod_sc v).length vc) (cod_sc v)) := hide (fun W => by
    refine (Parse30 k v W hk hv).mono ?_
    rintro e w' ⟨hb, hor⟩
    rw [gCode] at hor
    rcases hor with ⟨_, q⟩ | ⟨q, _⟩
    · exact ⟨hb, q⟩
    · cases q)
  have HPCode : Hid (∀ (va : Option Addr) (vc : Nat) (W : World), Sts W va (cod_sc v).length (cod_sc v) → Calls Tryz.prog 28 #[.agg #[I (cod_id k), S (cod_cl v), S (cod_su v), .slice va (cod_sc v).length vc, S (cod_ha v), S (cod_ch v), I (cod_un v), I (cod_st v), I (cod_fa v)]] W fun e w' => e = .returned (.tuple #[.agg #[S k, S v], I 0]) ∧ Below W.heap.size W w') := hide (fun va vc W hsc => by
    have q := Print28 (cod_id k) (cod_cl v) (cod_su v) va vc (cod_sc v) (cod_ha v) (cod_ch v) (cod_un v) (cod_st v) (cod_fa v) W (Nat.le_trans (tv_len _ _) (by decide)) (Nat.le_trans (tv_len _ _) (by decide)) hsc (by have := (right_small (parse_ok (tv 60 (codV2 v)))).1; exact Nat.le_trans this (by decide)) (lns_right (parse_ok _))
    rw [codG_is gCode] at q
    exact q)
  have HKey := hide (fun W => cold40 k v W hk hv gKey)
  have HEvent := hide (fun W => cold43 k v W hk hv gEvent)
  have HChain := hide (fun W => cold46 k v W hk hv gChain)
  have HI : Hid (∀ W, Calls Tryz.prog 54 #[.agg #[S k, S v]] W fun e w' => e = .returned (.tuple #[S (idx k v).1, I (idx k v).2.1, I (idx k v).2.2.1, S (idx k v).2.2.2.1, I 141]) ∧ Below W.heap.size W w') := hide (fun W => by
    have q := ParseIndex_any k v W hk hv
    rw [gi] at q
    exact q)
  have hb0 : Below w.heap.size w (w.alloc (.cells #[S k, S v] 30)) := (Below.refl _ w).alloc (Nat.le_refl _) _
  have c0 : (w.alloc (.cells #[S k, S v] 30)).cell? ⟨w.heap.size, 0, none⟩ = some (S k) := cell_new _ _ _ _ _ rfl
  have c1 : (w.alloc (.cells #[S k, S v] 30)).cell? ⟨w.heap.size, 1, none⟩ = some (S v) := cell_new _ _ _ _ _ rfl
  have hl : w.heap.size < (w.alloc (.cells #[S k, S v] 30)).heap.size := by simp
  have HB := hide hb0
  clear hb0 gi gClient gFamily gToken gCode gKey gEvent gChain hk hv
  have i1 : (k.length : Int) ≤ 36 := by omega
  have i2 : (v.length : Int) ≤ 200 := by omega
  clear l1 l2
  generalize (idx k v).1 = x1 at *
  generalize (idx k v).2.1 = x2 at *
  generalize (idx k v).2.2.1 = x3 at *
  generalize (idx k v).2.2.2.1 = x4 at *
  go_enter Tryz.func8, Tryz.ntmps8
  go_wp2_with fail
  refine (unhide HA).mono ?_
  rintro e w0 ⟨rfl, h0⟩
  replace c0 := cell_below c0 h0 hl
  replace c1 := cell_below c1 h0 hl
  replace hl := Nat.lt_of_lt_of_le hl h0.size
  replace HB := hide ((unhide HB).trans (h0.mono (unhide HB).size))
  clear h0 HA
  have X0 := hide (unhide HClient (w0))
  clear HClient
  go_wp2_with fail
  refine (unhide X0).mono ?_
  rintro e y0 ⟨rfl, h0⟩
  have ha : Below y0.heap.size y0 (y0.alloc (.cells #[S [], .bool false, .bool false, S [], S [], I 0, .slice none 0 0, I 0, I 0, I 0, I 0] 24)) := (Below.refl _ _).alloc (Nat.le_refl _) _
  replace c0 := cb2 c0 h0 ha hl
  replace c1 := cb2 c1 h0 ha hl
  replace HB := bb2 HB h0 ha
  replace hl : w.heap.size < (y0.alloc (.cells #[S [], .bool false, .bool false, S [], S [], I 0, .slice none 0 0, I 0, I 0, I 0, I 0] 24)).heap.size := Nat.lt_of_lt_of_le (Nat.lt_of_lt_of_le hl h0.size) ha.size
  clear h0 ha X0
  have X1 := hide (unhide HFamily (y0.alloc (.cells #[S [], .bool false, .bool false, S [], S [], I 0, .slice none 0 0, I 0, I 0, I 0, I 0] 24)))
  clear HFamily
  go_wp2_with fail
  refine (unhide X1).mono ?_
  rintro e y1 ⟨rfl, h0⟩
  have ha : Below y1.heap.size y1 (y1.alloc (.cells #[I 0, S [], S [], .slice none 0 0, I 0, I 0, I 0, I 0, I 0, I 0, I 0, I 0, I 0, I 0] 40)) := (Below.refl _ _).alloc (Nat.le_refl _) _
  replace c0 := cb2 c0 h0 ha hl
  replace c1 := cb2 c1 h0 ha hl
  replace HB := bb2 HB h0 ha
  replace hl : w.heap.size < (y1.alloc (.cells #[I 0, S [], S [], .slice none 0 0, I 0, I 0, I 0, I 0, I 0, I 0, I 0, I 0, I 0, I 0] 40)).heap.size := Nat.lt_of_lt_of_le (Nat.lt_of_lt_of_le hl h0.size) ha.size
  clear h0 ha X1
  have X2 := hide (unhide HToken (y1.alloc (.cells #[I 0, S [], S [], .slice none 0 0, I 0, I 0, I 0, I 0, I 0, I 0, I 0, I 0, I 0, I 0] 40)))
  clear HToken
  go_wp2_with fail
  refine (unhide X2).mono ?_
  rintro e y2 ⟨rfl, h0⟩
  have ha : Below y2.heap.size y2 (y2.alloc (.cells #[I 0, I 0, I 0, S [], I 0, .bool false, I 0, I 0, S []] 58)) := (Below.refl _ _).alloc (Nat.le_refl _) _
  replace c0 := cb2 c0 h0 ha hl
  replace c1 := cb2 c1 h0 ha hl
  replace HB := bb2 HB h0 ha
  replace hl : w.heap.size < (y2.alloc (.cells #[I 0, I 0, I 0, S [], I 0, .bool false, I 0, I 0, S []] 58)).heap.size := Nat.lt_of_lt_of_le (Nat.lt_of_lt_of_le hl h0.size) ha.size
  clear h0 ha X2
  have X3 := hide (unhide HCode (y2.alloc (.cells #[I 0, I 0, I 0, S [], I 0, .bool false, I 0, I 0, S []] 58)))
  clear HCode
  go_wp2_with fail
  refine (unhide X3).mono ?_
  rintro e y3 ⟨h0, va, vc, rfl, hown⟩
  have ha : Below y3.heap.size y3 (y3.alloc (.cells #[I (cod_id k), S (cod_cl v), S (cod_su v), .slice va (cod_sc v).length vc, S (cod_ha v), S (cod_ch v), I (cod_un v), I (cod_st v), I (cod_fa v)] 51)) := (Below.refl _ _).alloc (Nat.le_refl _) _
  replace c0 := cb2 c0 h0 ha hl
  replace c1 := cb2 c1 h0 ha hl
  replace HB := bb2 HB h0 ha
  replace hl : w.heap.size < (y3.alloc (.cells #[I (cod_id k), S (cod_cl v), S (cod_su v), .slice va (cod_sc v).length vc, S (cod_ha v), S (cod_ch v), I (cod_un v), I (cod_st v), I (cod_fa v)] 51)).heap.size := Nat.lt_of_lt_of_le (Nat.lt_of_lt_of_le hl h0.size) ha.size
  have HSC := hide ((OwnS.sts hown).below ha)
  clear hown
  have d0 : (y3.alloc (.cells #[I (cod_id k), S (cod_cl v), S (cod_su v), .slice va (cod_sc v).length vc, S (cod_ha v), S (cod_ch v), I (cod_un v), I (cod_st v), I (cod_fa v)] 51)).cell? ⟨y3.heap.size, 0, none⟩ = some (I (cod_id k)) := cell_new _ _ _ _ _ rfl
  have d1 : (y3.alloc (.cells #[I (cod_id k), S (cod_cl v), S (cod_su v), .slice va (cod_sc v).length vc, S (cod_ha v), S (cod_ch v), I (cod_un v), I (cod_st v), I (cod_fa v)] 51)).cell? ⟨y3.heap.size, 1, none⟩ = some (S (cod_cl v)) := cell_new _ _ _ _ _ rfl
  have d2 : (y3.alloc (.cells #[I (cod_id k), S (cod_cl v), S (cod_su v), .slice va (cod_sc v).length vc, S (cod_ha v), S (cod_ch v), I (cod_un v), I (cod_st v), I (cod_fa v)] 51)).cell? ⟨y3.heap.size, 2, none⟩ = some (S (cod_su v)) := cell_new _ _ _ _ _ rfl
  have d3 : (y3.alloc (.cells #[I (cod_id k), S (cod_cl v), S (cod_su v), .slice va (cod_sc v).length vc, S (cod_ha v), S (cod_ch v), I (cod_un v), I (cod_st v), I (cod_fa v)] 51)).cell? ⟨y3.heap.size, 3, none⟩ = some (.slice va (cod_sc v).length vc) := cell_new _ _ _ _ _ rfl
  have d4 : (y3.alloc (.cells #[I (cod_id k), S (cod_cl v), S (cod_su v), .slice va (cod_sc v).length vc, S (cod_ha v), S (cod_ch v), I (cod_un v), I (cod_st v), I (cod_fa v)] 51)).cell? ⟨y3.heap.size, 4, none⟩ = some (S (cod_ha v)) := cell_new _ _ _ _ _ rfl
  have d5 : (y3.alloc (.cells #[I (cod_id k), S (cod_cl v), S (cod_su v), .slice va (cod_sc v).length vc, S (cod_ha v), S (cod_ch v), I (cod_un v), I (cod_st v), I (cod_fa v)] 51)).cell? ⟨y3.heap.size, 5, none⟩ = some (S (cod_ch v)) := cell_new _ _ _ _ _ rfl
  have d6 : (y3.alloc (.cells #[I (cod_id k), S (cod_cl v), S (cod_su v), .slice va (cod_sc v).length vc, S (cod_ha v), S (cod_ch v), I (cod_un v), I (cod_st v), I (cod_fa v)] 51)).cell? ⟨y3.heap.size, 6, none⟩ = some (I (cod_un v)) := cell_new _ _ _ _ _ rfl
  have d7 : (y3.alloc (.cells #[I (cod_id k), S (cod_cl v), S (cod_su v), .slice va (cod_sc v).length vc, S (cod_ha v), S (cod_ch v), I (cod_un v), I (cod_st v), I (cod_fa v)] 51)).cell? ⟨y3.heap.size, 7, none⟩ = some (I (cod_st v)) := cell_new _ _ _ _ _ rfl
  have d8 : (y3.alloc (.cells #[I (cod_id k), S (cod_cl v), S (cod_su v), .slice va (cod_sc v).length vc, S (cod_ha v), S (cod_ch v), I (cod_un v), I (cod_st v), I (cod_fa v)] 51)).cell? ⟨y3.heap.size, 8, none⟩ = some (I (cod_fa v)) := cell_new _ _ _ _ _ rfl
  have Z3 := hide (unhide HPCode va vc (y3.alloc (.cells #[I (cod_id k), S (cod_cl v), S (cod_su v), .slice va (cod_sc v).length vc, S (cod_ha v), S (cod_ch v), I (cod_un v), I (cod_st v), I (cod_fa v)] 51)) (unhide HSC))
  clear h0 ha X3 HPCode HSC
  go_wp2_with fail
  refine (unhide Z3).mono ?_
  rintro e z3 ⟨rfl, h0⟩
  have ha : Below z3.heap.size z3 (z3.alloc (.cells #[S k, S v] 30)) := (Below.refl _ _).alloc (Nat.le_refl _) _
  have e0 : (z3.alloc (.cells #[S k, S v] 30)).cell? ⟨z3.heap.size, 0, none⟩ = some (S k) := cell_new _ _ _ _ _ rfl
  have e1 : (z3.alloc (.cells #[S k, S v] 30)).cell? ⟨z3.heap.size, 1, none⟩ = some (S v) := cell_new _ _ _ _ _ rfl
  have heq := eq30 k v k v
  rw [show (k == k && v == v) = true by simp] at heq
  replace c0 := cb2 c0 h0 ha hl
  replace c1 := cb2 c1 h0 ha hl
  replace HB := bb2 HB h0 ha
  replace hl : w.heap.size < (z3.alloc (.cells #[S k, S v] 30)).heap.size := Nat.lt_of_lt_of_le (Nat.lt_of_lt_of_le hl h0.size) ha.size
  clear h0 ha Z3 d0 d1 d2 d3 d4 d5 d6 d7 d8
  have X4 := hide (unhide HKey (z3.alloc (.cells #[S k, S v] 30)))
  clear HKey
  go_wp2_with fail
  refine (unhide X4).mono ?_
  rintro e y4 ⟨rfl, h0⟩
  have ha : Below y4.heap.size y4 (y4.alloc (.cells #[I 0, S [], I 0, I 0] 60)) := (Below.refl _ _).alloc (Nat.le_refl _) _
  replace c0 := cb2 c0 h0 ha hl
  replace c1 := cb2 c1 h0 ha hl
  replace HB := bb2 HB h0 ha
  replace hl : w.heap.size < (y4.alloc (.cells #[I 0, S [], I 0, I 0] 60)).heap.size := Nat.lt_of_lt_of_le (Nat.lt_of_lt_of_le hl h0.size) ha.size
  clear h0 ha X4
  have X5 := hide (unhide HEvent (y4.alloc (.cells #[I 0, S [], I 0, I 0] 60)))
  clear HEvent
  go_wp2_with fail
  refine (unhide X5).mono ?_
  rintro e y5 ⟨rfl, h0⟩
  have ha : Below y5.heap.size y5 (y5.alloc (.cells #[I 0, I 0, I 0, I 0, S []] 62)) := (Below.refl _ _).alloc (Nat.le_refl _) _
  replace c0 := cb2 c0 h0 ha hl
  replace c1 := cb2 c1 h0 ha hl
  replace HB := bb2 HB h0 ha
  replace hl : w.heap.size < (y5.alloc (.cells #[I 0, I 0, I 0, I 0, S []] 62)).heap.size := Nat.lt_of_lt_of_le (Nat.lt_of_lt_of_le hl h0.size) ha.size
  clear h0 ha X5
  have X6 := hide (unhide HChain (y5.alloc (.cells #[I 0, I 0, I 0, I 0, S []] 62)))
  clear HChain
  go_wp2_with fail
  refine (unhide X6).mono ?_
  rintro e y6 ⟨rfl, h0⟩
  have ha : Below y6.heap.size y6 (y6.alloc (.cells #[I 0, I 0, S [], S []] 64)) := (Below.refl _ _).alloc (Nat.le_refl _) _
  replace c0 := cb2 c0 h0 ha hl
  replace c1 := cb2 c1 h0 ha hl
  replace HB := bb2 HB h0 ha
  replace hl : w.heap.size < (y6.alloc (.cells #[I 0, I 0, S [], S []] 64)).heap.size := Nat.lt_of_lt_of_le (Nat.lt_of_lt_of_le hl h0.size) ha.size
  clear h0 ha X6
  have X9 := hide (unhide HI (y6.alloc (.cells #[I 0, I 0, S [], S []] 64)))
  clear HI
  go_wp2_with fail
  refine (unhide X9).mono ?_
  rintro e w9 ⟨rfl, h0⟩
  replace c0 := cell_below c0 h0 hl
  replace c1 := cell_below c1 h0 hl
  replace HB := hide ((unhide HB).trans (h0.mono (unhide HB).size))
  clear h0 X9 hl
  go_wp2
  go_ret
  exact ⟨rfl, unhide HB⟩
end Go.Proofs.YtpidmpefodnffaaGreatDoor
namespace Go.Proofs.YtpidmpefodnffaaGreatDoor
open Go.RowKit
set_option maxHeartbeats 4000000
set_option maxRecDepth 8000
theorem owKey (k v : Bs) (w : World) (hk : k.length ≤ 9223372036854775807) (hv : v.length ≤ 9223372036854775807) (gClient : cliG k v = false) (gFamily : famG k v = false) (gToken : tokG k v = false) (gCode : codG k v = false) (gKey : keyG k v = true) (gEvent : eveG k v = false) (gChain : chaG k v = false) (gi : (idx k v).2.2.2.2 = 141) (l1 : k.length ≤ 36) (l2 : v.length ≤ 200) : Calls Tryz.prog 8 #[.agg #[S k, S v]] w fun e w' => e = .returned (.bool true) ∧ Below w.heap.size w w' := by
  have HA := hide (awake_any (w.alloc (.cells #[S k, S v] 30)))
  have HClient := hide (fun W => cold15 k v W hk hv gClient)
  have HFamily := hide (fun W => cold25 k v W hk hv gFamily)
  have HToken := hide (fun W => cold35 k v W hk hv gToken)
  have HCode := hide (fun W => cold30 k v W hk hv gCode)
  have HKey : Hid (∀ W, Calls Tryz.prog 40 #[.agg #[S k, S v]] W fun e w' => Below W.heap.size W w' ∧ e = .returned (.tuple #[.agg #[I (key_nu k), S (key_se v), I (key_fr v), I (key_un v)], I 0])) := hide (fun W => by
    refine (Parse40 k v W hk hv).mono ?_
    rintro e w' ⟨hb, hor⟩
    rw [gKey] at hor
    rcases hor with ⟨_, q⟩ | ⟨q, _⟩
    · exact ⟨hb, q⟩
    · cases q)
  have HPKey : Hid (∀ W : World, Calls Tryz.prog 38 #[.agg #[I (key_nu k), S (key_se v), I (key_fr v), I (key_un v)]] W fun e w' => e = .returned (.tuple #[.agg #[S k, S v], I 0]) ∧ Below W.heap.size W w') := hide (fun W => by
    have q := Print38 (key_nu k) (key_se v) (key_fr v) (key_un v) W 
    rw [keyG_is gKey] at q
    exact q)
  have HEvent := hide (fun W => cold43 k v W hk hv gEvent)
  have HChain := hide (fun W => cold46 k v W hk hv gChain)
  have HI : Hid (∀ W, Calls Tryz.prog 54 #[.agg #[S k, S v]] W fun e w' => e = .returned (.tuple #[S (idx k v).1, I (idx k v).2.1, I (idx k v).2.2.1, S (idx k v).2.2.2.1, I 141]) ∧ Below W.heap.size W w') := hide (fun W => by
    have q := ParseIndex_any k v W hk hv
    rw [gi] at q
    exact q)
  have hb0 : Below w.heap.size w (w.alloc (.cells #[S k, S v] 30)) := (Below.refl _ w).alloc (Nat.le_refl _) _
  have c0 : (w.alloc (.cells #[S k, S v] 30)).cell? ⟨w.heap.size, 0, none⟩ = some (S k) := cell_new _ _ _ _ _ rfl
  have c1 : (w.alloc (.cells #[S k, S v] 30)).cell? ⟨w.heap.size, 1, none⟩ = some (S v) := cell_new _ _ _ _ _ rfl
  have hl : w.heap.size < (w.alloc (.cells #[S k, S v] 30)).heap.size := by simp
  have HB := hide hb0
  clear hb0 gi gClient gFamily gToken gCode gKey gEvent gChain hk hv
  have i1 : (k.length : Int) ≤ 36 := by omega
  have i2 : (v.length : Int) ≤ 200 := by omega
  clear l1 l2
  generalize (idx k v).1 = x1 at *
  generalize (idx k v).2.1 = x2 at *
  generalize (idx k v).2.2.1 = x3 at *
  generalize (idx k v).2.2.2.1 = x4 at *
  go_enter Tryz.func8, Tryz.ntmps8
  go_wp2_with fail
  refine (unhide HA).mono ?_
  rintro e w0 ⟨rfl, h0⟩
  replace c0 := cell_below c0 h0 hl
  replace c1 := cell_below c1 h0 hl
  replace hl := Nat.lt_of_lt_of_le hl h0.size
  replace HB := hide ((unhide HB).trans (h0.mono (unhide HB).size))
  clear h0 HA
  have X0 := hide (unhide HClient (w0))
  clear HClient
  go_wp2_with fail
  refine (unhide X0).mono ?_
  rintro e y0 ⟨rfl, h0⟩
  have ha : Below y0.heap.size y0 (y0.alloc (.cells #[S [], .bool false, .bool false, S [], S [], I 0, .slice none 0 0, I 0, I 0, I 0, I 0] 24)) := (Below.refl _ _).alloc (Nat.le_refl _) _
  replace c0 := cb2 c0 h0 ha hl
  replace c1 := cb2 c1 h0 ha hl
  replace HB := bb2 HB h0 ha
  replace hl : w.heap.size < (y0.alloc (.cells #[S [], .bool false, .bool false, S [], S [], I 0, .slice none 0 0, I 0, I 0, I 0, I 0] 24)).heap.size := Nat.lt_of_lt_of_le (Nat.lt_of_lt_of_le hl h0.size) ha.size
  clear h0 ha X0
  have X1 := hide (unhide HFamily (y0.alloc (.cells #[S [], .bool false, .bool false, S [], S [], I 0, .slice none 0 0, I 0, I 0, I 0, I 0] 24)))
  clear HFamily
  go_wp2_with fail
  refine (unhide X1).mono ?_
  rintro e y1 ⟨rfl, h0⟩
  have ha : Below y1.heap.size y1 (y1.alloc (.cells #[I 0, S [], S [], .slice none 0 0, I 0, I 0, I 0, I 0, I 0, I 0, I 0, I 0, I 0, I 0] 40)) := (Below.refl _ _).alloc (Nat.le_refl _) _
  replace c0 := cb2 c0 h0 ha hl
  replace c1 := cb2 c1 h0 ha hl
  replace HB := bb2 HB h0 ha
  replace hl : w.heap.size < (y1.alloc (.cells #[I 0, S [], S [], .slice none 0 0, I 0, I 0, I 0, I 0, I 0, I 0, I 0, I 0, I 0, I 0] 40)).heap.size := Nat.lt_of_lt_of_le (Nat.lt_of_lt_of_le hl h0.size) ha.size
  clear h0 ha X1
  have X2 := hide (unhide HToken (y1.alloc (.cells #[I 0, S [], S [], .slice none 0 0, I 0, I 0, I 0, I 0, I 0, I 0, I 0, I 0, I 0, I 0] 40)))
  clear HToken
  go_wp2_with fail
  refine (unhide X2).mono ?_
  rintro e y2 ⟨rfl, h0⟩
  have ha : Below y2.heap.size y2 (y2.alloc (.cells #[I 0, I 0, I 0, S [], I 0, .bool false, I 0, I 0, S []] 58)) := (Below.refl _ _).alloc (Nat.le_refl _) _
  replace c0 := cb2 c0 h0 ha hl
  replace c1 := cb2 c1 h0 ha hl
  replace HB := bb2 HB h0 ha
  replace hl : w.heap.size < (y2.alloc (.cells #[I 0, I 0, I 0, S [], I 0, .bool false, I 0, I 0, S []] 58)).heap.size := Nat.lt_of_lt_of_le (Nat.lt_of_lt_of_le hl h0.size) ha.size
  clear h0 ha X2
  have X3 := hide (unhide HCode (y2.alloc (.cells #[I 0, I 0, I 0, S [], I 0, .bool false, I 0, I 0, S []] 58)))
  clear HCode
  go_wp2_with fail
  refine (unhide X3).mono ?_
  rintro e y3 ⟨rfl, h0⟩
  have ha : Below y3.heap.size y3 (y3.alloc (.cells #[I 0, S [], S [], .slice none 0 0, S [], S [], I 0, I 0, I 0] 51)) := (Below.refl _ _).alloc (Nat.le_refl _) _
  replace c0 := cb2 c0 h0 ha hl
  replace c1 := cb2 c1 h0 ha hl
  replace HB := bb2 HB h0 ha
  replace hl : w.heap.size < (y3.alloc (.cells #[I 0, S [], S [], .slice none 0 0, S [], S [], I 0, I 0, I 0] 51)).heap.size := Nat.lt_of_lt_of_le (Nat.lt_of_lt_of_le hl h0.size) ha.size
  clear h0 ha X3
  have X4 := hide (unhide HKey (y3.alloc (.cells #[I 0, S [], S [], .slice none 0 0, S [], S [], I 0, I 0, I 0] 51)))
  clear HKey
  go_wp2_with fail
  refine (unhide X4).mono ?_
  rintro e y4 ⟨h0, rfl⟩
  have ha : Below y4.heap.size y4 (y4.alloc (.cells #[I (key_nu k), S (key_se v), I (key_fr v), I (key_un v)] 60)) := (Below.refl _ _).alloc (Nat.le_refl _) _
  replace c0 := cb2 c0 h0 ha hl
  replace c1 := cb2 c1 h0 ha hl
  replace HB := bb2 HB h0 ha
  replace hl : w.heap.size < (y4.alloc (.cells #[I (key_nu k), S (key_se v), I (key_fr v), I (key_un v)] 60)).heap.size := Nat.lt_of_lt_of_le (Nat.lt_of_lt_of_le hl h0.size) ha.size
  have d0 : (y4.alloc (.cells #[I (key_nu k), S (key_se v), I (key_fr v), I (key_un v)] 60)).cell? ⟨y4.heap.size, 0, none⟩ = some (I (key_nu k)) := cell_new _ _ _ _ _ rfl
  have d1 : (y4.alloc (.cells #[I (key_nu k), S (key_se v), I (key_fr v), I (key_un v)] 60)).cell? ⟨y4.heap.size, 1, none⟩ = some (S (key_se v)) := cell_new _ _ _ _ _ rfl
  have d2 : (y4.alloc (.cells #[I (key_nu k), S (key_se v), I (key_fr v), I (key_un v)] 60)).cell? ⟨y4.heap.size, 2, none⟩ = some (I (key_fr v)) := cell_new _ _ _ _ _ rfl
  have d3 : (y4.alloc (.cells #[I (key_nu k), S (key_se v), I (key_fr v), I (key_un v)] 60)).cell? ⟨y4.heap.size, 3, none⟩ = some (I (key_un v)) := cell_new _ _ _ _ _ rfl
  have Z4 := hide (unhide HPKey (y4.alloc (.cells #[I (key_nu k), S (key_se v), I (key_fr v), I (key_un v)] 60)))
  clear h0 ha X4 HPKey
  go_wp2_with fail
  refine (unhide Z4).mono ?_
  rintro e z4 ⟨rfl, h0⟩
  have ha : Below z4.heap.size z4 (z4.alloc (.cells #[S k, S v] 30)) := (Below.refl _ _).alloc (Nat.le_refl _) _
  have e0 : (z4.alloc (.cells #[S k, S v] 30)).cell? ⟨z4.heap.size, 0, none⟩ = some (S k) := cell_new _ _ _ _ _ rfl
  have e1 : (z4.alloc (.cells #[S k, S v] 30)).cell? ⟨z4.heap.size, 1, none⟩ = some (S v) := cell_new _ _ _ _ _ rfl
  have heq := eq30 k v k v
  rw [show (k == k && v == v) = true by simp] at heq
  replace c0 := cb2 c0 h0 ha hl
  replace c1 := cb2 c1 h0 ha hl
  replace HB := bb2 HB h0 ha
  replace hl : w.heap.size < (z4.alloc (.cells #[S k, S v] 30)).heap.size := Nat.lt_of_lt_of_le (Nat.lt_of_lt_of_le hl h0.size) ha.size
  clear h0 ha Z4 d0 d1 d2 d3
  have X5 := hide (unhide HEvent (z4.alloc (.cells #[S k, S v] 30)))
  clear HEvent
  go_wp2_with fail
  refine (unhide X5).mono ?_
  rintro e y5 ⟨rfl, h0⟩
  have ha : Below y5.heap.size y5 (y5.alloc (.cells #[I 0, I 0, I 0, I 0, S []] 62)) := (Below.refl _ _).alloc (Nat.le_refl _) _
  replace c0 := cb2 c0 h0 ha hl
  replace c1 := cb2 c1 h0 ha hl
  replace HB := bb2 HB h0 ha
  replace hl : w.heap.size < (y5.alloc (.cells #[I 0, I 0, I 0, I 0, S []] 62)).heap.size := Nat.lt_of_lt_of_le (Nat.lt_of_lt_of_le hl h0.size) ha.size
  clear h0 ha X5
  have X6 := hide (unhide HChain (y5.alloc (.cells #[I 0, I 0, I 0, I 0, S []] 62)))
  clear HChain
  go_wp2_with fail
  refine (unhide X6).mono ?_
  rintro e y6 ⟨rfl, h0⟩
  have ha : Below y6.heap.size y6 (y6.alloc (.cells #[I 0, I 0, S [], S []] 64)) := (Below.refl _ _).alloc (Nat.le_refl _) _
  replace c0 := cb2 c0 h0 ha hl
  replace c1 := cb2 c1 h0 ha hl
  replace HB := bb2 HB h0 ha
  replace hl : w.heap.size < (y6.alloc (.cells #[I 0, I 0, S [], S []] 64)).heap.size := Nat.lt_of_lt_of_le (Nat.lt_of_lt_of_le hl h0.size) ha.size
  clear h0 ha X6
  have X9 := hide (unhide HI (y6.alloc (.cells #[I 0, I 0, S [], S []] 64)))
  clear HI
  go_wp2_with fail
  refine (unhide X9).mono ?_
  rintro e w9 ⟨rfl, h0⟩
  replace c0 := cell_below c0 h0 hl
  replace c1 := cell_below c1 h0 hl
  replace HB := hide ((unhide HB).trans (h0.mono (unhide HB).size))
  clear h0 X9 hl
  go_wp2
  go_ret
  exact ⟨rfl, unhide HB⟩
end Go.Proofs.YtpidmpefodnffaaGreatDoor
namespace Go.Proofs.YtpidmpefodnffaaGreatDoor
open Go.RowKit
set_option maxHeartbeats 4000000
set_option maxRecDepth 8000
theorem owEvent (k v : Bs) (w : World) (hk : k.length ≤ 9223372036854775807) (hv : v.length ≤ 9223372036854775807) (gClient : cliG k v = false) (gFamily : famG k v = false) (gToken : tokG k v = false) (gCode : codG k v = false) (gKey : keyG k v = false) (gEvent : eveG k v = true) (gChain : chaG k v = false) (gi : (idx k v).2.2.2.2 = 141) (l1 : k.length ≤ 36) (l2 : v.length ≤ 200) : Calls Tryz.prog 8 #[.agg #[S k, S v]] w fun e w' => e = .returned (.bool true) ∧ Below w.heap.size w w' := by
  have HA := hide (awake_any (w.alloc (.cells #[S k, S v] 30)))
  have HClient := hide (fun W => cold15 k v W hk hv gClient)
  have HFamily := hide (fun W => cold25 k v W hk hv gFamily)
  have HToken := hide (fun W => cold35 k v W hk hv gToken)
  have HCode := hide (fun W => cold30 k v W hk hv gCode)
  have HKey := hide (fun W => cold40 k v W hk hv gKey)
  have HEvent : Hid (∀ W, Calls Tryz.prog 43 #[.agg #[S k, S v]] W fun e w' => Below W.heap.size W w' ∧ e = .returned (.tuple #[.agg #[I (eve_nu k), I (eve_ti v), I (eve_ki v), I (eve_fa v), S (eve_wh v)], I 0])) := hide (fun W => by
    refine (Parse43 k v W hk hv).mono ?_
    rintro e w' ⟨hb, hor⟩
    rw [gEvent] at hor
    rcases hor with ⟨_, q⟩ | ⟨q, _⟩
    · exact ⟨hb, q⟩
    · cases q)
  have HPEvent : Hid (∀ W : World, Calls Tryz.prog 41 #[.agg #[I (eve_nu k), I (eve_ti v), I (eve_ki v), I (eve_fa v), S (eve_wh v)]] W fun e w' => e = .returned (.tuple #[.agg #[S k, S v], I 0]) ∧ Below W.heap.size W w') := hide (fun W => by
    have q := Print41 (eve_nu k) (eve_ti v) (eve_ki v) (eve_fa v) (eve_wh v) W (Nat.le_trans (tv_len _ _) (by decide))
    rw [eveG_is gEvent] at q
    exact q)
  have HChain := hide (fun W => cold46 k v W hk hv gChain)
  have HI : Hid (∀ W, Calls Tryz.prog 54 #[.agg #[S k, S v]] W fun e w' => e = .returned (.tuple #[S (idx k v).1, I (idx k v).2.1, I (idx k v).2.2.1, S (idx k v).2.2.2.1, I 141]) ∧ Below W.heap.size W w') := hide (fun W => by
    have q := ParseIndex_any k v W hk hv
    rw [gi] at q
    exact q)
  have hb0 : Below w.heap.size w (w.alloc (.cells #[S k, S v] 30)) := (Below.refl _ w).alloc (Nat.le_refl _) _
  have c0 : (w.alloc (.cells #[S k, S v] 30)).cell? ⟨w.heap.size, 0, none⟩ = some (S k) := cell_new _ _ _ _ _ rfl
  have c1 : (w.alloc (.cells #[S k, S v] 30)).cell? ⟨w.heap.size, 1, none⟩ = some (S v) := cell_new _ _ _ _ _ rfl
  have hl : w.heap.size < (w.alloc (.cells #[S k, S v] 30)).heap.size := by simp
  have HB := hide hb0
  clear hb0 gi gClient gFamily gToken gCode gKey gEvent gChain hk hv
  have i1 : (k.length : Int) ≤ 36 := by omega
  have i2 : (v.length : Int) ≤ 200 := by omega
  clear l1 l2
  generalize (idx k v).1 = x1 at *
  generalize (idx k v).2.1 = x2 at *
  generalize (idx k v).2.2.1 = x3 at *
  generalize (idx k v).2.2.2.1 = x4 at *
  go_enter Tryz.func8, Tryz.ntmps8
  go_wp2_with fail
  refine (unhide HA).mono ?_
  rintro e w0 ⟨rfl, h0⟩
  replace c0 := cell_below c0 h0 hl
  replace c1 := cell_below c1 h0 hl
  replace hl := Nat.lt_of_lt_of_le hl h0.size
  replace HB := hide ((unhide HB).trans (h0.mono (unhide HB).size))
  clear h0 HA
  have X0 := hide (unhide HClient (w0))
  clear HClient
  go_wp2_with fail
  refine (unhide X0).mono ?_
  rintro e y0 ⟨rfl, h0⟩
  have ha : Below y0.heap.size y0 (y0.alloc (.cells #[S [], .bool false, .bool false, S [], S [], I 0, .slice none 0 0, I 0, I 0, I 0, I 0] 24)) := (Below.refl _ _).alloc (Nat.le_refl _) _
  replace c0 := cb2 c0 h0 ha hl
  replace c1 := cb2 c1 h0 ha hl
  replace HB := bb2 HB h0 ha
  replace hl : w.heap.size < (y0.alloc (.cells #[S [], .bool false, .bool false, S [], S [], I 0, .slice none 0 0, I 0, I 0, I 0, I 0] 24)).heap.size := Nat.lt_of_lt_of_le (Nat.lt_of_lt_of_le hl h0.size) ha.size
  clear h0 ha X0
  have X1 := hide (unhide HFamily (y0.alloc (.cells #[S [], .bool false, .bool false, S [], S [], I 0, .slice none 0 0, I 0, I 0, I 0, I 0] 24)))
  clear HFamily
  go_wp2_with fail
  refine (unhide X1).mono ?_
  rintro e y1 ⟨rfl, h0⟩
  have ha : Below y1.heap.size y1 (y1.alloc (.cells #[I 0, S [], S [], .slice none 0 0, I 0, I 0, I 0, I 0, I 0, I 0, I 0, I 0, I 0, I 0] 40)) := (Below.refl _ _).alloc (Nat.le_refl _) _
  replace c0 := cb2 c0 h0 ha hl
  replace c1 := cb2 c1 h0 ha hl
  replace HB := bb2 HB h0 ha
  replace hl : w.heap.size < (y1.alloc (.cells #[I 0, S [], S [], .slice none 0 0, I 0, I 0, I 0, I 0, I 0, I 0, I 0, I 0, I 0, I 0] 40)).heap.size := Nat.lt_of_lt_of_le (Nat.lt_of_lt_of_le hl h0.size) ha.size
  clear h0 ha X1
  have X2 := hide (unhide HToken (y1.alloc (.cells #[I 0, S [], S [], .slice none 0 0, I 0, I 0, I 0, I 0, I 0, I 0, I 0, I 0, I 0, I 0] 40)))
  clear HToken
  go_wp2_with fail
  refine (unhide X2).mono ?_
  rintro e y2 ⟨rfl, h0⟩
  have ha : Below y2.heap.size y2 (y2.alloc (.cells #[I 0, I 0, I 0, S [], I 0, .bool false, I 0, I 0, S []] 58)) := (Below.refl _ _).alloc (Nat.le_refl _) _
  replace c0 := cb2 c0 h0 ha hl
  replace c1 := cb2 c1 h0 ha hl
  replace HB := bb2 HB h0 ha
  replace hl : w.heap.size < (y2.alloc (.cells #[I 0, I 0, I 0, S [], I 0, .bool false, I 0, I 0, S []] 58)).heap.size := Nat.lt_of_lt_of_le (Nat.lt_of_lt_of_le hl h0.size) ha.size
  clear h0 ha X2
  have X3 := hide (unhide HCode (y2.alloc (.cells #[I 0, I 0, I 0, S [], I 0, .bool false, I 0, I 0, S []] 58)))
  clear HCode
  go_wp2_with fail
  refine (unhide X3).mono ?_
  rintro e y3 ⟨rfl, h0⟩
  have ha : Below y3.heap.size y3 (y3.alloc (.cells #[I 0, S [], S [], .slice none 0 0, S [], S [], I 0, I 0, I 0] 51)) := (Below.refl _ _).alloc (Nat.le_refl _) _
  replace c0 := cb2 c0 h0 ha hl
  replace c1 := cb2 c1 h0 ha hl
  replace HB := bb2 HB h0 ha
  replace hl : w.heap.size < (y3.alloc (.cells #[I 0, S [], S [], .slice none 0 0, S [], S [], I 0, I 0, I 0] 51)).heap.size := Nat.lt_of_lt_of_le (Nat.lt_of_lt_of_le hl h0.size) ha.size
  clear h0 ha X3
  have X4 := hide (unhide HKey (y3.alloc (.cells #[I 0, S [], S [], .slice none 0 0, S [], S [], I 0, I 0, I 0] 51)))
  clear HKey
  go_wp2_with fail
  refine (unhide X4).mono ?_
  rintro e y4 ⟨rfl, h0⟩
  have ha : Below y4.heap.size y4 (y4.alloc (.cells #[I 0, S [], I 0, I 0] 60)) := (Below.refl _ _).alloc (Nat.le_refl _) _
  replace c0 := cb2 c0 h0 ha hl
  replace c1 := cb2 c1 h0 ha hl
  replace HB := bb2 HB h0 ha
  replace hl : w.heap.size < (y4.alloc (.cells #[I 0, S [], I 0, I 0] 60)).heap.size := Nat.lt_of_lt_of_le (Nat.lt_of_lt_of_le hl h0.size) ha.size
  clear h0 ha X4
  have X5 := hide (unhide HEvent (y4.alloc (.cells #[I 0, S [], I 0, I 0] 60)))
  clear HEvent
  go_wp2_with fail
  refine (unhide X5).mono ?_
  rintro e y5 ⟨h0, rfl⟩
  have ha : Below y5.heap.size y5 (y5.alloc (.cells #[I (eve_nu k), I (eve_ti v), I (eve_ki v), I (eve_fa v), S (eve_wh v)] 62)) := (Below.refl _ _).alloc (Nat.le_refl _) _
  replace c0 := cb2 c0 h0 ha hl
  replace c1 := cb2 c1 h0 ha hl
  replace HB := bb2 HB h0 ha
  replace hl : w.heap.size < (y5.alloc (.cells #[I (eve_nu k), I (eve_ti v), I (eve_ki v), I (eve_fa v), S (eve_wh v)] 62)).heap.size := Nat.lt_of_lt_of_le (Nat.lt_of_lt_of_le hl h0.size) ha.size
  have d0 : (y5.alloc (.cells #[I (eve_nu k), I (eve_ti v), I (eve_ki v), I (eve_fa v), S (eve_wh v)] 62)).cell? ⟨y5.heap.size, 0, none⟩ = some (I (eve_nu k)) := cell_new _ _ _ _ _ rfl
  have d1 : (y5.alloc (.cells #[I (eve_nu k), I (eve_ti v), I (eve_ki v), I (eve_fa v), S (eve_wh v)] 62)).cell? ⟨y5.heap.size, 1, none⟩ = some (I (eve_ti v)) := cell_new _ _ _ _ _ rfl
  have d2 : (y5.alloc (.cells #[I (eve_nu k), I (eve_ti v), I (eve_ki v), I (eve_fa v), S (eve_wh v)] 62)).cell? ⟨y5.heap.size, 2, none⟩ = some (I (eve_ki v)) := cell_new _ _ _ _ _ rfl
  have d3 : (y5.alloc (.cells #[I (eve_nu k), I (eve_ti v), I (eve_ki v), I (eve_fa v), S (eve_wh v)] 62)).cell? ⟨y5.heap.size, 3, none⟩ = some (I (eve_fa v)) := cell_new _ _ _ _ _ rfl
  have d4 : (y5.alloc (.cells #[I (eve_nu k), I (eve_ti v), I (eve_ki v), I (eve_fa v), S (eve_wh v)] 62)).cell? ⟨y5.heap.size, 4, none⟩ = some (S (eve_wh v)) := cell_new _ _ _ _ _ rfl
  have Z5 := hide (unhide HPEvent (y5.alloc (.cells #[I (eve_nu k), I (eve_ti v), I (eve_ki v), I (eve_fa v), S (eve_wh v)] 62)))
  clear h0 ha X5 HPEvent
  go_wp2_with fail
  refine (unhide Z5).mono ?_
  rintro e z5 ⟨rfl, h0⟩
  have ha : Below z5.heap.size z5 (z5.alloc (.cells #[S k, S v] 30)) := (Below.refl _ _).alloc (Nat.le_refl _) _
  have e0 : (z5.alloc (.cells #[S k, S v] 30)).cell? ⟨z5.heap.size, 0, none⟩ = some (S k) := cell_new _ _ _ _ _ rfl
  have e1 : (z5.alloc (.cells #[S k, S v] 30)).cell? ⟨z5.heap.size, 1, none⟩ = some (S v) := cell_new _ _ _ _ _ rfl
  have heq := eq30 k v k v
  rw [show (k == k && v == v) = true by simp] at heq
  replace c0 := cb2 c0 h0 ha hl
  replace c1 := cb2 c1 h0 ha hl
  replace HB := bb2 HB h0 ha
  replace hl : w.heap.size < (z5.alloc (.cells #[S k, S v] 30)).heap.size := Nat.lt_of_lt_of_le (Nat.lt_of_lt_of_le hl h0.size) ha.size
  clear h0 ha Z5 d0 d1 d2 d3 d4
  have X6 := hide (unhide HChain (z5.alloc (.cells #[S k, S v] 30)))
  clear HChain
  go_wp2_with fail
  refine (unhide X6).mono ?_
  rintro e y6 ⟨rfl, h0⟩
  have ha : Below y6.heap.size y6 (y6.alloc (.cells #[I 0, I 0, S [], S []] 64)) := (Below.refl _ _).alloc (Nat.le_refl _) _
  replace c0 := cb2 c0 h0 ha hl
  replace c1 := cb2 c1 h0 ha hl
  replace HB := bb2 HB h0 ha
  replace hl : w.heap.size < (y6.alloc (.cells #[I 0, I 0, S [], S []] 64)).heap.size := Nat.lt_of_lt_of_le (Nat.lt_of_lt_of_le hl h0.size) ha.size
  clear h0 ha X6
  have X9 := hide (unhide HI (y6.alloc (.cells #[I 0, I 0, S [], S []] 64)))
  clear HI
  go_wp2_with fail
  refine (unhide X9).mono ?_
  rintro e w9 ⟨rfl, h0⟩
  replace c0 := cell_below c0 h0 hl
  replace c1 := cell_below c1 h0 hl
  replace HB := hide ((unhide HB).trans (h0.mono (unhide HB).size))
  clear h0 X9 hl
  go_wp2
  go_ret
  exact ⟨rfl, unhide HB⟩
end Go.Proofs.YtpidmpefodnffaaGreatDoor
namespace Go.Proofs.YtpidmpefodnffaaGreatDoor
open Go.RowKit
set_option maxHeartbeats 4000000
set_option maxRecDepth 8000
theorem owChain (k v : Bs) (w : World) (hk : k.length ≤ 9223372036854775807) (hv : v.length ≤ 9223372036854775807) (gClient : cliG k v = false) (gFamily : famG k v = false) (gToken : tokG k v = false) (gCode : codG k v = false) (gKey : keyG k v = false) (gEvent : eveG k v = false) (gChain : chaG k v = true) (gi : (idx k v).2.2.2.2 = 141) (l1 : k.length ≤ 36) (l2 : v.length ≤ 200) : Calls Tryz.prog 8 #[.agg #[S k, S v]] w fun e w' => e = .returned (.bool true) ∧ Below w.heap.size w w' := by
  have HA := hide (awake_any (w.alloc (.cells #[S k, S v] 30)))
  have HClient := hide (fun W => cold15 k v W hk hv gClient)
  have HFamily := hide (fun W => cold25 k v W hk hv gFamily)
  have HToken := hide (fun W => cold35 k v W hk hv gToken)
  have HCode := hide (fun W => cold30 k v W hk hv gCode)
  have HKey := hide (fun W => cold40 k v W hk hv gKey)
  have HEvent := hide (fun W => cold43 k v W hk hv gEvent)
  have HChain : Hid (∀ W, Calls Tryz.prog 46 #[.agg #[S k, S v]] W fun e w' => Below W.heap.size W w' ∧ e = .returned (.tuple #[.agg #[I (cha_ba v), I (cha_ne v), S (cha_bh v), S (cha_nh v)], I 0])) := hide (fun W => by
    refine (Parse46 k v W hk hv).mono ?_
    rintro e w' ⟨hb, hor⟩
    rw [gChain] at hor
    rcases hor with ⟨_, q⟩ | ⟨q, _⟩
    · exact ⟨hb, q⟩
    · cases q)
  have HPChain : Hid (∀ W : World, Calls Tryz.prog 44 #[.agg #[I (cha_ba v), I (cha_ne v), S (cha_bh v), S (cha_nh v)]] W fun e w' => e = .returned (.tuple #[.agg #[S k, S v], I 0]) ∧ Below W.heap.size W w') := hide (fun W => by
    have q := Print44 (cha_ba v) (cha_ne v) (cha_bh v) (cha_nh v) W (rv_le _ _)
    rw [chaG_is gChain] at q
    exact q)
  have HI : Hid (∀ W, Calls Tryz.prog 54 #[.agg #[S k, S v]] W fun e w' => e = .returned (.tuple #[S (idx k v).1, I (idx k v).2.1, I (idx k v).2.2.1, S (idx k v).2.2.2.1, I 141]) ∧ Below W.heap.size W w') := hide (fun W => by
    have q := ParseIndex_any k v W hk hv
    rw [gi] at q
    exact q)
  have hb0 : Below w.heap.size w (w.alloc (.cells #[S k, S v] 30)) := (Below.refl _ w).alloc (Nat.le_refl _) _
  have c0 : (w.alloc (.cells #[S k, S v] 30)).cell? ⟨w.heap.size, 0, none⟩ = some (S k) := cell_new _ _ _ _ _ rfl
  have c1 : (w.alloc (.cells #[S k, S v] 30)).cell? ⟨w.heap.size, 1, none⟩ = some (S v) := cell_new _ _ _ _ _ rfl
  have hl : w.heap.size < (w.alloc (.cells #[S k, S v] 30)).heap.size := by simp
  have HB := hide hb0
  clear hb0 gi gClient gFamily gToken gCode gKey gEvent gChain hk hv
  have i1 : (k.length : Int) ≤ 36 := by omega
  have i2 : (v.length : Int) ≤ 200 := by omega
  clear l1 l2
  generalize (idx k v).1 = x1 at *
  generalize (idx k v).2.1 = x2 at *
  generalize (idx k v).2.2.1 = x3 at *
  generalize (idx k v).2.2.2.1 = x4 at *
  go_enter Tryz.func8, Tryz.ntmps8
  go_wp2_with fail
  refine (unhide HA).mono ?_
  rintro e w0 ⟨rfl, h0⟩
  replace c0 := cell_below c0 h0 hl
  replace c1 := cell_below c1 h0 hl
  replace hl := Nat.lt_of_lt_of_le hl h0.size
  replace HB := hide ((unhide HB).trans (h0.mono (unhide HB).size))
  clear h0 HA
  have X0 := hide (unhide HClient (w0))
  clear HClient
  go_wp2_with fail
  refine (unhide X0).mono ?_
  rintro e y0 ⟨rfl, h0⟩
  have ha : Below y0.heap.size y0 (y0.alloc (.cells #[S [], .bool false, .bool false, S [], S [], I 0, .slice none 0 0, I 0, I 0, I 0, I 0] 24)) := (Below.refl _ _).alloc (Nat.le_refl _) _
  replace c0 := cb2 c0 h0 ha hl
  replace c1 := cb2 c1 h0 ha hl
  replace HB := bb2 HB h0 ha
  replace hl : w.heap.size < (y0.alloc (.cells #[S [], .bool false, .bool false, S [], S [], I 0, .slice none 0 0, I 0, I 0, I 0, I 0] 24)).heap.size := Nat.lt_of_lt_of_le (Nat.lt_of_lt_of_le hl h0.size) ha.size
  clear h0 ha X0
  have X1 := hide (unhide HFamily (y0.alloc (.cells #[S [], .bool false, .bool false, S [], S [], I 0, .slice none 0 0, I 0, I 0, I 0, I 0] 24)))
  clear HFamily
  go_wp2_with fail
  refine (unhide X1).mono ?_
  rintro e y1 ⟨rfl, h0⟩
  have ha : Below y1.heap.size y1 (y1.alloc (.cells #[I 0, S [], S [], .slice none 0 0, I 0, I 0, I 0, I 0, I 0, I 0, I 0, I 0, I 0, I 0] 40)) := (Below.refl _ _).alloc (Nat.le_refl _) _
  replace c0 := cb2 c0 h0 ha hl
  replace c1 := cb2 c1 h0 ha hl
  replace HB := bb2 HB h0 ha
  replace hl : w.heap.size < (y1.alloc (.cells #[I 0, S [], S [], .slice none 0 0, I 0, I 0, I 0, I 0, I 0, I 0, I 0, I 0, I 0, I 0] 40)).heap.size := Nat.lt_of_lt_of_le (Nat.lt_of_lt_of_le hl h0.size) ha.size
  clear h0 ha X1
  have X2 := hide (unhide HToken (y1.alloc (.cells #[I 0, S [], S [], .slice none 0 0, I 0, I 0, I 0, I 0, I 0, I 0, I 0, I 0, I 0, I 0] 40)))
  clear HToken
  go_wp2_with fail
  refine (unhide X2).mono ?_
  rintro e y2 ⟨rfl, h0⟩
  have ha : Below y2.heap.size y2 (y2.alloc (.cells #[I 0, I 0, I 0, S [], I 0, .bool false, I 0, I 0, S []] 58)) := (Below.refl _ _).alloc (Nat.le_refl _) _
  replace c0 := cb2 c0 h0 ha hl
  replace c1 := cb2 c1 h0 ha hl
  replace HB := bb2 HB h0 ha
  replace hl : w.heap.size < (y2.alloc (.cells #[I 0, I 0, I 0, S [], I 0, .bool false, I 0, I 0, S []] 58)).heap.size := Nat.lt_of_lt_of_le (Nat.lt_of_lt_of_le hl h0.size) ha.size
  clear h0 ha X2
  have X3 := hide (unhide HCode (y2.alloc (.cells #[I 0, I 0, I 0, S [], I 0, .bool false, I 0, I 0, S []] 58)))
  clear HCode
  go_wp2_with fail
  refine (unhide X3).mono ?_
  rintro e y3 ⟨rfl, h0⟩
  have ha : Below y3.heap.size y3 (y3.alloc (.cells #[I 0, S [], S [], .slice none 0 0, S [], S [], I 0, I 0, I 0] 51)) := (Below.refl _ _).alloc (Nat.le_refl _) _
  replace c0 := cb2 c0 h0 ha hl
  replace c1 := cb2 c1 h0 ha hl
  replace HB := bb2 HB h0 ha
  replace hl : w.heap.size < (y3.alloc (.cells #[I 0, S [], S [], .slice none 0 0, S [], S [], I 0, I 0, I 0] 51)).heap.size := Nat.lt_of_lt_of_le (Nat.lt_of_lt_of_le hl h0.size) ha.size
  clear h0 ha X3
  have X4 := hide (unhide HKey (y3.alloc (.cells #[I 0, S [], S [], .slice none 0 0, S [], S [], I 0, I 0, I 0] 51)))
  clear HKey
  go_wp2_with fail
  refine (unhide X4).mono ?_
  rintro e y4 ⟨rfl, h0⟩
  have ha : Below y4.heap.size y4 (y4.alloc (.cells #[I 0, S [], I 0, I 0] 60)) := (Below.refl _ _).alloc (Nat.le_refl _) _
  replace c0 := cb2 c0 h0 ha hl
  replace c1 := cb2 c1 h0 ha hl
  replace HB := bb2 HB h0 ha
  replace hl : w.heap.size < (y4.alloc (.cells #[I 0, S [], I 0, I 0] 60)).heap.size := Nat.lt_of_lt_of_le (Nat.lt_of_lt_of_le hl h0.size) ha.size
  clear h0 ha X4
  have X5 := hide (unhide HEvent (y4.alloc (.cells #[I 0, S [], I 0, I 0] 60)))
  clear HEvent
  go_wp2_with fail
  refine (unhide X5).mono ?_
  rintro e y5 ⟨rfl, h0⟩
  have ha : Below y5.heap.size y5 (y5.alloc (.cells #[I 0, I 0, I 0, I 0, S []] 62)) := (Below.refl _ _).alloc (Nat.le_refl _) _
  replace c0 := cb2 c0 h0 ha hl
  replace c1 := cb2 c1 h0 ha hl
  replace HB := bb2 HB h0 ha
  replace hl : w.heap.size < (y5.alloc (.cells #[I 0, I 0, I 0, I 0, S []] 62)).heap.size := Nat.lt_of_lt_of_le (Nat.lt_of_lt_of_le hl h0.size) ha.size
  clear h0 ha X5
  have X6 := hide (unhide HChain (y5.alloc (.cells #[I 0, I 0, I 0, I 0, S []] 62)))
  clear HChain
  go_wp2_with fail
  refine (unhide X6).mono ?_
  rintro e y6 ⟨h0, rfl⟩
  have ha : Below y6.heap.size y6 (y6.alloc (.cells #[I (cha_ba v), I (cha_ne v), S (cha_bh v), S (cha_nh v)] 64)) := (Below.refl _ _).alloc (Nat.le_refl _) _
  replace c0 := cb2 c0 h0 ha hl
  replace c1 := cb2 c1 h0 ha hl
  replace HB := bb2 HB h0 ha
  replace hl : w.heap.size < (y6.alloc (.cells #[I (cha_ba v), I (cha_ne v), S (cha_bh v), S (cha_nh v)] 64)).heap.size := Nat.lt_of_lt_of_le (Nat.lt_of_lt_of_le hl h0.size) ha.size
  have d0 : (y6.alloc (.cells #[I (cha_ba v), I (cha_ne v), S (cha_bh v), S (cha_nh v)] 64)).cell? ⟨y6.heap.size, 0, none⟩ = some (I (cha_ba v)) := cell_new _ _ _ _ _ rfl
  have d1 : (y6.alloc (.cells #[I (cha_ba v), I (cha_ne v), S (cha_bh v), S (cha_nh v)] 64)).cell? ⟨y6.heap.size, 1, none⟩ = some (I (cha_ne v)) := cell_new _ _ _ _ _ rfl
  have d2 : (y6.alloc (.cells #[I (cha_ba v), I (cha_ne v), S (cha_bh v), S (cha_nh v)] 64)).cell? ⟨y6.heap.size, 2, none⟩ = some (S (cha_bh v)) := cell_new _ _ _ _ _ rfl
  have d3 : (y6.alloc (.cells #[I (cha_ba v), I (cha_ne v), S (cha_bh v), S (cha_nh v)] 64)).cell? ⟨y6.heap.size, 3, none⟩ = some (S (cha_nh v)) := cell_new _ _ _ _ _ rfl
  have Z6 := hide (unhide HPChain (y6.alloc (.cells #[I (cha_ba v), I (cha_ne v), S (cha_bh v), S (cha_nh v)] 64)))
  clear h0 ha X6 HPChain
  go_wp2_with fail
  refine (unhide Z6).mono ?_
  rintro e z6 ⟨rfl, h0⟩
  have ha : Below z6.heap.size z6 (z6.alloc (.cells #[S k, S v] 30)) := (Below.refl _ _).alloc (Nat.le_refl _) _
  have e0 : (z6.alloc (.cells #[S k, S v] 30)).cell? ⟨z6.heap.size, 0, none⟩ = some (S k) := cell_new _ _ _ _ _ rfl
  have e1 : (z6.alloc (.cells #[S k, S v] 30)).cell? ⟨z6.heap.size, 1, none⟩ = some (S v) := cell_new _ _ _ _ _ rfl
  have heq := eq30 k v k v
  rw [show (k == k && v == v) = true by simp] at heq
  replace c0 := cb2 c0 h0 ha hl
  replace c1 := cb2 c1 h0 ha hl
  replace HB := bb2 HB h0 ha
  replace hl : w.heap.size < (z6.alloc (.cells #[S k, S v] 30)).heap.size := Nat.lt_of_lt_of_le (Nat.lt_of_lt_of_le hl h0.size) ha.size
  clear h0 ha Z6 d0 d1 d2 d3
  have X9 := hide (unhide HI (z6.alloc (.cells #[S k, S v] 30)))
  clear HI
  go_wp2_with fail
  refine (unhide X9).mono ?_
  rintro e w9 ⟨rfl, h0⟩
  replace c0 := cell_below c0 h0 hl
  replace c1 := cell_below c1 h0 hl
  replace HB := hide ((unhide HB).trans (h0.mono (unhide HB).size))
  clear h0 X9 hl
  go_wp2
  go_ret
  exact ⟨rfl, unhide HB⟩
end Go.Proofs.YtpidmpefodnffaaGreatDoor
namespace Go.Proofs.YtpidmpefodnffaaGreatDoor
open Go.RowKit
set_option maxHeartbeats 4000000
set_option maxRecDepth 8000
theorem owIndex (k v : Bs) (w : World) (hk : k.length ≤ 9223372036854775807) (hv : v.length ≤ 9223372036854775807) (gClient : cliG k v = false) (gFamily : famG k v = false) (gToken : tokG k v = false) (gCode : codG k v = false) (gKey : keyG k v = false) (gEvent : eveG k v = false) (gChain : chaG k v = false) (gi : (idx k v).2.2.2.2 = 0) (l1 : k.length ≤ 36) (l2 : v.length ≤ 200) : Calls Tryz.prog 8 #[.agg #[S k, S v]] w fun e w' => e = .returned (.bool true) ∧ Below w.heap.size w w' := by
  have HA := hide (awake_any (w.alloc (.cells #[S k, S v] 30)))
  have HClient := hide (fun W => cold15 k v W hk hv gClient)
  have HFamily := hide (fun W => cold25 k v W hk hv gFamily)
  have HToken := hide (fun W => cold35 k v W hk hv gToken)
  have HCode := hide (fun W => cold30 k v W hk hv gCode)
  have HKey := hide (fun W => cold40 k v W hk hv gKey)
  have HEvent := hide (fun W => cold43 k v W hk hv gEvent)
  have HChain := hide (fun W => cold46 k v W hk hv gChain)
  have HI : Hid (∀ W, Calls Tryz.prog 54 #[.agg #[S k, S v]] W fun e w' => e = .returned (.tuple #[S (idx k v).1, I (idx k v).2.1, I (idx k v).2.2.1, S (idx k v).2.2.2.1, I 0]) ∧ Below W.heap.size W w') := hide (fun W => by
    have q := ParseIndex_any k v W hk hv
    rw [gi] at q
    exact q)
  have hb0 : Below w.heap.size w (w.alloc (.cells #[S k, S v] 30)) := (Below.refl _ w).alloc (Nat.le_refl _) _
  have c0 : (w.alloc (.cells #[S k, S v] 30)).cell? ⟨w.heap.size, 0, none⟩ = some (S k) := cell_new _ _ _ _ _ rfl
  have c1 : (w.alloc (.cells #[S k, S v] 30)).cell? ⟨w.heap.size, 1, none⟩ = some (S v) := cell_new _ _ _ _ _ rfl
  have hl : w.heap.size < (w.alloc (.cells #[S k, S v] 30)).heap.size := by simp
  have HB := hide hb0
  clear hb0 gi gClient gFamily gToken gCode gKey gEvent gChain hk hv
  have i1 : (k.length : Int) ≤ 36 := by omega
  have i2 : (v.length : Int) ≤ 200 := by omega
  clear l1 l2
  generalize (idx k v).1 = x1 at *
  generalize (idx k v).2.1 = x2 at *
  generalize (idx k v).2.2.1 = x3 at *
  generalize (idx k v).2.2.2.1 = x4 at *
  go_enter Tryz.func8, Tryz.ntmps8
  go_wp2_with fail
  refine (unhide HA).mono ?_
  rintro e w0 ⟨rfl, h0⟩
  replace c0 := cell_below c0 h0 hl
  replace c1 := cell_below c1 h0 hl
  replace hl := Nat.lt_of_lt_of_le hl h0.size
  replace HB := hide ((unhide HB).trans (h0.mono (unhide HB).size))
  clear h0 HA
  have X0 := hide (unhide HClient (w0))
  clear HClient
  go_wp2_with fail
  refine (unhide X0).mono ?_
  rintro e y0 ⟨rfl, h0⟩
  have ha : Below y0.heap.size y0 (y0.alloc (.cells #[S [], .bool false, .bool false, S [], S [], I 0, .slice none 0 0, I 0, I 0, I 0, I 0] 24)) := (Below.refl _ _).alloc (Nat.le_refl _) _
  replace c0 := cb2 c0 h0 ha hl
  replace c1 := cb2 c1 h0 ha hl
  replace HB := bb2 HB h0 ha
  replace hl : w.heap.size < (y0.alloc (.cells #[S [], .bool false, .bool false, S [], S [], I 0, .slice none 0 0, I 0, I 0, I 0, I 0] 24)).heap.size := Nat.lt_of_lt_of_le (Nat.lt_of_lt_of_le hl h0.size) ha.size
  clear h0 ha X0
  have X1 := hide (unhide HFamily (y0.alloc (.cells #[S [], .bool false, .bool false, S [], S [], I 0, .slice none 0 0, I 0, I 0, I 0, I 0] 24)))
  clear HFamily
  go_wp2_with fail
  refine (unhide X1).mono ?_
  rintro e y1 ⟨rfl, h0⟩
  have ha : Below y1.heap.size y1 (y1.alloc (.cells #[I 0, S [], S [], .slice none 0 0, I 0, I 0, I 0, I 0, I 0, I 0, I 0, I 0, I 0, I 0] 40)) := (Below.refl _ _).alloc (Nat.le_refl _) _
  replace c0 := cb2 c0 h0 ha hl
  replace c1 := cb2 c1 h0 ha hl
  replace HB := bb2 HB h0 ha
  replace hl : w.heap.size < (y1.alloc (.cells #[I 0, S [], S [], .slice none 0 0, I 0, I 0, I 0, I 0, I 0, I 0, I 0, I 0, I 0, I 0] 40)).heap.size := Nat.lt_of_lt_of_le (Nat.lt_of_lt_of_le hl h0.size) ha.size
  clear h0 ha X1
  have X2 := hide (unhide HToken (y1.alloc (.cells #[I 0, S [], S [], .slice none 0 0, I 0, I 0, I 0, I 0, I 0, I 0, I 0, I 0, I 0, I 0] 40)))
  clear HToken
  go_wp2_with fail
  refine (unhide X2).mono ?_
  rintro e y2 ⟨rfl, h0⟩
  have ha : Below y2.heap.size y2 (y2.alloc (.cells #[I 0, I 0, I 0, S [], I 0, .bool false, I 0, I 0, S []] 58)) := (Below.refl _ _).alloc (Nat.le_refl _) _
  replace c0 := cb2 c0 h0 ha hl
  replace c1 := cb2 c1 h0 ha hl
  replace HB := bb2 HB h0 ha
  replace hl : w.heap.size < (y2.alloc (.cells #[I 0, I 0, I 0, S [], I 0, .bool false, I 0, I 0, S []] 58)).heap.size := Nat.lt_of_lt_of_le (Nat.lt_of_lt_of_le hl h0.size) ha.size
  clear h0 ha X2
  have X3 := hide (unhide HCode (y2.alloc (.cells #[I 0, I 0, I 0, S [], I 0, .bool false, I 0, I 0, S []] 58)))
  clear HCode
  go_wp2_with fail
  refine (unhide X3).mono ?_
  rintro e y3 ⟨rfl, h0⟩
  have ha : Below y3.heap.size y3 (y3.alloc (.cells #[I 0, S [], S [], .slice none 0 0, S [], S [], I 0, I 0, I 0] 51)) := (Below.refl _ _).alloc (Nat.le_refl _) _
  replace c0 := cb2 c0 h0 ha hl
  replace c1 := cb2 c1 h0 ha hl
  replace HB := bb2 HB h0 ha
  replace hl : w.heap.size < (y3.alloc (.cells #[I 0, S [], S [], .slice none 0 0, S [], S [], I 0, I 0, I 0] 51)).heap.size := Nat.lt_of_lt_of_le (Nat.lt_of_lt_of_le hl h0.size) ha.size
  clear h0 ha X3
  have X4 := hide (unhide HKey (y3.alloc (.cells #[I 0, S [], S [], .slice none 0 0, S [], S [], I 0, I 0, I 0] 51)))
  clear HKey
  go_wp2_with fail
  refine (unhide X4).mono ?_
  rintro e y4 ⟨rfl, h0⟩
  have ha : Below y4.heap.size y4 (y4.alloc (.cells #[I 0, S [], I 0, I 0] 60)) := (Below.refl _ _).alloc (Nat.le_refl _) _
  replace c0 := cb2 c0 h0 ha hl
  replace c1 := cb2 c1 h0 ha hl
  replace HB := bb2 HB h0 ha
  replace hl : w.heap.size < (y4.alloc (.cells #[I 0, S [], I 0, I 0] 60)).heap.size := Nat.lt_of_lt_of_le (Nat.lt_of_lt_of_le hl h0.size) ha.size
  clear h0 ha X4
  have X5 := hide (unhide HEvent (y4.alloc (.cells #[I 0, S [], I 0, I 0] 60)))
  clear HEvent
  go_wp2_with fail
  refine (unhide X5).mono ?_
  rintro e y5 ⟨rfl, h0⟩
  have ha : Below y5.heap.size y5 (y5.alloc (.cells #[I 0, I 0, I 0, I 0, S []] 62)) := (Below.refl _ _).alloc (Nat.le_refl _) _
  replace c0 := cb2 c0 h0 ha hl
  replace c1 := cb2 c1 h0 ha hl
  replace HB := bb2 HB h0 ha
  replace hl : w.heap.size < (y5.alloc (.cells #[I 0, I 0, I 0, I 0, S []] 62)).heap.size := Nat.lt_of_lt_of_le (Nat.lt_of_lt_of_le hl h0.size) ha.size
  clear h0 ha X5
  have X6 := hide (unhide HChain (y5.alloc (.cells #[I 0, I 0, I 0, I 0, S []] 62)))
  clear HChain
  go_wp2_with fail
  refine (unhide X6).mono ?_
  rintro e y6 ⟨rfl, h0⟩
  have ha : Below y6.heap.size y6 (y6.alloc (.cells #[I 0, I 0, S [], S []] 64)) := (Below.refl _ _).alloc (Nat.le_refl _) _
  replace c0 := cb2 c0 h0 ha hl
  replace c1 := cb2 c1 h0 ha hl
  replace HB := bb2 HB h0 ha
  replace hl : w.heap.size < (y6.alloc (.cells #[I 0, I 0, S [], S []] 64)).heap.size := Nat.lt_of_lt_of_le (Nat.lt_of_lt_of_le hl h0.size) ha.size
  clear h0 ha X6
  have X9 := hide (unhide HI (y6.alloc (.cells #[I 0, I 0, S [], S []] 64)))
  clear HI
  go_wp2_with fail
  refine (unhide X9).mono ?_
  rintro e w9 ⟨rfl, h0⟩
  replace c0 := cell_below c0 h0 hl
  replace c1 := cell_below c1 h0 hl
  replace HB := hide ((unhide HB).trans (h0.mono (unhide HB).size))
  clear h0 X9 hl
  go_wp2
  go_ret
  exact ⟨rfl, unhide HB⟩
end Go.Proofs.YtpidmpefodnffaaGreatDoor
namespace Go.Proofs.YtpidmpefodnffaaGreatDoor
open Go.RowKit
set_option maxHeartbeats 4000000
set_option maxRecDepth 8000
theorem owNone (k v : Bs) (w : World) (hk : k.length ≤ 9223372036854775807) (hv : v.length ≤ 9223372036854775807) (gClient : cliG k v = false) (gFamily : famG k v = false) (gToken : tokG k v = false) (gCode : codG k v = false) (gKey : keyG k v = false) (gEvent : eveG k v = false) (gChain : chaG k v = false) (gi : (idx k v).2.2.2.2 = 141) : Calls Tryz.prog 8 #[.agg #[S k, S v]] w fun e w' => e = .returned (.bool true) ∧ Below w.heap.size w w' := by
  have HA := hide (awake_any (w.alloc (.cells #[S k, S v] 30)))
  have HClient := hide (fun W => cold15 k v W hk hv gClient)
  have HFamily := hide (fun W => cold25 k v W hk hv gFamily)
  have HToken := hide (fun W => cold35 k v W hk hv gToken)
  have HCode := hide (fun W => cold30 k v W hk hv gCode)
  have HKey := hide (fun W => cold40 k v W hk hv gKey)
  have HEvent := hide (fun W => cold43 k v W hk hv gEvent)
  have HChain := hide (fun W => cold46 k v W hk hv gChain)
  have HI : Hid (∀ W, Calls Tryz.prog 54 #[.agg #[S k, S v]] W fun e w' => e = .returned (.tuple #[S (idx k v).1, I (idx k v).2.1, I (idx k v).2.2.1, S (idx k v).2.2.2.1, I 141]) ∧ Below W.heap.size W w') := hide (fun W => by
    have q := ParseIndex_any k v W hk hv
    rw [gi] at q
    exact q)
  have hb0 : Below w.heap.size w (w.alloc (.cells #[S k, S v] 30)) := (Below.refl _ w).alloc (Nat.le_refl _) _
  have c0 : (w.alloc (.cells #[S k, S v] 30)).cell? ⟨w.heap.size, 0, none⟩ = some (S k) := cell_new _ _ _ _ _ rfl
  have c1 : (w.alloc (.cells #[S k, S v] 30)).cell? ⟨w.heap.size, 1, none⟩ = some (S v) := cell_new _ _ _ _ _ rfl
  have hl : w.heap.size < (w.alloc (.cells #[S k, S v] 30)).heap.size := by simp
  have HB := hide hb0
  clear hb0 gi gClient gFamily gToken gCode gKey gEvent gChain hk hv
  generalize (idx k v).1 = x1 at *
  generalize (idx k v).2.1 = x2 at *
  generalize (idx k v).2.2.1 = x3 at *
  generalize (idx k v).2.2.2.1 = x4 at *
  go_enter Tryz.func8, Tryz.ntmps8
  go_wp2_with fail
  refine (unhide HA).mono ?_
  rintro e w0 ⟨rfl, h0⟩
  replace c0 := cell_below c0 h0 hl
  replace c1 := cell_below c1 h0 hl
  replace hl := Nat.lt_of_lt_of_le hl h0.size
  replace HB := hide ((unhide HB).trans (h0.mono (unhide HB).size))
  clear h0 HA
  have X0 := hide (unhide HClient (w0))
  clear HClient
  go_wp2_with fail
  refine (unhide X0).mono ?_
  rintro e y0 ⟨rfl, h0⟩
  have ha : Below y0.heap.size y0 (y0.alloc (.cells #[S [], .bool false, .bool false, S [], S [], I 0, .slice none 0 0, I 0, I 0, I 0, I 0] 24)) := (Below.refl _ _).alloc (Nat.le_refl _) _
  replace c0 := cb2 c0 h0 ha hl
  replace c1 := cb2 c1 h0 ha hl
  replace HB := bb2 HB h0 ha
  replace hl : w.heap.size < (y0.alloc (.cells #[S [], .bool false, .bool false, S [], S [], I 0, .slice none 0 0, I 0, I 0, I 0, I 0] 24)).heap.size := Nat.lt_of_lt_of_le (Nat.lt_of_lt_of_le hl h0.size) ha.size
  clear h0 ha X0
  have X1 := hide (unhide HFamily (y0.alloc (.cells #[S [], .bool false, .bool false, S [], S [], I 0, .slice none 0 0, I 0, I 0, I 0, I 0] 24)))
  clear HFamily
  go_wp2_with fail
  refine (unhide X1).mono ?_
  rintro e y1 ⟨rfl, h0⟩
  have ha : Below y1.heap.size y1 (y1.alloc (.cells #[I 0, S [], S [], .slice none 0 0, I 0, I 0, I 0, I 0, I 0, I 0, I 0, I 0, I 0, I 0] 40)) := (Below.refl _ _).alloc (Nat.le_refl _) _
  replace c0 := cb2 c0 h0 ha hl
  replace c1 := cb2 c1 h0 ha hl
  replace HB := bb2 HB h0 ha
  replace hl : w.heap.size < (y1.alloc (.cells #[I 0, S [], S [], .slice none 0 0, I 0, I 0, I 0, I 0, I 0, I 0, I 0, I 0, I 0, I 0] 40)).heap.size := Nat.lt_of_lt_of_le (Nat.lt_of_lt_of_le hl h0.size) ha.size
  clear h0 ha X1
  have X2 := hide (unhide HToken (y1.alloc (.cells #[I 0, S [], S [], .slice none 0 0, I 0, I 0, I 0, I 0, I 0, I 0, I 0, I 0, I 0, I 0] 40)))
  clear HToken
  go_wp2_with fail
  refine (unhide X2).mono ?_
  rintro e y2 ⟨rfl, h0⟩
  have ha : Below y2.heap.size y2 (y2.alloc (.cells #[I 0, I 0, I 0, S [], I 0, .bool false, I 0, I 0, S []] 58)) := (Below.refl _ _).alloc (Nat.le_refl _) _
  replace c0 := cb2 c0 h0 ha hl
  replace c1 := cb2 c1 h0 ha hl
  replace HB := bb2 HB h0 ha
  replace hl : w.heap.size < (y2.alloc (.cells #[I 0, I 0, I 0, S [], I 0, .bool false, I 0, I 0, S []] 58)).heap.size := Nat.lt_of_lt_of_le (Nat.lt_of_lt_of_le hl h0.size) ha.size
  clear h0 ha X2
  have X3 := hide (unhide HCode (y2.alloc (.cells #[I 0, I 0, I 0, S [], I 0, .bool false, I 0, I 0, S []] 58)))
  clear HCode
  go_wp2_with fail
  refine (unhide X3).mono ?_
  rintro e y3 ⟨rfl, h0⟩
  have ha : Below y3.heap.size y3 (y3.alloc (.cells #[I 0, S [], S [], .slice none 0 0, S [], S [], I 0, I 0, I 0] 51)) := (Below.refl _ _).alloc (Nat.le_refl _) _
  replace c0 := cb2 c0 h0 ha hl
  replace c1 := cb2 c1 h0 ha hl
  replace HB := bb2 HB h0 ha
  replace hl : w.heap.size < (y3.alloc (.cells #[I 0, S [], S [], .slice none 0 0, S [], S [], I 0, I 0, I 0] 51)).heap.size := Nat.lt_of_lt_of_le (Nat.lt_of_lt_of_le hl h0.size) ha.size
  clear h0 ha X3
  have X4 := hide (unhide HKey (y3.alloc (.cells #[I 0, S [], S [], .slice none 0 0, S [], S [], I 0, I 0, I 0] 51)))
  clear HKey
  go_wp2_with fail
  refine (unhide X4).mono ?_
  rintro e y4 ⟨rfl, h0⟩
  have ha : Below y4.heap.size y4 (y4.alloc (.cells #[I 0, S [], I 0, I 0] 60)) := (Below.refl _ _).alloc (Nat.le_refl _) _
  replace c0 := cb2 c0 h0 ha hl
  replace c1 := cb2 c1 h0 ha hl
  replace HB := bb2 HB h0 ha
  replace hl : w.heap.size < (y4.alloc (.cells #[I 0, S [], I 0, I 0] 60)).heap.size := Nat.lt_of_lt_of_le (Nat.lt_of_lt_of_le hl h0.size) ha.size
  clear h0 ha X4
  have X5 := hide (unhide HEvent (y4.alloc (.cells #[I 0, S [], I 0, I 0] 60)))
  clear HEvent
  go_wp2_with fail
  refine (unhide X5).mono ?_
  rintro e y5 ⟨rfl, h0⟩
  have ha : Below y5.heap.size y5 (y5.alloc (.cells #[I 0, I 0, I 0, I 0, S []] 62)) := (Below.refl _ _).alloc (Nat.le_refl _) _
  replace c0 := cb2 c0 h0 ha hl
  replace c1 := cb2 c1 h0 ha hl
  replace HB := bb2 HB h0 ha
  replace hl : w.heap.size < (y5.alloc (.cells #[I 0, I 0, I 0, I 0, S []] 62)).heap.size := Nat.lt_of_lt_of_le (Nat.lt_of_lt_of_le hl h0.size) ha.size
  clear h0 ha X5
  have X6 := hide (unhide HChain (y5.alloc (.cells #[I 0, I 0, I 0, I 0, S []] 62)))
  clear HChain
  go_wp2_with fail
  refine (unhide X6).mono ?_
  rintro e y6 ⟨rfl, h0⟩
  have ha : Below y6.heap.size y6 (y6.alloc (.cells #[I 0, I 0, S [], S []] 64)) := (Below.refl _ _).alloc (Nat.le_refl _) _
  replace c0 := cb2 c0 h0 ha hl
  replace c1 := cb2 c1 h0 ha hl
  replace HB := bb2 HB h0 ha
  replace hl : w.heap.size < (y6.alloc (.cells #[I 0, I 0, S [], S []] 64)).heap.size := Nat.lt_of_lt_of_le (Nat.lt_of_lt_of_le hl h0.size) ha.size
  clear h0 ha X6
  have X9 := hide (unhide HI (y6.alloc (.cells #[I 0, I 0, S [], S []] 64)))
  clear HI
  go_wp2_with fail
  refine (unhide X9).mono ?_
  rintro e w9 ⟨rfl, h0⟩
  replace c0 := cell_below c0 h0 hl
  replace c1 := cell_below c1 h0 hl
  replace HB := hide ((unhide HB).trans (h0.mono (unhide HB).size))
  clear h0 X9 hl
  go_wp2
  go_ret
  exact ⟨rfl, unhide HB⟩
end Go.Proofs.YtpidmpefodnffaaGreatDoor
