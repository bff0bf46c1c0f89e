import Derived.Test.YtpidmpefodnffaaGreatDoorRdj
import Derived.Test.YtpidmpefodnffaaGreatDoorZrdg
import Derived.Test.YtpidmpefodnffaaGreatDoorZsmc
import Derived.Test.YtpidmpefodnffaaGreatDoorZpae
import Derived.Test.YtpidmpefodnffaaGreatDoorTrb
import Derived.Test.YtpidmpefodnffaaGreatDoorOwp
import Derived.Test.YtpidmpefodnffaaGreatDoorSma
namespace Go.Proofs.YtpidmpefodnffaaGreatDoor
open Go.RowKit Go.Lib
set_option maxHeartbeats 4000000
set_option maxRecDepth 8000
theorem rPa16 (k v : Bs) (w : World) (hk : k.length ≤ 9223372036854775807) (hv : v.length ≤ 9223372036854775807) : Calls Tryz.prog 16 #[.agg #[S k, S v]] w fun e w' => Below w.heap.size w w' ∧ ((cliG k v = true ∧ ∃ va vc, e = .returned (.tuple #[.agg #[S (cli_na k), .bool (cli_pu v), .bool (cli_of9 v), S (cli_ha v), S (cli_ol v), I (cli_un v), .slice va (cli_sc v).length vc, I (cli_idl v), I (cli_ab v), I (cli_gr v), I (cli_li v)], I 0]) ∧ OwnS w.heap.size w' (.slice va (cli_sc v).length vc) (cli_sc v)) ∨ (cliG k v = false ∧ e = .returned (.tuple #[.agg #[S [], .bool false, .bool false, S [], S [], I 0, .slice none 0 0, I 0, I 0, I 0, I 0], I 141]))) := by
  have HB1 := hide (show Below w.heap.size w ((w.alloc (.cells #[S k, S v] 30)).alloc (.cells #[S [], .bool false, .bool false, S [], S [], I 0, .slice none 0 0, I 0, I 0, I 0, I 0] 24)) from ((Below.refl _ w).alloc (Nat.le_refl _) _).alloc (by simp) _)
  have K1 := ((show Kpr [] w from fun q hq => by cases hq).add #[S k, S v] 30).add #[S [], .bool false, .bool false, S [], S [], I 0, .slice none 0 0, I 0, I 0, I 0, I 0] 24
  have hs1 : (w.alloc (.cells #[S k, S v] 30)).heap.size = w.heap.size + 1 := by simp
  have hs2 : ((w.alloc (.cells #[S k, S v] 30)).alloc (.cells #[S [], .bool false, .bool false, S [], S [], I 0, .slice none 0 0, I 0, I 0, I 0, I 0] 24)).heap.size = w.heap.size + 2 := by simp
  rw [hs1] at K1
  clear hs1
  generalize hW1 : ((w.alloc (.cells #[S k, S v] 30)).alloc (.cells #[S [], .bool false, .bool false, S [], S [], I 0, .slice none 0 0, I 0, I 0, I 0, I 0] 24)) = W1 at *
  have c0 : W1.cell? ⟨w.heap.size, 0, none⟩ = some (S k) := cellr K1.tail.r0 rfl
  have c1 : W1.cell? ⟨w.heap.size, 1, none⟩ = some (S v) := cellr K1.tail.r0 rfl
  have K2 := K1.add #[S v, .bool false] 100
  have HB2 := hide (bal (unhide HB1) (.cells #[S v, .bool false] 100))
  have hs3 : (W1.alloc (.cells #[S v, .bool false] 100)).heap.size = w.heap.size + 3 := by simp [hs2]
  generalize hW2 : W1.alloc (.cells #[S v, .bool false] 100) = W2 at *
  have d0 : W2.cell? ⟨w.heap.size, 0, none⟩ = some (S k) := cellr K2.tail.tail.r0 rfl
  have K3 := K2.add #[S [], .bool false, .bool false, S [], S [], I 0, .slice none 0 0, I 0, I 0, I 0, I 0] 24
  have HB3 := hide (bal (unhide HB2) (.cells #[S [], .bool false, .bool false, S [], S [], I 0, .slice none 0 0, I 0, I 0, I 0, I 0] 24))
  have NX := hide (show W1.heap.size = w.heap.size + 2 ∧ W2.heap.size = w.heap.size + 3 from ⟨hs2, hs3⟩)
  clear hs2 hs3
  generalize hW3 : W2.alloc (.cells #[S [], .bool false, .bool false, S [], S [], I 0, .slice none 0 0, I 0, I 0, I 0, I 0] 24) = W3 at *
  have HK0 := hide K3
  have HEQ := hide (cliE k v)
  clear K1 K2 K3
  have HV := hide hv
  have Hs0 : Hid ((cliD0 v).length ≤ 9223372036854775807 ∧ cliD0 v = v) := hide ⟨hv, rfl⟩
  have Hs1 : Hid ((cliD1 v).length ≤ 9223372036854775807) := hide (Nat.le_trans (dr_len 1 _) (unhide Hs0).1)
  have Hs2 : Hid ((cliD2 v).length ≤ 9223372036854775807) := hide (Nat.le_trans (dsr_len _) (unhide Hs1))
  have Hs3 : Hid ((cliD3 v).length ≤ 9223372036854775807) := hide (Nat.le_trans (dsr_len _) (unhide Hs2))
  have Hs4 : Hid ((cliD4 v).length ≤ 9223372036854775807) := hide (Nat.le_trans (dr_len 6 _) (unhide Hs3))
  have Hs5 : Hid ((cliD5 v).length ≤ 9223372036854775807) := hide (Nat.le_trans (dsr_len _) (unhide Hs4))
  have Hs6 : Hid ((cliD6 v).length ≤ 9223372036854775807) := hide (Nat.le_trans (dr_len 6 _) (unhide Hs5))
  have Hs7 : Hid ((cliD7 v).length ≤ 9223372036854775807) := hide (Nat.le_trans (dr_len 6 _) (unhide Hs6))
  have Hs8 : Hid ((cliD8 v).length ≤ 9223372036854775807) := hide (Nat.le_trans (dr_len 6 _) (unhide Hs7))
  have HC0 : Hid (∀ (W : World) (X : Nat) (b : Bool), W.heap[X]? = some (.cells #[S (cliD0 v), .bool b] 100 (0, 0)) → Calls Tryz.prog 68 #[ptr X, .int .i64 1] W fun e w' => e = .returned (I (nmr (dk 1 (cliD0 v)))) ∧ Rd9 X (cliD1 v) W w') := hide (fun W X b hX => rNum68 X _ b 1 W (unhide Hs0).1 (by decide) hX)
  have HZ0 : Hid (clid_pu v = (nmr (dk 1 (cliD0 v)) == 1 || nmr (dk 1 (cliD0 v)) == 3) ∧ clid_of9 v = (nmr (dk 1 (cliD0 v)) == 2 || nmr (dk 1 (cliD0 v)) == 3)) := hide ⟨rfl, rfl⟩
  generalize nmr (dk 1 (cliD0 v)) = fz0 at *
  have HC1 : Hid (∀ (W : World) (X : Nat) (b : Bool), W.heap[X]? = some (.cells #[S (cliD1 v), .bool b] 100 (0, 0)) → Calls Tryz.prog 69 #[ptr X] W fun e w' => e = .returned (S (clid_ha v)) ∧ Rd9 X (cliD2 v) W w') := hide (fun W X b hX => rShort69 X _ b W (unhide Hs1) hX)
  have HC2 : Hid (∀ (W : World) (X : Nat) (b : Bool), W.heap[X]? = some (.cells #[S (cliD2 v), .bool b] 100 (0, 0)) → Calls Tryz.prog 69 #[ptr X] W fun e w' => e = .returned (S (clid_ol v)) ∧ Rd9 X (cliD3 v) W w') := hide (fun W X b hX => rShort69 X _ b W (unhide Hs2) hX)
  have HC3 : Hid (∀ (W : World) (X : Nat) (b : Bool), W.heap[X]? = some (.cells #[S (cliD3 v), .bool b] 100 (0, 0)) → Calls Tryz.prog 68 #[ptr X, .int .i64 6] W fun e w' => e = .returned (I (clid_un v)) ∧ Rd9 X (cliD4 v) W w') := hide (fun W X b hX => rNum68 X _ b 6 W (unhide Hs3) (by decide) hX)
  have HC4 : Hid (∀ (W : World) (X : Nat) (b : Bool), W.heap[X]? = some (.cells #[S (cliD4 v), .bool b] 100 (0, 0)) → Calls Tryz.prog 70 #[ptr X] W (OutQ X (cliD5 v) (clid_sc v) W)) := hide (fun W X b hX => rSc70 X _ b W (unhide Hs4) hX)
  have HC5 : Hid (∀ (W : World) (X : Nat) (b : Bool), W.heap[X]? = some (.cells #[S (cliD5 v), .bool b] 100 (0, 0)) → Calls Tryz.prog 68 #[ptr X, .int .i64 6] W fun e w' => e = .returned (I (clid_idl v)) ∧ Rd9 X (cliD6 v) W w') := hide (fun W X b hX => rNum68 X _ b 6 W (unhide Hs5) (by decide) hX)
  have HC6 : Hid (∀ (W : World) (X : Nat) (b : Bool), W.heap[X]? = some (.cells #[S (cliD6 v), .bool b] 100 (0, 0)) → Calls Tryz.prog 68 #[ptr X, .int .i64 6] W fun e w' => e = .returned (I (clid_ab v)) ∧ Rd9 X (cliD7 v) W w') := hide (fun W X b hX => rNum68 X _ b 6 W (unhide Hs6) (by decide) hX)
  have HC7 : Hid (∀ (W : World) (X : Nat) (b : Bool), W.heap[X]? = some (.cells #[S (cliD7 v), .bool b] 100 (0, 0)) → Calls Tryz.prog 68 #[ptr X, .int .i64 6] W fun e w' => e = .returned (I (clid_gr v)) ∧ Rd9 X (cliD8 v) W w') := hide (fun W X b hX => rNum68 X _ b 6 W (unhide Hs7) (by decide) hX)
  have HC8 : Hid (∀ (W : World) (X : Nat) (b : Bool), W.heap[X]? = some (.cells #[S (cliD8 v), .bool b] 100 (0, 0)) → Calls Tryz.prog 68 #[ptr X, .int .i64 6] W fun e w' => e = .returned (I (clid_li v)) ∧ Rd9 X (dr 6 (cliD8 v)) W w') := hide (fun W X b hX => rNum68 X _ b 6 W (unhide Hs8) (by decide) hX)
  rw [(unhide Hs0).2] at HC0
  generalize dr 6 (cliD8 v) = sl at *
  generalize cliD8 v = s8 at *
  generalize cliD7 v = s7 at *
  generalize cliD6 v = s6 at *
  generalize cliD5 v = s5 at *
  generalize cliD4 v = s4 at *
  generalize cliD3 v = s3 at *
  generalize cliD2 v = s2 at *
  generalize cliD1 v = s1 at *
  clear Hs0 Hs1 Hs2 Hs3 Hs4 Hs5 Hs6 Hs7 Hs8
  have HKD : Hid (clid_na k = k.drop 1) := hide rfl
  have hl_na : (clid_na k).length ≤ 9223372036854775807 := by unfold clid_na; simp; omega
  have hl_sc := prt_few (dsh (cliD4 v)) (dsh_255 _)
  have HPR : Hid (∀ (W : World) (la : Option Addr) (lc : Nat), Sts W la (clid_sc v).length (clid_sc v) → Calls Tryz.prog 13 #[.agg #[S (clid_na k), .bool (clid_pu v), .bool (clid_of9 v), S (clid_ha v), S (clid_ol v), I (clid_un v), .slice la (clid_sc v).length lc, I (clid_idl v), I (clid_ab v), I (clid_gr v), I (clid_li v)]] W fun e w' => e = .returned (.tuple #[.agg #[S (cliP (clid_na k) (clid_pu v) (clid_of9 v) (clid_ha v) (clid_ol v) (clid_un v) (clid_sc v) (clid_idl v) (clid_ab v) (clid_gr v) (clid_li v)).1.1, S (cliP (clid_na k) (clid_pu v) (clid_of9 v) (clid_ha v) (clid_ol v) (clid_un v) (clid_sc v) (clid_idl v) (clid_ab v) (clid_gr v) (clid_li v)).1.2], I (cliP (clid_na k) (clid_pu v) (clid_of9 v) (clid_ha v) (clid_ol v) (clid_un v) (clid_sc v) (clid_idl v) (clid_ab v) (clid_gr v) (clid_li v)).2]) ∧ Below W.heap.size W w') := hide (fun W la lc h => rPr13 (clid_na k) (clid_pu v) (clid_of9 v) (clid_ha v) (clid_ol v) (clid_un v) la lc (clid_sc v) (clid_idl v) (clid_ab v) (clid_gr v) (clid_li v) W hl_na h hl_sc.1 hl_sc.2)
  clear hl_sc hl_na
  generalize cliP (clid_na k) (clid_pu v) (clid_of9 v) (clid_ha v) (clid_ol v) (clid_un v) (clid_sc v) (clid_idl v) (clid_ab v) (clid_gr v) (clid_li v) = p9 at *
  generalize hf_na : clid_na k = f_na at *
  generalize hf_pu : clid_pu v = f_pu at *
  generalize hf_of9 : clid_of9 v = f_of9 at *
  generalize hf_ha : clid_ha v = f_ha at *
  generalize hf_ol : clid_ol v = f_ol at *
  generalize hf_un : clid_un v = f_un at *
  generalize hf_sc : clid_sc v = f_sc at *
  generalize hf_idl : clid_idl v = f_idl at *
  generalize hf_ab : clid_ab v = f_ab at *
  generalize hf_gr : clid_gr v = f_gr at *
  generalize hf_li : clid_li v = f_li at *
  clear hf_na hf_pu hf_of9 hf_ha hf_ol hf_un hf_sc hf_idl hf_ab hf_gr hf_li
  generalize hg_na : cli_na k = g_na at *
  generalize hg_pu : cli_pu v = g_pu at *
  generalize hg_of9 : cli_of9 v = g_of9 at *
  generalize hg_ha : cli_ha v = g_ha at *
  generalize hg_ol : cli_ol v = g_ol at *
  generalize hg_un : cli_un v = g_un at *
  generalize hg_sc : cli_sc v = g_sc at *
  generalize hg_idl : cli_idl v = g_idl at *
  generalize hg_ab : cli_ab v = g_ab at *
  generalize hg_gr : cli_gr v = g_gr at *
  generalize hg_li : cli_li v = g_li at *
  clear hg_na hg_pu hg_of9 hg_ha hg_ol hg_un hg_sc hg_idl hg_ab hg_gr hg_li
  generalize cliG k v = GG at *
  clear hk hv HV
  obtain ⟨hz1, hz2⟩ := unhide HZ0
  subst hz1 hz2
  clear HZ0
  go_enter Tryz.func16, Tryz.ntmps16
  have HKx := hide (unhide HK0)
  have HBx := hide (unhide HB3)
  clear HK0 HB3
  have e0 : W3.cell? ⟨w.heap.size, 0, none⟩ = some (S k) := cellr (unhide HKx).tail.tail.tail.r0 rfl
  go_upto_if 17 with fail
  clear hW1 hW2 hW3 c0 c1 d0
  go_cut [18] from 18 to 21 (fun _ wc => Kpr [(W2.heap.size, #[S f_na, .bool false, .bool false, S [], S [], I 0, .slice none 0 0, I 0, I 0, I 0, I 0], 24), (W1.heap.size, #[S v, .bool false], 100), (w.heap.size + 1, #[S [], .bool false, .bool false, S [], S [], I 0, .slice none 0 0, I 0, I 0, I 0, I 0], 24), (w.heap.size, #[S k, S v], 30)] wc ∧ Below w.heap.size w wc)
  case first =>
    have x0 : W3.cell? ⟨W2.heap.size, 0, none⟩ = some (S []) := cellr (unhide HKx).r0 rfl
    have z0 : W3.frozen? ⟨W2.heap.size, 0, none⟩ = false := frozen_of_row _ _ 0 _ _ (unhide HKx).r0
    by_cases h1 : 1 < k.length
    · have h1' : (1 : Int) < (k.length : Int) := by omega
      have h1'' : (1 : Int) ≤ (k.length : Int) := by omega
      have E2 : (ByteArray.mk k.toArray).extract 1 k.length = ⟨(k.drop 1).toArray⟩ := by
        apply ByteArray.ext
        apply Array.ext'
        simp [ByteArray.data_extract]
        exact List.take_of_length_le (by simp)
      rw [← unhide HKD] at E2
      have HR := hide (show Kpr [(W2.heap.size, #[S f_na, .bool false, .bool false, S [], S [], I 0, .slice none 0 0, I 0, I 0, I 0, I 0], 24), (W1.heap.size, #[S v, .bool false], 100), (w.heap.size + 1, #[S [], .bool false, .bool false, S [], S [], I 0, .slice none 0 0, I 0, I 0, I 0, I 0], 24), (w.heap.size, #[S k, S v], 30)] (W3.setCell ⟨W2.heap.size, 0, none⟩ (S f_na)) from (unhide HKx).cellset (hne3 (by have := unhide NX; omega) (by have := unhide NX; omega) (by have := unhide NX; omega)) 0 (S f_na))
      have HR2 := hide (bcell (unhide HBx) W2.heap.size (by have := unhide NX; omega) 0 (S f_na))
      clear HKx HBx HKD HPR HEQ HC0 HC1 HC2 HC3 HC4 HC5 HC6 HC7 HC8
      go_wp2
      go_meet
      exact ⟨unhide HR, unhide HR2⟩
    · have h1' : ¬ (1 : Int) < (k.length : Int) := by omega
      have h2 : f_na = [] := by rw [unhide HKD]; exact List.drop_of_length_le (by omega)
      subst h2
      have HR := hide (unhide HKx)
      have HR2 := hide (unhide HBx)
      clear HKx HBx HKD HPR HEQ HC0 HC1 HC2 HC3 HC4 HC5 HC6 HC7 HC8
      go_wp2
      go_meet
      exact ⟨unhide HR, unhide HR2⟩
  case rest =>
  obtain ⟨hk1, hk2⟩ := hcut
  have HK := hide hk1.swap
  have HB4 := hide hk2
  clear hk1 hk2 HKx HBx HKD e0
  go_wp2_with fail
  refine (unhide HC0 wc W1.heap.size false (unhide HK).r0).mono ?_
  rintro e u0 ⟨rfl, b0, hr, ho⟩
  have HKy := hide ((unhide HK).turn (hne3 (by have := unhide NX; omega) (by have := unhide NX; omega) (by have := unhide NX; omega)) ho hr).swap
  have HBy := hide (ho.below (unhide HB4) (unhide HB4).size (fun k e => by have := unhide NX; omega))
  clear hr ho HC0 HK HB4
  go_upto_region 6 with fail
  go_cut [29] from 24 to 30 (fun _ wc => Kpr [(W2.heap.size, #[S f_na, .bool (fz0 == 1 || fz0 == 3), .bool false, S [], S [], I 0, .slice none 0 0, I 0, I 0, I 0, I 0], 24), (W1.heap.size, #[S s1, .bool b0], 100), (w.heap.size + 1, #[S [], .bool false, .bool false, S [], S [], I 0, .slice none 0 0, I 0, I 0, I 0, I 0], 24), (w.heap.size, #[S k, S v], 30)] wc ∧ Below w.heap.size w wc)
  case first =>
    have x0 : u0.cell? ⟨W2.heap.size, 1, none⟩ = some (.bool false) := cellr (unhide HKy).r0 rfl
    have z0 : u0.frozen? ⟨W2.heap.size, 1, none⟩ = false := frozen_of_row _ _ 1 _ _ (unhide HKy).r0
    have HR := hide (show Kpr [(W2.heap.size, #[S f_na, .bool (fz0 == 1 || fz0 == 3), .bool false, S [], S [], I 0, .slice none 0 0, I 0, I 0, I 0, I 0], 24), (W1.heap.size, #[S s1, .bool b0], 100), (w.heap.size + 1, #[S [], .bool false, .bool false, S [], S [], I 0, .slice none 0 0, I 0, I 0, I 0, I 0], 24), (w.heap.size, #[S k, S v], 30)] (u0.setCell ⟨W2.heap.size, 1, none⟩ (.bool (fz0 == 1 || fz0 == 3))) from (unhide HKy).cellset (hne3 (by have := unhide NX; omega) (by have := unhide NX; omega) (by have := unhide NX; omega)) 1 (.bool (fz0 == 1 || fz0 == 3)))
    have HR2 := hide (bcell (unhide HBy) W2.heap.size (by have := unhide NX; omega) 1 (.bool (fz0 == 1 || fz0 == 3)))
    clear HKy HBy HPR HEQ HC1 HC2 HC3 HC4 HC5 HC6 HC7 HC8
    by_cases h1 : fz0 = 1
    · subst h1
      go_wp2
      go_meet
      exact ⟨unhide HR, unhide HR2⟩
    · have g1 : (fz0 == 1) = false := by simpa using h1
      by_cases h3 : fz0 = 3
      · subst h3
        go_wp2
        go_meet
        exact ⟨unhide HR, unhide HR2⟩
      · have g3 : (fz0 == 3) = false := by simpa using h3
        have hv : (fz0 == 1 || fz0 == 3) = false := by rw [g1, g3]; rfl
        have HR3 := hide (show Kpr [(W2.heap.size, #[S f_na, .bool (fz0 == 1 || fz0 == 3), .bool false, S [], S [], I 0, .slice none 0 0, I 0, I 0, I 0, I 0], 24), (W1.heap.size, #[S s1, .bool b0], 100), (w.heap.size + 1, #[S [], .bool false, .bool false, S [], S [], I 0, .slice none 0 0, I 0, I 0, I 0, I 0], 24), (w.heap.size, #[S k, S v], 30)] (u0.setCell ⟨W2.heap.size, 1, none⟩ (.bool false)) by have q := unhide HR; rw [hv] at q ⊢; exact q)
        have HR4 := hide (show Below w.heap.size w (u0.setCell ⟨W2.heap.size, 1, none⟩ (.bool false)) by have q := unhide HR2; rw [hv] at q; exact q)
        clear HR HR2 hv
        go_wp2
        go_meet
        exact ⟨unhide HR3, unhide HR4⟩
  case rest =>
  obtain ⟨hk1, hk2⟩ := hcut
  clear HKy HBy
  have HKy := hide hk1
  have HBy := hide hk2
  clear hk1 hk2
  skip
  go_upto_region 7 with fail
  go_cut [36] from 31 to 37 (fun _ wc => Kpr [(W2.heap.size, #[S f_na, .bool (fz0 == 1 || fz0 == 3), .bool (fz0 == 2 || fz0 == 3), S [], S [], I 0, .slice none 0 0, I 0, I 0, I 0, I 0], 24), (W1.heap.size, #[S s1, .bool b0], 100), (w.heap.size + 1, #[S [], .bool false, .bool false, S [], S [], I 0, .slice none 0 0, I 0, I 0, I 0, I 0], 24), (w.heap.size, #[S k, S v], 30)] wc ∧ Below w.heap.size w wc)
  case first =>
    have x0 : wc.cell? ⟨W2.heap.size, 2, none⟩ = some (.bool false) := cellr (unhide HKy).r0 rfl
    have z0 : wc.frozen? ⟨W2.heap.size, 2, none⟩ = false := frozen_of_row _ _ 2 _ _ (unhide HKy).r0
    have HR := hide (show Kpr [(W2.heap.size, #[S f_na, .bool (fz0 == 1 || fz0 == 3), .bool (fz0 == 2 || fz0 == 3), S [], S [], I 0, .slice none 0 0, I 0, I 0, I 0, I 0], 24), (W1.heap.size, #[S s1, .bool b0], 100), (w.heap.size + 1, #[S [], .bool false, .bool false, S [], S [], I 0, .slice none 0 0, I 0, I 0, I 0, I 0], 24), (w.heap.size, #[S k, S v], 30)] (wc.setCell ⟨W2.heap.size, 2, none⟩ (.bool (fz0 == 2 || fz0 == 3))) from (unhide HKy).cellset (hne3 (by have := unhide NX; omega) (by have := unhide NX; omega) (by have := unhide NX; omega)) 2 (.bool (fz0 == 2 || fz0 == 3)))
    have HR2 := hide (bcell (unhide HBy) W2.heap.size (by have := unhide NX; omega) 2 (.bool (fz0 == 2 || fz0 == 3)))
    clear HKy HBy HPR HEQ HC1 HC2 HC3 HC4 HC5 HC6 HC7 HC8
    by_cases h1 : fz0 = 2
    · subst h1
      go_wp2
      go_meet
      exact ⟨unhide HR, unhide HR2⟩
    · have g1 : (fz0 == 2) = false := by simpa using h1
      by_cases h3 : fz0 = 3
      · subst h3
        go_wp2
        go_meet
        exact ⟨unhide HR, unhide HR2⟩
      · have g3 : (fz0 == 3) = false := by simpa using h3
        have hv : (fz0 == 2 || fz0 == 3) = false := by rw [g1, g3]; rfl
        have HR3 := hide (show Kpr [(W2.heap.size, #[S f_na, .bool (fz0 == 1 || fz0 == 3), .bool (fz0 == 2 || fz0 == 3), S [], S [], I 0, .slice none 0 0, I 0, I 0, I 0, I 0], 24), (W1.heap.size, #[S s1, .bool b0], 100), (w.heap.size + 1, #[S [], .bool false, .bool false, S [], S [], I 0, .slice none 0 0, I 0, I 0, I 0, I 0], 24), (w.heap.size, #[S k, S v], 30)] (wc.setCell ⟨W2.heap.size, 2, none⟩ (.bool false)) by have q := unhide HR; rw [hv] at q ⊢; exact q)
        have HR4 := hide (show Below w.heap.size w (wc.setCell ⟨W2.heap.size, 2, none⟩ (.bool false)) by have q := unhide HR2; rw [hv] at q; exact q)
        clear HR HR2 hv
        go_wp2
        go_meet
        exact ⟨unhide HR3, unhide HR4⟩
  case rest =>
  obtain ⟨hk1, hk2⟩ := hcut
  clear HKy HBy
  have HKy := hide hk1
  have HBy := hide hk2
  clear hk1 hk2
  skip
  have HK := hide (unhide HKy).swap
  have HBB0 := hide (unhide HBy)
  clear HKy HBy
  go_wp2_with fail
  refine (unhide HC1 wc W1.heap.size b0 (unhide HK).r0).mono ?_
  rintro e u1 ⟨rfl, b1, hr, ho⟩
  have KK := ((unhide HK).turn (hne3 (by have := unhide NX; omega) (by have := unhide NX; omega) (by have := unhide NX; omega)) ho hr).swap
  have x0 : u1.cell? ⟨W2.heap.size, 3, none⟩ = some (S []) := cellr KK.r0 rfl
  have z0 : u1.frozen? ⟨W2.heap.size, 3, none⟩ = false := frozen_of_row _ _ 3 _ _ KK.r0
  have HK1 : Hid (Kpr [(W1.heap.size, #[S s2, .bool b1], 100), (W2.heap.size, #[S f_na, .bool (fz0 == 1 || fz0 == 3), .bool (fz0 == 2 || fz0 == 3), S f_ha, S [], I 0, .slice none 0 0, I 0, I 0, I 0, I 0], 24), (w.heap.size + 1, #[S [], .bool false, .bool false, S [], S [], I 0, .slice none 0 0, I 0, I 0, I 0, I 0], 24), (w.heap.size, #[S k, S v], 30)] (u1.setCell ⟨W2.heap.size, 3, none⟩ (S f_ha))) := hide (KK.cellset (hne3 (by have := unhide NX; omega) (by have := unhide NX; omega) (by have := unhide NX; omega)) 3 (S f_ha)).swap
  have HBB1 := hide (bcell (ho.below (unhide HBB0) (unhide HBB0).size (fun k e => by have := unhide NX; omega)) W2.heap.size (by have := unhide NX; omega) 3 (S f_ha))
  clear KK hr ho HC1 HK HBB0
  have HK := hide (unhide HK1)
  clear HK1
  have x0p := x0
  have z0p := z0
  clear x0 z0
  go_wp2_with fail
  refine (unhide HC2 (u1.setCell ⟨W2.heap.size, 3, none⟩ (S f_ha)) W1.heap.size b1 (unhide HK).r0).mono ?_
  rintro e u2 ⟨rfl, b2, hr, ho⟩
  have KK := ((unhide HK).turn (hne3 (by have := unhide NX; omega) (by have := unhide NX; omega) (by have := unhide NX; omega)) ho hr).swap
  have x0 : u2.cell? ⟨W2.heap.size, 4, none⟩ = some (S []) := cellr KK.r0 rfl
  have z0 : u2.frozen? ⟨W2.heap.size, 4, none⟩ = false := frozen_of_row _ _ 4 _ _ KK.r0
  have HK2 : Hid (Kpr [(W1.heap.size, #[S s3, .bool b2], 100), (W2.heap.size, #[S f_na, .bool (fz0 == 1 || fz0 == 3), .bool (fz0 == 2 || fz0 == 3), S f_ha, S f_ol, I 0, .slice none 0 0, I 0, I 0, I 0, I 0], 24), (w.heap.size + 1, #[S [], .bool false, .bool false, S [], S [], I 0, .slice none 0 0, I 0, I 0, I 0, I 0], 24), (w.heap.size, #[S k, S v], 30)] (u2.setCell ⟨W2.heap.size, 4, none⟩ (S f_ol))) := hide (KK.cellset (hne3 (by have := unhide NX; omega) (by have := unhide NX; omega) (by have := unhide NX; omega)) 4 (S f_ol)).swap
  have HBB2 := hide (bcell (ho.below (unhide HBB1) (unhide HBB1).size (fun k e => by have := unhide NX; omega)) W2.heap.size (by have := unhide NX; omega) 4 (S f_ol))
  clear KK hr ho HC2 HK HBB1 x0p z0p
  have HK := hide (unhide HK2)
  clear HK2
  have x0p := x0
  have z0p := z0
  clear x0 z0
  go_wp2_with fail
  refine (unhide HC3 (u2.setCell ⟨W2.heap.size, 4, none⟩ (S f_ol)) W1.heap.size b2 (unhide HK).r0).mono ?_
  rintro e u3 ⟨rfl, b3, hr, ho⟩
  have KK := ((unhide HK).turn (hne3 (by have := unhide NX; omega) (by have := unhide NX; omega) (by have := unhide NX; omega)) ho hr).swap
  have x0 : u3.cell? ⟨W2.heap.size, 5, none⟩ = some (I 0) := cellr KK.r0 rfl
  have z0 : u3.frozen? ⟨W2.heap.size, 5, none⟩ = false := frozen_of_row _ _ 5 _ _ KK.r0
  have HK3 : Hid (Kpr [(W1.heap.size, #[S s4, .bool b3], 100), (W2.heap.size, #[S f_na, .bool (fz0 == 1 || fz0 == 3), .bool (fz0 == 2 || fz0 == 3), S f_ha, S f_ol, I f_un, .slice none 0 0, I 0, I 0, I 0, I 0], 24), (w.heap.size + 1, #[S [], .bool false, .bool false, S [], S [], I 0, .slice none 0 0, I 0, I 0, I 0, I 0], 24), (w.heap.size, #[S k, S v], 30)] (u3.setCell ⟨W2.heap.size, 5, none⟩ (I f_un))) := hide (KK.cellset (hne3 (by have := unhide NX; omega) (by have := unhide NX; omega) (by have := unhide NX; omega)) 5 (I f_un)).swap
  have HBB3 := hide (bcell (ho.below (unhide HBB2) (unhide HBB2).size (fun k e => by have := unhide NX; omega)) W2.heap.size (by have := unhide NX; omega) 5 (I f_un))
  clear KK hr ho HC3 HK HBB2 x0p z0p
  have HK := hide (unhide HK3)
  clear HK3
  have x0p := x0
  have z0p := z0
  clear x0 z0
  go_wp2_with fail
  refine (unhide HC4 (u3.setCell ⟨W2.heap.size, 5, none⟩ (I f_un)) W1.heap.size b3 (unhide HK).r0).mono ?_
  rintro e u4 ⟨la, lc, rfl, hown, b4, hr, ho⟩
  have KK := ((unhide HK).turn (hne3 (by have := unhide NX; omega) (by have := unhide NX; omega) (by have := unhide NX; omega)) ho hr).swap
  have x0 : u4.cell? ⟨W2.heap.size, 6, none⟩ = some (.slice none 0 0) := cellr KK.r0 rfl
  have z0 : u4.frozen? ⟨W2.heap.size, 6, none⟩ = false := frozen_of_row _ _ 6 _ _ KK.r0
  have HK4 : Hid (Kpr [(W1.heap.size, #[S s5, .bool b4], 100), (W2.heap.size, #[S f_na, .bool (fz0 == 1 || fz0 == 3), .bool (fz0 == 2 || fz0 == 3), S f_ha, S f_ol, I f_un, .slice la f_sc.length lc, I 0, I 0, I 0, I 0], 24), (w.heap.size + 1, #[S [], .bool false, .bool false, S [], S [], I 0, .slice none 0 0, I 0, I 0, I 0, I 0], 24), (w.heap.size, #[S k, S v], 30)] (u4.setCell ⟨W2.heap.size, 6, none⟩ (.slice la f_sc.length lc))) := hide (KK.cellset (hne3 (by have := unhide NX; omega) (by have := unhide NX; omega) (by have := unhide NX; omega)) 6 (.slice la f_sc.length lc)).swap
  have HBB4 := hide (bcell (ho.below (unhide HBB3) (unhide HBB3).size (fun k e => by have := unhide NX; omega)) W2.heap.size (by have := unhide NX; omega) 6 (.slice la f_sc.length lc))
  have hTl : W2.heap.size < (u3.setCell ⟨W2.heap.size, 5, none⟩ (I f_un)).heap.size := lt_of_row (unhide HK).tail.r0
  have HO4 : Hid (OwnS (W2.heap.size + 1) (u4.setCell ⟨W2.heap.size, 6, none⟩ (.slice la f_sc.length lc)) (.slice la f_sc.length lc) f_sc) := hide (own_keep (hown.below (Below.refl _ _) hTl) (Only.setCell u4 ⟨W2.heap.size, 6, none⟩ (.slice la f_sc.length lc)) (fun k e => by have : k = W2.heap.size := e; omega))
  clear hown hTl
  clear KK hr ho HC4 HK HBB3 x0p z0p
  have HK := hide (unhide HK4)
  clear HK4
  have x0p := x0
  have z0p := z0
  clear x0 z0
  go_wp2_with fail
  refine (unhide HC5 (u4.setCell ⟨W2.heap.size, 6, none⟩ (.slice la f_sc.length lc)) W1.heap.size b4 (unhide HK).r0).mono ?_
  rintro e u5 ⟨rfl, b5, hr, ho⟩
  have KK := ((unhide HK).turn (hne3 (by have := unhide NX; omega) (by have := unhide NX; omega) (by have := unhide NX; omega)) ho hr).swap
  have x0 : u5.cell? ⟨W2.heap.size, 7, none⟩ = some (I 0) := cellr KK.r0 rfl
  have z0 : u5.frozen? ⟨W2.heap.size, 7, none⟩ = false := frozen_of_row _ _ 7 _ _ KK.r0
  have HK5 : Hid (Kpr [(W1.heap.size, #[S s6, .bool b5], 100), (W2.heap.size, #[S f_na, .bool (fz0 == 1 || fz0 == 3), .bool (fz0 == 2 || fz0 == 3), S f_ha, S f_ol, I f_un, .slice la f_sc.length lc, I f_idl, I 0, I 0, I 0], 24), (w.heap.size + 1, #[S [], .bool false, .bool false, S [], S [], I 0, .slice none 0 0, I 0, I 0, I 0, I 0], 24), (w.heap.size, #[S k, S v], 30)] (u5.setCell ⟨W2.heap.size, 7, none⟩ (I f_idl))) := hide (KK.cellset (hne3 (by have := unhide NX; omega) (by have := unhide NX; omega) (by have := unhide NX; omega)) 7 (I f_idl)).swap
  have HBB5 := hide (bcell (ho.below (unhide HBB4) (unhide HBB4).size (fun k e => by have := unhide NX; omega)) W2.heap.size (by have := unhide NX; omega) 7 (I f_idl))
  have HO5 : Hid (OwnS (W2.heap.size + 1) (u5.setCell ⟨W2.heap.size, 7, none⟩ (I f_idl)) (.slice la f_sc.length lc) f_sc) := hide (own_keep (own_keep (unhide HO4) ho (fun k e => by have := unhide NX; omega)) (Only.setCell u5 ⟨W2.heap.size, 7, none⟩ (I f_idl)) (fun k e => by have : k = W2.heap.size := e; omega))
  clear HO4
  clear KK hr ho HC5 HK HBB4 x0p z0p
  have HK := hide (unhide HK5)
  clear HK5
  have x0p := x0
  have z0p := z0
  clear x0 z0
  go_wp2_with fail
  refine (unhide HC6 (u5.setCell ⟨W2.heap.size, 7, none⟩ (I f_idl)) W1.heap.size b5 (unhide HK).r0).mono ?_
  rintro e u6 ⟨rfl, b6, hr, ho⟩
  have KK := ((unhide HK).turn (hne3 (by have := unhide NX; omega) (by have := unhide NX; omega) (by have := unhide NX; omega)) ho hr).swap
  have x0 : u6.cell? ⟨W2.heap.size, 8, none⟩ = some (I 0) := cellr KK.r0 rfl
  have z0 : u6.frozen? ⟨W2.heap.size, 8, none⟩ = false := frozen_of_row _ _ 8 _ _ KK.r0
  have HK6 : Hid (Kpr [(W1.heap.size, #[S s7, .bool b6], 100), (W2.heap.size, #[S f_na, .bool (fz0 == 1 || fz0 == 3), .bool (fz0 == 2 || fz0 == 3), S f_ha, S f_ol, I f_un, .slice la f_sc.length lc, I f_idl, I f_ab, I 0, I 0], 24), (w.heap.size + 1, #[S [], .bool false, .bool false, S [], S [], I 0, .slice none 0 0, I 0, I 0, I 0, I 0], 24), (w.heap.size, #[S k, S v], 30)] (u6.setCell ⟨W2.heap.size, 8, none⟩ (I f_ab))) := hide (KK.cellset (hne3 (by have := unhide NX; omega) (by have := unhide NX; omega) (by have := unhide NX; omega)) 8 (I f_ab)).swap
  have HBB6 := hide (bcell (ho.below (unhide HBB5) (unhide HBB5).size (fun k e => by have := unhide NX; omega)) W2.heap.size (by have := unhide NX; omega) 8 (I f_ab))
  have HO6 : Hid (OwnS (W2.heap.size + 1) (u6.setCell ⟨W2.heap.size, 8, none⟩ (I f_ab)) (.slice la f_sc.length lc) f_sc) := hide (own_keep (own_keep (unhide HO5) ho (fun k e => by have := unhide NX; omega)) (Only.setCell u6 ⟨W2.heap.size, 8, none⟩ (I f_ab)) (fun k e => by have : k = W2.heap.size := e; omega))
  clear HO5
  clear KK hr ho HC6 HK HBB5 x0p z0p
  have HK := hide (unhide HK6)
  clear HK6
  have x0p := x0
  have z0p := z0
  clear x0 z0
  go_wp2_with fail
  refine (unhide HC7 (u6.setCell ⟨W2.heap.size, 8, none⟩ (I f_ab)) W1.heap.size b6 (unhide HK).r0).mono ?_
  rintro e u7 ⟨rfl, b7, hr, ho⟩
  have KK := ((unhide HK).turn (hne3 (by have := unhide NX; omega) (by have := unhide NX; omega) (by have := unhide NX; omega)) ho hr).swap
  have x0 : u7.cell? ⟨W2.heap.size, 9, none⟩ = some (I 0) := cellr KK.r0 rfl
  have z0 : u7.frozen? ⟨W2.heap.size, 9, none⟩ = false := frozen_of_row _ _ 9 _ _ KK.r0
  have HK7 : Hid (Kpr [(W1.heap.size, #[S s8, .bool b7], 100), (W2.heap.size, #[S f_na, .bool (fz0 == 1 || fz0 == 3), .bool (fz0 == 2 || fz0 == 3), S f_ha, S f_ol, I f_un, .slice la f_sc.length lc, I f_idl, I f_ab, I f_gr, I 0], 24), (w.heap.size + 1, #[S [], .bool false, .bool false, S [], S [], I 0, .slice none 0 0, I 0, I 0, I 0, I 0], 24), (w.heap.size, #[S k, S v], 30)] (u7.setCell ⟨W2.heap.size, 9, none⟩ (I f_gr))) := hide (KK.cellset (hne3 (by have := unhide NX; omega) (by have := unhide NX; omega) (by have := unhide NX; omega)) 9 (I f_gr)).swap
  have HBB7 := hide (bcell (ho.below (unhide HBB6) (unhide HBB6).size (fun k e => by have := unhide NX; omega)) W2.heap.size (by have := unhide NX; omega) 9 (I f_gr))
  have HO7 : Hid (OwnS (W2.heap.size + 1) (u7.setCell ⟨W2.heap.size, 9, none⟩ (I f_gr)) (.slice la f_sc.length lc) f_sc) := hide (own_keep (own_keep (unhide HO6) ho (fun k e => by have := unhide NX; omega)) (Only.setCell u7 ⟨W2.heap.size, 9, none⟩ (I f_gr)) (fun k e => by have : k = W2.heap.size := e; omega))
  clear HO6
  clear KK hr ho HC7 HK HBB6 x0p z0p
  have HK := hide (unhide HK7)
  clear HK7
  have x0p := x0
  have z0p := z0
  clear x0 z0
  go_wp2_with fail
  refine (unhide HC8 (u7.setCell ⟨W2.heap.size, 9, none⟩ (I f_gr)) W1.heap.size b7 (unhide HK).r0).mono ?_
  rintro e u8 ⟨rfl, b8, hr, ho⟩
  have KK := ((unhide HK).turn (hne3 (by have := unhide NX; omega) (by have := unhide NX; omega) (by have := unhide NX; omega)) ho hr).swap
  have x0 : u8.cell? ⟨W2.heap.size, 10, none⟩ = some (I 0) := cellr KK.r0 rfl
  have z0 : u8.frozen? ⟨W2.heap.size, 10, none⟩ = false := frozen_of_row _ _ 10 _ _ KK.r0
  have HK8 : Hid (Kpr [(W1.heap.size, #[S sl, .bool b8], 100), (W2.heap.size, #[S f_na, .bool (fz0 == 1 || fz0 == 3), .bool (fz0 == 2 || fz0 == 3), S f_ha, S f_ol, I f_un, .slice la f_sc.length lc, I f_idl, I f_ab, I f_gr, I f_li], 24), (w.heap.size + 1, #[S [], .bool false, .bool false, S [], S [], I 0, .slice none 0 0, I 0, I 0, I 0, I 0], 24), (w.heap.size, #[S k, S v], 30)] (u8.setCell ⟨W2.heap.size, 10, none⟩ (I f_li))) := hide (KK.cellset (hne3 (by have := unhide NX; omega) (by have := unhide NX; omega) (by have := unhide NX; omega)) 10 (I f_li)).swap
  have HBB8 := hide (bcell (ho.below (unhide HBB7) (unhide HBB7).size (fun k e => by have := unhide NX; omega)) W2.heap.size (by have := unhide NX; omega) 10 (I f_li))
  have HO8 : Hid (OwnS (W2.heap.size + 1) (u8.setCell ⟨W2.heap.size, 10, none⟩ (I f_li)) (.slice la f_sc.length lc) f_sc) := hide (own_keep (own_keep (unhide HO7) ho (fun k e => by have := unhide NX; omega)) (Only.setCell u8 ⟨W2.heap.size, 10, none⟩ (I f_li)) (fun k e => by have : k = W2.heap.size := e; omega))
  clear HO7
  clear KK hr ho HC8 HK HBB7 x0p z0p
  have HK := hide (unhide HK8)
  clear HK8
  have x0p := x0
  have z0p := z0
  clear x0 z0
  have yc0 : (u8.setCell ⟨W2.heap.size, 10, none⟩ (I f_li)).cell? ⟨W2.heap.size, 0, none⟩ = some (S f_na) := cellr (unhide HK).tail.r0 rfl
  have yc1 : (u8.setCell ⟨W2.heap.size, 10, none⟩ (I f_li)).cell? ⟨W2.heap.size, 1, none⟩ = some (.bool (fz0 == 1 || fz0 == 3)) := cellr (unhide HK).tail.r0 rfl
  have yc2 : (u8.setCell ⟨W2.heap.size, 10, none⟩ (I f_li)).cell? ⟨W2.heap.size, 2, none⟩ = some (.bool (fz0 == 2 || fz0 == 3)) := cellr (unhide HK).tail.r0 rfl
  have yc3 : (u8.setCell ⟨W2.heap.size, 10, none⟩ (I f_li)).cell? ⟨W2.heap.size, 3, none⟩ = some (S f_ha) := cellr (unhide HK).tail.r0 rfl
  have yc4 : (u8.setCell ⟨W2.heap.size, 10, none⟩ (I f_li)).cell? ⟨W2.heap.size, 4, none⟩ = some (S f_ol) := cellr (unhide HK).tail.r0 rfl
  have yc5 : (u8.setCell ⟨W2.heap.size, 10, none⟩ (I f_li)).cell? ⟨W2.heap.size, 5, none⟩ = some (I f_un) := cellr (unhide HK).tail.r0 rfl
  have yc6 : (u8.setCell ⟨W2.heap.size, 10, none⟩ (I f_li)).cell? ⟨W2.heap.size, 6, none⟩ = some (.slice la f_sc.length lc) := cellr (unhide HK).tail.r0 rfl
  have yc7 : (u8.setCell ⟨W2.heap.size, 10, none⟩ (I f_li)).cell? ⟨W2.heap.size, 7, none⟩ = some (I f_idl) := cellr (unhide HK).tail.r0 rfl
  have yc8 : (u8.setCell ⟨W2.heap.size, 10, none⟩ (I f_li)).cell? ⟨W2.heap.size, 8, none⟩ = some (I f_ab) := cellr (unhide HK).tail.r0 rfl
  have yc9 : (u8.setCell ⟨W2.heap.size, 10, none⟩ (I f_li)).cell? ⟨W2.heap.size, 9, none⟩ = some (I f_gr) := cellr (unhide HK).tail.r0 rfl
  have yc10 : (u8.setCell ⟨W2.heap.size, 10, none⟩ (I f_li)).cell? ⟨W2.heap.size, 10, none⟩ = some (I f_li) := cellr (unhide HK).tail.r0 rfl
  go_wp2_with fail
  refine (unhide HPR (u8.setCell ⟨W2.heap.size, 10, none⟩ (I f_li)) la lc (unhide HO8).sts).mono ?_
  rintro e y1 ⟨rfl, hb⟩
  have HOa := hide (((unhide HO8).below hb (Nat.le_refl _)).below ((Below.refl _ y1).alloc (Nat.le_refl _) (.cells #[S p9.1.1, S p9.1.2] 30)) (Nat.le_refl _))
  clear HO8
  have HKa := hide (((unhide HK).below hb).add #[S p9.1.1, S p9.1.2] 30)
  have HBa := hide (bal (btr (unhide HBB8) hb) (.cells #[S p9.1.1, S p9.1.2] 30))
  clear x0p z0p
  clear hb HPR HK HBB8 yc0 yc1 yc2 yc3 yc4 yc5 yc6 yc7 yc8 yc9 yc10
  generalize hY1 : y1.alloc (.cells #[S p9.1.1, S p9.1.2] 30) = Y1 at *
  have q0 : Y1.cell? ⟨y1.heap.size, 0, none⟩ = some (S p9.1.1) := cellr (unhide HKa).r0 rfl
  have q1 : Y1.cell? ⟨y1.heap.size, 1, none⟩ = some (S p9.1.2) := cellr (unhide HKa).r0 rfl
  have q2 : Y1.cell? ⟨w.heap.size, 0, none⟩ = some (S k) := cellr (unhide HKa).tail.tail.tail.tail.r0 rfl
  have q3 : Y1.cell? ⟨w.heap.size, 1, none⟩ = some (S v) := cellr (unhide HKa).tail.tail.tail.tail.r0 rfl
  have XS := hide (rSame71 k v p9.1.1 p9.1.2 Y1)
  go_wp2_with fail
  refine (unhide XS).mono ?_
  rintro e Y2 ⟨rfl, hb⟩
  have HKb := hide ((unhide HKa).below hb).tail
  have HBb := hide (btr (unhide HBa) hb)
  have HOb := hide ((unhide HOa).below hb (Nat.le_refl _))
  clear HOa
  clear hb XS HKa HBa q0 q1 q2 q3 hY1
  have HR9 : Hid (Y2.heap[w.heap.size + 1]? = some (.cells #[S [], .bool false, .bool false, S [], S [], I 0, .slice none 0 0, I 0, I 0, I 0, I 0] 24 (0, 0))) := hide (unhide HKb).tail.tail.r0
  have yc0 : Y2.cell? ⟨W2.heap.size, 0, none⟩ = some (S f_na) := cellr (unhide HKb).tail.r0 rfl
  have yc1 : Y2.cell? ⟨W2.heap.size, 1, none⟩ = some (.bool (fz0 == 1 || fz0 == 3)) := cellr (unhide HKb).tail.r0 rfl
  have yc2 : Y2.cell? ⟨W2.heap.size, 2, none⟩ = some (.bool (fz0 == 2 || fz0 == 3)) := cellr (unhide HKb).tail.r0 rfl
  have yc3 : Y2.cell? ⟨W2.heap.size, 3, none⟩ = some (S f_ha) := cellr (unhide HKb).tail.r0 rfl
  have yc4 : Y2.cell? ⟨W2.heap.size, 4, none⟩ = some (S f_ol) := cellr (unhide HKb).tail.r0 rfl
  have yc5 : Y2.cell? ⟨W2.heap.size, 5, none⟩ = some (I f_un) := cellr (unhide HKb).tail.r0 rfl
  have yc6 : Y2.cell? ⟨W2.heap.size, 6, none⟩ = some (.slice la f_sc.length lc) := cellr (unhide HKb).tail.r0 rfl
  have yc7 : Y2.cell? ⟨W2.heap.size, 7, none⟩ = some (I f_idl) := cellr (unhide HKb).tail.r0 rfl
  have yc8 : Y2.cell? ⟨W2.heap.size, 8, none⟩ = some (I f_ab) := cellr (unhide HKb).tail.r0 rfl
  have yc9 : Y2.cell? ⟨W2.heap.size, 9, none⟩ = some (I f_gr) := cellr (unhide HKb).tail.r0 rfl
  have yc10 : Y2.cell? ⟨W2.heap.size, 10, none⟩ = some (I f_li) := cellr (unhide HKb).tail.r0 rfl
  clear HKb
  cases GG
  · have HN := hide ((unhide HEQ).2 rfl)
    clear HEQ
    obtain ⟨⟨k9, v9⟩, e9⟩ := p9
    dsimp only at *
    by_cases h0 : e9 = 0
    · subst h0
      have hs : (k == k9 && v == v9) = false := by
        rw [Bool.eq_false_iff]
        intro h
        simp only [Bool.and_eq_true, beq_iff_eq] at h
        exact unhide HN (by rw [h.1, h.2])
      rw [hs]
      clear HN hs
      go_wp2_with (refine wp_stT (ty := 24) (n := 11) (by kernel_rfl) rfl (.tmp 2) (.tmp 76) rfl (w.heap.size + 1) (by rfl) #[S [], .bool false, .bool false, S [], S [], I 0, .slice none 0 0, I 0, I 0, I 0, I 0] rfl (by simp [Value.oneCell']) (by rfl) #[S [], .bool false, .bool false, S [], S [], I 0, .slice none 0 0, I 0, I 0, I 0, I 0] rfl (unhide HR9) ?_)
      refine out2c (T := 24) (n := 11) (p := 2) (q := 3) (cs := #[S [], .bool false, .bool false, S [], S [], I 0, .slice none 0 0, I 0, I 0, I 0, I 0]) (fun _ => by kernel_rfl) (fun _ => by kernel_rfl) (Z := w.heap.size + 1) (by rfl) (by rfl) (by rfl) (by rfl) (setRow_row (unhide HR9)) (by rfl) ?_
      exact ⟨bset' (unhide HBb) (w.heap.size + 1) (Nat.le_succ _) #[S [], .bool false, .bool false, S [], S [], I 0, .slice none 0 0, I 0, I 0, I 0, I 0], rfl⟩
    · have g0 : ((e9 : Int) != 0) = true := by rw [bne_iff_ne]; omega
      clear HN h0
      go_wp2_with (refine wp_stT (ty := 24) (n := 11) (by kernel_rfl) rfl (.tmp 2) (.tmp 76) rfl (w.heap.size + 1) (by rfl) #[S [], .bool false, .bool false, S [], S [], I 0, .slice none 0 0, I 0, I 0, I 0, I 0] rfl (by simp [Value.oneCell']) (by rfl) #[S [], .bool false, .bool false, S [], S [], I 0, .slice none 0 0, I 0, I 0, I 0, I 0] rfl (unhide HR9) ?_)
      refine out2c (T := 24) (n := 11) (p := 2) (q := 3) (cs := #[S [], .bool false, .bool false, S [], S [], I 0, .slice none 0 0, I 0, I 0, I 0, I 0]) (fun _ => by kernel_rfl) (fun _ => by kernel_rfl) (Z := w.heap.size + 1) (by rfl) (by rfl) (by rfl) (by rfl) (setRow_row (unhide HR9)) (by rfl) ?_
      exact ⟨bset' (unhide HBb) (w.heap.size + 1) (Nat.le_succ _) #[S [], .bool false, .bool false, S [], S [], I 0, .slice none 0 0, I 0, I 0, I 0, I 0], rfl⟩
  · obtain ⟨rfl, rfl, rfl, rfl, rfl, rfl, rfl, rfl, rfl, rfl, rfl, rfl⟩ := (unhide HEQ).1 rfl
    clear HEQ
    dsimp only at *
    have hs : (k == k && v == v) = true := by simp
    rw [hs]
    clear hs
    go_wp2_with (refine wp_stT (ty := 24) (n := 11) (by kernel_rfl) rfl (.tmp 2) (.tmp 77) rfl (w.heap.size + 1) (by rfl) #[S f_na, .bool (fz0 == 1 || fz0 == 3), .bool (fz0 == 2 || fz0 == 3), S f_ha, S f_ol, I f_un, .slice la f_sc.length lc, I f_idl, I f_ab, I f_gr, I f_li] rfl (by simp [Value.oneCell']) (by rfl) #[S [], .bool false, .bool false, S [], S [], I 0, .slice none 0 0, I 0, I 0, I 0, I 0] rfl (unhide HR9) ?_)
    refine out2c (T := 24) (n := 11) (p := 2) (q := 3) (cs := #[S f_na, .bool (fz0 == 1 || fz0 == 3), .bool (fz0 == 2 || fz0 == 3), S f_ha, S f_ol, I f_un, .slice la f_sc.length lc, I f_idl, I f_ab, I f_gr, I f_li]) (fun _ => by kernel_rfl) (fun _ => by kernel_rfl) (Z := w.heap.size + 1) (by rfl) (by rfl) (by rfl) (by rfl) (setRow_row (unhide HR9)) (by rfl) ?_
    exact ⟨bset' (unhide HBb) (w.heap.size + 1) (Nat.le_succ _) #[S f_na, .bool (fz0 == 1 || fz0 == 3), .bool (fz0 == 2 || fz0 == 3), S f_ha, S f_ol, I f_un, .slice la f_sc.length lc, I f_idl, I f_ab, I f_gr, I f_li], la, lc, rfl, (own_keep (unhide HOb) (setRow_Only Y2 (w.heap.size + 1) #[S f_na, .bool (fz0 == 1 || fz0 == 3), .bool (fz0 == 2 || fz0 == 3), S f_ha, S f_ol, I f_un, .slice la f_sc.length lc, I f_idl, I f_ab, I f_gr, I f_li]) (fun k e => by have := unhide NX; omega)).below (Below.refl _ _) (by have := unhide NX; omega)⟩
end Go.Proofs.YtpidmpefodnffaaGreatDoor
namespace Go.Proofs.YtpidmpefodnffaaGreatDoor
open Go.RowKit Go.Lib
set_option maxHeartbeats 8000000
set_option maxRecDepth 20000
theorem cliQ (na : Bs) (pu : Bool) (of9 : Bool) (hq : Bs) (ol : Bs) (un : Int) (sc : List Bs) (idl : Int) (ab : Int) (gr : Int) (li : Int) : ∃ (t0 : Bs) (t1 : Bool) (t2 : Bool) (t3 : Bs) (t4 : Bs) (t5 : Int) (t7 : Int) (t8 : Int) (t9 : Int) (t10 : Int) (u : List Bs) (pe : Nat), (((cliP na pu of9 hq ol un sc idl ab gr li).2 = 0 ∧ pe = 0 ∧ u = sc ∧ t0 = na ∧ t1 = pu ∧ t2 = of9 ∧ t3 = hq ∧ t4 = ol ∧ t5 = un ∧ t7 = idl ∧ t8 = ab ∧ t9 = gr ∧ t10 = li) ∨ ((cliP na pu of9 hq ol un sc idl ab gr li).2 = 140 ∧ pe = 141)) ∧ u.length ≤ 8 ∧ (∀ W, Calls Tryz.prog 15 #[.agg #[S (cliP na pu of9 hq ol un sc idl ab gr li).1.1, S (cliP na pu of9 hq ol un sc idl ab gr li).1.2]] W fun e w' => Below W.heap.size W w' ∧ ∃ va vc, e = .returned (.tuple #[.agg #[S t0, .bool t1, .bool t2, S t3, S t4, I t5, .slice va u.length vc, I t7, I t8, I t9, I t10], I pe]) ∧ OwnS W.heap.size w' (.slice va u.length vc) u) ∧ (∀ W, Calls Tryz.prog 16 #[.agg #[S (cliP na pu of9 hq ol un sc idl ab gr li).1.1, S (cliP na pu of9 hq ol un sc idl ab gr li).1.2]] W fun e w' => Below W.heap.size W w' ∧ ∃ va vc, e = .returned (.tuple #[.agg #[S t0, .bool t1, .bool t2, S t3, S t4, I t5, .slice va u.length vc, I t7, I t8, I t9, I t10], I pe]) ∧ OwnS W.heap.size w' (.slice va u.length vc) u) := by
  cases hok : cliOK na pu hq ol un sc idl ab gr li
  · have e : cliP na pu of9 hq ol un sc idl ab gr li = (([], []), 140) := by simp [cliP, hok]
    refine ⟨[], false, false, [], [], 0, 0, 0, 0, 0, [], 141, .inr ⟨by rw [e], rfl⟩, by simp, fun W => ?_, fun W => ?_⟩
    · rw [e]
      refine (Parse15 [] [] W (by decide) (by decide)).mono ?_
      rintro e w' ⟨hb, ⟨q, _⟩ | ⟨_, rfl⟩⟩
      · exact absurd q (by decide +kernel)
      · exact ⟨hb, none, 0, rfl, World.ownsRow_nil _ _ _ _⟩
    · rw [e]
      refine (rPa16 [] [] W (by decide) (by decide)).mono ?_
      rintro e w' ⟨hb, ⟨q, _⟩ | ⟨_, rfl⟩⟩
      · exact absurd q (by decide +kernel)
      · exact ⟨hb, none, 0, rfl, World.ownsRow_nil _ _ _ _⟩
  · have t := cliT (of9 := of9) hok
    have g := cliP_G (of9 := of9) hok
    have e : cliP na pu of9 hq ol un sc idl ab gr li = ((cat (lx (cliKl na pu of9 hq ol un sc idl ab gr li)) 2, cat (lx (cliVl na pu of9 hq ol un sc idl ab gr li)) 9), 0) := by unfold cliP; rw [if_pos hok]
    rw [e] at g ⊢
    have hl := cliG_hd g
    have hr := (cliB hok).2.2.2.2.1
    refine ⟨na, pu, of9, hq, ol, un, idl, ab, gr, li, sc, 0, .inl ⟨rfl, rfl, rfl, rfl, rfl, rfl, rfl, rfl, rfl, rfl, rfl, rfl, rfl⟩, (right_small hr).1, fun W => ?_, fun W => ?_⟩
    · refine (Parse15 _ _ W (Nat.le_trans hl.2.1 (by decide)) (Nat.le_trans hl.2.2 (by decide))).mono ?_
      rintro e w' ⟨hb, ⟨_, va, vc, rfl, ho⟩ | ⟨q, _⟩⟩
      · rw [t.2.2.2.2.2.2.1] at ho
        exact ⟨hb, va, vc, by rw [t.1, t.2.1, t.2.2.1, t.2.2.2.1, t.2.2.2.2.1, t.2.2.2.2.2.1, t.2.2.2.2.2.2.1, t.2.2.2.2.2.2.2.1, t.2.2.2.2.2.2.2.2.1, t.2.2.2.2.2.2.2.2.2.1, t.2.2.2.2.2.2.2.2.2.2]; rfl, ho⟩
      · exact absurd g (by simp only [q]; decide)
    · refine (rPa16 _ _ W (Nat.le_trans hl.2.1 (by decide)) (Nat.le_trans hl.2.2 (by decide))).mono ?_
      rintro e w' ⟨hb, ⟨_, va, vc, rfl, ho⟩ | ⟨q, _⟩⟩
      · rw [t.2.2.2.2.2.2.1] at ho
        exact ⟨hb, va, vc, by rw [t.1, t.2.1, t.2.2.1, t.2.2.2.1, t.2.2.2.2.1, t.2.2.2.2.2.1, t.2.2.2.2.2.2.1, t.2.2.2.2.2.2.2.1, t.2.2.2.2.2.2.2.2.1, t.2.2.2.2.2.2.2.2.2.1, t.2.2.2.2.2.2.2.2.2.2]; rfl, ho⟩
      · exact absurd g (by simp only [q]; decide)
end Go.Proofs.YtpidmpefodnffaaGreatDoor
