import Derived.Test.YtpidmpefodnffaaGreatDoorRdh
import Derived.Test.YtpidmpefodnffaaGreatDoorZrdg
import Derived.Test.YtpidmpefodnffaaGreatDoorZsmc
import Derived.Test.YtpidmpefodnffaaGreatDoorZpaf
import Derived.Test.YtpidmpefodnffaaGreatDoorZtra
import Derived.Test.YtpidmpefodnffaaGreatDoorOwp
import Derived.Test.YtpidmpefodnffaaGreatDoorSma
namespace Go.Proofs.YtpidmpefodnffaaGreatDoor
open Go.RowKit Go.Lib
set_option maxHeartbeats 4000000
set_option maxRecDepth 8000
theorem rPa26 (k v : Bs) (w : World) (hk : k.length ≤ 9223372036854775807) (hv : v.length ≤ 9223372036854775807) : Calls Tryz.prog 26 #[.agg #[S k, S v]] w fun e w' => Below w.heap.size w w' ∧ ((famG k v = true ∧ ∃ va vc, e = .returned (.tuple #[.agg #[I (fam_id k), S (fam_cl v), S (fam_su v), .slice va (fam_sc v).length vc, I (fam_cr v), I (fam_us v), I (fam_idl v), I (fam_ab v), I (fam_gr v), I (fam_ge v), I (fam_to v), I (fam_st v), I (fam_en v), I (fam_co v)], I 0]) ∧ OwnS w.heap.size w' (.slice va (fam_sc v).length vc) (fam_sc v)) ∨ (famG k v = false ∧ e = .returned (.tuple #[.agg #[I 0, S [], S [], .slice none 0 0, I 0, I 0, I 0, I 0, I 0, I 0, I 0, I 0, I 0, I 0], I 141]))) := by
  have HB1 := hide (show Below w.heap.size w ((w.alloc (.cells #[S k, S v] 30)).alloc (.cells #[I 0, S [], S [], .slice none 0 0, I 0, I 0, I 0, I 0, I 0, I 0, I 0, I 0, I 0, I 0] 40)) from ((Below.refl _ w).alloc (Nat.le_refl _) _).alloc (by simp) _)
  have K1 := ((show Kpr [] w from fun q hq => by cases hq).add #[S k, S v] 30).add #[I 0, S [], S [], .slice none 0 0, I 0, I 0, I 0, I 0, I 0, I 0, I 0, I 0, I 0, I 0] 40
  have hs1 : (w.alloc (.cells #[S k, S v] 30)).heap.size = w.heap.size + 1 := by simp
  have hs2 : ((w.alloc (.cells #[S k, S v] 30)).alloc (.cells #[I 0, S [], S [], .slice none 0 0, I 0, I 0, I 0, I 0, I 0, I 0, I 0, I 0, I 0, I 0] 40)).heap.size = w.heap.size + 2 := by simp
  rw [hs1] at K1
  clear hs1
  generalize hW1 : ((w.alloc (.cells #[S k, S v] 30)).alloc (.cells #[I 0, S [], S [], .slice none 0 0, I 0, I 0, I 0, I 0, I 0, I 0, I 0, I 0, I 0, I 0] 40)) = W1 at *
  have c0 : W1.cell? ⟨w.heap.size, 0, none⟩ = some (S k) := cellr K1.tail.r0 rfl
  have c1 : W1.cell? ⟨w.heap.size, 1, none⟩ = some (S v) := cellr K1.tail.r0 rfl
  have K2 := K1.add #[S v, .bool false] 100
  have HB2 := hide (bal (unhide HB1) (.cells #[S v, .bool false] 100))
  have hs3 : (W1.alloc (.cells #[S v, .bool false] 100)).heap.size = w.heap.size + 3 := by simp [hs2]
  generalize hW2 : W1.alloc (.cells #[S v, .bool false] 100) = W2 at *
  have d0 : W2.cell? ⟨w.heap.size, 0, none⟩ = some (S k) := cellr K2.tail.tail.r0 rfl
  have K3 := K2.add #[I 0, S [], S [], .slice none 0 0, I 0, I 0, I 0, I 0, I 0, I 0, I 0, I 0, I 0, I 0] 40
  have HB3 := hide (bal (unhide HB2) (.cells #[I 0, S [], S [], .slice none 0 0, I 0, I 0, I 0, I 0, I 0, I 0, I 0, I 0, I 0, I 0] 40))
  have NX := hide (show W1.heap.size = w.heap.size + 2 ∧ W2.heap.size = w.heap.size + 3 from ⟨hs2, hs3⟩)
  clear hs2 hs3
  generalize hW3 : W2.alloc (.cells #[I 0, S [], S [], .slice none 0 0, I 0, I 0, I 0, I 0, I 0, I 0, I 0, I 0, I 0, I 0] 40) = W3 at *
  have HK0 := hide K3
  have HEQ := hide (famE k v)
  clear K1 K2 K3
  have HV := hide hv
  have Hs0 : Hid ((famD0 v).length ≤ 9223372036854775807 ∧ famD0 v = v) := hide ⟨hv, rfl⟩
  have Hs1 : Hid ((famD1 v).length ≤ 9223372036854775807) := hide (Nat.le_trans (dsr_len _) (unhide Hs0).1)
  have Hs2 : Hid ((famD2 v).length ≤ 9223372036854775807) := hide (Nat.le_trans (dsr_len _) (unhide Hs1))
  have Hs3 : Hid ((famD3 v).length ≤ 9223372036854775807) := hide (Nat.le_trans (dsr_len _) (unhide Hs2))
  have Hs4 : Hid ((famD4 v).length ≤ 9223372036854775807) := hide (Nat.le_trans (dr_len 6 _) (unhide Hs3))
  have Hs5 : Hid ((famD5 v).length ≤ 9223372036854775807) := hide (Nat.le_trans (dr_len 6 _) (unhide Hs4))
  have Hs6 : Hid ((famD6 v).length ≤ 9223372036854775807) := hide (Nat.le_trans (dr_len 6 _) (unhide Hs5))
  have Hs7 : Hid ((famD7 v).length ≤ 9223372036854775807) := hide (Nat.le_trans (dr_len 6 _) (unhide Hs6))
  have Hs8 : Hid ((famD8 v).length ≤ 9223372036854775807) := hide (Nat.le_trans (dr_len 6 _) (unhide Hs7))
  have Hs9 : Hid ((famD9 v).length ≤ 9223372036854775807) := hide (Nat.le_trans (dr_len 4 _) (unhide Hs8))
  have Hs10 : Hid ((famD10 v).length ≤ 9223372036854775807) := hide (Nat.le_trans (dr_len 8 _) (unhide Hs9))
  have Hs11 : Hid ((famD11 v).length ≤ 9223372036854775807) := hide (Nat.le_trans (dr_len 1 _) (unhide Hs10))
  have Hs12 : Hid ((famD12 v).length ≤ 9223372036854775807) := hide (Nat.le_trans (dr_len 6 _) (unhide Hs11))
  have HC0 : Hid (∀ (W : World) (X : Nat) (b : Bool), W.heap[X]? = some (.cells #[S (famD0 v), .bool b] 100 (0, 0)) → Calls Tryz.prog 69 #[ptr X] W fun e w' => e = .returned (S (famd_cl v)) ∧ Rd9 X (famD1 v) W w') := hide (fun W X b hX => rShort69 X _ b W (unhide Hs0).1 hX)
  have HC1 : Hid (∀ (W : World) (X : Nat) (b : Bool), W.heap[X]? = some (.cells #[S (famD1 v), .bool b] 100 (0, 0)) → Calls Tryz.prog 69 #[ptr X] W fun e w' => e = .returned (S (famd_su v)) ∧ Rd9 X (famD2 v) W w') := hide (fun W X b hX => rShort69 X _ b W (unhide Hs1) hX)
  have HC2 : Hid (∀ (W : World) (X : Nat) (b : Bool), W.heap[X]? = some (.cells #[S (famD2 v), .bool b] 100 (0, 0)) → Calls Tryz.prog 70 #[ptr X] W (OutQ X (famD3 v) (famd_sc v) W)) := hide (fun W X b hX => rSc70 X _ b W (unhide Hs2) hX)
  have HC3 : Hid (∀ (W : World) (X : Nat) (b : Bool), W.heap[X]? = some (.cells #[S (famD3 v), .bool b] 100 (0, 0)) → Calls Tryz.prog 68 #[ptr X, .int .i64 6] W fun e w' => e = .returned (I (famd_cr v)) ∧ Rd9 X (famD4 v) W w') := hide (fun W X b hX => rNum68 X _ b 6 W (unhide Hs3) (by decide) hX)
  have HC4 : Hid (∀ (W : World) (X : Nat) (b : Bool), W.heap[X]? = some (.cells #[S (famD4 v), .bool b] 100 (0, 0)) → Calls Tryz.prog 68 #[ptr X, .int .i64 6] W fun e w' => e = .returned (I (famd_us v)) ∧ Rd9 X (famD5 v) W w') := hide (fun W X b hX => rNum68 X _ b 6 W (unhide Hs4) (by decide) hX)
  have HC5 : Hid (∀ (W : World) (X : Nat) (b : Bool), W.heap[X]? = some (.cells #[S (famD5 v), .bool b] 100 (0, 0)) → Calls Tryz.prog 68 #[ptr X, .int .i64 6] W fun e w' => e = .returned (I (famd_idl v)) ∧ Rd9 X (famD6 v) W w') := hide (fun W X b hX => rNum68 X _ b 6 W (unhide Hs5) (by decide) hX)
  have HC6 : Hid (∀ (W : World) (X : Nat) (b : Bool), W.heap[X]? = some (.cells #[S (famD6 v), .bool b] 100 (0, 0)) → Calls Tryz.prog 68 #[ptr X, .int .i64 6] W fun e w' => e = .returned (I (famd_ab v)) ∧ Rd9 X (famD7 v) W w') := hide (fun W X b hX => rNum68 X _ b 6 W (unhide Hs6) (by decide) hX)
  have HC7 : Hid (∀ (W : World) (X : Nat) (b : Bool), W.heap[X]? = some (.cells #[S (famD7 v), .bool b] 100 (0, 0)) → Calls Tryz.prog 68 #[ptr X, .int .i64 6] W fun e w' => e = .returned (I (famd_gr v)) ∧ Rd9 X (famD8 v) W w') := hide (fun W X b hX => rNum68 X _ b 6 W (unhide Hs7) (by decide) hX)
  have HC8 : Hid (∀ (W : World) (X : Nat) (b : Bool), W.heap[X]? = some (.cells #[S (famD8 v), .bool b] 100 (0, 0)) → Calls Tryz.prog 68 #[ptr X, .int .i64 4] W fun e w' => e = .returned (I (famd_ge v)) ∧ Rd9 X (famD9 v) W w') := hide (fun W X b hX => rNum68 X _ b 4 W (unhide Hs8) (by decide) hX)
  have HC9 : Hid (∀ (W : World) (X : Nat) (b : Bool), W.heap[X]? = some (.cells #[S (famD9 v), .bool b] 100 (0, 0)) → Calls Tryz.prog 68 #[ptr X, .int .i64 8] W fun e w' => e = .returned (I (famd_to v)) ∧ Rd9 X (famD10 v) W w') := hide (fun W X b hX => rNum68 X _ b 8 W (unhide Hs9) (by decide) hX)
  have HC10 : Hid (∀ (W : World) (X : Nat) (b : Bool), W.heap[X]? = some (.cells #[S (famD10 v), .bool b] 100 (0, 0)) → Calls Tryz.prog 68 #[ptr X, .int .i64 1] W fun e w' => e = .returned (I (famd_st v)) ∧ Rd9 X (famD11 v) W w') := hide (fun W X b hX => rNum68 X _ b 1 W (unhide Hs10) (by decide) hX)
  have HC11 : Hid (∀ (W : World) (X : Nat) (b : Bool), W.heap[X]? = some (.cells #[S (famD11 v), .bool b] 100 (0, 0)) → Calls Tryz.prog 68 #[ptr X, .int .i64 6] W fun e w' => e = .returned (I (famd_en v)) ∧ Rd9 X (famD12 v) W w') := hide (fun W X b hX => rNum68 X _ b 6 W (unhide Hs11) (by decide) hX)
  have HC12 : Hid (∀ (W : World) (X : Nat) (b : Bool), W.heap[X]? = some (.cells #[S (famD12 v), .bool b] 100 (0, 0)) → Calls Tryz.prog 68 #[ptr X, .int .i64 8] W fun e w' => e = .returned (I (famd_co v)) ∧ Rd9 X (dr 8 (famD12 v)) W w') := hide (fun W X b hX => rNum68 X _ b 8 W (unhide Hs12) (by decide) hX)
  rw [(unhide Hs0).2] at HC0
  generalize dr 8 (famD12 v) = sl at *
  generalize famD12 v = s12 at *
  generalize famD11 v = s11 at *
  generalize famD10 v = s10 at *
  generalize famD9 v = s9 at *
  generalize famD8 v = s8 at *
  generalize famD7 v = s7 at *
  generalize famD6 v = s6 at *
  generalize famD5 v = s5 at *
  generalize famD4 v = s4 at *
  generalize famD3 v = s3 at *
  generalize famD2 v = s2 at *
  generalize famD1 v = s1 at *
  clear Hs0 Hs1 Hs2 Hs3 Hs4 Hs5 Hs6 Hs7 Hs8 Hs9 Hs10 Hs11 Hs12
  have HA := hide (fun W => rAfter87 k W hk)
  have HA2 : Hid (∀ W, Calls Tryz.prog 87 #[S k] W fun e w' => e = .returned (I (famd_id k)) ∧ w' = W) := hide (unhide HA)
  clear HA
  have hl_cl : (famd_cl v).length ≤ 9223372036854775807 := Nat.le_trans (dsh_255 _) (by decide)
  have hl_su : (famd_su v).length ≤ 9223372036854775807 := Nat.le_trans (dsh_255 _) (by decide)
  have hl_sc := prt_few (dsh (famD2 v)) (dsh_255 _)
  have HPR : Hid (∀ (W : World) (la : Option Addr) (lc : Nat), Sts W la (famd_sc v).length (famd_sc v) → Calls Tryz.prog 20 #[.agg #[I (famd_id k), S (famd_cl v), S (famd_su v), .slice la (famd_sc v).length lc, I (famd_cr v), I (famd_us v), I (famd_idl v), I (famd_ab v), I (famd_gr v), I (famd_ge v), I (famd_to v), I (famd_st v), I (famd_en v), I (famd_co v)]] W fun e w' => e = .returned (.tuple #[.agg #[S (famP (famd_id k) (famd_cl v) (famd_su v) (famd_sc v) (famd_cr v) (famd_us v) (famd_idl v) (famd_ab v) (famd_gr v) (famd_ge v) (famd_to v) (famd_st v) (famd_en v) (famd_co v)).1.1, S (famP (famd_id k) (famd_cl v) (famd_su v) (famd_sc v) (famd_cr v) (famd_us v) (famd_idl v) (famd_ab v) (famd_gr v) (famd_ge v) (famd_to v) (famd_st v) (famd_en v) (famd_co v)).1.2], I (famP (famd_id k) (famd_cl v) (famd_su v) (famd_sc v) (famd_cr v) (famd_us v) (famd_idl v) (famd_ab v) (famd_gr v) (famd_ge v) (famd_to v) (famd_st v) (famd_en v) (famd_co v)).2]) ∧ Below W.heap.size W w') := hide (fun W la lc h => rPr20 (famd_id k) (famd_cl v) (famd_su v) la lc (famd_sc v) (famd_cr v) (famd_us v) (famd_idl v) (famd_ab v) (famd_gr v) (famd_ge v) (famd_to v) (famd_st v) (famd_en v) (famd_co v) W hl_cl hl_su h hl_sc.1 hl_sc.2)
  clear hl_sc hl_cl hl_su
  generalize famP (famd_id k) (famd_cl v) (famd_su v) (famd_sc v) (famd_cr v) (famd_us v) (famd_idl v) (famd_ab v) (famd_gr v) (famd_ge v) (famd_to v) (famd_st v) (famd_en v) (famd_co v) = p9 at *
  generalize hf_id : famd_id k = f_id at *
  generalize hf_cl : famd_cl v = f_cl at *
  generalize hf_su : famd_su v = f_su at *
  generalize hf_sc : famd_sc v = f_sc at *
  generalize hf_cr : famd_cr v = f_cr at *
  generalize hf_us : famd_us v = f_us at *
  generalize hf_idl : famd_idl v = f_idl at *
  generalize hf_ab : famd_ab v = f_ab at *
  generalize hf_gr : famd_gr v = f_gr at *
  generalize hf_ge : famd_ge v = f_ge at *
  generalize hf_to : famd_to v = f_to at *
  generalize hf_st : famd_st v = f_st at *
  generalize hf_en : famd_en v = f_en at *
  generalize hf_co : famd_co v = f_co at *
  clear hf_id hf_cl hf_su hf_sc hf_cr hf_us hf_idl hf_ab hf_gr hf_ge hf_to hf_st hf_en hf_co
  generalize hg_id : fam_id k = g_id at *
  generalize hg_cl : fam_cl v = g_cl at *
  generalize hg_su : fam_su v = g_su at *
  generalize hg_sc : fam_sc v = g_sc at *
  generalize hg_cr : fam_cr v = g_cr at *
  generalize hg_us : fam_us v = g_us at *
  generalize hg_idl : fam_idl v = g_idl at *
  generalize hg_ab : fam_ab v = g_ab at *
  generalize hg_gr : fam_gr v = g_gr at *
  generalize hg_ge : fam_ge v = g_ge at *
  generalize hg_to : fam_to v = g_to at *
  generalize hg_st : fam_st v = g_st at *
  generalize hg_en : fam_en v = g_en at *
  generalize hg_co : fam_co v = g_co at *
  clear hg_id hg_cl hg_su hg_sc hg_cr hg_us hg_idl hg_ab hg_gr hg_ge hg_to hg_st hg_en hg_co
  generalize famG k v = GG at *
  clear hk hv HV
  go_enter Tryz.func26, Tryz.ntmps26
  go_wp2_with fail
  refine (unhide HA2 W2).mono ?_
  rintro e w9 ⟨rfl, hw9⟩
  rw [hw9]
  clear hw9 w9 HA2 c0 c1 hW1
  have hr0 := (unhide HK0).r0
  have HR0 := hide hr0
  clear hr0
  have HK := hide ((unhide HK0).set (hne3 (by have := unhide NX; omega) (by have := unhide NX; omega) (by have := unhide NX; omega)) #[I f_id, S [], S [], .slice none 0 0, I 0, I 0, I 0, I 0, I 0, I 0, I 0, I 0, I 0, I 0]).swap
  have HB4 := hide (bset (unhide HB3) W2.heap.size (by have := unhide NX; omega) #[I f_id, S [], S [], .slice none 0 0, I 0, I 0, I 0, I 0, I 0, I 0, I 0, I 0, I 0, I 0])
  clear HK0 HB3
  go_wp2_with (refine wp_stT (ty := 40) (n := 14) (by kernel_rfl) rfl (.tmp 5) (.tmp 16) rfl W2.heap.size (by rfl) #[I f_id, S [], S [], .slice none 0 0, I 0, I 0, I 0, I 0, I 0, I 0, I 0, I 0, I 0, I 0] rfl (by simp [Value.oneCell']) (by rfl) #[I 0, S [], S [], .slice none 0 0, I 0, I 0, I 0, I 0, I 0, I 0, I 0, I 0, I 0, I 0] rfl (unhide HR0) ?_)
  clear HR0
  refine (unhide HC0 (W3.setRow W2.heap.size #[I f_id, S [], S [], .slice none 0 0, I 0, I 0, I 0, I 0, I 0, I 0, I 0, I 0, I 0, I 0]) W1.heap.size false (unhide HK).r0).mono ?_
  rintro e u0 ⟨rfl, b0, hr, ho⟩
  have KK := ((unhide HK).turn (hne3 (by have := unhide NX; omega) (by have := unhide NX; omega) (by have := unhide NX; omega)) ho hr).swap
  have x0 : u0.cell? ⟨W2.heap.size, 1, none⟩ = some (S []) := cellr KK.r0 rfl
  have z0 : u0.frozen? ⟨W2.heap.size, 1, none⟩ = false := frozen_of_row _ _ 1 _ _ KK.r0
  have HK0 : Hid (Kpr [(W1.heap.size, #[S s1, .bool b0], 100), (W2.heap.size, #[I f_id, S f_cl, S [], .slice none 0 0, I 0, I 0, I 0, I 0, I 0, I 0, I 0, I 0, I 0, I 0], 40), (w.heap.size + 1, #[I 0, S [], S [], .slice none 0 0, I 0, I 0, I 0, I 0, I 0, I 0, I 0, I 0, I 0, I 0], 40), (w.heap.size, #[S k, S v], 30)] (u0.setCell ⟨W2.heap.size, 1, none⟩ (S f_cl))) := hide (KK.cellset (hne3 (by have := unhide NX; omega) (by have := unhide NX; omega) (by have := unhide NX; omega)) 1 (S f_cl)).swap
  have HBB0 := hide (bcell (ho.below (unhide HB4) (unhide HB4).size (fun k e => by have := unhide NX; omega)) W2.heap.size (by have := unhide NX; omega) 1 (S f_cl))
  clear KK hr ho HC0 HK HB4 hW3 hW2 d0
  have HK := hide (unhide HK0)
  clear HK0
  have x0p := x0
  have z0p := z0
  clear x0 z0
  go_wp2_with fail
  refine (unhide HC1 (u0.setCell ⟨W2.heap.size, 1, none⟩ (S f_cl)) W1.heap.size b0 (unhide HK).r0).mono ?_
  rintro e u1 ⟨rfl, b1, hr, ho⟩
  have KK := ((unhide HK).turn (hne3 (by have := unhide NX; omega) (by have := unhide NX; omega) (by have := unhide NX; omega)) ho hr).swap
  have x0 : u1.cell? ⟨W2.heap.size, 2, none⟩ = some (S []) := cellr KK.r0 rfl
  have z0 : u1.frozen? ⟨W2.heap.size, 2, none⟩ = false := frozen_of_row _ _ 2 _ _ KK.r0
  have HK1 : Hid (Kpr [(W1.heap.size, #[S s2, .bool b1], 100), (W2.heap.size, #[I f_id, S f_cl, S f_su, .slice none 0 0, I 0, I 0, I 0, I 0, I 0, I 0, I 0, I 0, I 0, I 0], 40), (w.heap.size + 1, #[I 0, S [], S [], .slice none 0 0, I 0, I 0, I 0, I 0, I 0, I 0, I 0, I 0, I 0, I 0], 40), (w.heap.size, #[S k, S v], 30)] (u1.setCell ⟨W2.heap.size, 2, none⟩ (S f_su))) := hide (KK.cellset (hne3 (by have := unhide NX; omega) (by have := unhide NX; omega) (by have := unhide NX; omega)) 2 (S f_su)).swap
  have HBB1 := hide (bcell (ho.below (unhide HBB0) (unhide HBB0).size (fun k e => by have := unhide NX; omega)) W2.heap.size (by have := unhide NX; omega) 2 (S f_su))
  clear KK hr ho HC1 HK HBB0 x0p z0p
  have HK := hide (unhide HK1)
  clear HK1
  have x0p := x0
  have z0p := z0
  clear x0 z0
  go_wp2_with fail
  refine (unhide HC2 (u1.setCell ⟨W2.heap.size, 2, none⟩ (S f_su)) W1.heap.size b1 (unhide HK).r0).mono ?_
  rintro e u2 ⟨la, lc, rfl, hown, b2, hr, ho⟩
  have KK := ((unhide HK).turn (hne3 (by have := unhide NX; omega) (by have := unhide NX; omega) (by have := unhide NX; omega)) ho hr).swap
  have x0 : u2.cell? ⟨W2.heap.size, 3, none⟩ = some (.slice none 0 0) := cellr KK.r0 rfl
  have z0 : u2.frozen? ⟨W2.heap.size, 3, none⟩ = false := frozen_of_row _ _ 3 _ _ KK.r0
  have HK2 : Hid (Kpr [(W1.heap.size, #[S s3, .bool b2], 100), (W2.heap.size, #[I f_id, S f_cl, S f_su, .slice la f_sc.length lc, I 0, I 0, I 0, I 0, I 0, I 0, I 0, I 0, I 0, I 0], 40), (w.heap.size + 1, #[I 0, S [], S [], .slice none 0 0, I 0, I 0, I 0, I 0, I 0, I 0, I 0, I 0, I 0, I 0], 40), (w.heap.size, #[S k, S v], 30)] (u2.setCell ⟨W2.heap.size, 3, none⟩ (.slice la f_sc.length lc))) := hide (KK.cellset (hne3 (by have := unhide NX; omega) (by have := unhide NX; omega) (by have := unhide NX; omega)) 3 (.slice la f_sc.length lc)).swap
  have HBB2 := hide (bcell (ho.below (unhide HBB1) (unhide HBB1).size (fun k e => by have := unhide NX; omega)) W2.heap.size (by have := unhide NX; omega) 3 (.slice la f_sc.length lc))
  have hTl : W2.heap.size < (u1.setCell ⟨W2.heap.size, 2, none⟩ (S f_su)).heap.size := lt_of_row (unhide HK).tail.r0
  have HO2 : Hid (OwnS (W2.heap.size + 1) (u2.setCell ⟨W2.heap.size, 3, none⟩ (.slice la f_sc.length lc)) (.slice la f_sc.length lc) f_sc) := hide (own_keep (hown.below (Below.refl _ _) hTl) (Only.setCell u2 ⟨W2.heap.size, 3, none⟩ (.slice la f_sc.length lc)) (fun k e => by have : k = W2.heap.size := e; omega))
  clear hown hTl
  clear KK hr ho HC2 HK HBB1 x0p z0p
  have HK := hide (unhide HK2)
  clear HK2
  have x0p := x0
  have z0p := z0
  clear x0 z0
  go_wp2_with fail
  refine (unhide HC3 (u2.setCell ⟨W2.heap.size, 3, none⟩ (.slice la f_sc.length lc)) W1.heap.size b2 (unhide HK).r0).mono ?_
  rintro e u3 ⟨rfl, b3, hr, ho⟩
  have KK := ((unhide HK).turn (hne3 (by have := unhide NX; omega) (by have := unhide NX; omega) (by have := unhide NX; omega)) ho hr).swap
  have x0 : u3.cell? ⟨W2.heap.size, 4, none⟩ = some (I 0) := cellr KK.r0 rfl
  have z0 : u3.frozen? ⟨W2.heap.size, 4, none⟩ = false := frozen_of_row _ _ 4 _ _ KK.r0
  have HK3 : Hid (Kpr [(W1.heap.size, #[S s4, .bool b3], 100), (W2.heap.size, #[I f_id, S f_cl, S f_su, .slice la f_sc.length lc, I f_cr, I 0, I 0, I 0, I 0, I 0, I 0, I 0, I 0, I 0], 40), (w.heap.size + 1, #[I 0, S [], S [], .slice none 0 0, I 0, I 0, I 0, I 0, I 0, I 0, I 0, I 0, I 0, I 0], 40), (w.heap.size, #[S k, S v], 30)] (u3.setCell ⟨W2.heap.size, 4, none⟩ (I f_cr))) := hide (KK.cellset (hne3 (by have := unhide NX; omega) (by have := unhide NX; omega) (by have := unhide NX; omega)) 4 (I f_cr)).swap
  have HBB3 := hide (bcell (ho.below (unhide HBB2) (unhide HBB2).size (fun k e => by have := unhide NX; omega)) W2.heap.size (by have := unhide NX; omega) 4 (I f_cr))
  have HO3 : Hid (OwnS (W2.heap.size + 1) (u3.setCell ⟨W2.heap.size, 4, none⟩ (I f_cr)) (.slice la f_sc.length lc) f_sc) := hide (own_keep (own_keep (unhide HO2) ho (fun k e => by have := unhide NX; omega)) (Only.setCell u3 ⟨W2.heap.size, 4, none⟩ (I f_cr)) (fun k e => by have : k = W2.heap.size := e; omega))
  clear HO2
  clear KK hr ho HC3 HK HBB2 x0p z0p
  have HK := hide (unhide HK3)
  clear HK3
  have x0p := x0
  have z0p := z0
  clear x0 z0
  go_wp2_with fail
  refine (unhide HC4 (u3.setCell ⟨W2.heap.size, 4, none⟩ (I f_cr)) W1.heap.size b3 (unhide HK).r0).mono ?_
  rintro e u4 ⟨rfl, b4, hr, ho⟩
  have KK := ((unhide HK).turn (hne3 (by have := unhide NX; omega) (by have := unhide NX; omega) (by have := unhide NX; omega)) ho hr).swap
  have x0 : u4.cell? ⟨W2.heap.size, 5, none⟩ = some (I 0) := cellr KK.r0 rfl
  have z0 : u4.frozen? ⟨W2.heap.size, 5, none⟩ = false := frozen_of_row _ _ 5 _ _ KK.r0
  have HK4 : Hid (Kpr [(W1.heap.size, #[S s5, .bool b4], 100), (W2.heap.size, #[I f_id, S f_cl, S f_su, .slice la f_sc.length lc, I f_cr, I f_us, I 0, I 0, I 0, I 0, I 0, I 0, I 0, I 0], 40), (w.heap.size + 1, #[I 0, S [], S [], .slice none 0 0, I 0, I 0, I 0, I 0, I 0, I 0, I 0, I 0, I 0, I 0], 40), (w.heap.size, #[S k, S v], 30)] (u4.setCell ⟨W2.heap.size, 5, none⟩ (I f_us))) := hide (KK.cellset (hne3 (by have := unhide NX; omega) (by have := unhide NX; omega) (by have := unhide NX; omega)) 5 (I f_us)).swap
  have HBB4 := hide (bcell (ho.below (unhide HBB3) (unhide HBB3).size (fun k e => by have := unhide NX; omega)) W2.heap.size (by have := unhide NX; omega) 5 (I f_us))
  have HO4 : Hid (OwnS (W2.heap.size + 1) (u4.setCell ⟨W2.heap.size, 5, none⟩ (I f_us)) (.slice la f_sc.length lc) f_sc) := hide (own_keep (own_keep (unhide HO3) ho (fun k e => by have := unhide NX; omega)) (Only.setCell u4 ⟨W2.heap.size, 5, none⟩ (I f_us)) (fun k e => by have : k = W2.heap.size := e; omega))
  clear HO3
  clear KK hr ho HC4 HK HBB3 x0p z0p
  have HK := hide (unhide HK4)
  clear HK4
  have x0p := x0
  have z0p := z0
  clear x0 z0
  go_wp2_with fail
  refine (unhide HC5 (u4.setCell ⟨W2.heap.size, 5, none⟩ (I f_us)) W1.heap.size b4 (unhide HK).r0).mono ?_
  rintro e u5 ⟨rfl, b5, hr, ho⟩
  have KK := ((unhide HK).turn (hne3 (by have := unhide NX; omega) (by have := unhide NX; omega) (by have := unhide NX; omega)) ho hr).swap
  have x0 : u5.cell? ⟨W2.heap.size, 6, none⟩ = some (I 0) := cellr KK.r0 rfl
  have z0 : u5.frozen? ⟨W2.heap.size, 6, none⟩ = false := frozen_of_row _ _ 6 _ _ KK.r0
  have HK5 : Hid (Kpr [(W1.heap.size, #[S s6, .bool b5], 100), (W2.heap.size, #[I f_id, S f_cl, S f_su, .slice la f_sc.length lc, I f_cr, I f_us, I f_idl, I 0, I 0, I 0, I 0, I 0, I 0, I 0], 40), (w.heap.size + 1, #[I 0, S [], S [], .slice none 0 0, I 0, I 0, I 0, I 0, I 0, I 0, I 0, I 0, I 0, I 0], 40), (w.heap.size, #[S k, S v], 30)] (u5.setCell ⟨W2.heap.size, 6, none⟩ (I f_idl))) := hide (KK.cellset (hne3 (by have := unhide NX; omega) (by have := unhide NX; omega) (by have := unhide NX; omega)) 6 (I f_idl)).swap
  have HBB5 := hide (bcell (ho.below (unhide HBB4) (unhide HBB4).size (fun k e => by have := unhide NX; omega)) W2.heap.size (by have := unhide NX; omega) 6 (I f_idl))
  have HO5 : Hid (OwnS (W2.heap.size + 1) (u5.setCell ⟨W2.heap.size, 6, none⟩ (I f_idl)) (.slice la f_sc.length lc) f_sc) := hide (own_keep (own_keep (unhide HO4) ho (fun k e => by have := unhide NX; omega)) (Only.setCell u5 ⟨W2.heap.size, 6, none⟩ (I f_idl)) (fun k e => by have : k = W2.heap.size := e; omega))
  clear HO4
  clear KK hr ho HC5 HK HBB4 x0p z0p
  have HK := hide (unhide HK5)
  clear HK5
  have x0p := x0
  have z0p := z0
  clear x0 z0
  go_wp2_with fail
  refine (unhide HC6 (u5.setCell ⟨W2.heap.size, 6, none⟩ (I f_idl)) W1.heap.size b5 (unhide HK).r0).mono ?_
  rintro e u6 ⟨rfl, b6, hr, ho⟩
  have KK := ((unhide HK).turn (hne3 (by have := unhide NX; omega) (by have := unhide NX; omega) (by have := unhide NX; omega)) ho hr).swap
  have x0 : u6.cell? ⟨W2.heap.size, 7, none⟩ = some (I 0) := cellr KK.r0 rfl
  have z0 : u6.frozen? ⟨W2.heap.size, 7, none⟩ = false := frozen_of_row _ _ 7 _ _ KK.r0
  have HK6 : Hid (Kpr [(W1.heap.size, #[S s7, .bool b6], 100), (W2.heap.size, #[I f_id, S f_cl, S f_su, .slice la f_sc.length lc, I f_cr, I f_us, I f_idl, I f_ab, I 0, I 0, I 0, I 0, I 0, I 0], 40), (w.heap.size + 1, #[I 0, S [], S [], .slice none 0 0, I 0, I 0, I 0, I 0, I 0, I 0, I 0, I 0, I 0, I 0], 40), (w.heap.size, #[S k, S v], 30)] (u6.setCell ⟨W2.heap.size, 7, none⟩ (I f_ab))) := hide (KK.cellset (hne3 (by have := unhide NX; omega) (by have := unhide NX; omega) (by have := unhide NX; omega)) 7 (I f_ab)).swap
  have HBB6 := hide (bcell (ho.below (unhide HBB5) (unhide HBB5).size (fun k e => by have := unhide NX; omega)) W2.heap.size (by have := unhide NX; omega) 7 (I f_ab))
  have HO6 : Hid (OwnS (W2.heap.size + 1) (u6.setCell ⟨W2.heap.size, 7, none⟩ (I f_ab)) (.slice la f_sc.length lc) f_sc) := hide (own_keep (own_keep (unhide HO5) ho (fun k e => by have := unhide NX; omega)) (Only.setCell u6 ⟨W2.heap.size, 7, none⟩ (I f_ab)) (fun k e => by have : k = W2.heap.size := e; omega))
  clear HO5
  clear KK hr ho HC6 HK HBB5 x0p z0p
  have HK := hide (unhide HK6)
  clear HK6
  have x0p := x0
  have z0p := z0
  clear x0 z0
  go_wp2_with fail
  refine (unhide HC7 (u6.setCell ⟨W2.heap.size, 7, none⟩ (I f_ab)) W1.heap.size b6 (unhide HK).r0).mono ?_
  rintro e u7 ⟨rfl, b7, hr, ho⟩
  have KK := ((unhide HK).turn (hne3 (by have := unhide NX; omega) (by have := unhide NX; omega) (by have := unhide NX; omega)) ho hr).swap
  have x0 : u7.cell? ⟨W2.heap.size, 8, none⟩ = some (I 0) := cellr KK.r0 rfl
  have z0 : u7.frozen? ⟨W2.heap.size, 8, none⟩ = false := frozen_of_row _ _ 8 _ _ KK.r0
  have HK7 : Hid (Kpr [(W1.heap.size, #[S s8, .bool b7], 100), (W2.heap.size, #[I f_id, S f_cl, S f_su, .slice la f_sc.length lc, I f_cr, I f_us, I f_idl, I f_ab, I f_gr, I 0, I 0, I 0, I 0, I 0], 40), (w.heap.size + 1, #[I 0, S [], S [], .slice none 0 0, I 0, I 0, I 0, I 0, I 0, I 0, I 0, I 0, I 0, I 0], 40), (w.heap.size, #[S k, S v], 30)] (u7.setCell ⟨W2.heap.size, 8, none⟩ (I f_gr))) := hide (KK.cellset (hne3 (by have := unhide NX; omega) (by have := unhide NX; omega) (by have := unhide NX; omega)) 8 (I f_gr)).swap
  have HBB7 := hide (bcell (ho.below (unhide HBB6) (unhide HBB6).size (fun k e => by have := unhide NX; omega)) W2.heap.size (by have := unhide NX; omega) 8 (I f_gr))
  have HO7 : Hid (OwnS (W2.heap.size + 1) (u7.setCell ⟨W2.heap.size, 8, none⟩ (I f_gr)) (.slice la f_sc.length lc) f_sc) := hide (own_keep (own_keep (unhide HO6) ho (fun k e => by have := unhide NX; omega)) (Only.setCell u7 ⟨W2.heap.size, 8, none⟩ (I f_gr)) (fun k e => by have : k = W2.heap.size := e; omega))
  clear HO6
  clear KK hr ho HC7 HK HBB6 x0p z0p
  have HK := hide (unhide HK7)
  clear HK7
  have x0p := x0
  have z0p := z0
  clear x0 z0
  go_wp2_with fail
  refine (unhide HC8 (u7.setCell ⟨W2.heap.size, 8, none⟩ (I f_gr)) W1.heap.size b7 (unhide HK).r0).mono ?_
  rintro e u8 ⟨rfl, b8, hr, ho⟩
  have KK := ((unhide HK).turn (hne3 (by have := unhide NX; omega) (by have := unhide NX; omega) (by have := unhide NX; omega)) ho hr).swap
  have x0 : u8.cell? ⟨W2.heap.size, 9, none⟩ = some (I 0) := cellr KK.r0 rfl
  have z0 : u8.frozen? ⟨W2.heap.size, 9, none⟩ = false := frozen_of_row _ _ 9 _ _ KK.r0
  have HK8 : Hid (Kpr [(W1.heap.size, #[S s9, .bool b8], 100), (W2.heap.size, #[I f_id, S f_cl, S f_su, .slice la f_sc.length lc, I f_cr, I f_us, I f_idl, I f_ab, I f_gr, I f_ge, I 0, I 0, I 0, I 0], 40), (w.heap.size + 1, #[I 0, S [], S [], .slice none 0 0, I 0, I 0, I 0, I 0, I 0, I 0, I 0, I 0, I 0, I 0], 40), (w.heap.size, #[S k, S v], 30)] (u8.setCell ⟨W2.heap.size, 9, none⟩ (I f_ge))) := hide (KK.cellset (hne3 (by have := unhide NX; omega) (by have := unhide NX; omega) (by have := unhide NX; omega)) 9 (I f_ge)).swap
  have HBB8 := hide (bcell (ho.below (unhide HBB7) (unhide HBB7).size (fun k e => by have := unhide NX; omega)) W2.heap.size (by have := unhide NX; omega) 9 (I f_ge))
  have HO8 : Hid (OwnS (W2.heap.size + 1) (u8.setCell ⟨W2.heap.size, 9, none⟩ (I f_ge)) (.slice la f_sc.length lc) f_sc) := hide (own_keep (own_keep (unhide HO7) ho (fun k e => by have := unhide NX; omega)) (Only.setCell u8 ⟨W2.heap.size, 9, none⟩ (I f_ge)) (fun k e => by have : k = W2.heap.size := e; omega))
  clear HO7
  clear KK hr ho HC8 HK HBB7 x0p z0p
  have HK := hide (unhide HK8)
  clear HK8
  have x0p := x0
  have z0p := z0
  clear x0 z0
  go_wp2_with fail
  refine (unhide HC9 (u8.setCell ⟨W2.heap.size, 9, none⟩ (I f_ge)) W1.heap.size b8 (unhide HK).r0).mono ?_
  rintro e u9 ⟨rfl, b9, hr, ho⟩
  have KK := ((unhide HK).turn (hne3 (by have := unhide NX; omega) (by have := unhide NX; omega) (by have := unhide NX; omega)) ho hr).swap
  have x0 : u9.cell? ⟨W2.heap.size, 10, none⟩ = some (I 0) := cellr KK.r0 rfl
  have z0 : u9.frozen? ⟨W2.heap.size, 10, none⟩ = false := frozen_of_row _ _ 10 _ _ KK.r0
  have HK9 : Hid (Kpr [(W1.heap.size, #[S s10, .bool b9], 100), (W2.heap.size, #[I f_id, S f_cl, S f_su, .slice la f_sc.length lc, I f_cr, I f_us, I f_idl, I f_ab, I f_gr, I f_ge, I f_to, I 0, I 0, I 0], 40), (w.heap.size + 1, #[I 0, S [], S [], .slice none 0 0, I 0, I 0, I 0, I 0, I 0, I 0, I 0, I 0, I 0, I 0], 40), (w.heap.size, #[S k, S v], 30)] (u9.setCell ⟨W2.heap.size, 10, none⟩ (I f_to))) := hide (KK.cellset (hne3 (by have := unhide NX; omega) (by have := unhide NX; omega) (by have := unhide NX; omega)) 10 (I f_to)).swap
  have HBB9 := hide (bcell (ho.below (unhide HBB8) (unhide HBB8).size (fun k e => by have := unhide NX; omega)) W2.heap.size (by have := unhide NX; omega) 10 (I f_to))
  have HO9 : Hid (OwnS (W2.heap.size + 1) (u9.setCell ⟨W2.heap.size, 10, none⟩ (I f_to)) (.slice la f_sc.length lc) f_sc) := hide (own_keep (own_keep (unhide HO8) ho (fun k e => by have := unhide NX; omega)) (Only.setCell u9 ⟨W2.heap.size, 10, none⟩ (I f_to)) (fun k e => by have : k = W2.heap.size := e; omega))
  clear HO8
  clear KK hr ho HC9 HK HBB8 x0p z0p
  have HK := hide (unhide HK9)
  clear HK9
  have x0p := x0
  have z0p := z0
  clear x0 z0
  go_wp2_with fail
  refine (unhide HC10 (u9.setCell ⟨W2.heap.size, 10, none⟩ (I f_to)) W1.heap.size b9 (unhide HK).r0).mono ?_
  rintro e u10 ⟨rfl, b10, hr, ho⟩
  have KK := ((unhide HK).turn (hne3 (by have := unhide NX; omega) (by have := unhide NX; omega) (by have := unhide NX; omega)) ho hr).swap
  have x0 : u10.cell? ⟨W2.heap.size, 11, none⟩ = some (I 0) := cellr KK.r0 rfl
  have z0 : u10.frozen? ⟨W2.heap.size, 11, none⟩ = false := frozen_of_row _ _ 11 _ _ KK.r0
  have HK10 : Hid (Kpr [(W1.heap.size, #[S s11, .bool b10], 100), (W2.heap.size, #[I f_id, S f_cl, S f_su, .slice la f_sc.length lc, I f_cr, I f_us, I f_idl, I f_ab, I f_gr, I f_ge, I f_to, I f_st, I 0, I 0], 40), (w.heap.size + 1, #[I 0, S [], S [], .slice none 0 0, I 0, I 0, I 0, I 0, I 0, I 0, I 0, I 0, I 0, I 0], 40), (w.heap.size, #[S k, S v], 30)] (u10.setCell ⟨W2.heap.size, 11, none⟩ (I f_st))) := hide (KK.cellset (hne3 (by have := unhide NX; omega) (by have := unhide NX; omega) (by have := unhide NX; omega)) 11 (I f_st)).swap
  have HBB10 := hide (bcell (ho.below (unhide HBB9) (unhide HBB9).size (fun k e => by have := unhide NX; omega)) W2.heap.size (by have := unhide NX; omega) 11 (I f_st))
  have HO10 : Hid (OwnS (W2.heap.size + 1) (u10.setCell ⟨W2.heap.size, 11, none⟩ (I f_st)) (.slice la f_sc.length lc) f_sc) := hide (own_keep (own_keep (unhide HO9) ho (fun k e => by have := unhide NX; omega)) (Only.setCell u10 ⟨W2.heap.size, 11, none⟩ (I f_st)) (fun k e => by have : k = W2.heap.size := e; omega))
  clear HO9
  clear KK hr ho HC10 HK HBB9 x0p z0p
  have HK := hide (unhide HK10)
  clear HK10
  have x0p := x0
  have z0p := z0
  clear x0 z0
  go_wp2_with fail
  refine (unhide HC11 (u10.setCell ⟨W2.heap.size, 11, none⟩ (I f_st)) W1.heap.size b10 (unhide HK).r0).mono ?_
  rintro e u11 ⟨rfl, b11, hr, ho⟩
  have KK := ((unhide HK).turn (hne3 (by have := unhide NX; omega) (by have := unhide NX; omega) (by have := unhide NX; omega)) ho hr).swap
  have x0 : u11.cell? ⟨W2.heap.size, 12, none⟩ = some (I 0) := cellr KK.r0 rfl
  have z0 : u11.frozen? ⟨W2.heap.size, 12, none⟩ = false := frozen_of_row _ _ 12 _ _ KK.r0
  have HK11 : Hid (Kpr [(W1.heap.size, #[S s12, .bool b11], 100), (W2.heap.size, #[I f_id, S f_cl, S f_su, .slice la f_sc.length lc, I f_cr, I f_us, I f_idl, I f_ab, I f_gr, I f_ge, I f_to, I f_st, I f_en, I 0], 40), (w.heap.size + 1, #[I 0, S [], S [], .slice none 0 0, I 0, I 0, I 0, I 0, I 0, I 0, I 0, I 0, I 0, I 0], 40), (w.heap.size, #[S k, S v], 30)] (u11.setCell ⟨W2.heap.size, 12, none⟩ (I f_en))) := hide (KK.cellset (hne3 (by have := unhide NX; omega) (by have := unhide NX; omega) (by have := unhide NX; omega)) 12 (I f_en)).swap
  have HBB11 := hide (bcell (ho.below (unhide HBB10) (unhide HBB10).size (fun k e => by have := unhide NX; omega)) W2.heap.size (by have := unhide NX; omega) 12 (I f_en))
  have HO11 : Hid (OwnS (W2.heap.size + 1) (u11.setCell ⟨W2.heap.size, 12, none⟩ (I f_en)) (.slice la f_sc.length lc) f_sc) := hide (own_keep (own_keep (unhide HO10) ho (fun k e => by have := unhide NX; omega)) (Only.setCell u11 ⟨W2.heap.size, 12, none⟩ (I f_en)) (fun k e => by have : k = W2.heap.size := e; omega))
  clear HO10
  clear KK hr ho HC11 HK HBB10 x0p z0p
  have HK := hide (unhide HK11)
  clear HK11
  have x0p := x0
  have z0p := z0
  clear x0 z0
  go_wp2_with fail
  refine (unhide HC12 (u11.setCell ⟨W2.heap.size, 12, none⟩ (I f_en)) W1.heap.size b11 (unhide HK).r0).mono ?_
  rintro e u12 ⟨rfl, b12, hr, ho⟩
  have KK := ((unhide HK).turn (hne3 (by have := unhide NX; omega) (by have := unhide NX; omega) (by have := unhide NX; omega)) ho hr).swap
  have x0 : u12.cell? ⟨W2.heap.size, 13, none⟩ = some (I 0) := cellr KK.r0 rfl
  have z0 : u12.frozen? ⟨W2.heap.size, 13, none⟩ = false := frozen_of_row _ _ 13 _ _ KK.r0
  have HK12 : Hid (Kpr [(W1.heap.size, #[S sl, .bool b12], 100), (W2.heap.size, #[I f_id, S f_cl, S f_su, .slice la f_sc.length lc, I f_cr, I f_us, I f_idl, I f_ab, I f_gr, I f_ge, I f_to, I f_st, I f_en, I f_co], 40), (w.heap.size + 1, #[I 0, S [], S [], .slice none 0 0, I 0, I 0, I 0, I 0, I 0, I 0, I 0, I 0, I 0, I 0], 40), (w.heap.size, #[S k, S v], 30)] (u12.setCell ⟨W2.heap.size, 13, none⟩ (I f_co))) := hide (KK.cellset (hne3 (by have := unhide NX; omega) (by have := unhide NX; omega) (by have := unhide NX; omega)) 13 (I f_co)).swap
  have HBB12 := hide (bcell (ho.below (unhide HBB11) (unhide HBB11).size (fun k e => by have := unhide NX; omega)) W2.heap.size (by have := unhide NX; omega) 13 (I f_co))
  have HO12 : Hid (OwnS (W2.heap.size + 1) (u12.setCell ⟨W2.heap.size, 13, none⟩ (I f_co)) (.slice la f_sc.length lc) f_sc) := hide (own_keep (own_keep (unhide HO11) ho (fun k e => by have := unhide NX; omega)) (Only.setCell u12 ⟨W2.heap.size, 13, none⟩ (I f_co)) (fun k e => by have : k = W2.heap.size := e; omega))
  clear HO11
  clear KK hr ho HC12 HK HBB11 x0p z0p
  have HK := hide (unhide HK12)
  clear HK12
  have x0p := x0
  have z0p := z0
  clear x0 z0
  have yc0 : (u12.setCell ⟨W2.heap.size, 13, none⟩ (I f_co)).cell? ⟨W2.heap.size, 0, none⟩ = some (I f_id) := cellr (unhide HK).tail.r0 rfl
  have yc1 : (u12.setCell ⟨W2.heap.size, 13, none⟩ (I f_co)).cell? ⟨W2.heap.size, 1, none⟩ = some (S f_cl) := cellr (unhide HK).tail.r0 rfl
  have yc2 : (u12.setCell ⟨W2.heap.size, 13, none⟩ (I f_co)).cell? ⟨W2.heap.size, 2, none⟩ = some (S f_su) := cellr (unhide HK).tail.r0 rfl
  have yc3 : (u12.setCell ⟨W2.heap.size, 13, none⟩ (I f_co)).cell? ⟨W2.heap.size, 3, none⟩ = some (.slice la f_sc.length lc) := cellr (unhide HK).tail.r0 rfl
  have yc4 : (u12.setCell ⟨W2.heap.size, 13, none⟩ (I f_co)).cell? ⟨W2.heap.size, 4, none⟩ = some (I f_cr) := cellr (unhide HK).tail.r0 rfl
  have yc5 : (u12.setCell ⟨W2.heap.size, 13, none⟩ (I f_co)).cell? ⟨W2.heap.size, 5, none⟩ = some (I f_us) := cellr (unhide HK).tail.r0 rfl
  have yc6 : (u12.setCell ⟨W2.heap.size, 13, none⟩ (I f_co)).cell? ⟨W2.heap.size, 6, none⟩ = some (I f_idl) := cellr (unhide HK).tail.r0 rfl
  have yc7 : (u12.setCell ⟨W2.heap.size, 13, none⟩ (I f_co)).cell? ⟨W2.heap.size, 7, none⟩ = some (I f_ab) := cellr (unhide HK).tail.r0 rfl
  have yc8 : (u12.setCell ⟨W2.heap.size, 13, none⟩ (I f_co)).cell? ⟨W2.heap.size, 8, none⟩ = some (I f_gr) := cellr (unhide HK).tail.r0 rfl
  have yc9 : (u12.setCell ⟨W2.heap.size, 13, none⟩ (I f_co)).cell? ⟨W2.heap.size, 9, none⟩ = some (I f_ge) := cellr (unhide HK).tail.r0 rfl
  have yc10 : (u12.setCell ⟨W2.heap.size, 13, none⟩ (I f_co)).cell? ⟨W2.heap.size, 10, none⟩ = some (I f_to) := cellr (unhide HK).tail.r0 rfl
  have yc11 : (u12.setCell ⟨W2.heap.size, 13, none⟩ (I f_co)).cell? ⟨W2.heap.size, 11, none⟩ = some (I f_st) := cellr (unhide HK).tail.r0 rfl
  have yc12 : (u12.setCell ⟨W2.heap.size, 13, none⟩ (I f_co)).cell? ⟨W2.heap.size, 12, none⟩ = some (I f_en) := cellr (unhide HK).tail.r0 rfl
  have yc13 : (u12.setCell ⟨W2.heap.size, 13, none⟩ (I f_co)).cell? ⟨W2.heap.size, 13, none⟩ = some (I f_co) := cellr (unhide HK).tail.r0 rfl
  go_wp2_with fail
  refine (unhide HPR (u12.setCell ⟨W2.heap.size, 13, none⟩ (I f_co)) la lc (unhide HO12).sts).mono ?_
  rintro e y1 ⟨rfl, hb⟩
  have HOa := hide (((unhide HO12).below hb (Nat.le_refl _)).below ((Below.refl _ y1).alloc (Nat.le_refl _) (.cells #[S p9.1.1, S p9.1.2] 30)) (Nat.le_refl _))
  clear HO12
  have HKa := hide (((unhide HK).below hb).add #[S p9.1.1, S p9.1.2] 30)
  have HBa := hide (bal (btr (unhide HBB12) hb) (.cells #[S p9.1.1, S p9.1.2] 30))
  clear x0p z0p
  clear hb HPR HK HBB12 yc0 yc1 yc2 yc3 yc4 yc5 yc6 yc7 yc8 yc9 yc10 yc11 yc12 yc13
  generalize hY1 : y1.alloc (.cells #[S p9.1.1, S p9.1.2] 30) = Y1 at *
  have q0 : Y1.cell? ⟨y1.heap.size, 0, none⟩ = some (S p9.1.1) := cellr (unhide HKa).r0 rfl
  have q1 : Y1.cell? ⟨y1.heap.size, 1, none⟩ = some (S p9.1.2) := cellr (unhide HKa).r0 rfl
  have q2 : Y1.cell? ⟨w.heap.size, 0, none⟩ = some (S k) := cellr (unhide HKa).tail.tail.tail.tail.r0 rfl
  have q3 : Y1.cell? ⟨w.heap.size, 1, none⟩ = some (S v) := cellr (unhide HKa).tail.tail.tail.tail.r0 rfl
  have XS := hide (rSame71 k v p9.1.1 p9.1.2 Y1)
  go_wp2_with fail
  refine (unhide XS).mono ?_
  rintro e Y2 ⟨rfl, hb⟩
  have HKb := hide ((unhide HKa).below hb).tail
  have HBb := hide (btr (unhide HBa) hb)
  have HOb := hide ((unhide HOa).below hb (Nat.le_refl _))
  clear HOa
  clear hb XS HKa HBa q0 q1 q2 q3 hY1
  have HR9 : Hid (Y2.heap[w.heap.size + 1]? = some (.cells #[I 0, S [], S [], .slice none 0 0, I 0, I 0, I 0, I 0, I 0, I 0, I 0, I 0, I 0, I 0] 40 (0, 0))) := hide (unhide HKb).tail.tail.r0
  have yc0 : Y2.cell? ⟨W2.heap.size, 0, none⟩ = some (I f_id) := cellr (unhide HKb).tail.r0 rfl
  have yc1 : Y2.cell? ⟨W2.heap.size, 1, none⟩ = some (S f_cl) := cellr (unhide HKb).tail.r0 rfl
  have yc2 : Y2.cell? ⟨W2.heap.size, 2, none⟩ = some (S f_su) := cellr (unhide HKb).tail.r0 rfl
  have yc3 : Y2.cell? ⟨W2.heap.size, 3, none⟩ = some (.slice la f_sc.length lc) := cellr (unhide HKb).tail.r0 rfl
  have yc4 : Y2.cell? ⟨W2.heap.size, 4, none⟩ = some (I f_cr) := cellr (unhide HKb).tail.r0 rfl
  have yc5 : Y2.cell? ⟨W2.heap.size, 5, none⟩ = some (I f_us) := cellr (unhide HKb).tail.r0 rfl
  have yc6 : Y2.cell? ⟨W2.heap.size, 6, none⟩ = some (I f_idl) := cellr (unhide HKb).tail.r0 rfl
  have yc7 : Y2.cell? ⟨W2.heap.size, 7, none⟩ = some (I f_ab) := cellr (unhide HKb).tail.r0 rfl
  have yc8 : Y2.cell? ⟨W2.heap.size, 8, none⟩ = some (I f_gr) := cellr (unhide HKb).tail.r0 rfl
  have yc9 : Y2.cell? ⟨W2.heap.size, 9, none⟩ = some (I f_ge) := cellr (unhide HKb).tail.r0 rfl
  have yc10 : Y2.cell? ⟨W2.heap.size, 10, none⟩ = some (I f_to) := cellr (unhide HKb).tail.r0 rfl
  have yc11 : Y2.cell? ⟨W2.heap.size, 11, none⟩ = some (I f_st) := cellr (unhide HKb).tail.r0 rfl
  have yc12 : Y2.cell? ⟨W2.heap.size, 12, none⟩ = some (I f_en) := cellr (unhide HKb).tail.r0 rfl
  have yc13 : Y2.cell? ⟨W2.heap.size, 13, none⟩ = some (I f_co) := cellr (unhide HKb).tail.r0 rfl
  clear HKb
  cases GG
  · have HN := hide ((unhide HEQ).2 rfl)
    clear HEQ
    obtain ⟨⟨k9, v9⟩, e9⟩ := p9
    dsimp only at *
    by_cases h0 : e9 = 0
    · subst h0
      have hs : (k == k9 && v == v9) = false := by
        rw [Bool.eq_false_iff]
        intro h
        simp only [Bool.and_eq_true, beq_iff_eq] at h
        exact unhide HN (by rw [h.1, h.2])
      rw [hs]
      clear HN hs
      go_wp2_with (refine wp_stT (ty := 40) (n := 14) (by kernel_rfl) rfl (.tmp 2) (.tmp 70) rfl (w.heap.size + 1) (by rfl) #[I 0, S [], S [], .slice none 0 0, I 0, I 0, I 0, I 0, I 0, I 0, I 0, I 0, I 0, I 0] rfl (by simp [Value.oneCell']) (by rfl) #[I 0, S [], S [], .slice none 0 0, I 0, I 0, I 0, I 0, I 0, I 0, I 0, I 0, I 0, I 0] rfl (unhide HR9) ?_)
      refine out2c (T := 40) (n := 14) (p := 2) (q := 3) (cs := #[I 0, S [], S [], .slice none 0 0, I 0, I 0, I 0, I 0, I 0, I 0, I 0, I 0, I 0, I 0]) (fun _ => by kernel_rfl) (fun _ => by kernel_rfl) (Z := w.heap.size + 1) (by rfl) (by rfl) (by rfl) (by rfl) (setRow_row (unhide HR9)) (by rfl) ?_
      exact ⟨bset' (unhide HBb) (w.heap.size + 1) (Nat.le_succ _) #[I 0, S [], S [], .slice none 0 0, I 0, I 0, I 0, I 0, I 0, I 0, I 0, I 0, I 0, I 0], rfl⟩
    · have g0 : ((e9 : Int) != 0) = true := by rw [bne_iff_ne]; omega
      clear HN h0
      go_wp2_with (refine wp_stT (ty := 40) (n := 14) (by kernel_rfl) rfl (.tmp 2) (.tmp 70) rfl (w.heap.size + 1) (by rfl) #[I 0, S [], S [], .slice none 0 0, I 0, I 0, I 0, I 0, I 0, I 0, I 0, I 0, I 0, I 0] rfl (by simp [Value.oneCell']) (by rfl) #[I 0, S [], S [], .slice none 0 0, I 0, I 0, I 0, I 0, I 0, I 0, I 0, I 0, I 0, I 0] rfl (unhide HR9) ?_)
      refine out2c (T := 40) (n := 14) (p := 2) (q := 3) (cs := #[I 0, S [], S [], .slice none 0 0, I 0, I 0, I 0, I 0, I 0, I 0, I 0, I 0, I 0, I 0]) (fun _ => by kernel_rfl) (fun _ => by kernel_rfl) (Z := w.heap.size + 1) (by rfl) (by rfl) (by rfl) (by rfl) (setRow_row (unhide HR9)) (by rfl) ?_
      exact ⟨bset' (unhide HBb) (w.heap.size + 1) (Nat.le_succ _) #[I 0, S [], S [], .slice none 0 0, I 0, I 0, I 0, I 0, I 0, I 0, I 0, I 0, I 0, I 0], rfl⟩
  · obtain ⟨rfl, rfl, rfl, rfl, rfl, rfl, rfl, rfl, rfl, rfl, rfl, rfl, rfl, rfl, rfl⟩ := (unhide HEQ).1 rfl
    clear HEQ
    dsimp only at *
    have hs : (k == k && v == v) = true := by simp
    rw [hs]
    clear hs
    go_wp2_with (refine wp_stT (ty := 40) (n := 14) (by kernel_rfl) rfl (.tmp 2) (.tmp 71) rfl (w.heap.size + 1) (by rfl) #[I f_id, S f_cl, S f_su, .slice la f_sc.length lc, I f_cr, I f_us, I f_idl, I f_ab, I f_gr, I f_ge, I f_to, I f_st, I f_en, I f_co] rfl (by simp [Value.oneCell']) (by rfl) #[I 0, S [], S [], .slice none 0 0, I 0, I 0, I 0, I 0, I 0, I 0, I 0, I 0, I 0, I 0] rfl (unhide HR9) ?_)
    refine out2c (T := 40) (n := 14) (p := 2) (q := 3) (cs := #[I f_id, S f_cl, S f_su, .slice la f_sc.length lc, I f_cr, I f_us, I f_idl, I f_ab, I f_gr, I f_ge, I f_to, I f_st, I f_en, I f_co]) (fun _ => by kernel_rfl) (fun _ => by kernel_rfl) (Z := w.heap.size + 1) (by rfl) (by rfl) (by rfl) (by rfl) (setRow_row (unhide HR9)) (by rfl) ?_
    exact ⟨bset' (unhide HBb) (w.heap.size + 1) (Nat.le_succ _) #[I f_id, S f_cl, S f_su, .slice la f_sc.length lc, I f_cr, I f_us, I f_idl, I f_ab, I f_gr, I f_ge, I f_to, I f_st, I f_en, I f_co], la, lc, rfl, (own_keep (unhide HOb) (setRow_Only Y2 (w.heap.size + 1) #[I f_id, S f_cl, S f_su, .slice la f_sc.length lc, I f_cr, I f_us, I f_idl, I f_ab, I f_gr, I f_ge, I f_to, I f_st, I f_en, I f_co]) (fun k e => by have := unhide NX; omega)).below (Below.refl _ _) (by have := unhide NX; omega)⟩
end Go.Proofs.YtpidmpefodnffaaGreatDoor
namespace Go.Proofs.YtpidmpefodnffaaGreatDoor
open Go.RowKit Go.Lib
set_option maxHeartbeats 8000000
set_option maxRecDepth 20000
theorem famQ (id9 : Int) (cl : Bs) (su : Bs) (sc : List Bs) (cr : Int) (us : Int) (idl : Int) (ab : Int) (gr : Int) (ge : Int) (tk9 : Int) (st : Int) (en : Int) (co : Int) : ∃ (t0 : Int) (t1 : Bs) (t2 : Bs) (t4 : Int) (t5 : Int) (t6 : Int) (t7 : Int) (t8 : Int) (t9 : Int) (t10 : Int) (t11 : Int) (t12 : Int) (t13 : Int) (u : List Bs) (pe : Nat), (((famP id9 cl su sc cr us idl ab gr ge tk9 st en co).2 = 0 ∧ pe = 0 ∧ u = sc ∧ t0 = id9 ∧ t1 = cl ∧ t2 = su ∧ t4 = cr ∧ t5 = us ∧ t6 = idl ∧ t7 = ab ∧ t8 = gr ∧ t9 = ge ∧ t10 = tk9 ∧ t11 = st ∧ t12 = en ∧ t13 = co) ∨ ((famP id9 cl su sc cr us idl ab gr ge tk9 st en co).2 = 140 ∧ pe = 141)) ∧ u.length ≤ 8 ∧ (∀ W, Calls Tryz.prog 25 #[.agg #[S (famP id9 cl su sc cr us idl ab gr ge tk9 st en co).1.1, S (famP id9 cl su sc cr us idl ab gr ge tk9 st en co).1.2]] W fun e w' => Below W.heap.size W w' ∧ ∃ va vc, e = .returned (.tuple #[.agg #[I t0, S t1, S t2, .slice va u.length vc, I t4, I t5, I t6, I t7, I t8, I t9, I t10, I t11, I t12, I t13], I pe]) ∧ OwnS W.heap.size w' (.slice va u.length vc) u) ∧ (∀ W, Calls Tryz.prog 26 #[.agg #[S (famP id9 cl su sc cr us idl ab gr ge tk9 st en co).1.1, S (famP id9 cl su sc cr us idl ab gr ge tk9 st en co).1.2]] W fun e w' => Below W.heap.size W w' ∧ ∃ va vc, e = .returned (.tuple #[.agg #[I t0, S t1, S t2, .slice va u.length vc, I t4, I t5, I t6, I t7, I t8, I t9, I t10, I t11, I t12, I t13], I pe]) ∧ OwnS W.heap.size w' (.slice va u.length vc) u) := by
  cases hok : famOK id9 cl su sc cr us idl ab gr ge tk9 st en co
  · have e : famP id9 cl su sc cr us idl ab gr ge tk9 st en co = (([], []), 140) := by simp [famP, hok]
    refine ⟨0, [], [], 0, 0, 0, 0, 0, 0, 0, 0, 0, 0, [], 141, .inr ⟨by rw [e], rfl⟩, by simp, fun W => ?_, fun W => ?_⟩
    · rw [e]
      refine (Parse25 [] [] W (by decide) (by decide)).mono ?_
      rintro e w' ⟨hb, ⟨q, _⟩ | ⟨_, rfl⟩⟩
      · exact absurd q (by decide +kernel)
      · exact ⟨hb, none, 0, rfl, World.ownsRow_nil _ _ _ _⟩
    · rw [e]
      refine (rPa26 [] [] W (by decide) (by decide)).mono ?_
      rintro e w' ⟨hb, ⟨q, _⟩ | ⟨_, rfl⟩⟩
      · exact absurd q (by decide +kernel)
      · exact ⟨hb, none, 0, rfl, World.ownsRow_nil _ _ _ _⟩
  · have t := famT hok
    have g := famP_G hok
    have e : famP id9 cl su sc cr us idl ab gr ge tk9 st en co = ((cat (lx (famKl id9 cl su sc cr us idl ab gr ge tk9 st en co)) 2, cat (lx (famVl id9 cl su sc cr us idl ab gr ge tk9 st en co)) 13), 0) := by unfold famP; rw [if_pos hok]
    rw [e] at g ⊢
    have hl := famG_hd g
    have hr := (famB hok).2.2.2.1
    refine ⟨id9, cl, su, cr, us, idl, ab, gr, ge, tk9, st, en, co, sc, 0, .inl ⟨rfl, rfl, rfl, rfl, rfl, rfl, rfl, rfl, rfl, rfl, rfl, rfl, rfl, rfl, rfl, rfl⟩, (right_small hr).1, fun W => ?_, fun W => ?_⟩
    · refine (Parse25 _ _ W (Nat.le_trans hl.2.1 (by decide)) (Nat.le_trans hl.2.2 (by decide))).mono ?_
      rintro e w' ⟨hb, ⟨_, va, vc, rfl, ho⟩ | ⟨q, _⟩⟩
      · rw [t.2.2.2.1] at ho
        exact ⟨hb, va, vc, by rw [t.1, t.2.1, t.2.2.1, t.2.2.2.1, t.2.2.2.2.1, t.2.2.2.2.2.1, t.2.2.2.2.2.2.1, t.2.2.2.2.2.2.2.1, t.2.2.2.2.2.2.2.2.1, t.2.2.2.2.2.2.2.2.2.1, t.2.2.2.2.2.2.2.2.2.2.1, t.2.2.2.2.2.2.2.2.2.2.2.1, t.2.2.2.2.2.2.2.2.2.2.2.2.1, t.2.2.2.2.2.2.2.2.2.2.2.2.2]; rfl, ho⟩
      · exact absurd g (by simp only [q]; decide)
    · refine (rPa26 _ _ W (Nat.le_trans hl.2.1 (by decide)) (Nat.le_trans hl.2.2 (by decide))).mono ?_
      rintro e w' ⟨hb, ⟨_, va, vc, rfl, ho⟩ | ⟨q, _⟩⟩
      · rw [t.2.2.2.1] at ho
        exact ⟨hb, va, vc, by rw [t.1, t.2.1, t.2.2.1, t.2.2.2.1, t.2.2.2.2.1, t.2.2.2.2.2.1, t.2.2.2.2.2.2.1, t.2.2.2.2.2.2.2.1, t.2.2.2.2.2.2.2.2.1, t.2.2.2.2.2.2.2.2.2.1, t.2.2.2.2.2.2.2.2.2.2.1, t.2.2.2.2.2.2.2.2.2.2.2.1, t.2.2.2.2.2.2.2.2.2.2.2.2.1, t.2.2.2.2.2.2.2.2.2.2.2.2.2]; rfl, ho⟩
      · exact absurd g (by simp only [q]; decide)
end Go.Proofs.YtpidmpefodnffaaGreatDoor
