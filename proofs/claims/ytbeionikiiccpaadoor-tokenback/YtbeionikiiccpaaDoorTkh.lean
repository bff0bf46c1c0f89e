import Derived.Test.YtbeionikiiccpaaDoorTkf
import Derived.Test.YtbeionikiiccpaaDoorHsma
namespace Go.Proofs.YtbeionikiiccpaaDoor
open Go.RowKit Go.Lib Sha
set_option maxHeartbeats 4000000
set_option maxRecDepth 8000
/-- So many more. -/
def aup (n m : Int) : Int := if 2147483647 < n ∨ 2147483647 < m then 2147483648 else n + m
theorem adds_any (n m : Int) (w : World) (n0 : 0 ≤ n) (m0 : 0 ≤ m) : Calls Tryd.prog 9 #[I n, I m] w fun e w' => e = .returned (I (aup n m)) ∧ w' = w := by
  by_cases h1 : 2147483647 < n
  · have HA := hide (show aup n m = 2147483648 by unfold aup; rw [if_pos (.inl h1)])
    go_enter Tryd.func9, Tryd.ntmps9
    go_wp2
    go_ret
    exact ⟨by rw [unhide HA]; rfl, rfl⟩
  · by_cases h2 : 2147483647 < m
    · have HA := hide (show aup n m = 2147483648 by unfold aup; rw [if_pos (.inr h2)])
      go_enter Tryd.func9, Tryd.ntmps9
      go_wp2
      go_ret
      exact ⟨by rw [unhide HA]; rfl, rfl⟩
    · have HA := hide (show aup n m = n + m by unfold aup; rw [if_neg (by omega)])
      go_enter Tryd.func9, Tryd.ntmps9
      go_wp2
      go_ret
      exact ⟨by rw [unhide HA]; rfl, rfl⟩
theorem aup_lo (n m : Int) (n0 : 0 ≤ n) (m0 : 0 ≤ m) : 0 ≤ aup n m := by unfold aup; split <;> omega
theorem aup_few (n m : Int) (h : aup n m ≤ 2147483647) : n ≤ 2147483647 ∧ m ≤ 2147483647 ∧ aup n m = n + m := by
  unfold aup at h ⊢
  split at h
  · omega
  · rename_i q
    rw [if_neg q]
    omega
theorem sum1_any (s : Bs) (w : World) (hs : s.length < 576460752303423488) :
    Calls Tryd.prog 14 #[.slice (some ⟨w.heap.size, 0, none⟩) 1 1] (w.alloc (.cells #[S s] 9)) fun e w' => e = .returned (S (Sha.sum s)) ∧ Below w.heap.size w w' := by
  have hp : Parts (w.alloc (.cells #[S s] 9)) (some ⟨w.heap.size, 0, none⟩) 1 [s] := by
    refine ⟨rfl, fun _ => ⟨w.heap.size, 0, rfl, fun j hj => ?_⟩⟩
    have : j = 0 := by omega
    subst this
    exact (cell_of_row (w.alloc (.cells #[S s] 9)) w.heap.size 0 _ 9 (0, 0) (heap_alloc_new w _)).trans (by simp)
  refine (sum_any _ 1 1 [s] _ hp (by omega) (by simpa using hs)).mono ?_
  rintro e w' ⟨rfl, hb⟩
  refine ⟨by simp, ?_⟩
  have h1 := (Below.refl w.heap.size w).alloc (Nat.le_refl _) (.cells #[S s] 9)
  exact h1.trans (hb.mono h1.size)
theorem hash_any (s : Bs) (w : World) (hs : s.length < 576460752303423488) :
    Calls Tryd.prog 13 #[S s] w fun e w' => e = .returned (S (Sha.sum s)) ∧ Below w.heap.size w w' := by
  have HS := hide (sum1_any s w hs)
  generalize Sha.sum s = x at *
  go_enter Tryd.func13, Tryd.ntmps13
  go_wp2_with (first | (go_at_call 14; refine (unhide HS).mono ?_; rintro e w1 ⟨rfl, hb⟩))
  go_ret
  exact ⟨rfl, hb⟩
theorem prs_ok {k : Int} (hk : isK k) (id : Nat) (s : Bs) (h1 : 1 ≤ id) (h2 : id ≤ 4611686018427387904) (hs : s.length = 24) : prs k (tkn k id s) = .tuple #[I (id : Int), S s, I 0] := by
  unfold prs; rw [rdT_tkn hk id s h1 h2 hs]; rfl
theorem prs_other {k : Int} (id : Nat) (s : Bs) : prs (3 - k) (tkn k id s) = .tuple #[I 0, S [], I 170] := by
  unfold prs; rw [rdT_other2]; rfl
theorem prs_cut {k : Int} (hk : isK k) (id : Nat) (s : Bs) (hs : s.length = 24) (c : Nat) (hc : c < 52) : prs k ((tkn k id s).take c) = .tuple #[I 0, S [], I 171] := by
  unfold prs; rw [rdT_cut hk id s hs c hc]; rfl
theorem prs_more {k : Int} (hk : isK k) (id : Nat) (s : Bs) (hs : s.length = 24) (x : Bs) (hx : x ≠ []) : prs k (tkn k id s ++ x) = .tuple #[I 0, S [], I 171] := by
  unfold prs; rw [rdT_more hk id s hs x hx]; rfl
theorem tokenBack_any (a0 a1 a2 : Addr) (kind id : Int) (secret : Bs) (cut : Int) (more raw : Bs) (w : World) (hE : Env a0 a1 a2 w) (hs : secret.length + (more.length + raw.length) ≤ 2147483647)
    (k0 : -9223372036854775808 ≤ kind) (k1 : kind ≤ 9223372036854775807) (i0 : -9223372036854775808 ≤ id) (i1 : id ≤ 9223372036854775807) (t0 : -9223372036854775808 ≤ cut) (t1 : cut ≤ 9223372036854775807) :
    Calls Tryd.prog 4 #[I kind, I id, S secret, I cut, S more, S raw] w fun e w' => e = .returned (.bool true) ∧ Below w.heap.size w w' := by
  have HA1 := hide (adds_any (more.length : Int) (raw.length : Int) · (by omega) (by omega))
  have e1 : aup (more.length : Int) (raw.length : Int) = (more.length : Int) + (raw.length : Int) := by unfold aup; rw [if_neg (by omega)]
  rw [e1] at HA1
  have HA2 := hide (adds_any (secret.length : Int) ((more.length : Int) + (raw.length : Int)) · (by omega) (by omega))
  have e2 : aup (secret.length : Int) ((more.length : Int) + (raw.length : Int)) = (secret.length : Int) + ((more.length : Int) + (raw.length : Int)) := by unfold aup; rw [if_neg (by omega)]
  rw [e2] at HA2
  have hsi : (secret.length : Int) + ((more.length : Int) + (raw.length : Int)) ≤ 2147483647 := by omega
  have HK := hide (pick_any kind 2 · k0 k1 (by omega) (by omega))
  have HI := hide (pick_any id 4611686018427387904 · i0 i1 (by omega) (by omega))
  have HT := hide (pick_any cut 52 · t0 t1 (by omega) (by omega))
  have HS := hide (lsized_any secret · (by omega))
  have kl := pkv_lo kind 2 (by omega)
  have kh := pkv_hi kind 2 (by omega)
  have il := pkv_lo id 4611686018427387904 (by omega)
  have ih := pkv_hi id 4611686018427387904 (by omega)
  have tl := pkv_lo cut 52 (by omega)
  have th := pkv_hi cut 52 (by omega)
  have zl := szd_len secret
  clear k0 k1 i0 i1 t0 t1 e1 e2
  generalize pkv kind 2 = kk at *
  generalize pkv id 4611686018427387904 = ii at *
  obtain ⟨j, hj⟩ : ∃ j : Nat, pkv cut 52 = (j : Int) := ⟨(pkv cut 52).toNat, by omega⟩
  rw [hj] at HT tl th
  clear hj
  generalize szd secret = z at *
  have hk : isK (1 + kk) := by unfold isK; omega
  have hk3 : isK (3 - (1 + kk)) := by unfold isK; omega
  have HM := hide (mint_any (1 + kk) (1 + ii) z)
  rw [show mnt (1 + kk) (1 + ii) z = (tkn (1 + kk) (1 + ii).toNat z, 0) by unfold mnt; rw [if_pos ⟨hk, ⟨by omega, by omega⟩, zl⟩]] at HM
  have P1 := hide (prs_ok hk (1 + ii).toNat z (by omega) (by omega) zl)
  rw [show (((1 + ii).toNat : Nat) : Int) = 1 + ii by omega] at P1
  have P2 := hide (prs_other (k := 1 + kk) (1 + ii).toNat z)
  have P3 := hide (prs_cut hk (1 + ii).toNat z zl j (by omega))
  have P4 := hide (prs_more hk (1 + ii).toNat z zl ([65] ++ more) (by simp))
  have hl := tkn_len (1 + kk) (1 + ii).toNat z zl
  generalize tkn (1 + kk) (1 + ii).toNat z = T at *
  have hli : (T.length : Int) = 52 := by omega
  have HHS := hide (hash_any T · (by omega))
  have HSM := hide (sum1_any T · (by omega))
  generalize Sha.sum T = d at *
  have HRW : Hid ((rdT (1 + kk) raw).2.2 = 0 → mnt (1 + kk) ((rdT (1 + kk) raw).1 : Int) (rdT (1 + kk) raw).2.1 = (raw, 0)) := hide (fun q => by
    obtain ⟨q1, q2, q3, q4⟩ := rdT_ok q
    unfold mnt
    rw [if_pos ⟨hk, ⟨by omega, by omega⟩, q3⟩, Int.toNat_natCast, ← q4])
  have HE := hide hE
  have HPK := hide (fun t w hE => parse_any a0 a1 a2 (1 + kk) hk t w hE)
  have HPK3 := hide (fun t w hE => parse_any a0 a1 a2 (3 - (1 + kk)) hk3 t w hE)
  clear hE zl hk hk3
  go_enter Tryd.func4, Tryd.ntmps4
  go_wp2_with fail
  refine (unhide HA1 _).mono ?_
  rintro e wa ⟨rfl, rfl⟩
  go_wp2_with fail
  refine (unhide HA2 _).mono ?_
  rintro e wb ⟨rfl, rfl⟩
  go_wp2_with fail
  refine (awake_any a0 a1 a2 wb (unhide HE)).mono ?_
  rintro e w1 ⟨rfl, hb1⟩
  have HB1 := hide hb1
  have HE1 := hide ((unhide HE).below hb1)
  clear hb1 HE HA1 HA2
  go_wp2_with fail
  refine (unhide HK _).mono ?_
  rintro e wq ⟨rfl, rfl⟩
  go_wp2_with fail
  refine (unhide HI _).mono ?_
  rintro e wq2 ⟨rfl, rfl⟩
  go_wp2_with fail
  refine (unhide HS _).mono ?_
  rintro e w2 ⟨rfl, hb2⟩
  have HB2 := hide ((unhide HB1).trans (hb2.mono (unhide HB1).size))
  have HE2 := hide ((unhide HE1).below hb2)
  clear hb2 HB1 HE1 HK HI
  go_wp2_with fail
  refine (unhide HM _).mono ?_
  rintro e w3 ⟨rfl, hb3⟩
  have HB3 := hide ((unhide HB2).trans (hb3.mono (unhide HB2).size))
  have HE3 := hide ((unhide HE2).below hb3)
  clear hb3 HB2 HE2
  go_wp2_with fail
  refine (unhide HPK T _ (unhide HE3)).mono ?_
  rintro e w4 ⟨rfl, hb4⟩
  rw [unhide P1]
  have HB4 := hide ((unhide HB3).trans (hb4.mono (unhide HB3).size))
  have HE4 := hide ((unhide HE3).below hb4)
  clear hb4 HB3 HE3 P1
  go_wp2_with fail
  refine (unhide HPK3 T _ (unhide HE4)).mono ?_
  rintro e w5 ⟨rfl, hb5⟩
  rw [unhide P2]
  have HB5 := hide ((unhide HB4).trans (hb5.mono (unhide HB4).size))
  have HE5 := hide ((unhide HE4).below hb5)
  clear hb5 HB4 HE4 P2 HPK3
  go_wp2_with fail
  refine (unhide HS _).mono ?_
  rintro e w6 ⟨rfl, hb6⟩
  have HB6 := hide ((unhide HB5).trans (hb6.mono (unhide HB5).size))
  have HE6 := hide ((unhide HE5).below hb6)
  clear hb6 HB5 HE5 HS
  go_wp2_with fail
  refine (unhide HT _).mono ?_
  rintro e wq4 ⟨rfl, rfl⟩
  go_wp2_with fail
  rw [show Value.string ((ByteArray.mk T.toArray).extract 0 j) = S (T.take j) by rw [ba_cut]; rfl]
  refine (unhide HPK (T.take j) _ (unhide HE6)).mono ?_
  rintro e w7 ⟨rfl, hb7⟩
  rw [unhide P3]
  have HB7 := hide ((unhide HB6).trans (hb7.mono (unhide HB6).size))
  have HE7 := hide ((unhide HE6).below hb7)
  clear hb7 HB6 HE6 P3 HT
  have hcat1 : T.length + ([65] : Bs).length ≤ 9223372036854775807 := by simp; omega
  have hcat2 : (T ++ [65]).length + more.length ≤ 9223372036854775807 := by simp; omega
  go_wp2_with fail
  rw [show Value.string ((ByteArray.mk T.toArray) ++ ⟨#[65]⟩ ++ ⟨more.toArray⟩) = S (T ++ ([65] ++ more)) by
    rw [show (⟨#[65]⟩ : ByteArray) = ⟨([65] : Bs).toArray⟩ from rfl, ba_app, ba_app, List.append_assoc]]
  refine (unhide HPK (T ++ ([65] ++ more)) _ (unhide HE7)).mono ?_
  rintro e w8 ⟨rfl, hb8⟩
  rw [unhide P4]
  have HB8 := hide ((unhide HB7).trans (hb8.mono (unhide HB7).size))
  have HE8 := hide ((unhide HE7).below hb8)
  clear hb8 HB7 HE7 P4 hcat1 hcat2
  generalize Value.string ((ByteArray.mk T.toArray) ++ ⟨#[65]⟩) = V65 at *
  go_wp2_with fail
  refine (unhide HPK raw _ (unhide HE8)).mono ?_
  rintro e w9 ⟨rfl, hb9⟩
  have HB9 := hide ((unhide HB8).trans (hb9.mono (unhide HB8).size))
  have HER : Hid ((rdT (1 + kk) raw).2.2 = 0 ∨ ¬ ern (rdT (1 + kk) raw).2.2 = 0) := hide (by
    rcases rdT_cases (1 + kk) raw with q | q | q | q
    · exact .inl q
    · right; rw [q]; decide
    · right; rw [q]; decide
    · right; rw [q]; decide)
  rw [show prs (1 + kk) raw = .tuple #[I ((rdT (1 + kk) raw).1 : Int), S (rdT (1 + kk) raw).2.1, I (ern (rdT (1 + kk) raw).2.2)] from rfl]
  clear hb9 HB8 HE8 HPK
  generalize (rdT (1 + kk) raw).1 = x1 at *
  generalize (rdT (1 + kk) raw).2.1 = x2 at *
  generalize (rdT (1 + kk) raw).2.2 = x3 at *
  rcases unhide HER with q | q
  · subst q
    have HM2 := hide (mint_any (1 + kk) (x1 : Int) x2 w9)
    rw [unhide HRW rfl] at HM2
    rw [show ern 0 = 0 from rfl]
    go_wp2_with fail
    refine (unhide HM2).mono ?_
    rintro e w10 ⟨rfl, hb10⟩
    have HB10 := hide ((unhide HB9).trans (hb10.mono (unhide HB9).size))
    clear hb10 HB9 HM2
    go_wp2
    go_ret
    exact ⟨rfl, unhide HB10⟩
  · generalize ern x3 = y3 at *
    clear HRW HER
    go_wp2_with fail
    refine (unhide HHS _).mono ?_
    rintro e w10 ⟨rfl, hb10⟩
    have HB10 := hide ((unhide HB9).trans (hb10.mono (unhide HB9).size))
    clear hb10 HB9
    go_wp2_with fail
    refine (unhide HSM _).mono ?_
    rintro e w11 ⟨rfl, hb11⟩
    have HB11 := hide ((unhide HB10).trans (hb11.mono (unhide HB10).size))
    clear hb11 HB10
    go_wp2
    go_ret
    exact ⟨rfl, unhide HB11⟩
end Go.Proofs.YtbeionikiiccpaaDoor
