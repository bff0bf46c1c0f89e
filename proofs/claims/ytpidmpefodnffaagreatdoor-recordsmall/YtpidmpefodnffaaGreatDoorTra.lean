import Derived.Test.YtpidmpefodnffaaGreatDoorOrp
import Derived.Test.YtpidmpefodnffaaGreatDoorZpaa
import Derived.Test.YtpidmpefodnffaaGreatDoorZpac
import Derived.Test.YtpidmpefodnffaaGreatDoorZfde
import Derived.Test.YtpidmpefodnffaaGreatDoorZfdi

namespace Go.Proofs.YtpidmpefodnffaaGreatDoor
open Go.RowKit
set_option maxRecDepth 8000
/-- A text that was laid is read as it was. -/
theorem tv_laid (most : Nat) (s r : Bs) (hs : s.length ≤ most) (hm : most ≤ 255) : tv most ((be 1 s.length ++ s) ++ r, 0) = s ∧ ts most ((be 1 s.length ++ s) ++ r, 0) = (r, 0) := by
  have ha : ahd (most : Int) = 1 := by unfold ahd; rw [if_pos (by omega)]
  have hl := be_len 1 s.length
  have ht : ((be 1 s.length ++ s) ++ r).take 1 = be 1 s.length := by rw [List.append_assoc, List.take_append_of_le_length (by omega), List.take_of_length_le (by omega)]
  have hd : ((be 1 s.length ++ s) ++ r).drop 1 = s ++ r := by rw [List.append_assoc, List.drop_append_of_le_length (by omega), List.drop_of_length_le (by omega), List.nil_append]
  have hn : nat (be 1 s.length) = s.length := by rw [nat_be]; exact Nat.mod_eq_of_lt (by omega)
  have he : rTextE most ((be 1 s.length ++ s) ++ r) = 0 := by
    unfold rTextE
    rw [if_pos (by omega), ha, ht, hn, if_neg (by simp [hl]), if_neg (by omega), if_neg (by simp [hl])]
  constructor
  · unfold tv
    simp only [he]
    rw [if_pos fine_ok]
    unfold rTextS
    rw [ha, ht, hd, hn]
    simp
  · unfold ts
    simp only [he]
    rw [rGo_ok]
    unfold rTextK
    rw [ha, ht, hn, show (be 1 s.length ++ s ++ r).drop (1 + s.length) = ((be 1 s.length ++ s ++ r).drop 1).drop s.length by rw [List.drop_drop], hd]
    simp
theorem bv_lt : ∀ (l : List Bool), l.length ≤ 2 → bv l < 256 ^ 1
  | [], _ => by decide
  | [a], _ => by cases a <;> decide
  | [a, b], _ => by cases a <;> cases b <;> decide
  | _ :: _ :: _ :: _, h => absurd h (by simp)
theorem bv_bit10 (a : Bool) : fbit (bv [a] : Nat) 0 = a := by cases a <;> decide
theorem keyT {nu : Int} {se : Bs} {fr : Int} {un : Int} (h : keyOK nu se fr un = true) : key_nu (cat (lx (keyKl nu se fr un)) 2) = nu ∧ key_se (cat (lx (keyVl nu se fr un)) 3) = se ∧ key_fr (cat (lx (keyVl nu se fr un)) 3) = fr ∧ key_un (cat (lx (keyVl nu se fr un)) 3) = un := by
  have b := keyB h
  have g : se.length = 24 := by simp only [keyOK, beq_iff_eq, Bool.and_eq_true] at h; exact h.2.2.1
  have ek : (cat (lx (keyKl nu se fr un)) 2) = [107] ++ (be 4 nu.toNat ++ []) := by simp [cat, lx, keyKl]
  have k0 : keyK0 (cat (lx (keyKl nu se fr un)) 2) = ([107] ++ (be 4 nu.toNat ++ []), 0) := by unfold keyK0; rw [ek]
  have qk0 := rr_laid [107] (be 4 nu.toNat ++ []) 1 rfl
  have k1 : keyK1 (cat (lx (keyKl nu se fr un)) 2) = (be 4 nu.toNat ++ [], 0) := by unfold keyK1; rw [k0]; exact qk0.2
  have qk1 := rv_laid 4 nu.toNat [] (by omega) (by omega) (by omega) (by omega)
  have ev : (cat (lx (keyVl nu se fr un)) 3) = se ++ (be 6 fr.toNat ++ (be 6 un.toNat ++ [])) := by simp [cat, lx, keyVl]
  have v0 : keyV0 (cat (lx (keyVl nu se fr un)) 3) = (se ++ (be 6 fr.toNat ++ (be 6 un.toNat ++ [])), 0) := by unfold keyV0; rw [ev]
  have qv0 := rr_laid se (be 6 fr.toNat ++ (be 6 un.toNat ++ [])) 24 (by omega)
  have v1 : keyV1 (cat (lx (keyVl nu se fr un)) 3) = (be 6 fr.toNat ++ (be 6 un.toNat ++ []), 0) := by unfold keyV1; rw [v0]; exact qv0.2
  have qv1 := rv_laid 6 fr.toNat (be 6 un.toNat ++ []) (by omega) (by omega) (by omega) (by omega)
  have v2 : keyV2 (cat (lx (keyVl nu se fr un)) 3) = (be 6 un.toNat ++ [], 0) := by unfold keyV2; rw [v1]; exact qv1.2
  have qv2 := rv_laid 6 un.toNat [] (by omega) (by omega) (by omega) (by omega)
  exact ⟨by unfold key_nu; rw [k1, qk1.1]; omega, by unfold key_se; rw [v0]; exact qv0.1, by unfold key_fr; rw [v1, qv1.1]; omega, by unfold key_un; rw [v2, qv2.1]; omega⟩
theorem keyP_G {nu : Int} {se : Bs} {fr : Int} {un : Int} (h : keyOK nu se fr un = true) : keyG (keyP nu se fr un).1.1 (keyP nu se fr un).1.2 = true := by
  have e : keyP nu se fr un = ((cat (lx (keyKl nu se fr un)) 2, cat (lx (keyVl nu se fr un)) 3), 0) := by unfold keyP; rw [if_pos h]
  have t := keyT h
  rw [e]
  unfold keyG
  simp only [t, e]
  simp
theorem chaT {ba : Int} {ne : Int} {bh : Bs} {nh : Bs} (h : chaOK ba ne bh nh = true) : cha_ba (cat (lx (chaVl ba ne bh nh)) 4) = ba ∧ cha_ne (cat (lx (chaVl ba ne bh nh)) 4) = ne ∧ cha_bh (cat (lx (chaVl ba ne bh nh)) 4) = bh ∧ cha_nh (cat (lx (chaVl ba ne bh nh)) 4) = nh := by
  have b := chaB h
  have g : bh.length = 32 ∧ nh.length = 32 := by simp only [chaOK, beq_iff_eq, Bool.and_eq_true] at h; exact ⟨h.2.2.2.2.2.1, h.2.2.2.2.2.2⟩
  have ek : (cat (lx (chaKl ba ne bh nh)) 1) = [104] ++ [] := by simp [cat, lx, chaKl]
  have k0 : chaK0 (cat (lx (chaKl ba ne bh nh)) 1) = ([104] ++ [], 0) := by unfold chaK0; rw [ek]
  have qk0 := rr_laid [104] [] 1 rfl
  have ev : (cat (lx (chaVl ba ne bh nh)) 4) = be 8 ba.toNat ++ (be 8 ne.toNat ++ (bh ++ (nh ++ []))) := by simp [cat, lx, chaVl]
  have v0 : chaV0 (cat (lx (chaVl ba ne bh nh)) 4) = (be 8 ba.toNat ++ (be 8 ne.toNat ++ (bh ++ (nh ++ []))), 0) := by unfold chaV0; rw [ev]
  have qv0 := rv_laid 8 ba.toNat (be 8 ne.toNat ++ (bh ++ (nh ++ []))) (by omega) (by omega) (by omega) (by omega)
  have v1 : chaV1 (cat (lx (chaVl ba ne bh nh)) 4) = (be 8 ne.toNat ++ (bh ++ (nh ++ [])), 0) := by unfold chaV1; rw [v0]; exact qv0.2
  have qv1 := rv_laid 8 ne.toNat (bh ++ (nh ++ [])) (by omega) (by omega) (by omega) (by omega)
  have v2 : chaV2 (cat (lx (chaVl ba ne bh nh)) 4) = (bh ++ (nh ++ []), 0) := by unfold chaV2; rw [v1]; exact qv1.2
  have qv2 := rr_laid bh (nh ++ []) 32 (by omega)
  have v3 : chaV3 (cat (lx (chaVl ba ne bh nh)) 4) = (nh ++ [], 0) := by unfold chaV3; rw [v2]; exact qv2.2
  have qv3 := rr_laid nh [] 32 (by omega)
  exact ⟨by unfold cha_ba; rw [v0, qv0.1]; omega, by unfold cha_ne; rw [v1, qv1.1]; omega, by unfold cha_bh; rw [v2]; exact qv2.1, by unfold cha_nh; rw [v3]; exact qv3.1⟩
theorem chaP_G {ba : Int} {ne : Int} {bh : Bs} {nh : Bs} (h : chaOK ba ne bh nh = true) : chaG (chaP ba ne bh nh).1.1 (chaP ba ne bh nh).1.2 = true := by
  have e : chaP ba ne bh nh = ((cat (lx (chaKl ba ne bh nh)) 1, cat (lx (chaVl ba ne bh nh)) 4), 0) := by unfold chaP; rw [if_pos h]
  have t := chaT h
  rw [e]
  unfold chaG
  simp only [t, e]
  simp
theorem eveT {nu : Int} {ti : Int} {ki : Int} {fa : Int} {wh : Bs} (h : eveOK nu ti ki fa wh = true) : eve_nu (cat (lx (eveKl nu ti ki fa wh)) 2) = nu ∧ eve_ti (cat (lx (eveVl nu ti ki fa wh)) 4) = ti ∧ eve_ki (cat (lx (eveVl nu ti ki fa wh)) 4) = ki ∧ eve_fa (cat (lx (eveVl nu ti ki fa wh)) 4) = fa ∧ eve_wh (cat (lx (eveVl nu ti ki fa wh)) 4) = wh := by
  have b := eveB h
  have ek : (cat (lx (eveKl nu ti ki fa wh)) 2) = [101] ++ (be 8 nu.toNat ++ []) := by simp [cat, lx, eveKl]
  have k0 : eveK0 (cat (lx (eveKl nu ti ki fa wh)) 2) = ([101] ++ (be 8 nu.toNat ++ []), 0) := by unfold eveK0; rw [ek]
  have qk0 := rr_laid [101] (be 8 nu.toNat ++ []) 1 rfl
  have k1 : eveK1 (cat (lx (eveKl nu ti ki fa wh)) 2) = (be 8 nu.toNat ++ [], 0) := by unfold eveK1; rw [k0]; exact qk0.2
  have qk1 := rv_laid 8 nu.toNat [] (by omega) (by omega) (by omega) (by omega)
  have ev : (cat (lx (eveVl nu ti ki fa wh)) 4) = be 6 ti.toNat ++ (be 1 ki.toNat ++ (be 8 fa.toNat ++ ((be 1 wh.length ++ wh) ++ []))) := by simp [cat, lx, eveVl]
  have v0 : eveV0 (cat (lx (eveVl nu ti ki fa wh)) 4) = (be 6 ti.toNat ++ (be 1 ki.toNat ++ (be 8 fa.toNat ++ ((be 1 wh.length ++ wh) ++ []))), 0) := by unfold eveV0; rw [ev]
  have qv0 := rv_laid 6 ti.toNat (be 1 ki.toNat ++ (be 8 fa.toNat ++ ((be 1 wh.length ++ wh) ++ []))) (by omega) (by omega) (by omega) (by omega)
  have v1 : eveV1 (cat (lx (eveVl nu ti ki fa wh)) 4) = (be 1 ki.toNat ++ (be 8 fa.toNat ++ ((be 1 wh.length ++ wh) ++ [])), 0) := by unfold eveV1; rw [v0]; exact qv0.2
  have qv1 := rv_laid 1 ki.toNat (be 8 fa.toNat ++ ((be 1 wh.length ++ wh) ++ [])) (by omega) (by omega) (by omega) (by omega)
  have v2 : eveV2 (cat (lx (eveVl nu ti ki fa wh)) 4) = (be 8 fa.toNat ++ ((be 1 wh.length ++ wh) ++ []), 0) := by unfold eveV2; rw [v1]; exact qv1.2
  have qv2 := rv_laid 8 fa.toNat ((be 1 wh.length ++ wh) ++ []) (by omega) (by omega) (by omega) (by omega)
  have v3 : eveV3 (cat (lx (eveVl nu ti ki fa wh)) 4) = ((be 1 wh.length ++ wh) ++ [], 0) := by unfold eveV3; rw [v2]; exact qv2.2
  have qv3 := tv_laid 16 wh [] (by omega) (by omega)
  exact ⟨by unfold eve_nu; rw [k1, qk1.1]; omega, by unfold eve_ti; rw [v0, qv0.1]; omega, by unfold eve_ki; rw [v1, qv1.1]; omega, by unfold eve_fa; rw [v2, qv2.1]; omega, by unfold eve_wh; rw [v3]; exact qv3.1⟩
theorem eveP_G {nu : Int} {ti : Int} {ki : Int} {fa : Int} {wh : Bs} (h : eveOK nu ti ki fa wh = true) : eveG (eveP nu ti ki fa wh).1.1 (eveP nu ti ki fa wh).1.2 = true := by
  have e : eveP nu ti ki fa wh = ((cat (lx (eveKl nu ti ki fa wh)) 2, cat (lx (eveVl nu ti ki fa wh)) 4), 0) := by unfold eveP; rw [if_pos h]
  have t := eveT h
  rw [e]
  unfold eveG
  simp only [t, e]
  simp
theorem tokT {id : Int} {fa : Int} {ge : Int} {ha : Bs} {mi : Int} {sp : Bool} {at9 : Int} {ne : Int} {se : Bs} (h : tokOK id fa ge ha mi sp at9 ne se = true) : tok_id (cat (lx (tokKl id fa ge ha mi sp at9 ne se)) 2) = id ∧ tok_fa (cat (lx (tokVl id fa ge ha mi sp at9 ne se)) 8) = fa ∧ tok_ge (cat (lx (tokVl id fa ge ha mi sp at9 ne se)) 8) = ge ∧ tok_ha (cat (lx (tokVl id fa ge ha mi sp at9 ne se)) 8) = ha ∧ tok_mi (cat (lx (tokVl id fa ge ha mi sp at9 ne se)) 8) = mi ∧ tok_sp (cat (lx (tokVl id fa ge ha mi sp at9 ne se)) 8) = sp ∧ tok_at9 (cat (lx (tokVl id fa ge ha mi sp at9 ne se)) 8) = at9 ∧ tok_ne (cat (lx (tokVl id fa ge ha mi sp at9 ne se)) 8) = ne ∧ tok_se (cat (lx (tokVl id fa ge ha mi sp at9 ne se)) 8) = se := by
  have b := tokB h
  have g : ha.length = 32 := by simp only [tokOK, beq_iff_eq, Bool.and_eq_true] at h; exact h.2.2.2.1
  have ek : (cat (lx (tokKl id fa ge ha mi sp at9 ne se)) 2) = [116] ++ (be 8 id.toNat ++ []) := by simp [cat, lx, tokKl]
  have k0 : tokK0 (cat (lx (tokKl id fa ge ha mi sp at9 ne se)) 2) = ([116] ++ (be 8 id.toNat ++ []), 0) := by unfold tokK0; rw [ek]
  have qk0 := rr_laid [116] (be 8 id.toNat ++ []) 1 rfl
  have k1 : tokK1 (cat (lx (tokKl id fa ge ha mi sp at9 ne se)) 2) = (be 8 id.toNat ++ [], 0) := by unfold tokK1; rw [k0]; exact qk0.2
  have qk1 := rv_laid 8 id.toNat [] (by omega) (by omega) (by omega) (by omega)
  have ev : (cat (lx (tokVl id fa ge ha mi sp at9 ne se)) 8) = be 8 fa.toNat ++ (be 4 ge.toNat ++ (ha ++ (be 6 mi.toNat ++ (be 1 (bv [sp]) ++ (be 6 at9.toNat ++ (be 8 ne.toNat ++ ((be 1 se.length ++ se) ++ []))))))) := by simp [cat, lx, tokVl]
  have v0 : tokV0 (cat (lx (tokVl id fa ge ha mi sp at9 ne se)) 8) = (be 8 fa.toNat ++ (be 4 ge.toNat ++ (ha ++ (be 6 mi.toNat ++ (be 1 (bv [sp]) ++ (be 6 at9.toNat ++ (be 8 ne.toNat ++ ((be 1 se.length ++ se) ++ []))))))), 0) := by unfold tokV0; rw [ev]
  have qv0 := rv_laid 8 fa.toNat (be 4 ge.toNat ++ (ha ++ (be 6 mi.toNat ++ (be 1 (bv [sp]) ++ (be 6 at9.toNat ++ (be 8 ne.toNat ++ ((be 1 se.length ++ se) ++ []))))))) (by omega) (by omega) (by omega) (by omega)
  have v1 : tokV1 (cat (lx (tokVl id fa ge ha mi sp at9 ne se)) 8) = (be 4 ge.toNat ++ (ha ++ (be 6 mi.toNat ++ (be 1 (bv [sp]) ++ (be 6 at9.toNat ++ (be 8 ne.toNat ++ ((be 1 se.length ++ se) ++ [])))))), 0) := by unfold tokV1; rw [v0]; exact qv0.2
  have qv1 := rv_laid 4 ge.toNat (ha ++ (be 6 mi.toNat ++ (be 1 (bv [sp]) ++ (be 6 at9.toNat ++ (be 8 ne.toNat ++ ((be 1 se.length ++ se) ++ [])))))) (by omega) (by omega) (by omega) (by omega)
  have v2 : tokV2 (cat (lx (tokVl id fa ge ha mi sp at9 ne se)) 8) = (ha ++ (be 6 mi.toNat ++ (be 1 (bv [sp]) ++ (be 6 at9.toNat ++ (be 8 ne.toNat ++ ((be 1 se.length ++ se) ++ []))))), 0) := by unfold tokV2; rw [v1]; exact qv1.2
  have qv2 := rr_laid ha (be 6 mi.toNat ++ (be 1 (bv [sp]) ++ (be 6 at9.toNat ++ (be 8 ne.toNat ++ ((be 1 se.length ++ se) ++ []))))) 32 (by omega)
  have v3 : tokV3 (cat (lx (tokVl id fa ge ha mi sp at9 ne se)) 8) = (be 6 mi.toNat ++ (be 1 (bv [sp]) ++ (be 6 at9.toNat ++ (be 8 ne.toNat ++ ((be 1 se.length ++ se) ++ [])))), 0) := by unfold tokV3; rw [v2]; exact qv2.2
  have qv3 := rv_laid 6 mi.toNat (be 1 (bv [sp]) ++ (be 6 at9.toNat ++ (be 8 ne.toNat ++ ((be 1 se.length ++ se) ++ [])))) (by omega) (by omega) (by omega) (by omega)
  have v4 : tokV4 (cat (lx (tokVl id fa ge ha mi sp at9 ne se)) 8) = (be 1 (bv [sp]) ++ (be 6 at9.toNat ++ (be 8 ne.toNat ++ ((be 1 se.length ++ se) ++ []))), 0) := by unfold tokV4; rw [v3]; exact qv3.2
  have qv4 := rv_laid 1 (bv [sp]) (be 6 at9.toNat ++ (be 8 ne.toNat ++ ((be 1 se.length ++ se) ++ []))) (by omega) (by omega) (bv_lt _ (by simp)) (Nat.lt_trans (bv_lt _ (by simp)) (by decide))
  have v5 : tokV5 (cat (lx (tokVl id fa ge ha mi sp at9 ne se)) 8) = (be 6 at9.toNat ++ (be 8 ne.toNat ++ ((be 1 se.length ++ se) ++ [])), 0) := by unfold tokV5; rw [v4]; exact qv4.2
  have qv5 := rv_laid 6 at9.toNat (be 8 ne.toNat ++ ((be 1 se.length ++ se) ++ [])) (by omega) (by omega) (by omega) (by omega)
  have v6 : tokV6 (cat (lx (tokVl id fa ge ha mi sp at9 ne se)) 8) = (be 8 ne.toNat ++ ((be 1 se.length ++ se) ++ []), 0) := by unfold tokV6; rw [v5]; exact qv5.2
  have qv6 := rv_laid 8 ne.toNat ((be 1 se.length ++ se) ++ []) (by omega) (by omega) (by omega) (by omega)
  have v7 : tokV7 (cat (lx (tokVl id fa ge ha mi sp at9 ne se)) 8) = ((be 1 se.length ++ se) ++ [], 0) := by unfold tokV7; rw [v6]; exact qv6.2
  have qv7 := tv_laid 24 se [] (by omega) (by omega)
  exact ⟨by unfold tok_id; rw [k1, qk1.1]; omega, by unfold tok_fa; rw [v0, qv0.1]; omega, by unfold tok_ge; rw [v1, qv1.1]; omega, by unfold tok_ha; rw [v2]; exact qv2.1, by unfold tok_mi; rw [v3, qv3.1]; omega, by unfold tok_sp; rw [v4, qv4.1]; exact bv_bit10 sp, by unfold tok_at9; rw [v5, qv5.1]; omega, by unfold tok_ne; rw [v6, qv6.1]; omega, by unfold tok_se; rw [v7]; exact qv7.1⟩
theorem tokP_G {id : Int} {fa : Int} {ge : Int} {ha : Bs} {mi : Int} {sp : Bool} {at9 : Int} {ne : Int} {se : Bs} (h : tokOK id fa ge ha mi sp at9 ne se = true) : tokG (tokP id fa ge ha mi sp at9 ne se).1.1 (tokP id fa ge ha mi sp at9 ne se).1.2 = true := by
  have e : tokP id fa ge ha mi sp at9 ne se = ((cat (lx (tokKl id fa ge ha mi sp at9 ne se)) 2, cat (lx (tokVl id fa ge ha mi sp at9 ne se)) 8), 0) := by unfold tokP; rw [if_pos h]
  have t := tokT h
  rw [e]
  unfold tokG
  simp only [t, e]
  simp
end Go.Proofs.YtpidmpefodnffaaGreatDoor
