import Derived.Test.YtpidmpefodnffaaGreatDoorOrp
import Derived.Test.YtpidmpefodnffaaGreatDoorZpaa
import Derived.Test.YtpidmpefodnffaaGreatDoorZfde
import Derived.Test.YtpidmpefodnffaaGreatDoorZria
import Derived.Test.YtpidmpefodnffaaGreatDoorZpah
import Derived.Test.YtpidmpefodnffaaGreatDoorZpad
import Derived.Test.YtpidmpefodnffaaGreatDoorPaf
import Derived.Test.YtpidmpefodnffaaGreatDoorTra
namespace Go.Proofs.YtpidmpefodnffaaGreatDoor
open Go.RowKit
set_option maxHeartbeats 4000000
set_option maxRecDepth 8000
theorem codT {id : Int} {cl : Bs} {su : Bs} {sc : List Bs} {ha : Bs} {ch : Bs} {un : Int} {st : Int} {fa : Int} (h : codOK id cl su sc ha ch un st fa = true) : cod_id (cat (lx (codKl id cl su sc ha ch un st fa)) 2) = id ∧ cod_cl (cat (lx (codVl id cl su sc ha ch un st fa)) 8) = cl ∧ cod_su (cat (lx (codVl id cl su sc ha ch un st fa)) 8) = su ∧ cod_sc (cat (lx (codVl id cl su sc ha ch un st fa)) 8) = sc ∧ cod_ha (cat (lx (codVl id cl su sc ha ch un st fa)) 8) = ha ∧ cod_ch (cat (lx (codVl id cl su sc ha ch un st fa)) 8) = ch ∧ cod_un (cat (lx (codVl id cl su sc ha ch un st fa)) 8) = un ∧ cod_st (cat (lx (codVl id cl su sc ha ch un st fa)) 8) = st ∧ cod_fa (cat (lx (codVl id cl su sc ha ch un st fa)) 8) = fa := by
  have b := codB h
  have g : right sc = true ∧ ha.length = 32 ∧ ch.length = 32 := by simp only [codOK, beq_iff_eq, Bool.and_eq_true] at h; exact ⟨h.2.2.2.1, h.2.2.2.2.1, h.2.2.2.2.2.1⟩
  have gs := right_small g.1
  have ek : (cat (lx (codKl id cl su sc ha ch un st fa)) 2) = [97] ++ (be 8 id.toNat ++ []) := by simp [cat, lx, codKl]
  have k0 : codK0 (cat (lx (codKl id cl su sc ha ch un st fa)) 2) = ([97] ++ (be 8 id.toNat ++ []), 0) := by unfold codK0; rw [ek]
  have qk0 := rr_laid [97] (be 8 id.toNat ++ []) 1 rfl
  have k1 : codK1 (cat (lx (codKl id cl su sc ha ch un st fa)) 2) = (be 8 id.toNat ++ [], 0) := by unfold codK1; rw [k0]; exact qk0.2
  have qk1 := rv_laid 8 id.toNat [] (by omega) (by omega) (by omega) (by omega)
  have ev : (cat (lx (codVl id cl su sc ha ch un st fa)) 8) = (be 1 cl.length ++ cl) ++ ((be 1 su.length ++ su) ++ ((be 1 (tx sc).length ++ tx sc) ++ (ha ++ (ch ++ (be 6 un.toNat ++ (be 1 st.toNat ++ (be 8 fa.toNat ++ []))))))) := by simp [cat, lx, codVl]
  have v0 : codV0 (cat (lx (codVl id cl su sc ha ch un st fa)) 8) = ((be 1 cl.length ++ cl) ++ ((be 1 su.length ++ su) ++ ((be 1 (tx sc).length ++ tx sc) ++ (ha ++ (ch ++ (be 6 un.toNat ++ (be 1 st.toNat ++ (be 8 fa.toNat ++ []))))))), 0) := by unfold codV0; rw [ev]
  have qv0 := tv_laid 16 cl ((be 1 su.length ++ su) ++ ((be 1 (tx sc).length ++ tx sc) ++ (ha ++ (ch ++ (be 6 un.toNat ++ (be 1 st.toNat ++ (be 8 fa.toNat ++ []))))))) (by omega) (by omega)
  have v1 : codV1 (cat (lx (codVl id cl su sc ha ch un st fa)) 8) = ((be 1 su.length ++ su) ++ ((be 1 (tx sc).length ++ tx sc) ++ (ha ++ (ch ++ (be 6 un.toNat ++ (be 1 st.toNat ++ (be 8 fa.toNat ++ [])))))), 0) := by unfold codV1; rw [v0]; exact qv0.2
  have qv1 := tv_laid 16 su ((be 1 (tx sc).length ++ tx sc) ++ (ha ++ (ch ++ (be 6 un.toNat ++ (be 1 st.toNat ++ (be 8 fa.toNat ++ [])))))) (by omega) (by omega)
  have v2 : codV2 (cat (lx (codVl id cl su sc ha ch un st fa)) 8) = ((be 1 (tx sc).length ++ tx sc) ++ (ha ++ (ch ++ (be 6 un.toNat ++ (be 1 st.toNat ++ (be 8 fa.toNat ++ []))))), 0) := by unfold codV2; rw [v1]; exact qv1.2
  have qv2 := tv_laid 60 (tx sc) (ha ++ (ch ++ (be 6 un.toNat ++ (be 1 st.toNat ++ (be 8 fa.toNat ++ []))))) (by omega) (by omega)
  have v3 : codV3 (cat (lx (codVl id cl su sc ha ch un st fa)) 8) = (ha ++ (ch ++ (be 6 un.toNat ++ (be 1 st.toNat ++ (be 8 fa.toNat ++ [])))), 0) := by unfold codV3; rw [v2]; exact qv2.2
  have qv3 := rr_laid ha (ch ++ (be 6 un.toNat ++ (be 1 st.toNat ++ (be 8 fa.toNat ++ [])))) 32 (by omega)
  have v4 : codV4 (cat (lx (codVl id cl su sc ha ch un st fa)) 8) = (ch ++ (be 6 un.toNat ++ (be 1 st.toNat ++ (be 8 fa.toNat ++ []))), 0) := by unfold codV4; rw [v3]; exact qv3.2
  have qv4 := rr_laid ch (be 6 un.toNat ++ (be 1 st.toNat ++ (be 8 fa.toNat ++ []))) 32 (by omega)
  have v5 : codV5 (cat (lx (codVl id cl su sc ha ch un st fa)) 8) = (be 6 un.toNat ++ (be 1 st.toNat ++ (be 8 fa.toNat ++ [])), 0) := by unfold codV5; rw [v4]; exact qv4.2
  have qv5 := rv_laid 6 un.toNat (be 1 st.toNat ++ (be 8 fa.toNat ++ [])) (by omega) (by omega) (by omega) (by omega)
  have v6 : codV6 (cat (lx (codVl id cl su sc ha ch un st fa)) 8) = (be 1 st.toNat ++ (be 8 fa.toNat ++ []), 0) := by unfold codV6; rw [v5]; exact qv5.2
  have qv6 := rv_laid 1 st.toNat (be 8 fa.toNat ++ []) (by omega) (by omega) (by omega) (by omega)
  have v7 : codV7 (cat (lx (codVl id cl su sc ha ch un st fa)) 8) = (be 8 fa.toNat ++ [], 0) := by unfold codV7; rw [v6]; exact qv6.2
  have qv7 := rv_laid 8 fa.toNat [] (by omega) (by omega) (by omega) (by omega)
  exact ⟨by unfold cod_id; rw [k1, qk1.1]; omega, by unfold cod_cl; rw [v0]; exact qv0.1, by unfold cod_su; rw [v1]; exact qv1.1, by unfold cod_sc; rw [v2, qv2.1, parse_tx g.1], by unfold cod_ha; rw [v3]; exact qv3.1, by unfold cod_ch; rw [v4]; exact qv4.1, by unfold cod_un; rw [v5, qv5.1]; omega, by unfold cod_st; rw [v6, qv6.1]; omega, by unfold cod_fa; rw [v7, qv7.1]; omega⟩
theorem codP_G {id : Int} {cl : Bs} {su : Bs} {sc : List Bs} {ha : Bs} {ch : Bs} {un : Int} {st : Int} {fa : Int} (h : codOK id cl su sc ha ch un st fa = true) : codG (codP id cl su sc ha ch un st fa).1.1 (codP id cl su sc ha ch un st fa).1.2 = true := by
  have e : codP id cl su sc ha ch un st fa = ((cat (lx (codKl id cl su sc ha ch un st fa)) 2, cat (lx (codVl id cl su sc ha ch un st fa)) 8), 0) := by unfold codP; rw [if_pos h]
  have t := codT h
  rw [e]
  unfold codG
  simp only [t, e]
  simp
end Go.Proofs.YtpidmpefodnffaaGreatDoor
