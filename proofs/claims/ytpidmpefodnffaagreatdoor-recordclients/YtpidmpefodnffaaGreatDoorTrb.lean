import Derived.Test.YtpidmpefodnffaaGreatDoorOrp
import Derived.Test.YtpidmpefodnffaaGreatDoorZpaa
import Derived.Test.YtpidmpefodnffaaGreatDoorZfde
import Derived.Test.YtpidmpefodnffaaGreatDoorPrh
import Derived.Test.YtpidmpefodnffaaGreatDoorZpae
import Derived.Test.YtpidmpefodnffaaGreatDoorTra
namespace Go.Proofs.YtpidmpefodnffaaGreatDoor
open Go.RowKit
set_option maxHeartbeats 4000000
set_option maxRecDepth 8000
theorem cliT {na : Bs} {pu : Bool} {of9 : Bool} {ha : Bs} {ol : Bs} {un : Int} {sc : List Bs} {idl : Int} {ab : Int} {gr : Int} {li : Int} (h : cliOK na pu ha ol un sc idl ab gr li = true) : cli_na (cat (lx (cliKl na pu of9 ha ol un sc idl ab gr li)) 2) = na ∧ cli_pu (cat (lx (cliVl na pu of9 ha ol un sc idl ab gr li)) 9) = pu ∧ cli_of9 (cat (lx (cliVl na pu of9 ha ol un sc idl ab gr li)) 9) = of9 ∧ cli_ha (cat (lx (cliVl na pu of9 ha ol un sc idl ab gr li)) 9) = ha ∧ cli_ol (cat (lx (cliVl na pu of9 ha ol un sc idl ab gr li)) 9) = ol ∧ cli_un (cat (lx (cliVl na pu of9 ha ol un sc idl ab gr li)) 9) = un ∧ cli_sc (cat (lx (cliVl na pu of9 ha ol un sc idl ab gr li)) 9) = sc ∧ cli_idl (cat (lx (cliVl na pu of9 ha ol un sc idl ab gr li)) 9) = idl ∧ cli_ab (cat (lx (cliVl na pu of9 ha ol un sc idl ab gr li)) 9) = ab ∧ cli_gr (cat (lx (cliVl na pu of9 ha ol un sc idl ab gr li)) 9) = gr ∧ cli_li (cat (lx (cliVl na pu of9 ha ol un sc idl ab gr li)) 9) = li := by
  have b := cliB h
  have g : right sc = true := by simp only [cliOK, Bool.and_eq_true] at h; exact h.2.2.1
  have gs := right_small g
  have ek : (cat (lx (cliKl na pu of9 ha ol un sc idl ab gr li)) 2) = [99] ++ (na ++ []) := by simp [cat, lx, cliKl]
  have k0 : cliK0 (cat (lx (cliKl na pu of9 ha ol un sc idl ab gr li)) 2) = ([99] ++ (na ++ []), 0) := by unfold cliK0; rw [ek]
  have qk0 := rr_laid [99] (na ++ []) 1 rfl
  have k1 : cliK1 (cat (lx (cliKl na pu of9 ha ol un sc idl ab gr li)) 2) = (na ++ [], 0) := by unfold cliK1; rw [k0]; exact qk0.2
  have qk1 := rr_laid na [] ((na ++ [] : Bs).length - 0) (by simp)
  have ev : (cat (lx (cliVl na pu of9 ha ol un sc idl ab gr li)) 9) = be 1 (bv [pu, of9]) ++ ((be 1 ha.length ++ ha) ++ ((be 1 ol.length ++ ol) ++ (be 6 un.toNat ++ ((be 1 (tx sc).length ++ tx sc) ++ (be 6 idl.toNat ++ (be 6 ab.toNat ++ (be 6 gr.toNat ++ (be 6 li.toNat ++ [])))))))) := by simp [cat, lx, cliVl]
  have v0 : cliV0 (cat (lx (cliVl na pu of9 ha ol un sc idl ab gr li)) 9) = (be 1 (bv [pu, of9]) ++ ((be 1 ha.length ++ ha) ++ ((be 1 ol.length ++ ol) ++ (be 6 un.toNat ++ ((be 1 (tx sc).length ++ tx sc) ++ (be 6 idl.toNat ++ (be 6 ab.toNat ++ (be 6 gr.toNat ++ (be 6 li.toNat ++ [])))))))), 0) := by unfold cliV0; rw [ev]
  have qv0 := rv_laid 1 (bv [pu, of9]) ((be 1 ha.length ++ ha) ++ ((be 1 ol.length ++ ol) ++ (be 6 un.toNat ++ ((be 1 (tx sc).length ++ tx sc) ++ (be 6 idl.toNat ++ (be 6 ab.toNat ++ (be 6 gr.toNat ++ (be 6 li.toNat ++ [])))))))) (by omega) (by omega) (bv_lt _ (by simp)) (Nat.lt_trans (bv_lt _ (by simp)) (by decide))
  have v1 : cliV1 (cat (lx (cliVl na pu of9 ha ol un sc idl ab gr li)) 9) = ((be 1 ha.length ++ ha) ++ ((be 1 ol.length ++ ol) ++ (be 6 un.toNat ++ ((be 1 (tx sc).length ++ tx sc) ++ (be 6 idl.toNat ++ (be 6 ab.toNat ++ (be 6 gr.toNat ++ (be 6 li.toNat ++ []))))))), 0) := by unfold cliV1; rw [v0]; exact qv0.2
  have qv1 := tv_laid 32 ha ((be 1 ol.length ++ ol) ++ (be 6 un.toNat ++ ((be 1 (tx sc).length ++ tx sc) ++ (be 6 idl.toNat ++ (be 6 ab.toNat ++ (be 6 gr.toNat ++ (be 6 li.toNat ++ []))))))) (by omega) (by omega)
  have v2 : cliV2 (cat (lx (cliVl na pu of9 ha ol un sc idl ab gr li)) 9) = ((be 1 ol.length ++ ol) ++ (be 6 un.toNat ++ ((be 1 (tx sc).length ++ tx sc) ++ (be 6 idl.toNat ++ (be 6 ab.toNat ++ (be 6 gr.toNat ++ (be 6 li.toNat ++ [])))))), 0) := by unfold cliV2; rw [v1]; exact qv1.2
  have qv2 := tv_laid 32 ol (be 6 un.toNat ++ ((be 1 (tx sc).length ++ tx sc) ++ (be 6 idl.toNat ++ (be 6 ab.toNat ++ (be 6 gr.toNat ++ (be 6 li.toNat ++ [])))))) (by omega) (by omega)
  have v3 : cliV3 (cat (lx (cliVl na pu of9 ha ol un sc idl ab gr li)) 9) = (be 6 un.toNat ++ ((be 1 (tx sc).length ++ tx sc) ++ (be 6 idl.toNat ++ (be 6 ab.toNat ++ (be 6 gr.toNat ++ (be 6 li.toNat ++ []))))), 0) := by unfold cliV3; rw [v2]; exact qv2.2
  have qv3 := rv_laid 6 un.toNat ((be 1 (tx sc).length ++ tx sc) ++ (be 6 idl.toNat ++ (be 6 ab.toNat ++ (be 6 gr.toNat ++ (be 6 li.toNat ++ []))))) (by omega) (by omega) (by omega) (by omega)
  have v4 : cliV4 (cat (lx (cliVl na pu of9 ha ol un sc idl ab gr li)) 9) = ((be 1 (tx sc).length ++ tx sc) ++ (be 6 idl.toNat ++ (be 6 ab.toNat ++ (be 6 gr.toNat ++ (be 6 li.toNat ++ [])))), 0) := by unfold cliV4; rw [v3]; exact qv3.2
  have qv4 := tv_laid 60 (tx sc) (be 6 idl.toNat ++ (be 6 ab.toNat ++ (be 6 gr.toNat ++ (be 6 li.toNat ++ [])))) (by omega) (by omega)
  have v5 : cliV5 (cat (lx (cliVl na pu of9 ha ol un sc idl ab gr li)) 9) = (be 6 idl.toNat ++ (be 6 ab.toNat ++ (be 6 gr.toNat ++ (be 6 li.toNat ++ []))), 0) := by unfold cliV5; rw [v4]; exact qv4.2
  have qv5 := rv_laid 6 idl.toNat (be 6 ab.toNat ++ (be 6 gr.toNat ++ (be 6 li.toNat ++ []))) (by omega) (by omega) (by omega) (by omega)
  have v6 : cliV6 (cat (lx (cliVl na pu of9 ha ol un sc idl ab gr li)) 9) = (be 6 ab.toNat ++ (be 6 gr.toNat ++ (be 6 li.toNat ++ [])), 0) := by unfold cliV6; rw [v5]; exact qv5.2
  have qv6 := rv_laid 6 ab.toNat (be 6 gr.toNat ++ (be 6 li.toNat ++ [])) (by omega) (by omega) (by omega) (by omega)
  have v7 : cliV7 (cat (lx (cliVl na pu of9 ha ol un sc idl ab gr li)) 9) = (be 6 gr.toNat ++ (be 6 li.toNat ++ []), 0) := by unfold cliV7; rw [v6]; exact qv6.2
  have qv7 := rv_laid 6 gr.toNat (be 6 li.toNat ++ []) (by omega) (by omega) (by omega) (by omega)
  have v8 : cliV8 (cat (lx (cliVl na pu of9 ha ol un sc idl ab gr li)) 9) = (be 6 li.toNat ++ [], 0) := by unfold cliV8; rw [v7]; exact qv7.2
  have qv8 := rv_laid 6 li.toNat [] (by omega) (by omega) (by omega) (by omega)
  exact ⟨by unfold cli_na; rw [k1]; exact qk1.1, by unfold cli_pu; rw [v0, qv0.1]; exact bv_bit20 pu of9, by unfold cli_of9; rw [v0, qv0.1]; exact bv_bit21 pu of9, by unfold cli_ha; rw [v1]; exact qv1.1, by unfold cli_ol; rw [v2]; exact qv2.1, by unfold cli_un; rw [v3, qv3.1]; omega, by unfold cli_sc; rw [v4, qv4.1, parse_tx g], by unfold cli_idl; rw [v5, qv5.1]; omega, by unfold cli_ab; rw [v6, qv6.1]; omega, by unfold cli_gr; rw [v7, qv7.1]; omega, by unfold cli_li; rw [v8, qv8.1]; omega⟩
theorem cliP_G {na : Bs} {pu : Bool} {of9 : Bool} {ha : Bs} {ol : Bs} {un : Int} {sc : List Bs} {idl : Int} {ab : Int} {gr : Int} {li : Int} (h : cliOK na pu ha ol un sc idl ab gr li = true) : cliG (cliP na pu of9 ha ol un sc idl ab gr li).1.1 (cliP na pu of9 ha ol un sc idl ab gr li).1.2 = true := by
  have e : cliP na pu of9 ha ol un sc idl ab gr li = ((cat (lx (cliKl na pu of9 ha ol un sc idl ab gr li)) 2, cat (lx (cliVl na pu of9 ha ol un sc idl ab gr li)) 9), 0) := by unfold cliP; rw [if_pos h]
  have t := cliT (of9 := of9) h
  rw [e]
  unfold cliG
  simp only [t, e]
  simp
end Go.Proofs.YtpidmpefodnffaaGreatDoor
