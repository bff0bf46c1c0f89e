import Derived.Test.YtpidmpefodnffaaGreatDoorZrda
import Derived.Test.YtpidmpefodnffaaGreatDoorTrb
namespace Go.Proofs.YtpidmpefodnffaaGreatDoor
open Go.RowKit Go.Lib
set_option maxHeartbeats 4000000
set_option maxRecDepth 8000
def codd_id (k : Bs) : Int := aft k
def codD0 (v : Bs) : Bs := v
def codd_cl (v : Bs) : Bs := dsh (codD0 v)
def codD1 (v : Bs) : Bs := dsr (codD0 v)
def codd_su (v : Bs) : Bs := dsh (codD1 v)
def codD2 (v : Bs) : Bs := dsr (codD1 v)
def codd_sc (v : Bs) : List Bs := prt (dsh (codD2 v))
def codD3 (v : Bs) : Bs := dsr (codD2 v)
def codd_ha (v : Bs) : Bs := dk 32 (codD3 v)
def codD4 (v : Bs) : Bs := dr 32 (codD3 v)
def codd_ch (v : Bs) : Bs := dk 32 (codD4 v)
def codD5 (v : Bs) : Bs := dr 32 (codD4 v)
def codd_un (v : Bs) : Int := nmr (dk 6 (codD5 v))
def codD6 (v : Bs) : Bs := dr 6 (codD5 v)
def codd_st (v : Bs) : Int := nmr (dk 1 (codD6 v))
def codD7 (v : Bs) : Bs := dr 1 (codD6 v)
def codd_fa (v : Bs) : Int := nmr (dk 8 (codD7 v))
theorem codU {id : Int} {cl : Bs} {su : Bs} {sc : List Bs} {ha : Bs} {ch : Bs} {un : Int} {st : Int} {fa : Int} (h : codOK id cl su sc ha ch un st fa = true) : codd_id (cat (lx (codKl id cl su sc ha ch un st fa)) 2) = id ∧ codd_cl (cat (lx (codVl id cl su sc ha ch un st fa)) 8) = cl ∧ codd_su (cat (lx (codVl id cl su sc ha ch un st fa)) 8) = su ∧ codd_sc (cat (lx (codVl id cl su sc ha ch un st fa)) 8) = sc ∧ codd_ha (cat (lx (codVl id cl su sc ha ch un st fa)) 8) = ha ∧ codd_ch (cat (lx (codVl id cl su sc ha ch un st fa)) 8) = ch ∧ codd_un (cat (lx (codVl id cl su sc ha ch un st fa)) 8) = un ∧ codd_st (cat (lx (codVl id cl su sc ha ch un st fa)) 8) = st ∧ codd_fa (cat (lx (codVl id cl su sc ha ch un st fa)) 8) = fa := by
  have b := codB h
  have g : right sc = true ∧ ha.length = 32 ∧ ch.length = 32 := by simp only [codOK, beq_iff_eq, Bool.and_eq_true] at h; exact ⟨h.2.2.2.1, h.2.2.2.2.1, h.2.2.2.2.2.1⟩
  have gs := right_small g.1
  have v0 : codD0 (cat (lx (codVl id cl su sc ha ch un st fa)) 8) = (be 1 cl.length ++ cl) ++ ((be 1 su.length ++ su) ++ ((be 1 (tx sc).length ++ tx sc) ++ (ha ++ (ch ++ (be 6 un.toNat ++ (be 1 st.toNat ++ (be 8 fa.toNat ++ []))))))) := by unfold codD0; simp [cat, lx, codVl]
  have q0 := ds_laid cl ((be 1 su.length ++ su) ++ ((be 1 (tx sc).length ++ tx sc) ++ (ha ++ (ch ++ (be 6 un.toNat ++ (be 1 st.toNat ++ (be 8 fa.toNat ++ []))))))) (by omega)
  have v1 : codD1 (cat (lx (codVl id cl su sc ha ch un st fa)) 8) = (be 1 su.length ++ su) ++ ((be 1 (tx sc).length ++ tx sc) ++ (ha ++ (ch ++ (be 6 un.toNat ++ (be 1 st.toNat ++ (be 8 fa.toNat ++ [])))))) := by unfold codD1; rw [v0]; exact q0.2
  have q1 := ds_laid su ((be 1 (tx sc).length ++ tx sc) ++ (ha ++ (ch ++ (be 6 un.toNat ++ (be 1 st.toNat ++ (be 8 fa.toNat ++ [])))))) (by omega)
  have v2 : codD2 (cat (lx (codVl id cl su sc ha ch un st fa)) 8) = (be 1 (tx sc).length ++ tx sc) ++ (ha ++ (ch ++ (be 6 un.toNat ++ (be 1 st.toNat ++ (be 8 fa.toNat ++ []))))) := by unfold codD2; rw [v1]; exact q1.2
  have q2 := ds_laid (tx sc) (ha ++ (ch ++ (be 6 un.toNat ++ (be 1 st.toNat ++ (be 8 fa.toNat ++ []))))) (by omega)
  have v3 : codD3 (cat (lx (codVl id cl su sc ha ch un st fa)) 8) = ha ++ (ch ++ (be 6 un.toNat ++ (be 1 st.toNat ++ (be 8 fa.toNat ++ [])))) := by unfold codD3; rw [v2]; exact q2.2
  have q3 : dk 32 (ha ++ (ch ++ (be 6 un.toNat ++ (be 1 st.toNat ++ (be 8 fa.toNat ++ []))))) = ha ∧ dr 32 (ha ++ (ch ++ (be 6 un.toNat ++ (be 1 st.toNat ++ (be 8 fa.toNat ++ []))))) = (ch ++ (be 6 un.toNat ++ (be 1 st.toNat ++ (be 8 fa.toNat ++ [])))) := by have := dk_laid ha (ch ++ (be 6 un.toNat ++ (be 1 st.toNat ++ (be 8 fa.toNat ++ [])))); rw [show ha.length = 32 by omega] at this; exact this
  have v4 : codD4 (cat (lx (codVl id cl su sc ha ch un st fa)) 8) = ch ++ (be 6 un.toNat ++ (be 1 st.toNat ++ (be 8 fa.toNat ++ []))) := by unfold codD4; rw [v3]; exact q3.2
  have q4 : dk 32 (ch ++ (be 6 un.toNat ++ (be 1 st.toNat ++ (be 8 fa.toNat ++ [])))) = ch ∧ dr 32 (ch ++ (be 6 un.toNat ++ (be 1 st.toNat ++ (be 8 fa.toNat ++ [])))) = (be 6 un.toNat ++ (be 1 st.toNat ++ (be 8 fa.toNat ++ []))) := by have := dk_laid ch (be 6 un.toNat ++ (be 1 st.toNat ++ (be 8 fa.toNat ++ []))); rw [show ch.length = 32 by omega] at this; exact this
  have v5 : codD5 (cat (lx (codVl id cl su sc ha ch un st fa)) 8) = be 6 un.toNat ++ (be 1 st.toNat ++ (be 8 fa.toNat ++ [])) := by unfold codD5; rw [v4]; exact q4.2
  have q5 := dn_laid 6 un.toNat (be 1 st.toNat ++ (be 8 fa.toNat ++ [])) (by omega) (by omega) (by omega) (by omega)
  have v6 : codD6 (cat (lx (codVl id cl su sc ha ch un st fa)) 8) = be 1 st.toNat ++ (be 8 fa.toNat ++ []) := by unfold codD6; rw [v5]; exact q5.2
  have q6 := dn_laid 1 st.toNat (be 8 fa.toNat ++ []) (by omega) (by omega) (by omega) (by omega)
  have v7 : codD7 (cat (lx (codVl id cl su sc ha ch un st fa)) 8) = be 8 fa.toNat ++ [] := by unfold codD7; rw [v6]; exact q6.2
  have q7 := dn_laid 8 fa.toNat [] (by omega) (by omega) (by omega) (by omega)
  exact ⟨by unfold codd_id; rw [show (cat (lx (codKl id cl su sc ha ch un st fa)) 2) = 97 :: be 8 id.toNat by simp [cat, lx, codKl], aft_laid 97 8 id.toNat (by omega) (by omega) (by omega) (by omega)]; omega, by unfold codd_cl; rw [v0]; exact q0.1, by unfold codd_su; rw [v1]; exact q1.1, by unfold codd_sc; rw [v2, q2.1]; exact prt_tx g.1, by unfold codd_ha; rw [v3]; exact q3.1, by unfold codd_ch; rw [v4]; exact q4.1, by unfold codd_un; rw [v5, q5.1]; omega, by unfold codd_st; rw [v6, q6.1]; omega, by unfold codd_fa; rw [v7, q7.1]; omega⟩
theorem codE (k v : Bs) : (codG k v = true → codP (codd_id k) (codd_cl v) (codd_su v) (codd_sc v) (codd_ha v) (codd_ch v) (codd_un v) (codd_st v) (codd_fa v) = ((k, v), 0) ∧ codd_id k = cod_id k ∧ codd_cl v = cod_cl v ∧ codd_su v = cod_su v ∧ codd_sc v = cod_sc v ∧ codd_ha v = cod_ha v ∧ codd_ch v = cod_ch v ∧ codd_un v = cod_un v ∧ codd_st v = cod_st v ∧ codd_fa v = cod_fa v) ∧ (codG k v = false → ¬ codP (codd_id k) (codd_cl v) (codd_su v) (codd_sc v) (codd_ha v) (codd_ch v) (codd_un v) (codd_st v) (codd_fa v) = ((k, v), 0)) := by
  constructor
  · intro g
    have e := codG_is g
    have hok : codOK (cod_id k) (cod_cl v) (cod_su v) (cod_sc v) (cod_ha v) (cod_ch v) (cod_un v) (cod_st v) (cod_fa v) = true := by
      cases q : codOK (cod_id k) (cod_cl v) (cod_su v) (cod_sc v) (cod_ha v) (cod_ch v) (cod_un v) (cod_st v) (cod_fa v)
      · unfold codP at e; rw [if_neg (by simp [q])] at e; exact absurd (congrArg Prod.snd e) (by simp)
      · rfl
    have e2 := e
    unfold codP at e2
    rw [if_pos hok] at e2
    have ek := congrArg (fun q => q.1.1) e2
    have ev := congrArg (fun q => q.1.2) e2
    simp only at ek ev
    have u := codU hok
    rw [ek, ev] at u
    refine ⟨?_, u.1, u.2.1, u.2.2.1, u.2.2.2.1, u.2.2.2.2.1, u.2.2.2.2.2.1, u.2.2.2.2.2.2.1, u.2.2.2.2.2.2.2.1, u.2.2.2.2.2.2.2.2⟩
    rw [u.1, u.2.1, u.2.2.1, u.2.2.2.1, u.2.2.2.2.1, u.2.2.2.2.2.1, u.2.2.2.2.2.2.1, u.2.2.2.2.2.2.2.1, u.2.2.2.2.2.2.2.2]
    exact e
  · intro g e
    have hok : codOK (codd_id k) (codd_cl v) (codd_su v) (codd_sc v) (codd_ha v) (codd_ch v) (codd_un v) (codd_st v) (codd_fa v) = true := by
      cases q : codOK (codd_id k) (codd_cl v) (codd_su v) (codd_sc v) (codd_ha v) (codd_ch v) (codd_un v) (codd_st v) (codd_fa v)
      · unfold codP at e; rw [if_neg (by simp [q])] at e; exact absurd (congrArg Prod.snd e) (by simp)
      · rfl
    have e2 := e
    unfold codP at e2
    rw [if_pos hok] at e2
    have ek := congrArg (fun q => q.1.1) e2
    have ev := congrArg (fun q => q.1.2) e2
    simp only at ek ev
    have t := codT hok
    rw [ek, ev] at t
    have : codG k v = true := by
      unfold codG
      rw [t.1, t.2.1, t.2.2.1, t.2.2.2.1, t.2.2.2.2.1, t.2.2.2.2.2.1, t.2.2.2.2.2.2.1, t.2.2.2.2.2.2.2.1, t.2.2.2.2.2.2.2.2, e]
      simp
    rw [this] at g
    exact absurd g (by decide)
end Go.Proofs.YtpidmpefodnffaaGreatDoor
