import Derived.Test.YtpidmpefodnffaaGreatDoorZsmc
import Derived.Test.YtpidmpefodnffaaGreatDoorZtra
namespace Go.Proofs.YtpidmpefodnffaaGreatDoor
open Go.RowKit Go.Lib
set_option maxHeartbeats 4000000
set_option maxRecDepth 8000
def famd_id (k : Bs) : Int := aft k
def famD0 (v : Bs) : Bs := v
def famd_cl (v : Bs) : Bs := dsh (famD0 v)
def famD1 (v : Bs) : Bs := dsr (famD0 v)
def famd_su (v : Bs) : Bs := dsh (famD1 v)
def famD2 (v : Bs) : Bs := dsr (famD1 v)
def famd_sc (v : Bs) : List Bs := prt (dsh (famD2 v))
def famD3 (v : Bs) : Bs := dsr (famD2 v)
def famd_cr (v : Bs) : Int := nmr (dk 6 (famD3 v))
def famD4 (v : Bs) : Bs := dr 6 (famD3 v)
def famd_us (v : Bs) : Int := nmr (dk 6 (famD4 v))
def famD5 (v : Bs) : Bs := dr 6 (famD4 v)
def famd_idl (v : Bs) : Int := nmr (dk 6 (famD5 v))
def famD6 (v : Bs) : Bs := dr 6 (famD5 v)
def famd_ab (v : Bs) : Int := nmr (dk 6 (famD6 v))
def famD7 (v : Bs) : Bs := dr 6 (famD6 v)
def famd_gr (v : Bs) : Int := nmr (dk 6 (famD7 v))
def famD8 (v : Bs) : Bs := dr 6 (famD7 v)
def famd_ge (v : Bs) : Int := nmr (dk 4 (famD8 v))
def famD9 (v : Bs) : Bs := dr 4 (famD8 v)
def famd_to (v : Bs) : Int := nmr (dk 8 (famD9 v))
def famD10 (v : Bs) : Bs := dr 8 (famD9 v)
def famd_st (v : Bs) : Int := nmr (dk 1 (famD10 v))
def famD11 (v : Bs) : Bs := dr 1 (famD10 v)
def famd_en (v : Bs) : Int := nmr (dk 6 (famD11 v))
def famD12 (v : Bs) : Bs := dr 6 (famD11 v)
def famd_co (v : Bs) : Int := nmr (dk 8 (famD12 v))
theorem famU {id : Int} {cl : Bs} {su : Bs} {sc : List Bs} {cr : Int} {us : Int} {idl : Int} {ab : Int} {gr : Int} {ge : Int} {tk9 : Int} {st : Int} {en : Int} {co : Int} (h : famOK id cl su sc cr us idl ab gr ge tk9 st en co = true) : famd_id (cat (lx (famKl id cl su sc cr us idl ab gr ge tk9 st en co)) 2) = id ∧ famd_cl (cat (lx (famVl id cl su sc cr us idl ab gr ge tk9 st en co)) 13) = cl ∧ famd_su (cat (lx (famVl id cl su sc cr us idl ab gr ge tk9 st en co)) 13) = su ∧ famd_sc (cat (lx (famVl id cl su sc cr us idl ab gr ge tk9 st en co)) 13) = sc ∧ famd_cr (cat (lx (famVl id cl su sc cr us idl ab gr ge tk9 st en co)) 13) = cr ∧ famd_us (cat (lx (famVl id cl su sc cr us idl ab gr ge tk9 st en co)) 13) = us ∧ famd_idl (cat (lx (famVl id cl su sc cr us idl ab gr ge tk9 st en co)) 13) = idl ∧ famd_ab (cat (lx (famVl id cl su sc cr us idl ab gr ge tk9 st en co)) 13) = ab ∧ famd_gr (cat (lx (famVl id cl su sc cr us idl ab gr ge tk9 st en co)) 13) = gr ∧ famd_ge (cat (lx (famVl id cl su sc cr us idl ab gr ge tk9 st en co)) 13) = ge ∧ famd_to (cat (lx (famVl id cl su sc cr us idl ab gr ge tk9 st en co)) 13) = tk9 ∧ famd_st (cat (lx (famVl id cl su sc cr us idl ab gr ge tk9 st en co)) 13) = st ∧ famd_en (cat (lx (famVl id cl su sc cr us idl ab gr ge tk9 st en co)) 13) = en ∧ famd_co (cat (lx (famVl id cl su sc cr us idl ab gr ge tk9 st en co)) 13) = co := by
  have b := famB h
  have g : right sc = true := by simp only [famOK, Bool.and_eq_true] at h; exact h.2.2.2.2.2.1
  have gs := right_small g
  have v0 : famD0 (cat (lx (famVl id cl su sc cr us idl ab gr ge tk9 st en co)) 13) = (be 1 cl.length ++ cl) ++ ((be 1 su.length ++ su) ++ ((be 1 (tx sc).length ++ tx sc) ++ (be 6 cr.toNat ++ (be 6 us.toNat ++ (be 6 idl.toNat ++ (be 6 ab.toNat ++ (be 6 gr.toNat ++ (be 4 ge.toNat ++ (be 8 tk9.toNat ++ (be 1 st.toNat ++ (be 6 en.toNat ++ (be 8 co.toNat ++ [])))))))))))) := by unfold famD0; simp [cat, lx, famVl]
  have q0 := ds_laid cl ((be 1 su.length ++ su) ++ ((be 1 (tx sc).length ++ tx sc) ++ (be 6 cr.toNat ++ (be 6 us.toNat ++ (be 6 idl.toNat ++ (be 6 ab.toNat ++ (be 6 gr.toNat ++ (be 4 ge.toNat ++ (be 8 tk9.toNat ++ (be 1 st.toNat ++ (be 6 en.toNat ++ (be 8 co.toNat ++ [])))))))))))) (by omega)
  have v1 : famD1 (cat (lx (famVl id cl su sc cr us idl ab gr ge tk9 st en co)) 13) = (be 1 su.length ++ su) ++ ((be 1 (tx sc).length ++ tx sc) ++ (be 6 cr.toNat ++ (be 6 us.toNat ++ (be 6 idl.toNat ++ (be 6 ab.toNat ++ (be 6 gr.toNat ++ (be 4 ge.toNat ++ (be 8 tk9.toNat ++ (be 1 st.toNat ++ (be 6 en.toNat ++ (be 8 co.toNat ++ []))))))))))) := by unfold famD1; rw [v0]; exact q0.2
  have q1 := ds_laid su ((be 1 (tx sc).length ++ tx sc) ++ (be 6 cr.toNat ++ (be 6 us.toNat ++ (be 6 idl.toNat ++ (be 6 ab.toNat ++ (be 6 gr.toNat ++ (be 4 ge.toNat ++ (be 8 tk9.toNat ++ (be 1 st.toNat ++ (be 6 en.toNat ++ (be 8 co.toNat ++ []))))))))))) (by omega)
  have v2 : famD2 (cat (lx (famVl id cl su sc cr us idl ab gr ge tk9 st en co)) 13) = (be 1 (tx sc).length ++ tx sc) ++ (be 6 cr.toNat ++ (be 6 us.toNat ++ (be 6 idl.toNat ++ (be 6 ab.toNat ++ (be 6 gr.toNat ++ (be 4 ge.toNat ++ (be 8 tk9.toNat ++ (be 1 st.toNat ++ (be 6 en.toNat ++ (be 8 co.toNat ++ [])))))))))) := by unfold famD2; rw [v1]; exact q1.2
  have q2 := ds_laid (tx sc) (be 6 cr.toNat ++ (be 6 us.toNat ++ (be 6 idl.toNat ++ (be 6 ab.toNat ++ (be 6 gr.toNat ++ (be 4 ge.toNat ++ (be 8 tk9.toNat ++ (be 1 st.toNat ++ (be 6 en.toNat ++ (be 8 co.toNat ++ [])))))))))) (by omega)
  have v3 : famD3 (cat (lx (famVl id cl su sc cr us idl ab gr ge tk9 st en co)) 13) = be 6 cr.toNat ++ (be 6 us.toNat ++ (be 6 idl.toNat ++ (be 6 ab.toNat ++ (be 6 gr.toNat ++ (be 4 ge.toNat ++ (be 8 tk9.toNat ++ (be 1 st.toNat ++ (be 6 en.toNat ++ (be 8 co.toNat ++ []))))))))) := by unfold famD3; rw [v2]; exact q2.2
  have q3 := dn_laid 6 cr.toNat (be 6 us.toNat ++ (be 6 idl.toNat ++ (be 6 ab.toNat ++ (be 6 gr.toNat ++ (be 4 ge.toNat ++ (be 8 tk9.toNat ++ (be 1 st.toNat ++ (be 6 en.toNat ++ (be 8 co.toNat ++ []))))))))) (by omega) (by omega) (by omega) (by omega)
  have v4 : famD4 (cat (lx (famVl id cl su sc cr us idl ab gr ge tk9 st en co)) 13) = be 6 us.toNat ++ (be 6 idl.toNat ++ (be 6 ab.toNat ++ (be 6 gr.toNat ++ (be 4 ge.toNat ++ (be 8 tk9.toNat ++ (be 1 st.toNat ++ (be 6 en.toNat ++ (be 8 co.toNat ++ [])))))))) := by unfold famD4; rw [v3]; exact q3.2
  have q4 := dn_laid 6 us.toNat (be 6 idl.toNat ++ (be 6 ab.toNat ++ (be 6 gr.toNat ++ (be 4 ge.toNat ++ (be 8 tk9.toNat ++ (be 1 st.toNat ++ (be 6 en.toNat ++ (be 8 co.toNat ++ [])))))))) (by omega) (by omega) (by omega) (by omega)
  have v5 : famD5 (cat (lx (famVl id cl su sc cr us idl ab gr ge tk9 st en co)) 13) = be 6 idl.toNat ++ (be 6 ab.toNat ++ (be 6 gr.toNat ++ (be 4 ge.toNat ++ (be 8 tk9.toNat ++ (be 1 st.toNat ++ (be 6 en.toNat ++ (be 8 co.toNat ++ []))))))) := by unfold famD5; rw [v4]; exact q4.2
  have q5 := dn_laid 6 idl.toNat (be 6 ab.toNat ++ (be 6 gr.toNat ++ (be 4 ge.toNat ++ (be 8 tk9.toNat ++ (be 1 st.toNat ++ (be 6 en.toNat ++ (be 8 co.toNat ++ []))))))) (by omega) (by omega) (by omega) (by omega)
  have v6 : famD6 (cat (lx (famVl id cl su sc cr us idl ab gr ge tk9 st en co)) 13) = be 6 ab.toNat ++ (be 6 gr.toNat ++ (be 4 ge.toNat ++ (be 8 tk9.toNat ++ (be 1 st.toNat ++ (be 6 en.toNat ++ (be 8 co.toNat ++ [])))))) := by unfold famD6; rw [v5]; exact q5.2
  have q6 := dn_laid 6 ab.toNat (be 6 gr.toNat ++ (be 4 ge.toNat ++ (be 8 tk9.toNat ++ (be 1 st.toNat ++ (be 6 en.toNat ++ (be 8 co.toNat ++ [])))))) (by omega) (by omega) (by omega) (by omega)
  have v7 : famD7 (cat (lx (famVl id cl su sc cr us idl ab gr ge tk9 st en co)) 13) = be 6 gr.toNat ++ (be 4 ge.toNat ++ (be 8 tk9.toNat ++ (be 1 st.toNat ++ (be 6 en.toNat ++ (be 8 co.toNat ++ []))))) := by unfold famD7; rw [v6]; exact q6.2
  have q7 := dn_laid 6 gr.toNat (be 4 ge.toNat ++ (be 8 tk9.toNat ++ (be 1 st.toNat ++ (be 6 en.toNat ++ (be 8 co.toNat ++ []))))) (by omega) (by omega) (by omega) (by omega)
  have v8 : famD8 (cat (lx (famVl id cl su sc cr us idl ab gr ge tk9 st en co)) 13) = be 4 ge.toNat ++ (be 8 tk9.toNat ++ (be 1 st.toNat ++ (be 6 en.toNat ++ (be 8 co.toNat ++ [])))) := by unfold famD8; rw [v7]; exact q7.2
  have q8 := dn_laid 4 ge.toNat (be 8 tk9.toNat ++ (be 1 st.toNat ++ (be 6 en.toNat ++ (be 8 co.toNat ++ [])))) (by omega) (by omega) (by omega) (by omega)
  have v9 : famD9 (cat (lx (famVl id cl su sc cr us idl ab gr ge tk9 st en co)) 13) = be 8 tk9.toNat ++ (be 1 st.toNat ++ (be 6 en.toNat ++ (be 8 co.toNat ++ []))) := by unfold famD9; rw [v8]; exact q8.2
  have q9 := dn_laid 8 tk9.toNat (be 1 st.toNat ++ (be 6 en.toNat ++ (be 8 co.toNat ++ []))) (by omega) (by omega) (by omega) (by omega)
  have v10 : famD10 (cat (lx (famVl id cl su sc cr us idl ab gr ge tk9 st en co)) 13) = be 1 st.toNat ++ (be 6 en.toNat ++ (be 8 co.toNat ++ [])) := by unfold famD10; rw [v9]; exact q9.2
  have q10 := dn_laid 1 st.toNat (be 6 en.toNat ++ (be 8 co.toNat ++ [])) (by omega) (by omega) (by omega) (by omega)
  have v11 : famD11 (cat (lx (famVl id cl su sc cr us idl ab gr ge tk9 st en co)) 13) = be 6 en.toNat ++ (be 8 co.toNat ++ []) := by unfold famD11; rw [v10]; exact q10.2
  have q11 := dn_laid 6 en.toNat (be 8 co.toNat ++ []) (by omega) (by omega) (by omega) (by omega)
  have v12 : famD12 (cat (lx (famVl id cl su sc cr us idl ab gr ge tk9 st en co)) 13) = be 8 co.toNat ++ [] := by unfold famD12; rw [v11]; exact q11.2
  have q12 := dn_laid 8 co.toNat [] (by omega) (by omega) (by omega) (by omega)
  exact ⟨by unfold famd_id; rw [show (cat (lx (famKl id cl su sc cr us idl ab gr ge tk9 st en co)) 2) = 102 :: be 8 id.toNat by simp [cat, lx, famKl], aft_laid 102 8 id.toNat (by omega) (by omega) (by omega) (by omega)]; omega, by unfold famd_cl; rw [v0]; exact q0.1, by unfold famd_su; rw [v1]; exact q1.1, by unfold famd_sc; rw [v2, q2.1]; exact prt_tx g, by unfold famd_cr; rw [v3, q3.1]; omega, by unfold famd_us; rw [v4, q4.1]; omega, by unfold famd_idl; rw [v5, q5.1]; omega, by unfold famd_ab; rw [v6, q6.1]; omega, by unfold famd_gr; rw [v7, q7.1]; omega, by unfold famd_ge; rw [v8, q8.1]; omega, by unfold famd_to; rw [v9, q9.1]; omega, by unfold famd_st; rw [v10, q10.1]; omega, by unfold famd_en; rw [v11, q11.1]; omega, by unfold famd_co; rw [v12, q12.1]; omega⟩
theorem famE (k v : Bs) : (famG k v = true → famP (famd_id k) (famd_cl v) (famd_su v) (famd_sc v) (famd_cr v) (famd_us v) (famd_idl v) (famd_ab v) (famd_gr v) (famd_ge v) (famd_to v) (famd_st v) (famd_en v) (famd_co v) = ((k, v), 0) ∧ famd_id k = fam_id k ∧ famd_cl v = fam_cl v ∧ famd_su v = fam_su v ∧ famd_sc v = fam_sc v ∧ famd_cr v = fam_cr v ∧ famd_us v = fam_us v ∧ famd_idl v = fam_idl v ∧ famd_ab v = fam_ab v ∧ famd_gr v = fam_gr v ∧ famd_ge v = fam_ge v ∧ famd_to v = fam_to v ∧ famd_st v = fam_st v ∧ famd_en v = fam_en v ∧ famd_co v = fam_co v) ∧ (famG k v = false → ¬ famP (famd_id k) (famd_cl v) (famd_su v) (famd_sc v) (famd_cr v) (famd_us v) (famd_idl v) (famd_ab v) (famd_gr v) (famd_ge v) (famd_to v) (famd_st v) (famd_en v) (famd_co v) = ((k, v), 0)) := by
  constructor
  · intro g
    have e := famG_is g
    have hok : famOK (fam_id k) (fam_cl v) (fam_su v) (fam_sc v) (fam_cr v) (fam_us v) (fam_idl v) (fam_ab v) (fam_gr v) (fam_ge v) (fam_to v) (fam_st v) (fam_en v) (fam_co v) = true := by
      cases q : famOK (fam_id k) (fam_cl v) (fam_su v) (fam_sc v) (fam_cr v) (fam_us v) (fam_idl v) (fam_ab v) (fam_gr v) (fam_ge v) (fam_to v) (fam_st v) (fam_en v) (fam_co v)
      · unfold famP at e; rw [if_neg (by simp [q])] at e; exact absurd (congrArg Prod.snd e) (by simp)
      · rfl
    have e2 := e
    unfold famP at e2
    rw [if_pos hok] at e2
    have ek := congrArg (fun q => q.1.1) e2
    have ev := congrArg (fun q => q.1.2) e2
    simp only at ek ev
    have u := famU hok
    rw [ek, ev] at u
    refine ⟨?_, u.1, u.2.1, u.2.2.1, u.2.2.2.1, u.2.2.2.2.1, u.2.2.2.2.2.1, u.2.2.2.2.2.2.1, u.2.2.2.2.2.2.2.1, u.2.2.2.2.2.2.2.2.1, u.2.2.2.2.2.2.2.2.2.1, u.2.2.2.2.2.2.2.2.2.2.1, u.2.2.2.2.2.2.2.2.2.2.2.1, u.2.2.2.2.2.2.2.2.2.2.2.2.1, u.2.2.2.2.2.2.2.2.2.2.2.2.2⟩
    rw [u.1, u.2.1, u.2.2.1, u.2.2.2.1, u.2.2.2.2.1, u.2.2.2.2.2.1, u.2.2.2.2.2.2.1, u.2.2.2.2.2.2.2.1, u.2.2.2.2.2.2.2.2.1, u.2.2.2.2.2.2.2.2.2.1, u.2.2.2.2.2.2.2.2.2.2.1, u.2.2.2.2.2.2.2.2.2.2.2.1, u.2.2.2.2.2.2.2.2.2.2.2.2.1, u.2.2.2.2.2.2.2.2.2.2.2.2.2]
    exact e
  · intro g e
    have hok : famOK (famd_id k) (famd_cl v) (famd_su v) (famd_sc v) (famd_cr v) (famd_us v) (famd_idl v) (famd_ab v) (famd_gr v) (famd_ge v) (famd_to v) (famd_st v) (famd_en v) (famd_co v) = true := by
      cases q : famOK (famd_id k) (famd_cl v) (famd_su v) (famd_sc v) (famd_cr v) (famd_us v) (famd_idl v) (famd_ab v) (famd_gr v) (famd_ge v) (famd_to v) (famd_st v) (famd_en v) (famd_co v)
      · unfold famP at e; rw [if_neg (by simp [q])] at e; exact absurd (congrArg Prod.snd e) (by simp)
      · rfl
    have e2 := e
    unfold famP at e2
    rw [if_pos hok] at e2
    have ek := congrArg (fun q => q.1.1) e2
    have ev := congrArg (fun q => q.1.2) e2
    simp only at ek ev
    have t := famT hok
    rw [ek, ev] at t
    have : famG k v = true := by
      unfold famG
      rw [t.1, t.2.1, t.2.2.1, t.2.2.2.1, t.2.2.2.2.1, t.2.2.2.2.2.1, t.2.2.2.2.2.2.1, t.2.2.2.2.2.2.2.1, t.2.2.2.2.2.2.2.2.1, t.2.2.2.2.2.2.2.2.2.1, t.2.2.2.2.2.2.2.2.2.2.1, t.2.2.2.2.2.2.2.2.2.2.2.1, t.2.2.2.2.2.2.2.2.2.2.2.2.1, t.2.2.2.2.2.2.2.2.2.2.2.2.2, e]
      simp
    rw [this] at g
    exact absurd g (by decide)
end Go.Proofs.YtpidmpefodnffaaGreatDoor
