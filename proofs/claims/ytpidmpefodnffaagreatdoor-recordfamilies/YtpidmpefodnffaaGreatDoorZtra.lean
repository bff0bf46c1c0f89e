import Derived.Test.YtpidmpefodnffaaGreatDoorOrp
import Derived.Test.YtpidmpefodnffaaGreatDoorZpaa
import Derived.Test.YtpidmpefodnffaaGreatDoorZfde
import Derived.Test.YtpidmpefodnffaaGreatDoorZfdj
import Derived.Test.YtpidmpefodnffaaGreatDoorZpaf

namespace Go.Proofs.YtpidmpefodnffaaGreatDoor
open Go.RowKit
set_option maxRecDepth 8000
/-- A text that was laid is read as it was. -/
theorem tv_laid (most : Nat) (s r : Bs) (hs : s.length ≤ most) (hm : most ≤ 255) : tv most ((be 1 s.length ++ s) ++ r, 0) = s ∧ ts most ((be 1 s.length ++ s) ++ r, 0) = (r, 0) := by
  have ha : ahd (most : Int) = 1 := by unfold ahd; rw [if_pos (by omega)]
  have hl := be_len 1 s.length
  have ht : ((be 1 s.length ++ s) ++ r).take 1 = be 1 s.length := by rw [List.append_assoc, List.take_append_of_le_length (by omega), List.take_of_length_le (by omega)]
  have hd : ((be 1 s.length ++ s) ++ r).drop 1 = s ++ r := by rw [List.append_assoc, List.drop_append_of_le_length (by omega), List.drop_of_length_le (by omega), List.nil_append]
  have hn : nat (be 1 s.length) = s.length := by rw [nat_be]; exact Nat.mod_eq_of_lt (by omega)
  have he : rTextE most ((be 1 s.length ++ s) ++ r) = 0 := by
    unfold rTextE
    rw [if_pos (by omega), ha, ht, hn, if_neg (by simp [hl]), if_neg (by omega), if_neg (by simp [hl])]
  constructor
  · unfold tv
    simp only [he]
    rw [if_pos fine_ok]
    unfold rTextS
    rw [ha, ht, hd, hn]
    simp
  · unfold ts
    simp only [he]
    rw [rGo_ok]
    unfold rTextK
    rw [ha, ht, hn, show (be 1 s.length ++ s ++ r).drop (1 + s.length) = ((be 1 s.length ++ s ++ r).drop 1).drop s.length by rw [List.drop_drop], hd]
    simp
end Go.Proofs.YtpidmpefodnffaaGreatDoor
namespace Go.Proofs.YtpidmpefodnffaaGreatDoor
open Go.RowKit
set_option maxHeartbeats 4000000
set_option maxRecDepth 8000
theorem famT {id : Int} {cl : Bs} {su : Bs} {sc : List Bs} {cr : Int} {us : Int} {idl : Int} {ab : Int} {gr : Int} {ge : Int} {to : Int} {st : Int} {en : Int} {co : Int} (h : famOK id cl su sc cr us idl ab gr ge to st en co = true) : fam_id (cat (lx (famKl id cl su sc cr us idl ab gr ge to st en co)) 2) = id ∧ fam_cl (cat (lx (famVl id cl su sc cr us idl ab gr ge to st en co)) 13) = cl ∧ fam_su (cat (lx (famVl id cl su sc cr us idl ab gr ge to st en co)) 13) = su ∧ fam_sc (cat (lx (famVl id cl su sc cr us idl ab gr ge to st en co)) 13) = sc ∧ fam_cr (cat (lx (famVl id cl su sc cr us idl ab gr ge to st en co)) 13) = cr ∧ fam_us (cat (lx (famVl id cl su sc cr us idl ab gr ge to st en co)) 13) = us ∧ fam_idl (cat (lx (famVl id cl su sc cr us idl ab gr ge to st en co)) 13) = idl ∧ fam_ab (cat (lx (famVl id cl su sc cr us idl ab gr ge to st en co)) 13) = ab ∧ fam_gr (cat (lx (famVl id cl su sc cr us idl ab gr ge to st en co)) 13) = gr ∧ fam_ge (cat (lx (famVl id cl su sc cr us idl ab gr ge to st en co)) 13) = ge ∧ fam_to (cat (lx (famVl id cl su sc cr us idl ab gr ge to st en co)) 13) = to ∧ fam_st (cat (lx (famVl id cl su sc cr us idl ab gr ge to st en co)) 13) = st ∧ fam_en (cat (lx (famVl id cl su sc cr us idl ab gr ge to st en co)) 13) = en ∧ fam_co (cat (lx (famVl id cl su sc cr us idl ab gr ge to st en co)) 13) = co := by
  have b := famB h
  have g : right sc = true := by simp only [famOK, Bool.and_eq_true] at h; exact h.2.2.2.2.2.1
  have gs := right_small g
  have ek : (cat (lx (famKl id cl su sc cr us idl ab gr ge to st en co)) 2) = [102] ++ (be 8 id.toNat ++ []) := by simp [cat, lx, famKl]
  have k0 : famK0 (cat (lx (famKl id cl su sc cr us idl ab gr ge to st en co)) 2) = ([102] ++ (be 8 id.toNat ++ []), 0) := by unfold famK0; rw [ek]
  have qk0 := rr_laid [102] (be 8 id.toNat ++ []) 1 rfl
  have k1 : famK1 (cat (lx (famKl id cl su sc cr us idl ab gr ge to st en co)) 2) = (be 8 id.toNat ++ [], 0) := by unfold famK1; rw [k0]; exact qk0.2
  have qk1 := rv_laid 8 id.toNat [] (by omega) (by omega) (by omega) (by omega)
  have ev : (cat (lx (famVl id cl su sc cr us idl ab gr ge to st en co)) 13) = (be 1 cl.length ++ cl) ++ ((be 1 su.length ++ su) ++ ((be 1 (tx sc).length ++ tx sc) ++ (be 6 cr.toNat ++ (be 6 us.toNat ++ (be 6 idl.toNat ++ (be 6 ab.toNat ++ (be 6 gr.toNat ++ (be 4 ge.toNat ++ (be 8 to.toNat ++ (be 1 st.toNat ++ (be 6 en.toNat ++ (be 8 co.toNat ++ [])))))))))))) := by simp [cat, lx, famVl]
  have v0 : famV0 (cat (lx (famVl id cl su sc cr us idl ab gr ge to st en co)) 13) = ((be 1 cl.length ++ cl) ++ ((be 1 su.length ++ su) ++ ((be 1 (tx sc).length ++ tx sc) ++ (be 6 cr.toNat ++ (be 6 us.toNat ++ (be 6 idl.toNat ++ (be 6 ab.toNat ++ (be 6 gr.toNat ++ (be 4 ge.toNat ++ (be 8 to.toNat ++ (be 1 st.toNat ++ (be 6 en.toNat ++ (be 8 co.toNat ++ [])))))))))))), 0) := by unfold famV0; rw [ev]
  have qv0 := tv_laid 16 cl ((be 1 su.length ++ su) ++ ((be 1 (tx sc).length ++ tx sc) ++ (be 6 cr.toNat ++ (be 6 us.toNat ++ (be 6 idl.toNat ++ (be 6 ab.toNat ++ (be 6 gr.toNat ++ (be 4 ge.toNat ++ (be 8 to.toNat ++ (be 1 st.toNat ++ (be 6 en.toNat ++ (be 8 co.toNat ++ [])))))))))))) (by omega) (by omega)
  have v1 : famV1 (cat (lx (famVl id cl su sc cr us idl ab gr ge to st en co)) 13) = ((be 1 su.length ++ su) ++ ((be 1 (tx sc).length ++ tx sc) ++ (be 6 cr.toNat ++ (be 6 us.toNat ++ (be 6 idl.toNat ++ (be 6 ab.toNat ++ (be 6 gr.toNat ++ (be 4 ge.toNat ++ (be 8 to.toNat ++ (be 1 st.toNat ++ (be 6 en.toNat ++ (be 8 co.toNat ++ []))))))))))), 0) := by unfold famV1; rw [v0]; exact qv0.2
  have qv1 := tv_laid 16 su ((be 1 (tx sc).length ++ tx sc) ++ (be 6 cr.toNat ++ (be 6 us.toNat ++ (be 6 idl.toNat ++ (be 6 ab.toNat ++ (be 6 gr.toNat ++ (be 4 ge.toNat ++ (be 8 to.toNat ++ (be 1 st.toNat ++ (be 6 en.toNat ++ (be 8 co.toNat ++ []))))))))))) (by omega) (by omega)
  have v2 : famV2 (cat (lx (famVl id cl su sc cr us idl ab gr ge to st en co)) 13) = ((be 1 (tx sc).length ++ tx sc) ++ (be 6 cr.toNat ++ (be 6 us.toNat ++ (be 6 idl.toNat ++ (be 6 ab.toNat ++ (be 6 gr.toNat ++ (be 4 ge.toNat ++ (be 8 to.toNat ++ (be 1 st.toNat ++ (be 6 en.toNat ++ (be 8 co.toNat ++ [])))))))))), 0) := by unfold famV2; rw [v1]; exact qv1.2
  have qv2 := tv_laid 60 (tx sc) (be 6 cr.toNat ++ (be 6 us.toNat ++ (be 6 idl.toNat ++ (be 6 ab.toNat ++ (be 6 gr.toNat ++ (be 4 ge.toNat ++ (be 8 to.toNat ++ (be 1 st.toNat ++ (be 6 en.toNat ++ (be 8 co.toNat ++ [])))))))))) (by omega) (by omega)
  have v3 : famV3 (cat (lx (famVl id cl su sc cr us idl ab gr ge to st en co)) 13) = (be 6 cr.toNat ++ (be 6 us.toNat ++ (be 6 idl.toNat ++ (be 6 ab.toNat ++ (be 6 gr.toNat ++ (be 4 ge.toNat ++ (be 8 to.toNat ++ (be 1 st.toNat ++ (be 6 en.toNat ++ (be 8 co.toNat ++ []))))))))), 0) := by unfold famV3; rw [v2]; exact qv2.2
  have qv3 := rv_laid 6 cr.toNat (be 6 us.toNat ++ (be 6 idl.toNat ++ (be 6 ab.toNat ++ (be 6 gr.toNat ++ (be 4 ge.toNat ++ (be 8 to.toNat ++ (be 1 st.toNat ++ (be 6 en.toNat ++ (be 8 co.toNat ++ []))))))))) (by omega) (by omega) (by omega) (by omega)
  have v4 : famV4 (cat (lx (famVl id cl su sc cr us idl ab gr ge to st en co)) 13) = (be 6 us.toNat ++ (be 6 idl.toNat ++ (be 6 ab.toNat ++ (be 6 gr.toNat ++ (be 4 ge.toNat ++ (be 8 to.toNat ++ (be 1 st.toNat ++ (be 6 en.toNat ++ (be 8 co.toNat ++ [])))))))), 0) := by unfold famV4; rw [v3]; exact qv3.2
  have qv4 := rv_laid 6 us.toNat (be 6 idl.toNat ++ (be 6 ab.toNat ++ (be 6 gr.toNat ++ (be 4 ge.toNat ++ (be 8 to.toNat ++ (be 1 st.toNat ++ (be 6 en.toNat ++ (be 8 co.toNat ++ [])))))))) (by omega) (by omega) (by omega) (by omega)
  have v5 : famV5 (cat (lx (famVl id cl su sc cr us idl ab gr ge to st en co)) 13) = (be 6 idl.toNat ++ (be 6 ab.toNat ++ (be 6 gr.toNat ++ (be 4 ge.toNat ++ (be 8 to.toNat ++ (be 1 st.toNat ++ (be 6 en.toNat ++ (be 8 co.toNat ++ []))))))), 0) := by unfold famV5; rw [v4]; exact qv4.2
  have qv5 := rv_laid 6 idl.toNat (be 6 ab.toNat ++ (be 6 gr.toNat ++ (be 4 ge.toNat ++ (be 8 to.toNat ++ (be 1 st.toNat ++ (be 6 en.toNat ++ (be 8 co.toNat ++ []))))))) (by omega) (by omega) (by omega) (by omega)
  have v6 : famV6 (cat (lx (famVl id cl su sc cr us idl ab gr ge to st en co)) 13) = (be 6 ab.toNat ++ (be 6 gr.toNat ++ (be 4 ge.toNat ++ (be 8 to.toNat ++ (be 1 st.toNat ++ (be 6 en.toNat ++ (be 8 co.toNat ++ [])))))), 0) := by unfold famV6; rw [v5]; exact qv5.2
  have qv6 := rv_laid 6 ab.toNat (be 6 gr.toNat ++ (be 4 ge.toNat ++ (be 8 to.toNat ++ (be 1 st.toNat ++ (be 6 en.toNat ++ (be 8 co.toNat ++ [])))))) (by omega) (by omega) (by omega) (by omega)
  have v7 : famV7 (cat (lx (famVl id cl su sc cr us idl ab gr ge to st en co)) 13) = (be 6 gr.toNat ++ (be 4 ge.toNat ++ (be 8 to.toNat ++ (be 1 st.toNat ++ (be 6 en.toNat ++ (be 8 co.toNat ++ []))))), 0) := by unfold famV7; rw [v6]; exact qv6.2
  have qv7 := rv_laid 6 gr.toNat (be 4 ge.toNat ++ (be 8 to.toNat ++ (be 1 st.toNat ++ (be 6 en.toNat ++ (be 8 co.toNat ++ []))))) (by omega) (by omega) (by omega) (by omega)
  have v8 : famV8 (cat (lx (famVl id cl su sc cr us idl ab gr ge to st en co)) 13) = (be 4 ge.toNat ++ (be 8 to.toNat ++ (be 1 st.toNat ++ (be 6 en.toNat ++ (be 8 co.toNat ++ [])))), 0) := by unfold famV8; rw [v7]; exact qv7.2
  have qv8 := rv_laid 4 ge.toNat (be 8 to.toNat ++ (be 1 st.toNat ++ (be 6 en.toNat ++ (be 8 co.toNat ++ [])))) (by omega) (by omega) (by omega) (by omega)
  have v9 : famV9 (cat (lx (famVl id cl su sc cr us idl ab gr ge to st en co)) 13) = (be 8 to.toNat ++ (be 1 st.toNat ++ (be 6 en.toNat ++ (be 8 co.toNat ++ []))), 0) := by unfold famV9; rw [v8]; exact qv8.2
  have qv9 := rv_laid 8 to.toNat (be 1 st.toNat ++ (be 6 en.toNat ++ (be 8 co.toNat ++ []))) (by omega) (by omega) (by omega) (by omega)
  have v10 : famV10 (cat (lx (famVl id cl su sc cr us idl ab gr ge to st en co)) 13) = (be 1 st.toNat ++ (be 6 en.toNat ++ (be 8 co.toNat ++ [])), 0) := by unfold famV10; rw [v9]; exact qv9.2
  have qv10 := rv_laid 1 st.toNat (be 6 en.toNat ++ (be 8 co.toNat ++ [])) (by omega) (by omega) (by omega) (by omega)
  have v11 : famV11 (cat (lx (famVl id cl su sc cr us idl ab gr ge to st en co)) 13) = (be 6 en.toNat ++ (be 8 co.toNat ++ []), 0) := by unfold famV11; rw [v10]; exact qv10.2
  have qv11 := rv_laid 6 en.toNat (be 8 co.toNat ++ []) (by omega) (by omega) (by omega) (by omega)
  have v12 : famV12 (cat (lx (famVl id cl su sc cr us idl ab gr ge to st en co)) 13) = (be 8 co.toNat ++ [], 0) := by unfold famV12; rw [v11]; exact qv11.2
  have qv12 := rv_laid 8 co.toNat [] (by omega) (by omega) (by omega) (by omega)
  exact ⟨by unfold fam_id; rw [k1, qk1.1]; omega, by unfold fam_cl; rw [v0]; exact qv0.1, by unfold fam_su; rw [v1]; exact qv1.1, by unfold fam_sc; rw [v2, qv2.1, parse_tx g], by unfold fam_cr; rw [v3, qv3.1]; omega, by unfold fam_us; rw [v4, qv4.1]; omega, by unfold fam_idl; rw [v5, qv5.1]; omega, by unfold fam_ab; rw [v6, qv6.1]; omega, by unfold fam_gr; rw [v7, qv7.1]; omega, by unfold fam_ge; rw [v8, qv8.1]; omega, by unfold fam_to; rw [v9, qv9.1]; omega, by unfold fam_st; rw [v10, qv10.1]; omega, by unfold fam_en; rw [v11, qv11.1]; omega, by unfold fam_co; rw [v12, qv12.1]; omega⟩
theorem famP_G {id : Int} {cl : Bs} {su : Bs} {sc : List Bs} {cr : Int} {us : Int} {idl : Int} {ab : Int} {gr : Int} {ge : Int} {to : Int} {st : Int} {en : Int} {co : Int} (h : famOK id cl su sc cr us idl ab gr ge to st en co = true) : famG (famP id cl su sc cr us idl ab gr ge to st en co).1.1 (famP id cl su sc cr us idl ab gr ge to st en co).1.2 = true := by
  have e : famP id cl su sc cr us idl ab gr ge to st en co = ((cat (lx (famKl id cl su sc cr us idl ab gr ge to st en co)) 2, cat (lx (famVl id cl su sc cr us idl ab gr ge to st en co)) 13), 0) := by unfold famP; rw [if_pos h]
  have t := famT h
  rw [e]
  unfold famG
  simp only [t, e]
  simp
end Go.Proofs.YtpidmpefodnffaaGreatDoor
