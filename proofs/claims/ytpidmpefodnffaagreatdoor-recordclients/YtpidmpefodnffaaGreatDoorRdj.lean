import Derived.Test.YtpidmpefodnffaaGreatDoorZsmc
import Derived.Test.YtpidmpefodnffaaGreatDoorOwp
import Derived.Test.YtpidmpefodnffaaGreatDoorTra
import Derived.Test.YtpidmpefodnffaaGreatDoorTrb
namespace Go.Proofs.YtpidmpefodnffaaGreatDoor
open Go.RowKit Go.Lib
set_option maxHeartbeats 4000000
set_option maxRecDepth 8000
def clid_na (k : Bs) : Bs := k.drop 1
def cliD0 (v : Bs) : Bs := v
def clid_pu (v : Bs) : Bool := (nmr (dk 1 (cliD0 v)) == 1 || nmr (dk 1 (cliD0 v)) == 3)
def clid_of9 (v : Bs) : Bool := (nmr (dk 1 (cliD0 v)) == 2 || nmr (dk 1 (cliD0 v)) == 3)
def cliD1 (v : Bs) : Bs := dr 1 (cliD0 v)
def clid_ha (v : Bs) : Bs := dsh (cliD1 v)
def cliD2 (v : Bs) : Bs := dsr (cliD1 v)
def clid_ol (v : Bs) : Bs := dsh (cliD2 v)
def cliD3 (v : Bs) : Bs := dsr (cliD2 v)
def clid_un (v : Bs) : Int := nmr (dk 6 (cliD3 v))
def cliD4 (v : Bs) : Bs := dr 6 (cliD3 v)
def clid_sc (v : Bs) : List Bs := prt (dsh (cliD4 v))
def cliD5 (v : Bs) : Bs := dsr (cliD4 v)
def clid_idl (v : Bs) : Int := nmr (dk 6 (cliD5 v))
def cliD6 (v : Bs) : Bs := dr 6 (cliD5 v)
def clid_ab (v : Bs) : Int := nmr (dk 6 (cliD6 v))
def cliD7 (v : Bs) : Bs := dr 6 (cliD6 v)
def clid_gr (v : Bs) : Int := nmr (dk 6 (cliD7 v))
def cliD8 (v : Bs) : Bs := dr 6 (cliD7 v)
def clid_li (v : Bs) : Int := nmr (dk 6 (cliD8 v))
theorem cliU {na : Bs} {pu : Bool} {of9 : Bool} {ha : Bs} {ol : Bs} {un : Int} {sc : List Bs} {idl : Int} {ab : Int} {gr : Int} {li : Int} (h : cliOK na pu ha ol un sc idl ab gr li = true) : clid_na (cat (lx (cliKl na pu of9 ha ol un sc idl ab gr li)) 2) = na ∧ clid_pu (cat (lx (cliVl na pu of9 ha ol un sc idl ab gr li)) 9) = pu ∧ clid_of9 (cat (lx (cliVl na pu of9 ha ol un sc idl ab gr li)) 9) = of9 ∧ clid_ha (cat (lx (cliVl na pu of9 ha ol un sc idl ab gr li)) 9) = ha ∧ clid_ol (cat (lx (cliVl na pu of9 ha ol un sc idl ab gr li)) 9) = ol ∧ clid_un (cat (lx (cliVl na pu of9 ha ol un sc idl ab gr li)) 9) = un ∧ clid_sc (cat (lx (cliVl na pu of9 ha ol un sc idl ab gr li)) 9) = sc ∧ clid_idl (cat (lx (cliVl na pu of9 ha ol un sc idl ab gr li)) 9) = idl ∧ clid_ab (cat (lx (cliVl na pu of9 ha ol un sc idl ab gr li)) 9) = ab ∧ clid_gr (cat (lx (cliVl na pu of9 ha ol un sc idl ab gr li)) 9) = gr ∧ clid_li (cat (lx (cliVl na pu of9 ha ol un sc idl ab gr li)) 9) = li := by
  have b := cliB h
  have g : right sc = true := by simp only [cliOK, Bool.and_eq_true] at h; exact h.2.2.1
  have gs := right_small g
  have v0 : cliD0 (cat (lx (cliVl na pu of9 ha ol un sc idl ab gr li)) 9) = be 1 (bv [pu, of9]) ++ ((be 1 ha.length ++ ha) ++ ((be 1 ol.length ++ ol) ++ (be 6 un.toNat ++ ((be 1 (tx sc).length ++ tx sc) ++ (be 6 idl.toNat ++ (be 6 ab.toNat ++ (be 6 gr.toNat ++ (be 6 li.toNat ++ [])))))))) := by unfold cliD0; simp [cat, lx, cliVl]
  have q0 := dn_laid 1 (bv [pu, of9]) ((be 1 ha.length ++ ha) ++ ((be 1 ol.length ++ ol) ++ (be 6 un.toNat ++ ((be 1 (tx sc).length ++ tx sc) ++ (be 6 idl.toNat ++ (be 6 ab.toNat ++ (be 6 gr.toNat ++ (be 6 li.toNat ++ [])))))))) (by omega) (by omega) (bv_lt _ (by simp)) (Nat.lt_trans (bv_lt _ (by simp)) (by decide))
  have v1 : cliD1 (cat (lx (cliVl na pu of9 ha ol un sc idl ab gr li)) 9) = (be 1 ha.length ++ ha) ++ ((be 1 ol.length ++ ol) ++ (be 6 un.toNat ++ ((be 1 (tx sc).length ++ tx sc) ++ (be 6 idl.toNat ++ (be 6 ab.toNat ++ (be 6 gr.toNat ++ (be 6 li.toNat ++ []))))))) := by unfold cliD1; rw [v0]; exact q0.2
  have q1 := ds_laid ha ((be 1 ol.length ++ ol) ++ (be 6 un.toNat ++ ((be 1 (tx sc).length ++ tx sc) ++ (be 6 idl.toNat ++ (be 6 ab.toNat ++ (be 6 gr.toNat ++ (be 6 li.toNat ++ []))))))) (by omega)
  have v2 : cliD2 (cat (lx (cliVl na pu of9 ha ol un sc idl ab gr li)) 9) = (be 1 ol.length ++ ol) ++ (be 6 un.toNat ++ ((be 1 (tx sc).length ++ tx sc) ++ (be 6 idl.toNat ++ (be 6 ab.toNat ++ (be 6 gr.toNat ++ (be 6 li.toNat ++ [])))))) := by unfold cliD2; rw [v1]; exact q1.2
  have q2 := ds_laid ol (be 6 un.toNat ++ ((be 1 (tx sc).length ++ tx sc) ++ (be 6 idl.toNat ++ (be 6 ab.toNat ++ (be 6 gr.toNat ++ (be 6 li.toNat ++ [])))))) (by omega)
  have v3 : cliD3 (cat (lx (cliVl na pu of9 ha ol un sc idl ab gr li)) 9) = be 6 un.toNat ++ ((be 1 (tx sc).length ++ tx sc) ++ (be 6 idl.toNat ++ (be 6 ab.toNat ++ (be 6 gr.toNat ++ (be 6 li.toNat ++ []))))) := by unfold cliD3; rw [v2]; exact q2.2
  have q3 := dn_laid 6 un.toNat ((be 1 (tx sc).length ++ tx sc) ++ (be 6 idl.toNat ++ (be 6 ab.toNat ++ (be 6 gr.toNat ++ (be 6 li.toNat ++ []))))) (by omega) (by omega) (by omega) (by omega)
  have v4 : cliD4 (cat (lx (cliVl na pu of9 ha ol un sc idl ab gr li)) 9) = (be 1 (tx sc).length ++ tx sc) ++ (be 6 idl.toNat ++ (be 6 ab.toNat ++ (be 6 gr.toNat ++ (be 6 li.toNat ++ [])))) := by unfold cliD4; rw [v3]; exact q3.2
  have q4 := ds_laid (tx sc) (be 6 idl.toNat ++ (be 6 ab.toNat ++ (be 6 gr.toNat ++ (be 6 li.toNat ++ [])))) (by omega)
  have v5 : cliD5 (cat (lx (cliVl na pu of9 ha ol un sc idl ab gr li)) 9) = be 6 idl.toNat ++ (be 6 ab.toNat ++ (be 6 gr.toNat ++ (be 6 li.toNat ++ []))) := by unfold cliD5; rw [v4]; exact q4.2
  have q5 := dn_laid 6 idl.toNat (be 6 ab.toNat ++ (be 6 gr.toNat ++ (be 6 li.toNat ++ []))) (by omega) (by omega) (by omega) (by omega)
  have v6 : cliD6 (cat (lx (cliVl na pu of9 ha ol un sc idl ab gr li)) 9) = be 6 ab.toNat ++ (be 6 gr.toNat ++ (be 6 li.toNat ++ [])) := by unfold cliD6; rw [v5]; exact q5.2
  have q6 := dn_laid 6 ab.toNat (be 6 gr.toNat ++ (be 6 li.toNat ++ [])) (by omega) (by omega) (by omega) (by omega)
  have v7 : cliD7 (cat (lx (cliVl na pu of9 ha ol un sc idl ab gr li)) 9) = be 6 gr.toNat ++ (be 6 li.toNat ++ []) := by unfold cliD7; rw [v6]; exact q6.2
  have q7 := dn_laid 6 gr.toNat (be 6 li.toNat ++ []) (by omega) (by omega) (by omega) (by omega)
  have v8 : cliD8 (cat (lx (cliVl na pu of9 ha ol un sc idl ab gr li)) 9) = be 6 li.toNat ++ [] := by unfold cliD8; rw [v7]; exact q7.2
  have q8 := dn_laid 6 li.toNat [] (by omega) (by omega) (by omega) (by omega)
  exact ⟨by unfold clid_na; simp [cat, lx, cliKl], by unfold clid_pu; rw [v0, q0.1]; cases pu <;> cases of9 <;> rfl, by unfold clid_of9; rw [v0, q0.1]; cases pu <;> cases of9 <;> rfl, by unfold clid_ha; rw [v1]; exact q1.1, by unfold clid_ol; rw [v2]; exact q2.1, by unfold clid_un; rw [v3, q3.1]; omega, by unfold clid_sc; rw [v4, q4.1]; exact prt_tx g, by unfold clid_idl; rw [v5, q5.1]; omega, by unfold clid_ab; rw [v6, q6.1]; omega, by unfold clid_gr; rw [v7, q7.1]; omega, by unfold clid_li; rw [v8, q8.1]; omega⟩
theorem cliE (k v : Bs) : (cliG k v = true → cliP (clid_na k) (clid_pu v) (clid_of9 v) (clid_ha v) (clid_ol v) (clid_un v) (clid_sc v) (clid_idl v) (clid_ab v) (clid_gr v) (clid_li v) = ((k, v), 0) ∧ clid_na k = cli_na k ∧ clid_pu v = cli_pu v ∧ clid_of9 v = cli_of9 v ∧ clid_ha v = cli_ha v ∧ clid_ol v = cli_ol v ∧ clid_un v = cli_un v ∧ clid_sc v = cli_sc v ∧ clid_idl v = cli_idl v ∧ clid_ab v = cli_ab v ∧ clid_gr v = cli_gr v ∧ clid_li v = cli_li v) ∧ (cliG k v = false → ¬ cliP (clid_na k) (clid_pu v) (clid_of9 v) (clid_ha v) (clid_ol v) (clid_un v) (clid_sc v) (clid_idl v) (clid_ab v) (clid_gr v) (clid_li v) = ((k, v), 0)) := by
  constructor
  · intro g
    have e := cliG_is g
    have hok : cliOK (cli_na k) (cli_pu v) (cli_ha v) (cli_ol v) (cli_un v) (cli_sc v) (cli_idl v) (cli_ab v) (cli_gr v) (cli_li v) = true := by
      cases q : cliOK (cli_na k) (cli_pu v) (cli_ha v) (cli_ol v) (cli_un v) (cli_sc v) (cli_idl v) (cli_ab v) (cli_gr v) (cli_li v)
      · unfold cliP at e; rw [if_neg (by simp [q])] at e; exact absurd (congrArg Prod.snd e) (by simp)
      · rfl
    have e2 := e
    unfold cliP at e2
    rw [if_pos hok] at e2
    have ek := congrArg (fun q => q.1.1) e2
    have ev := congrArg (fun q => q.1.2) e2
    simp only at ek ev
    have u := cliU (of9 := cli_of9 v) hok
    rw [ek, ev] at u
    refine ⟨?_, u.1, u.2.1, u.2.2.1, u.2.2.2.1, u.2.2.2.2.1, u.2.2.2.2.2.1, u.2.2.2.2.2.2.1, u.2.2.2.2.2.2.2.1, u.2.2.2.2.2.2.2.2.1, u.2.2.2.2.2.2.2.2.2.1, u.2.2.2.2.2.2.2.2.2.2⟩
    rw [u.1, u.2.1, u.2.2.1, u.2.2.2.1, u.2.2.2.2.1, u.2.2.2.2.2.1, u.2.2.2.2.2.2.1, u.2.2.2.2.2.2.2.1, u.2.2.2.2.2.2.2.2.1, u.2.2.2.2.2.2.2.2.2.1, u.2.2.2.2.2.2.2.2.2.2]
    exact e
  · intro g e
    have hok : cliOK (clid_na k) (clid_pu v) (clid_ha v) (clid_ol v) (clid_un v) (clid_sc v) (clid_idl v) (clid_ab v) (clid_gr v) (clid_li v) = true := by
      cases q : cliOK (clid_na k) (clid_pu v) (clid_ha v) (clid_ol v) (clid_un v) (clid_sc v) (clid_idl v) (clid_ab v) (clid_gr v) (clid_li v)
      · unfold cliP at e; rw [if_neg (by simp [q])] at e; exact absurd (congrArg Prod.snd e) (by simp)
      · rfl
    have e2 := e
    unfold cliP at e2
    rw [if_pos hok] at e2
    have ek := congrArg (fun q => q.1.1) e2
    have ev := congrArg (fun q => q.1.2) e2
    simp only at ek ev
    have t := cliT (of9 := clid_of9 v) hok
    rw [ek, ev] at t
    have : cliG k v = true := by
      unfold cliG
      rw [t.1, t.2.1, t.2.2.1, t.2.2.2.1, t.2.2.2.2.1, t.2.2.2.2.2.1, t.2.2.2.2.2.2.1, t.2.2.2.2.2.2.2.1, t.2.2.2.2.2.2.2.2.1, t.2.2.2.2.2.2.2.2.2.1, t.2.2.2.2.2.2.2.2.2.2, e]
      simp
    rw [this] at g
    exact absurd g (by decide)
end Go.Proofs.YtpidmpefodnffaaGreatDoor
