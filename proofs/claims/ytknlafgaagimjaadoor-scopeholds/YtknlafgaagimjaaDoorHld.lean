import Derived.Test.YtknlafgaagimjaaDoorCls
import Derived.Test.YtknlafgaagimjaaDoorRfh
import Derived.Test.YtknlafgaagimjaaDoorScn
namespace Go.Proofs.YtknlafgaagimjaaDoor
open Go.RowKit Go.Lib
theorem join_small (x y : List Bs) : (join x y).1.length ≤ 8 ∧ ∀ z ∈ (join x y).1, z.length ≤ 16 := by
  unfold join
  cases h1 : right x
  · simp
  cases h2 : right y
  · simp
  simp only [Bool.and_self, if_true]
  have hn : ∀ z ∈ x ++ y, nm z = true := fun z hz => (List.mem_append.1 hz).elim ((right_iff.1 h1).1 z) ((right_iff.1 h2).1 z)
  rcases bound_err (u := rise (x ++ y)) with ⟨h, hm⟩ | ⟨h, _⟩
  · have hr : right (rise (x ++ y)) = true := right_iff.2 ⟨rise_names hn, rs_rise _, hm⟩
    rw [h]
    exact ⟨(right_small hr).1, fun z hz => nm_len ((right_iff.1 hr).1 z hz)⟩
  · rw [h]; simp
theorem meet_small (x y : List Bs) : (meet x y).length ≤ 8 ∧ ∀ z ∈ meet x y, z.length ≤ 16 := by
  unfold meet
  cases h1 : right x
  · simp
  cases h2 : right y
  · simp
  simp only [Bool.and_self, if_true]
  refine ⟨Nat.le_trans (filter_len _ x) (right_small h1).1, fun z hz => nm_len ((right_iff.1 h1).1 z (List.mem_filter.1 hz).1)⟩
theorem minus_small (x y : List Bs) : (minus x y).length ≤ 8 ∧ ∀ z ∈ minus x y, z.length ≤ 16 := by
  unfold minus
  cases h1 : right x
  · simp
  cases h2 : right y
  · simp
  simp only [Bool.and_self, if_true]
  refine ⟨Nat.le_trans (filter_len _ x) (right_small h1).1, fun z hz => nm_len ((right_iff.1 h1).1 z (List.mem_filter.1 hz).1)⟩
theorem Own.lsm {B : Nat} {w : World} {a : Option Addr} {n cap : Nat} {l : List Bs} (h : Own B w (.slice a n cap) l) (hs : l.length ≤ 8 ∧ ∀ z ∈ l, z.length ≤ 16) : Lst w a l.length l :=
  h.lst (by omega) (fun z hz => by have := hs.2 z hz; omega)
/-- A list is elsewhere than the book. -/
def Off (bv : Value) (a : Option Addr) (n : Nat) : Prop := 0 < n → ∀ p o, a = some ⟨p, o, none⟩ → bv.ownBlock ≠ some p
theorem Sts.off {bv : Value} {w w' : World} {a : Option Addr} {n : Nat} {l : List Bs} (h : Sts w a n l) (ho : Only (fun k => bv.ownBlock = some k) w w') (hf : Off bv a n) : Sts w' a n l := by
  refine ⟨h.1, fun hn => ?_⟩
  obtain ⟨p, o, e, hc⟩ := h.2 hn
  refine ⟨p, o, e, fun j hj => ?_⟩
  have hb := ho.block p (blk_lt (hc j hj)) (hf hn p o e)
  have := hc j hj
  simp only [World.cell?] at this ⊢
  rw [hb]
  exact this
theorem Lsr.off {bv : Value} {w w' : World} {a : Option Addr} {n : Nat} {l : List Bs} (h : Lsr w a n l) (ho : Only (fun k => bv.ownBlock = some k) w w') (hf : Off bv a n) : Lsr w' a n l := ⟨h.sts.off ho hf, h.few, h.len⟩
set_option maxHeartbeats 16000000 in
set_option maxRecDepth 16000 in
theorem held_any (B : Nat) (pb : Option Addr) (nb cb : Nat) (ps : List (Value × List Bs)) (a : Option Addr) (n cap : Nat) (a2 : Option Addr) (n2 cap2 : Nat) (c : Option Addr) (m ccap : Nat) (d : Option Addr) (m2 dcap : Nat) (x y : List Bs) (w : World)
    (hseq : Seq B 24 w (.slice pb nb cb) (ps.map Prod.fst)) (hprs : Prs B ps w) (hB : B ≤ w.heap.size) (hps : ps.length ≤ 100) (ha : Lsr w a n x) (hb : Lsr w a2 n2 y) (hc : Lsr w c m x) (hd : Lsr w d m2 y)
    (fa : Off (.slice pb nb cb) a n) (fb : Off (.slice pb nb cb) a2 n2) (fc : Off (.slice pb nb cb) c m) (fd : Off (.slice pb nb cb) d m2) :
    Calls Tryd.prog 18 #[.slice pb nb cb, .slice a n cap, .slice a2 n2 cap2, .slice c m ccap, .slice d m2 dcap] w fun e w' => ∃ bv' v1 v2 v3, e = .returned (.tuple #[bv', .bool true]) ∧
      Seq B 24 w' bv' ((ps ++ [(v1, (join x y).1), (v2, meet x y), (v3, minus x y)]).map Prod.fst) ∧ Prs B (ps ++ [(v1, (join x y).1), (v2, meet x y), (v3, minus x y)]) w' ∧ Only (fun k => (Value.slice pb nb cb).ownBlock = some k) w w' := by
  have C1 := hide (Join_any a n cap x a2 n2 cap2 y w ha.lst hb.lst)
  have C2 := hide (fun W (k : Below w.heap.size w W) => refJoin_any c m ccap x d m2 dcap y W (hc.below k) (hd.below k))
  have C3 := hide (fun W (k : Below w.heap.size w W) => Meet_any a n cap x a2 n2 cap2 y W (ha.below k).lst (hb.below k).lst)
  have C4 := hide (fun W (k : Below w.heap.size w W) => Minus_any a n cap x a2 n2 cap2 y W (ha.below k).lst (hb.below k).lst)
  have C6 := hide (fun W (k : Below w.heap.size w W) => refMeet_any c m ccap x d m2 dcap y W (hc.below k) (hd.below k))
  have C7 := hide (fun W (k : Below w.heap.size w W) => refMinus_any c m ccap x d m2 dcap y W (hc.below k) (hd.below k))
  have C8 := hide (fun W (k : Only (fun k => (Value.slice pb nb cb).ownBlock = some k) w W) => Within_any a n cap x a2 n2 cap2 y W (ha.off k fa).lst (hb.off k fb).lst)
  have C9 := hide (fun W (k : Only (fun k => (Value.slice pb nb cb).ownBlock = some k) w W) => refWithin_any c m ccap x d m2 dcap y W (hc.off k fc) (hd.off k fd))
  have S1 := join_small x y
  have S2 := meet_small x y
  have S3 := minus_small x y
  have HSQ := hide hseq
  have HPR := hide hprs
  generalize join x y = J at *
  generalize meet x y = M at *
  generalize minus x y = N at *
  generalize within x y = W0 at *
  obtain ⟨J, ej⟩ := J
  simp only at S1
  clear ha hb hc hd hseq hprs fa fb fc fd
  go_enter Tryd.func18, Tryd.ntmps18
  go_wp2_with fail
  refine (unhide C1).mono ?_
  rintro e w1 ⟨aJ, cJ, rfl, oJ, b1⟩
  have HP1 := hide ((unhide HPR).snoc hB oJ b1)
  have HS1 := hide ((unhide HSQ).below b1)
  have LJ := hide (Own.lsm (l := J) oJ S1)
  have D2 := hide (unhide C2 w1 b1)
  have HB1 := hide b1
  have hz1 : B ≤ w1.heap.size := Nat.le_trans hB b1.size
  clear oJ b1 C1 C2 HPR HSQ
  go_wp2_with fail
  refine (unhide D2).mono ?_
  rintro e w2 ⟨aK, cK, rfl, oK, b2⟩
  have LK := hide (Own.lsm (l := J) oK S1)
  have LJ2 := hide ((unhide LJ).below b2)
  have HP2 := hide ((unhide HP1).below b2)
  have HS2 := hide ((unhide HS1).below b2)
  have hb2 := bel2 (unhide HB1) b2
  have D3 := hide (unhide C3 w2 hb2)
  have HB2 := hide hb2
  have hz2 : B ≤ w2.heap.size := Nat.le_trans hz1 b2.size
  clear oK b2 hb2 C3 HP1 HS1 HB1 LJ D2
  go_wp2_with fail
  refine (unhide D3).mono ?_
  rintro e w3 ⟨aM, cM, rfl, oM, b3⟩
  have LM := hide (Own.lsm oM S2)
  have LJ3 := hide ((unhide LJ2).below b3)
  have LK3 := hide ((unhide LK).below b3)
  have HP3 := hide ((unhide HP2).snoc hz2 oM b3)
  have HS3 := hide ((unhide HS2).below b3)
  have hb3 := bel2 (unhide HB2) b3
  have D4 := hide (unhide C4 w3 hb3)
  have HB3 := hide hb3
  have hz3 : B ≤ w3.heap.size := Nat.le_trans hz2 b3.size
  clear oM b3 hb3 C4 HP2 HS2 HB2 LJ2 LK D3
  go_wp2_with fail
  refine (unhide D4).mono ?_
  rintro e w4 ⟨aN, cN, rfl, oN, b4⟩
  have LN := hide (Own.lsm oN S3)
  have LM4 := hide ((unhide LM).below b4)
  have CS := hide (same_lst (l := J) (l2 := J) cJ cK ((unhide LJ3).below b4) ((unhide LK3).below b4))
  rw [show decide (J = J) = true by simp] at CS
  have HP4 := hide ((unhide HP3).snoc hz3 oN b4)
  have HS4 := hide ((unhide HS3).below b4)
  have HB4 := hide (bel2 (unhide HB3) b4)
  have hz4 : B ≤ w4.heap.size := Nat.le_trans hz3 b4.size
  clear oN b4 HP3 HS3 HB3 LJ3 LK3 LM D4
  go_wp2_with fail
  refine (unhide CS).mono ?_
  rintro e w5 ⟨rfl, b5⟩
  have LN5 := hide ((unhide LN).below b5)
  have LM5 := hide ((unhide LM4).below b5)
  have HP5 := hide ((unhide HP4).below b5)
  have HS5 := hide ((unhide HS4).below b5)
  have hb5 := bel2 (unhide HB4) b5
  have D6 := hide (unhide C6 w5 hb5)
  have HB5 := hide hb5
  have hz5 : B ≤ w5.heap.size := Nat.le_trans hz4 b5.size
  clear b5 hb5 HP4 HS4 HB4 LN LM4 CS C6
  go_wp2_with fail
  refine (unhide D6).mono ?_
  rintro e w6 ⟨aQ, cQ, rfl, oQ, b6⟩
  have LN6 := hide ((unhide LN5).below b6)
  have CS := hide (same_lst cM cQ ((unhide LM5).below b6) (Own.lsm oQ S2))
  rw [show decide (M = M) = true by simp] at CS
  have HP6 := hide ((unhide HP5).below b6)
  have HS6 := hide ((unhide HS5).below b6)
  have HB6 := hide (bel2 (unhide HB5) b6)
  have hz6 : B ≤ w6.heap.size := Nat.le_trans hz5 b6.size
  clear oQ b6 HP5 HS5 HB5 LN5 LM5 D6
  go_wp2_with fail
  refine (unhide CS).mono ?_
  rintro e w7 ⟨rfl, b7⟩
  have LN7 := hide ((unhide LN6).below b7)
  have HP7 := hide ((unhide HP6).below b7)
  have HS7 := hide ((unhide HS6).below b7)
  have hb7 := bel2 (unhide HB6) b7
  have D7 := hide (unhide C7 w7 hb7)
  have HB7 := hide hb7
  have hz7 : B ≤ w7.heap.size := Nat.le_trans hz6 b7.size
  clear b7 hb7 HP6 HS6 HB6 LN6 CS C7
  go_wp2_with fail
  refine (unhide D7).mono ?_
  rintro e w8 ⟨aR, cR, rfl, oR, b8⟩
  have CS := hide (same_lst cN cR ((unhide LN7).below b8) (Own.lsm oR S3))
  rw [show decide (N = N) = true by simp] at CS
  have HP8 := hide ((unhide HP7).below b8)
  have HS8 := hide ((unhide HS7).below b8)
  have HB8 := hide (bel2 (unhide HB7) b8)
  have hz8 : B ≤ w8.heap.size := Nat.le_trans hz7 b8.size
  clear oR b8 HP7 HS7 HB7 LN7 D7
  go_wp2_with fail
  refine (unhide CS).mono ?_
  rintro e w9 ⟨rfl, b9⟩
  have HP9 := hide ((unhide HP8).below b9)
  have HS9 := hide ((unhide HS8).below b9)
  have HB9 := hide (bel2 (unhide HB8) b9)
  have hz9 : B ≤ w9.heap.size := Nat.le_trans hz8 b9.size
  clear b9 HP8 HS8 HB8 CS
  go_wp2_with (first
    | (at_builtin; refine pushV rfl (.tmp 52) (.tmp 56) rfl (.slice pb nb cb) (ps.map Prod.fst) [.slice aJ J.length cJ, .slice aM M.length cM, .slice aN N.length cN] (by rfl) w9 _ (by rfl) (unhide HS9) (by intro u hu; simp at hu; rcases hu with rfl | rfl | rfl <;> rfl) (by rfl) (by rw [List.length_map]; simp; omega) hz9 ?_; intro v10 w10 hs10 hg10; have HS10 := hide hs10; have HG10 := hide hg10; clear hs10 hg10)
    | fail)
  have ba := bal w9 (.cells #[.slice aJ J.length cJ, .slice aM M.length cM, .slice aN N.length cN] 24)
  have ho10 : Only (fun k => (Value.slice pb nb cb).ownBlock = some k) w w10 := (Only.of_below (bel2 (unhide HB9) ba)).trans (Only.of_grown (unhide HG10)) (fun _ _ q => q)
  have hp10 := ((unhide HP9).below ba).grown ((unhide HS9).below ba) (unhide HG10)
  have D8 := hide (unhide C8 w10 ho10)
  have HO10 := hide ho10
  have HP10 := hide hp10
  clear ba ho10 hp10 HP9 HS9 HB9 HG10 C8
  refine (unhide D8).mono ?_
  rintro e w11 ⟨rfl, b11⟩
  have ho11 := (unhide HO10).trans (Only.of_below (P := fun k => (Value.slice pb nb cb).ownBlock = some k) b11) (fun _ _ q => q)
  have D9 := hide (unhide C9 w11 ho11)
  have HO11 := hide ho11
  have HP11 := hide ((unhide HP10).below b11)
  have HS11 := hide ((unhide HS10).below b11)
  clear b11 ho11 HO10 HP10 HS10 C9 D8
  go_wp2_with fail
  refine (unhide D9).mono ?_
  rintro e w12 ⟨rfl, b12⟩
  have HO12 := hide ((unhide HO11).trans (Only.of_below (P := fun k => (Value.slice pb nb cb).ownBlock = some k) b12) (fun _ _ q => q))
  have HP12 := hide ((unhide HP11).below b12)
  have HS12 := hide ((unhide HS11).below b12)
  clear b12 HO11 HP11 HS11 D9
  go_wp2
  go_ret2
  refine ⟨v10, .slice aJ J.length cJ, .slice aM M.length cM, .slice aN N.length cN, ?_, ?_, ?_, unhide HO12⟩
  · simp
  · have := unhide HS12
    simpa using this
  · have := unhide HP12
    simpa using this
end Go.Proofs.YtknlafgaagimjaaDoor
