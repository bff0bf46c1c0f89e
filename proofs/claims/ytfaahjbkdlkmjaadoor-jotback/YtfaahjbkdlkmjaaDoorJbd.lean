import Derived.Test.YtfaahjbkdlkmjaaDoorJbc
import Derived.Laws.Strings2
/- Jot: a text in quotes. -/
namespace Go.Proofs.YtfaahjbkdlkmjaaDoor
open Go Go.RowKit Go.Lib
set_option linter.unusedVariables false
set_option linter.unusedSimpArgs false
theorem PrO.cases {B b : Nat} {l s : Bs} {w : World} {e : Ending} {w' : World} (h : PrO B b l s w e w') :
    (l.length + s.length ≤ 4000 ∧ e = done0 ∧ Pr B b (l ++ s) w' ∧ Below B w w' ∧ OthersKept 5 (some b) w w') ∨ (¬ l.length + s.length ≤ 4000 ∧ e = pan 44 0 ∧ Below B w w') := by
  unfold PrO at h
  split at h
  · exact .inl ⟨by assumption, h⟩
  · exact .inr ⟨by assumption, h⟩
theorem ext_mid (X : Bs) (a b : Nat) (h : b ≤ X.length) : ({ data := X.toArray } : ByteArray).extract a b = ⟨((X.take b).drop a).toArray⟩ := by
  apply ByteArray.ext
  rw [ByteArray.data_extract]
  apply Array.ext'
  simp [Array.toList_extract, List.extract_eq_take_drop, List.drop_take]
theorem s_mid (X : Bs) (a b : Nat) (W : World) (hab : a ≤ b) (hb : b ≤ X.length) : (Instr.slice 9 (S X) (some (I a)) (some (I b)) none).run Tryd.prog W = .ok (S ((X.take b).drop a)) W := by
  have := run_slice_string (P := Tryd.prog) (w := W) 9 ⟨X.toArray⟩ .i64 .i64 (a : Int) (b : Int) Tryd.underlying9 (by omega) (by omega) (by rw [ba_len]; omega)
  rw [Int.toNat_natCast, Int.toNat_natCast, ext_mid X a b hb] at this
  exact this
theorem s_from (X : Bs) (a : Nat) (W : World) (ha : a ≤ X.length) : (Instr.slice 9 (S X) (some (I a)) none none).run Tryd.prog W = .ok (S (X.drop a)) W := by
  have := run_slice_string_l (P := Tryd.prog) (w := W) (t := 9) (s := ⟨X.toArray⟩) Tryd.underlying9 .i64 (a : Int) (by omega) (by rw [ba_len]; omega)
  rw [Int.toNat_natCast, ba_len, ext_mid X a X.length (Nat.le_refl _), List.take_length] at this
  exact this
theorem ba_get (s : Bs) (j : Nat) (h : j < s.length) : (ByteArray.mk s.toArray)[j]? = some (s.getD j 0) := by
  show (s.toArray)[j]? = _
  simp [h]
theorem inner_take_succ (s : Bs) (k : Nat) (hk : k < s.length) : inner (s.take (k + 1)) = inner (s.take k) ++ one (s.getD k 0) := by
  rw [List.take_succ_eq_append_getElem hk, inner_append]
  have e : s.getD k 0 = s[k] := by simp [List.getD, hk]
  rw [e]
  simp [inner]
theorem inner_plain : ∀ p : Bs, (∀ b ∈ p, ins b = []) → inner p = p
  | [], _ => rfl
  | b :: p, h => by
    rw [inner_cons, inner_plain p (fun c hc => h c (by simp [hc])), one, if_pos (h b (by simp))]
    rfl
theorem inner_take_le (s : Bs) (k : Nat) : (inner (s.take k)).length ≤ (inner s).length := by
  have := congrArg inner (List.take_append_drop k s).symm
  rw [inner_append] at this
  have := congrArg List.length this
  rw [List.length_append] at this
  omega
theorem ins_len : ∀ c : UInt8, (ins c).length ≤ 6 := all_u8 (by decide +kernel)
/-- Between two rounds. -/
structure Qs (B b : Nat) (l s : Bs) (w : World) (k fr : Nat) (wr : World) : Prop where
  fk : fr ≤ k
  kl : k ≤ s.length
  pl : ∀ c ∈ (s.take k).drop fr, ins c = []
  pr : Pr B b (l ++ 34 :: inner (s.take fr)) wr
  le : (l ++ 34 :: inner (s.take fr)).length ≤ 4000
  be : Below B w wr
  ok : OthersKept 5 (some b) w wr
theorem Pr.drew {B b : Nat} {l : Bs} {w : World} (h : Pr B b l w) (q : Nat) : Pr B b l (w.drewN q) := by
  induction q generalizing w with
  | zero => exact h
  | succ q ih => exact ih (by rcases h with h | h; exact .inl h.drew; exact .inr h.drew)
theorem below_drewNq {B : Nat} {a w : World} (h : Below B a w) : ∀ q, Below B a (w.drewN q)
  | 0 => h
  | q + 1 => (below_drewNq h q).drew
theorem kept_drewN {b : Nat} {a w : World} (h : OthersKept 5 (some b) a w) : ∀ q, OthersKept 5 (some b) a (w.drewN q)
  | 0 => h
  | q + 1 => (kept_drewN h q).drew
set_option maxHeartbeats 8000000 in
set_option maxRecDepth 20000 in
theorem quoted_any (B b : Nat) (l s : Bs) (w : World) (h : Pr B b l w) (hB : B ≤ w.heap.size) (hs : s.length ≤ 9223372036854775807) (hl : l.length ≤ 4000) :
    Calls Tryd.prog 25 #[.pointer (some ⟨b, 0, none⟩), S s] w (PrO B b l (quo s) w) := by
  have H1 := hide (put_any B b l [34] w h hB (by decide) hl)
  have hq : (quo s).length = (inner s).length + 2 := by simp [quo]
  have HB := hide hB
  clear h hB
  go_enter Tryd.func25, Tryd.ntmps25
  go_wp2_with fail
  refine (unhide H1).mono ?_
  rintro e w1 hp
  rcases hp.cases with ⟨hf, rfl, g1, g2, g3⟩ | ⟨hf, rfl, g2⟩
  · have HQ := hide (show Qs B b l s w 0 0 w1 from ⟨Nat.le_refl _, by omega, by simp, by simpa [inner] using g1, by simpa [inner] using hf, g2, g3⟩)
    clear g1 g2 g3 hp H1 hf
    go_wp2_with fail
    go_loopw [4, 11] (fun f9 i9 wr => ∃ k fr : Nat, i9 = .int .i64 k ∧ f9 = .int .i64 fr ∧ Qs B b l s w k fr wr) (fun _ i9 _ => s.length - (Go.RowKit.intOf i9).toNat)
    case atStart => exact ⟨0, 0, rfl, rfl, unhide HQ⟩
    case round =>
      clear HQ
      obtain ⟨k, fr, rfl, rfl, hqs⟩ := hrel
      by_cases hlt : k < s.length
      · have hlt' : (k : Int) < (s.length : Int) := by omega
        have hsz : k < (ByteArray.mk s.toArray).size := by rw [ba_len]; exact hlt
        obtain ⟨c, hc⟩ : ∃ c, s.getD k 0 = c := ⟨_, rfl⟩
        have hg : (ByteArray.mk s.toArray)[k]'hsz = c := by
          show (s.toArray)[k]'_ = c
          rw [← hc]
          simp [List.getD, hlt]
        have HI := hide (fun W => instead_any c W)
        have HQ := hide hqs
        have HC := hide hc
        clear hqs hc
        go_wp2_with fail
        refine (unhide HI wr).mono ?_
        rintro e w2 ⟨rfl, q, rfl⟩
        have hqs := unhide HQ
        have hqs2 : Qs B b l s w k fr (wr.drewN q) := ⟨hqs.fk, hqs.kl, hqs.pl, hqs.pr.drew q, hqs.le, below_drewNq hqs.be q, kept_drewN hqs.ok q⟩
        generalize wr.drewN q = w2 at *
        have hfk := hqs.fk
        have hle := hqs.le
        clear hqs HQ HI
        by_cases hi : ins c = []
        · rw [hi]
          have HQ2 := hide hqs2
          clear hqs2
          go_wp2_with fail
          go_roundw
          case rel =>
            have h9 := unhide HQ2
            refine ⟨k + 1, fr, by go_num, rfl, by omega, hlt, ?_, h9.pr, h9.le, h9.be, h9.ok⟩
            intro x hx
            rw [List.take_succ_eq_append_getElem hlt, List.drop_append_of_le_length (by simp; omega)] at hx
            rcases List.mem_append.1 hx with hx | hx
            · exact h9.pl x hx
            · have e : s.getD k 0 = s[k] := by simp [List.getD, hlt]
              rw [List.mem_singleton, ← e, unhide HC] at hx
              rw [hx]
              exact hi
          case measure => simp [Go.RowKit.intOf]; omega
        · have hne : (!List.isEmpty (ins c)) = true := by
            cases hh : ins c with
            | nil => exact absurd hh hi
            | cons a t => rfl
          have hpl : inner ((s.take k).drop fr) = (s.take k).drop fr := inner_plain _ hqs2.pl
          have hsum : inner (s.take (k + 1)) = inner (s.take fr) ++ ((s.take k).drop fr ++ ins c) := by
            rw [inner_take_succ s k hlt, unhide HC, one, if_neg hi]
            have e : inner (s.take k) = inner (s.take fr) ++ inner ((s.take k).drop fr) := by
              have := congrArg inner (List.take_append_drop fr (s.take k))
              rw [List.take_take, Nat.min_eq_left hfk, inner_append] at this
              exact this.symm
            rw [e, hpl, List.append_assoc]
          have htot := inner_take_le s (k + 1)
          rw [hsum] at htot
          simp only [List.length_append] at htot
          have HP := hide (put_any B b _ ((s.take k).drop fr) w2 hqs2.pr (by have := hqs2.be.size; have := unhide HB; omega) (by simp; omega) hle)
          have hcl := ins_len c
          have HQ2 := hide hqs2
          have HS := hide hsum
          have hsl := fun W => s_mid s fr k W hfk (by omega)
          clear hqs2 hpl hsum hi
          go_wp2_with fail
          refine (unhide HP).mono ?_
          rintro e w3 hp
          rcases hp.cases with ⟨hf, rfl, g1, g2, g3⟩ | ⟨hf, rfl, g2⟩
          · have HP2 := hide (put_any B b _ (ins c) w3 g1 (by have := g2.size; have := (unhide HQ2).be.size; have := unhide HB; omega) (by omega) (by rw [List.length_append]; omega))
            have HB3 := hide ((unhide HQ2).be.trans g2)
            have HK3 := hide ((unhide HQ2).ok.trans g3)
            clear g1 g2 g3 hp HP
            go_wp2_with fail
            refine (unhide HP2).mono ?_
            rintro e w4 hp
            rcases hp.cases with ⟨hf2, rfl, g1, g2, g3⟩ | ⟨hf2, rfl, g2⟩
            · have HQ4 := hide (show Qs B b l s w (k + 1) (k + 1) w4 from ⟨Nat.le_refl _, hlt, by simp, by
                rw [unhide HS]
                simpa [List.append_assoc] using g1, by
                rw [unhide HS]
                rw [List.length_append, List.length_append] at hf2
                simp only [List.length_append, List.length_cons] at hf2 ⊢
                omega, (unhide HB3).trans g2, (unhide HK3).trans g3⟩)
              clear g1 g2 g3 hp HP2
              go_wp2_with fail
              go_roundw
              case rel => exact ⟨k + 1, k + 1, by go_num, by go_num, unhide HQ4⟩
              case measure => simp [Go.RowKit.intOf]; omega
            · go_wp2_with fail
              refine ⟨rfl, PrO.bad ?_ ⟨rfl, (unhide HB3).trans g2⟩⟩
              rw [hq]
              simp only [List.length_append, List.length_cons] at hf2
              omega
          · go_wp2_with fail
            refine ⟨rfl, PrO.bad ?_ ⟨rfl, (unhide HQ2).be.trans g2⟩⟩
            rw [hq]
            simp only [List.length_append, List.length_cons] at hf
            omega
      · have hkl := hqs.kl
        obtain rfl : k = s.length := by omega
        have hfk := hqs.fk
        have hle := hqs.le
        have hpl : inner (s.drop fr) = s.drop fr := inner_plain _ (by have := hqs.pl; rwa [List.take_length] at this)
        have hsum : inner s = inner (s.take fr) ++ s.drop fr := by
          have := congrArg inner (List.take_append_drop fr s).symm
          rw [inner_append, hpl] at this
          exact this
        have HP := hide (put_any B b _ (s.drop fr) wr hqs.pr (by have := hqs.be.size; have := unhide HB; omega) (by simp; omega) hle)
        have HQ2 := hide hqs
        have HS := hide hsum
        have hsl := fun W => s_from s fr W (by omega)
        have hlen := congrArg List.length hsum
        rw [List.length_append] at hlen
        clear hqs hpl hsum hlt
        go_wp2_with fail
        refine (unhide HP).mono ?_
        rintro e w3 hp
        rcases hp.cases with ⟨hf, rfl, g1, g2, g3⟩ | ⟨hf, rfl, g2⟩
        · have HP2 := hide (put_any B b _ [34] w3 g1 (by have := g2.size; have := (unhide HQ2).be.size; have := unhide HB; omega) (by decide) (by rw [List.length_append]; omega))
          have HB3 := hide ((unhide HQ2).be.trans g2)
          have HK3 := hide ((unhide HQ2).ok.trans g3)
          clear g1 g2 g3 hp HP
          go_wp2_with fail
          refine (unhide HP2).mono ?_
          rintro e w4 hp
          rcases hp.cases with ⟨hf2, rfl, g1, g2, g3⟩ | ⟨hf2, rfl, g2⟩
          · go_wp2_with fail
            go_end0
            refine PrO.ok (by rw [hq]; simp only [List.length_append, List.length_cons, List.length_nil] at hf2; omega) ⟨rfl, ?_, (unhide HB3).trans g2, (unhide HK3).trans g3⟩
            have : l ++ quo s = l ++ 34 :: inner (s.take fr) ++ s.drop fr ++ [34] := by
              unfold quo
              rw [unhide HS]
              simp
            rw [this]
            exact g1
          · go_wp2_with fail
            refine ⟨rfl, PrO.bad ?_ ⟨rfl, (unhide HB3).trans g2⟩⟩
            rw [hq]
            simp only [List.length_append, List.length_cons, List.length_nil] at hf2
            omega
        · go_wp2_with fail
          refine ⟨rfl, PrO.bad ?_ ⟨rfl, (unhide HQ2).be.trans g2⟩⟩
          rw [hq]
          simp only [List.length_append, List.length_cons] at hf
          omega
  · go_wp2_with fail
    exact ⟨rfl, PrO.bad (by rw [hq]; simp at hf; omega) ⟨rfl, g2⟩⟩
end Go.Proofs.YtfaahjbkdlkmjaaDoor
