import PyProof.Rows.All
import Wide.All
import OpenK.AllK
import Wide.FinOn
import HandS.ForMost
import HandS.Wide
import HandS.Codes
import HandS.Conv
import HandS.SortInts
import KE.KDictSum
import PyProof.ReprRoads
import HandS.DictComp
import HandS.Walk
import HandS.IsInst
import HandS.Exc
import HandS.TryOnly
import HandS.ExcOwn
import HandS.WordsExc
import HandS.FStr
import KE.KExcSuper
import HandS.ExcInit
import HandS.Nested
import KE.DataAny
import HandS.Lambda
import HandS.Keys
import HandS.SortOrd
import KE.KSortTup
import HandS.SortKw
import HandS.TupAny
import HandS.TupLen
import HandS.Iter
import KE.KDictWalk
import KE.KDictCopyH
import PyProof.Rows.TupDisplay
import PyProof.EnumMake
import PyProof.EnumFor
import PyProof.Draws
import KE.GoesMore
import HandS.Style
import PyProof.ReprBulk
import PyProof.Rows.ReprShort
import HandS.RaiseMore
import HandS.ExcField
import HandS.ExcIs
import KE.KExcIs
import HandS.EndTab
import HandS.EndOwn
import PySem.Challenge.RW_leftproducts_k03_frames_of_letters_that
set_option Elab.async false
set_option linter.all false
set_option maxRecDepth 100000
set_option maxHeartbeats 4000000
namespace Lp
open PySem L2
def top (i : Nat) : Stmt := PySem.Challenge.pw_leftproducts_k03_frames_of_letters_that.main.body.getD i (.Pass ⟨0, 0, 0, 0⟩)
/-- readings, opened to plain logic -/
local macro_rules | `(tactic| walk_at "rd") => `(tactic| simp only [tSeq, tAsg, tYes, tTest, tOp, tCB, tCons, tNil, tVar, tC, rI0, rI, gName, wipe, tDisp, tPairs, tRet, tIf, tIfS, tPar, tLst, tTup, tDrop, tDGet, tCall, sDPut, L2.start,
  List.map_cons, List.map_nil, List.foldl_cons, List.foldl_nil, List.length_cons, List.length_nil, List.replicate_succ, List.replicate_zero, List.append_nil, List.cons_append, List.nil_append, List.set_cons_zero, List.set_cons_succ, List.getElem?_cons_zero, List.getElem?_cons_succ,
  Option.some.injEq, List.cons.injEq, V.int.injEq, V.bl.injEq, V.ref.injEq, V.str.injEq, exists_eq_left', exists_eq_left, exists_eq_right, and_true, true_and, exists_and_left, Nat.add_zero, Nat.reduceAdd, Nat.reduceSub, Nat.sub_zero, if_true, if_false])
/-- what stood stands, but at d and l -/
def But (d l : Addr) (H H' : Hp) : Prop := ∀ b o, H b = some o → b ≠ d → b ≠ l → H' b = some o
theorem But.refl {d l : Addr} {H : Hp} : But d l H H := fun _ _ h _ _ => h
theorem But.trans {d l : Addr} {H H1 H2 : Hp} (a : But d l H H1) (b : But d l H1 H2) : But d l H H2 := fun c o h n m => b c o (a c o h n m) n m
theorem But.of {d l : Addr} {H H' : Hp} (s : Same H H') : But d l H H' := fun b o h _ _ => s b o h
theorem But.new {d l p : Addr} {H H' : Hp} {o : HO} (a : But d l H H') (n : H' p = none) : But d l H (upd H' p o) := fun b u h x y => by
  rw [upd_ne (ne_of_none (a b u h x y) n)]
  exact a b u h x y
theorem But.d {d l : Addr} {H H' : Hp} {o : HO} (a : But d l H H') : But d l H (upd H' d o) := fun b u h x y => by
  rw [upd_ne x]
  exact a b u h x y
theorem But.l {d l : Addr} {H H' : Hp} {o : HO} (a : But d l H H') : But d l H (upd H' l o) := fun b u h x y => by
  rw [upd_ne y]
  exact a b u h x y
theorem same_new {H : Hp} {p : Addr} {o : HO} (h : H p = none) : Same H (upd H p o) := fun b u e => by
  rw [upd_ne (ne_of_none e h)]
  exact e
/-- the draw's dict -/
def dKv (l c : Addr) (rest turn : Int) : List (Key × V) :=
  [(.inr "large", .ref l), (.inr "rest", .int rest), (.inr "cells", .ref c), (.inr "turn", .int turn)]
theorem get_large {H : Hp} {d l c : Addr} {r t : Int} (h : H d = some (.dK (dKv l c r t))) : DGet H d (.str "large") (some (.ref l)) := DGet.k (k := .inr "large") h
theorem get_rest {H : Hp} {d l c : Addr} {r t : Int} (h : H d = some (.dK (dKv l c r t))) : DGet H d (.str "rest") (some (.int r)) := DGet.k (k := .inr "rest") h
theorem get_cells {H : Hp} {d l c : Addr} {r t : Int} (h : H d = some (.dK (dKv l c r t))) : DGet H d (.str "cells") (some (.ref c)) := DGet.k (k := .inr "cells") h
theorem get_turn {H : Hp} {d l c : Addr} {r t : Int} (h : H d = some (.dK (dKv l c r t))) : DGet H d (.str "turn") (some (.int t)) := DGet.k (k := .inr "turn") h
theorem put_rest {H : Hp} {d l c : Addr} {r t z : Int} (h : H d = some (.dK (dKv l c r t))) : DPut H d (.str "rest") (.int z) (upd H d (.dK (dKv l c z t))) := DPut.k (k := .inr "rest") h (by show 4 < sizeLine; decide)
theorem put_turn {H : Hp} {d l c : Addr} {r t z : Int} (h : H d = some (.dK (dKv l c r t))) : DPut H d (.str "turn") (.int z) (upd H d (.dK (dKv l c r z))) := DPut.k (k := .inr "turn") h (by show 4 < sizeLine; decide)
structure DrawIn (H : Hp) (d l c : Addr) : Prop where
  lc : l ≠ c
  dd : ∃ rest turn, H d = some (.dK (dKv l c rest turn))
  ll : ∃ ns : List Int, H l = some (.lst (ns.map V.int)) ∧ ns.length ≤ 63
  cc : ∃ ns : List Int, H c = some (.lst (ns.map V.int)) ∧ ns.length ≤ 63
theorem DrawIn.dl {H : Hp} {d l c : Addr} (D : DrawIn H d l c) : d ≠ l := by
  obtain ⟨r, t, h⟩ := D.dd
  obtain ⟨ns, h', _⟩ := D.ll
  exact ne_of h h' (fun z => nomatch z)
theorem DrawIn.dc {H : Hp} {d l c : Addr} (D : DrawIn H d l c) : d ≠ c := by
  obtain ⟨r, t, h⟩ := D.dd
  obtain ⟨ns, h', _⟩ := D.cc
  exact ne_of h h' (fun z => nomatch z)
theorem DrawIn.same {H H' : Hp} {d l c : Addr} (D : DrawIn H d l c) (s : Same H H') : DrawIn H' d l c := by
  obtain ⟨r, t, h⟩ := D.dd
  obtain ⟨ns, h1, z1⟩ := D.ll
  obtain ⟨ms, h2, z2⟩ := D.cc
  exact ⟨D.lc, ⟨r, t, s _ _ h⟩, ⟨ns, s _ _ h1, z1⟩, ⟨ms, s _ _ h2, z2⟩⟩
theorem int_at {ns : List Int} {i : Nat} {y : V} (h : (ns.map V.int)[i]? = some y) : ∃ z, ns[i]? = some z ∧ y = V.int z := by
  rw [List.getElem?_map] at h
  cases e : ns[i]? with
  | none => rw [e] at h; cases h
  | some z => rw [e] at h; exact ⟨z, rfl, (Option.some.inj h).symm⟩
/-! ### _law_begun -/
abbrev sBegun : Stmt := top 42
def spBegun (K : PySem.W.Frag) : Sp := fun vs H Q _ => ∃ (a : Addr) (ns : List Int), vs = [.ref a] ∧ SqL K H a (ns.map V.int) ∧ ns.length ≤ 63 ∧
  ∀ H' d l c, DrawIn H' d l c → Same H H' → H d = none → H l = none → H c = none → Q (.ref d) H'
section
variable {P : Program} {w : World} {K : PySem.W.Frag} {mg : Str → Option Value} {base : Heap}
theorem scBegun : FnScope ["script", "large", "grain"] ["script"] (defScope sBegun) := ⟨rfl, rfl, rfl, by decide +kernel, rfl, by decide +kernel, by decide +kernel⟩
theorem ok_begun {f : Addr} {fd : FuncData} (F : Fun K "_law_begun" "_law_begun" sBegun f fd) (mAbs : mg "abs" = none) : FnOk P w K mg base CX0 1 f fd ["script"] (spBegun K) := by
  refine F.ok scBegun (fun vs H Q E h => ?_) (fun cdv A outer s H vs Q E hr h => ?_)
  · obtain ⟨a, ns, rfl, _⟩ := h
    rfl
  · obtain ⟨a, ns, rfl, hS, hlen, k⟩ := h
    have hu := hu_of hr
    refine ⟨_, pss_cons (ps_setLc (i := 1) (own := [("grain", 2)]) (g := gName 2) rfl scBegun.nd rfl rfl (sw_true rfl rfl rfl (by decide +kernel)) (pi_list (pv 0)) (blkOk_by (N := ["script", "large", "grain"]) (sc := defScope sBegun) (by decide +kernel))
        (fun _ _ _ _ _ => pg_name (i := 2) scBegun.nd rfl (Or.inl rfl)) (fun _ _ _ _ _ => pts_one (pt_cmpR op_ge (pe_callB call_abs (by rfl) mAbs (by decide +kernel) (pa_cons (pv 2) pa_nil)) (pe_op op_pow pe_int pe_int) (nomark _)))
        (fun _ _ _ _ _ => pe_op op_sub (pe_callB call_abs (by rfl) mAbs (by decide +kernel) (pa_cons (pv 2) pa_nil)) (pe_op op_pow pe_int pe_int)))
      (pss_one (ps_ret (pe_disp (pps_cons pe_str (pv 1) (pps_cons pe_str pe_int (pps_cons pe_str (pe_lc (own := [("grain", 2)]) (g := gName 2) (tt := tYes) rfl scBegun.nd (pi_list (pv 0)) (blkOk_by (N := ["script", "large", "grain"]) (sc := defScope sBegun) (by decide +kernel)) (fun _ _ _ _ _ => pg_name (i := 2) scBegun.nd rfl (Or.inl rfl)) (fun _ _ _ _ _ => pts_nil) (fun _ _ _ _ _ => pe_callB call_abs (by rfl) mAbs (by decide +kernel) (pa_cons (pv 2) pa_nil))) (pps_cons pe_str pe_int pps_nil))))
        (by rfl) (by rfl) (by simp) (by decide)))), ?_⟩
    simp only [tSeq, tAsg, tLc, iList, tVar]
    refine ⟨_, rfl, a, rfl, ⟨_, hS⟩, fun l hl => lc_list (K := K) (a := a) (xs := ns.map V.int) (fun i H' => ∃ xs : List Int, H' = upd H l (.lst (xs.map V.int)) ∧ xs.length ≤ i)
      ⟨[], rfl, Nat.le_refl _⟩ ?_ ?_ ?_⟩
    · rintro i H' _ ⟨xs, rfl, _⟩
      exact (same_new hl).seq hS
    · rintro i y H' hi ⟨xs, rfl, hx⟩
      obtain ⟨z, hz, rfl⟩ := int_at hi
      have hil : i < ns.length := (List.getElem?_eq_some_iff.mp hz).1
      walk_at "rd"
      have cp : CPow 10 18 := ⟨by decide, by decide, by decide⟩
      refine ⟨cp, ite2 (fun _ => ⟨cp, _, upd_same, by rw [List.length_map]; exact small1000 (by omega), xs ++ [(if z < 0 then -z else z) - 10 ^ Int.toNat 18], ?_, by simp; omega⟩) fun _ => ⟨xs, rfl, by omega⟩⟩
      rw [upd_upd, List.map_append]
      rfl
    · rintro H1 ⟨xs, rfl, hx⟩
      rw [List.length_map] at hx
      walk_at "rd"
      intro d hd
      have s1 : Same H (upd (upd H l (.lst (xs.map V.int))) d (.dK [])) := (same_new hl).trans (same_new hd)
      simp only [tLc]
      refine ⟨_, rfl, a, rfl, ⟨_, s1.seq hS⟩, fun c hc => lc_list (K := K) (a := a) (xs := ns.map V.int) (fun i H' => ∃ ys : List Int, H' = upd (upd (upd H l (.lst (xs.map V.int))) d (.dK [])) c (.lst (ys.map V.int)) ∧ ys.length ≤ i)
        ⟨[], rfl, Nat.le_refl _⟩ ?_ ?_ ?_⟩
      · rintro i H' _ ⟨ys, rfl, _⟩
        exact (s1.trans (same_new hc)).seq hS
      · rintro i y H' hi ⟨ys, rfl, hy⟩
        obtain ⟨z, hz, rfl⟩ := int_at hi
        have hil : i < ns.length := (List.getElem?_eq_some_iff.mp hz).1
        walk_at "rd"
        refine ⟨_, upd_same, by rw [List.length_map]; exact small1000 (by omega), ys ++ [if z < 0 then -z else z], ?_, by simp; omega⟩
        rw [upd_upd, List.map_append]
        rfl
      · rintro H1 ⟨ys, rfl, hy⟩
        rw [List.length_map] at hy
        have ndl : d ≠ l := fun e => by rw [e, upd_same] at hd; cases hd
        have ncd : c ≠ d := fun e => by rw [e, upd_same] at hc; cases hc
        have ncl : c ≠ l := fun e => by rw [e, upd_ne (Ne.symm ndl), upd_same] at hc; cases hc
        rw [upd_ne ndl] at hd
        rw [upd_ne ncd, upd_ne ncl] at hc
        refine ⟨by rw [upd_ne (Ne.symm ncd)]; exact upd_same, dKv l c 0 0, rfl, by show 4 ≤ 15; decide, k _ d l c ⟨Ne.symm ncl, ⟨0, 0, ?_⟩, ⟨xs, ?_, by omega⟩, ⟨ys, ?_, by omega⟩⟩ ?_ hd hl hc⟩
        · rw [upd_same]
          rfl
        · rw [upd_ne (Ne.symm ndl), upd_ne (Ne.symm ncl), upd_ne (Ne.symm ndl)]
          exact upd_same
        · rw [upd_ne ncd]
          exact upd_same
        · intro b o e
          rw [upd_ne (ne_of_none e hd), upd_ne (ne_of_none e hc), upd_ne (ne_of_none e hd), upd_ne (ne_of_none e hl)]
          exact e
end
/-! ### _law_mixed -/
abbrev sMixed : Stmt := top 43
def spMixed : Sp := fun vs H Q _ => ∃ (d l c : Addr), vs = [.ref d] ∧ DrawIn H d l c ∧ ∀ H' v, DrawIn H' d l c → But d l H H' → (∀ x, H l = some x → H' l = some x) → Q (.int v) H'
theorem three_at {i : Nat} {x : V} (h : ([.int 2147483629, .int 2147483587, .int 2147483579] : List V)[i]? = some x) : ∃ g : Int, x = .int g ∧ 0 < g ∧ g < 2 ^ 31 := by
  match i, h with
  | 0, h => cases h; exact ⟨_, rfl, by decide, by decide⟩
  | 1, h => cases h; exact ⟨_, rfl, by decide, by decide⟩
  | 2, h => cases h; exact ⟨_, rfl, by decide, by decide⟩
  | n + 3, h => cases h
theorem fmod_in {a g : Int} (h : 0 < g) : 0 ≤ a.fmod g ∧ a.fmod g < g := ⟨Int.fmod_nonneg_of_pos a h, Int.fmod_lt_of_pos a h⟩
section
variable {P : Program} {w : World} {K : PySem.W.Frag} {mg : Str → Option Value} {base : Heap}
theorem scMixed : FnScope ["draw", "turn", "found", "great", "blend", "grain"] ["draw"] (defScope sMixed) := ⟨rfl, rfl, rfl, by decide +kernel, rfl, by decide +kernel, by decide +kernel⟩
theorem ok_mixed {f : Addr} {fd : FuncData} (F : Fun K "_law_mixed" "_law_mixed" sMixed f fd) (mInt : mg "int" = none) : FnOk P w K mg base CX0 1 f fd ["draw"] spMixed := by
  refine F.ok scMixed (fun vs H Q E h => ?_) (fun cdv A outer s H vs Q E hr h => ?_)
  · obtain ⟨d, l, c, rfl, _⟩ := h
    rfl
  · obtain ⟨d, l, c, rfl, D, k⟩ := h
    have hu := hu_of hr
    refine ⟨_, pss_cons (ps_dput hu (pv 0) pe_str (pe_op op_add (pe_dget hu (pv 0) pe_str (fun _ _ => rfl)) pe_int) rfl)
      (pss_cons (ps_par (i := 1) (j := 2) (by rfl) scMixed.nd rfl rfl (by decide) rfl rfl (pa_cons (pe_callTy call_int1 (by rfl) mInt (by decide +kernel) (pa_cons (pe_dget hu (pv 0) pe_str (fun _ _ => rfl)) pa_nil)) (pa_cons pe_int pa_nil)) (by rfl))
      (pss_cons (ps_for PassesOwn.never rfl (pi_list (pe_lst (pa_cons pe_int (pa_cons pe_int (pa_cons pe_int pa_nil))))) (pg_name (i := 3) scMixed.nd rfl (Or.inl rfl))
        (pss_cons (ps_set (i := 4) scMixed.nd rfl (Or.inl rfl) (pe_op op_modN (pe_op op_add (pe_op op_mul (pv 1) pe_int) (pe_op op_fdivN (pv 3) pe_int)) (pv 3)))
        (pss_cons (ps_for PassesOwn.never rfl (pi_list (pe_dget hu (pv 0) pe_str (fun _ _ => rfl))) (pg_name (i := 5) scMixed.nd rfl (Or.inl rfl))
          (pss_one (ps_set (i := 4) scMixed.nd rfl (Or.inl rfl) (pe_op op_modN (pe_op op_add (pe_op op_mul (pv 4) pe_int) (pe_callTy call_int1 (by rfl) mInt (by decide +kernel) (pa_cons (pv 5) pa_nil))) (pv 3)))))
        (pss_one (ps_set (i := 2) scMixed.nd rfl (Or.inl rfl) (pe_op op_add (pe_op op_mul (pv 2) pe_int) (pe_op op_modN (pe_op op_pow (pv 4) pe_int) (pv 3))))))))
      (pss_one (ps_ret (pv 2))))), ?_⟩
    obtain ⟨rest, turn, hd⟩ := D.dd
    obtain ⟨ls, hl, zl⟩ := D.ll
    obtain ⟨cs, hc, zc⟩ := D.cc
    have hd1 : (upd H d (.dK (dKv l c rest (turn + 1)))) d = some (.dK (dKv l c rest (turn + 1))) := upd_same
    refine ⟨_, rfl, d, _, rfl, get_turn hd, _, _, rfl, rfl, _, rfl, d, _, rfl, put_turn hd, ?_⟩
    refine ⟨_, rfl, d, _, rfl, get_turn hd1, .inl ⟨_, rfl, _, _, rfl, ?_⟩⟩
    refine ⟨by show 3 ≤ sizeLine; decide, fun p hp => ⟨p, rfl, ⟨_, SqL.of upd_same⟩, for_list (K := K) (a := p) (xs := [.int 2147483629, .int 2147483587, .int 2147483579])
      (fun i σ H' => ∃ (fo : Int) (v3 v4 v5 : Option V), σ = [some (.ref d), some (.int (turn + 1)), some (.int fo), v3, v4, v5] ∧ H' = upd (upd H d (.dK (dKv l c rest (turn + 1)))) p (.lst [.int 2147483629, .int 2147483587, .int 2147483579]))
      ⟨0, none, none, none, rfl, rfl⟩ (fun i σ H' _ ⟨_, _, _, _, _, e⟩ => by rw [e]; exact SqL.of upd_same) ?_ ?_⟩⟩
    · rintro i x σ H' hi ⟨fo, v3, v4, v5, rfl, rfl⟩
      obtain ⟨g, rfl, g0, g1⟩ := three_at hi
      have ne : g ≠ 0 := by omega
      have npd : p ≠ d := fun e => by rw [e, upd_same] at hp; cases hp
      rw [upd_ne npd] at hp
      have hcp : (upd (upd H d (.dK (dKv l c rest (turn + 1)))) p (.lst [.int 2147483629, .int 2147483587, .int 2147483579])) c = some (.lst (cs.map V.int)) := by
        rw [upd_ne (ne_of_none hc hp), upd_ne (Ne.symm D.dc)]
        exact hc
      have hdp : (upd (upd H d (.dK (dKv l c rest (turn + 1)))) p (.lst [.int 2147483629, .int 2147483587, .int 2147483579])) d = some (.dK (dKv l c rest (turn + 1))) := by
        rw [upd_ne (Ne.symm npd)]
        exact upd_same
      refine ⟨_, rfl, _, _, rfl, rfl, .inr ⟨by decide, by decide⟩, _, rfl, _, _, rfl, rfl, ⟨by decide, by decide⟩, _, _, rfl, rfl, _, rfl, _, _, rfl, rfl, ne, ?_⟩
      refine ⟨_, rfl, d, _, rfl, get_cells hdp, c, rfl, ⟨_, SqL.of hcp⟩, for_list (K := K) (a := c) (xs := cs.map V.int)
        (fun i σ H' => ∃ (b : Int) (v5 : Option V), σ = [some (.ref d), some (.int (turn + 1)), some (.int fo), some (.int g), some (.int b), v5] ∧ (0 ≤ b ∧ b < g) ∧ H' = upd (upd H d (.dK (dKv l c rest (turn + 1)))) p (.lst [.int 2147483629, .int 2147483587, .int 2147483579]))
        ⟨_, v5, rfl, fmod_in g0, rfl⟩ (fun i σ H' _ ⟨_, _, _, _, e⟩ => by rw [e]; exact SqL.of hcp) ?_ ?_⟩
      · rintro j y σ H' hj ⟨b, v5, rfl, hb, rfl⟩
        obtain ⟨z, _, rfl⟩ := int_at hj
        exact ⟨_, rfl, _, _, rfl, rfl, .inr ⟨by decide, by decide⟩, _, rfl, .inl ⟨_, rfl, _, _, rfl, rfl, _, rfl, _, _, rfl, rfl, ne, _, _, rfl, fmod_in g0, rfl⟩⟩
      · rintro σ H' ⟨b, v5, rfl, hb, rfl⟩
        exact ⟨_, rfl, _, _, rfl, rfl, .inr ⟨by decide, by decide⟩, _, rfl, _, _, rfl, rfl, ⟨by decide, by decide, by omega⟩, _, rfl, _, _, rfl, rfl, ne, _, _, rfl, rfl, _, _, _, _, rfl, rfl⟩
    · rintro σ H' ⟨fo, v3, v4, v5, rfl, rfl⟩
      have npd : p ≠ d := fun e => by rw [e, upd_same] at hp; cases hp
      rw [upd_ne npd] at hp
      have e1 : ∀ b o, H b = some o → b ≠ d → (upd (upd H d (.dK (dKv l c rest (turn + 1)))) p (.lst [.int 2147483629, .int 2147483587, .int 2147483579])) b = some o := fun b o h n => by
        rw [upd_ne (ne_of_none h hp), upd_ne n]
        exact h
      refine ⟨_, rfl, k _ fo ⟨D.lc, ⟨rest, turn + 1, by rw [upd_ne (Ne.symm npd)]; exact upd_same⟩, ⟨ls, e1 _ _ hl (Ne.symm D.dl), zl⟩, ⟨cs, e1 _ _ hc (Ne.symm D.dc), zc⟩⟩ (fun b o h n _ => e1 b o h n) (fun x h => e1 _ _ h (Ne.symm D.dl))⟩
end
end Lp
namespace Lp
open PySem L2
/-! ### _law_take -/
abbrev sTake : Stmt := top 44
def spTake : Sp := fun vs H Q _ => ∃ (d l c : Addr) (n : Int), vs = [.ref d, .int n] ∧ DrawIn H d l c ∧ (0 < n ∧ n < 2 ^ 30) ∧ ∀ H' v, (0 ≤ v ∧ v < n) → DrawIn H' d l c → But d l H H' → Q (.int v) H'
theorem dpInts {K : PySem.W.Frag} {H : Hp} : ∀ ns : List Int, DpAll K H (ns.map V.int) (ns.map PyData.int)
  | [] => .nil
  | n :: ns => .cons (.int n) (dpInts ns)
theorem canInts : ∀ ns : List Int, PyData.canLayAll0 (ns.map PyData.int) = true
  | [] => rfl
  | n :: ns => by
    have := canInts ns
    simp [PyData.canLayAll0, PyData.canLay0, this]
theorem depInts : ∀ ns : List Int, PyData.depthAll (ns.map PyData.int) = 0
  | [] => rfl
  | n :: ns => by
    have := depInts ns
    simp [PyData.depthAll, PyData.depth, this]
theorem shInts (ns : List Int) : SeqAt.shaped (.list (ns.map PyData.int)) = true := by
  simp [SeqAt.shaped, PyData.canLay0, PyData.depth, canInts, depInts]
section
variable {P : Program} {w : World} {K : PySem.W.Frag} {mg : Str → Option Value} {base : Heap}
theorem scTake : FnScope ["draw", "amount", "found"] ["draw", "amount"] (defScope sTake) := ⟨rfl, rfl, rfl, by decide +kernel, rfl, by decide +kernel, by decide +kernel⟩
theorem ok_take {f fm : Addr} {fd fdm : FuncData} (F : Fun K "_law_take" "_law_take" sTake f fd) (GM : FnOk P w K mg base CX0 1 fm fdm ["draw"] spMixed) (gM : mg "_law_mixed" = some (.ref fm)) (kM : PySem.W.keepIn K (.ref fm) = true) (bM : Binds K fdm ["draw"] [])
    (mInt : mg "int" = none) : FnOk P w K mg base CX0 2 f fd ["draw", "amount"] spTake := by
  refine F.ok scTake (fun vs H Q E h => ?_) (fun cdv A outer s H vs Q E hr h => ?_)
  · obtain ⟨d, l, c, n, rfl, _⟩ := h
    rfl
  · obtain ⟨d, l, c, n, rfl, D, ⟨n0, n1⟩, k⟩ := h
    have hu := hu_of hr
    refine ⟨_, C8.pss_cut (ps_if (pt_cmpR op_eq (pe_dget hu (pv 0) pe_str (fun _ _ => rfl)) pe_int (nomark _))
        (pss_one (ps_dput hu (pv 0) pe_str (pe_ifExp (pt_cmpR (op_neD hr.units) (pe_dget hu (pv 0) pe_str (fun _ _ => rfl)) (pe_lst pa_nil) (nomark _))
            (pe_bm PySem.F.plainAttrs_list PySem.F.slot_list_pop PySem.F.type_list_pop mt_popAt (pe_dget hu (pv 0) pe_str (fun _ _ => rfl)) (pa_cons pe_int pa_nil))
            (pe_call GM hr (by rfl) gM kM bM .nil pass0 (pa_cons (pv 0) pa_nil))) rfl)) pss_nil)
      (pss_cons (ps_set (i := 2) scTake.nd rfl (Or.inl rfl) (pe_op op_modN (pe_callTy call_int1 (by rfl) mInt (by decide +kernel) (pa_cons (pe_dget hu (pv 0) pe_str (fun _ _ => rfl)) pa_nil)) (pv 1)))
      (pss_cons (ps_dput hu (pv 0) pe_str (pe_op op_fdivN (pe_callTy call_int1 (by rfl) mInt (by decide +kernel) (pa_cons (pe_dget hu (pv 0) pe_str (fun _ _ => rfl)) pa_nil)) (pv 1)) rfl)
      (pss_one (ps_ret (pv 2))))), fun σ' H' => σ' = [some (.ref d), some (.int n), none] ∧ DrawIn H' d l c ∧ But d l H H', ?_, ?_⟩
    · obtain ⟨rest, turn, hd⟩ := D.dd
      obtain ⟨ls, hl, zl⟩ := D.ll
      refine ⟨_, rfl, d, _, rfl, get_rest hd, rfl, _, rfl, ite2 (fun _ => ?_) (fun _ => ⟨rfl, D, .refl⟩)⟩
      refine ⟨_, rfl, d, _, rfl, get_large hd, by show 0 ≤ sizeLine; decide, fun p hp => ?_⟩
      have s1 : Same H (upd H p (.lst [])) := same_new hp
      have D1 := D.same s1
      refine ⟨.list (ls.map PyData.int), .list [], .lst (SqL.of (s1 _ _ hl)) (dpInts ls), .lst (SqL.of upd_same) .nil, shInts ls, rfl, _, rfl, ?_⟩
      cases ls with
      | nil =>
        refine iteF ⟨_, rfl, d, l, c, rfl, D1, fun H2 v D2 b2 k2 => ?_⟩
        obtain ⟨r2, t2, hd2⟩ := D2.dd
        obtain ⟨ms, hl2, zl2⟩ := D2.ll
        obtain ⟨cs, hc2, zc2⟩ := D2.cc
        refine ⟨_, rfl, d, _, rfl, put_rest hd2, rfl, ⟨D.lc, ⟨_, _, upd_same⟩, ⟨ms, by rw [upd_ne (Ne.symm D.dl)]; exact hl2, zl2⟩, ⟨cs, by rw [upd_ne (Ne.symm D.dc)]; exact hc2, zc2⟩⟩, ((But.of s1).trans b2).d⟩
      | cons y ys =>
        obtain ⟨cs, hc, zc⟩ := D.cc
        refine iteT ⟨_, rfl, d, _, rfl, get_large (s1 _ _ hd), .inl ⟨rfl, _, SqL.of (s1 _ _ hl)⟩, l, _, 0, 0, _, rfl, rfl, s1 _ _ hl, by decide, by decide, ?_, rfl, ?_⟩
        · simp [seqIndex?]
        have hd2 : (upd (upd H p (.lst [])) l (.lst ((List.map V.int (y :: ys)).eraseIdx 0))) d = some (.dK (dKv l c rest turn)) := by
          rw [upd_ne D.dl]
          exact s1 _ _ hd
        refine ⟨_, rfl, d, _, rfl, put_rest hd2, rfl, ⟨D.lc, ⟨_, _, upd_same⟩, ⟨ys, ?_, by rw [List.length_cons] at zl; omega⟩, ⟨cs, ?_, zc⟩⟩, (But.of s1).l.d⟩
        · rw [upd_ne (Ne.symm D.dl), upd_same]
          rfl
        · rw [upd_ne (Ne.symm D.dc), upd_ne (Ne.symm D.lc)]
          exact s1 _ _ hc
    · rintro σ' H1 ⟨rfl, D1, b1⟩
      obtain ⟨rest, turn, hd⟩ := D1.dd
      obtain ⟨ls, hl, zl⟩ := D1.ll
      obtain ⟨cs, hc, zc⟩ := D1.cc
      have ne : n ≠ 0 := by omega
      refine ⟨_, rfl, d, _, rfl, get_rest hd, .inl ⟨_, rfl, _, rfl, _, _, rfl, rfl, ne, ?_⟩⟩
      refine ⟨_, rfl, d, _, rfl, get_rest hd, .inl ⟨_, rfl, _, rfl, _, _, rfl, rfl, ⟨ne, by omega⟩, ?_⟩⟩
      refine ⟨_, rfl, d, _, rfl, put_rest hd, _, rfl, k _ _ (fmod_in n0) ⟨D.lc, ⟨_, _, upd_same⟩, ⟨ls, by rw [upd_ne (Ne.symm D.dl)]; exact hl, zl⟩, ⟨cs, by rw [upd_ne (Ne.symm D.dc)]; exact hc, zc⟩⟩ b1.d⟩
/-! ### _law_pick -/
abbrev sPick : Stmt := top 45
def spPick : Sp := fun vs H Q _ => ∃ (d l c p : Addr) (xs : List V), vs = [.ref d, .ref p] ∧ DrawIn H d l c ∧ H p = some (.lst xs) ∧ p ≠ l ∧ (0 < xs.length ∧ xs.length < 2 ^ 30) ∧
  ∀ H' x, x ∈ xs → DrawIn H' d l c → But d l H H' → Q x H'
theorem scPick : FnScope ["draw", "some"] ["draw", "some"] (defScope sPick) := ⟨rfl, rfl, rfl, by decide +kernel, rfl, by decide +kernel, by decide +kernel⟩
theorem ok_pick {f fm : Addr} {fd fdm : FuncData} (F : Fun K "_law_pick" "_law_pick" sPick f fd) (GM : FnOk P w K mg base CX0 2 fm fdm ["draw", "amount"] spTake) (gM : mg "_law_take" = some (.ref fm)) (kM : PySem.W.keepIn K (.ref fm) = true) (bM : Binds K fdm ["draw", "amount"] [])
    (mLen : mg "len" = none) : FnOk P w K mg base CX0 3 f fd ["draw", "some"] spPick := by
  refine F.ok scPick (fun vs H Q E h => ?_) (fun cdv A outer s H vs Q E hr h => ?_)
  · obtain ⟨d, l, c, p, xs, rfl, _⟩ := h
    rfl
  · obtain ⟨d, l, c, p, xs, rfl, D, hp, pl, ⟨z0, z1⟩, k⟩ := h
    refine ⟨_, pss_one (ps_ret (pe_ix ix_list (pv 1) (pe_call GM hr (by rfl) gM kM bM .nil pass0 (pa_cons (pv 0) (pa_cons (pe_callB call_len_seq (by rfl) mLen PySem.boot_len (pa_cons (pv 1) pa_nil)) pa_nil))) (fun _ _ => rfl))), ?_⟩
    obtain ⟨rest, turn, hd⟩ := D.dd
    have pd : p ≠ d := ne_of hp hd (fun z => nomatch z)
    refine ⟨_, rfl, _, rfl, _, rfl, p, xs, rfl, .inl (SqL.of hp), ?_⟩
    refine ⟨d, l, c, _, rfl, D, ⟨by omega, by omega⟩, fun H' v hv D' b' => ?_⟩
    obtain ⟨v0, v1⟩ := hv
    have hj : v.toNat < xs.length := by omega
    refine ⟨p, xs, v, xs[v.toNat], rfl, rfl, SqL.of (b' _ _ hp pd pl), ?_, k H' _ (List.getElem_mem hj) D' b'⟩
    have e := atI_nat (xs := xs) (j := v.toNat) (List.getElem?_eq_getElem hj)
    rwa [Int.toNat_of_nonneg v0] at e
end
end Lp
namespace Lp
open PySem PySem.Spec PySem.Calls PyProof.Rows L2
/-! ### sorted(d), the keys of d pairs of ints, any number of them -/
def kP (k : Int × Int) : List Key := [Sum.inl k.1, Sum.inl k.2]
theorem kP_inj {a b : Int × Int} (h : kP a = kP b) : a = b := by
  have h1 := (List.cons.inj h).1
  have h2 := (List.cons.inj (List.cons.inj h).2).1
  exact Prod.ext (Sum.inl.inj h1) (Sum.inl.inj h2)
/-- at b: the tuple k -/
def PairAt (H : Hp) (k : Int × Int) (b : Addr) : Prop := H b = some (.tup [.int k.1, .int k.2])
def rSortDP : List V → Hp → VK → Prop := fun xs H Q => ∃ (a : Addr) (kvs : List (List Key × V)) (ks : List (Int × Int)), xs = [.ref a] ∧ Rd H a (.dT kvs) ∧ kvs.map (·.1) = ks.map kP ∧
  ∀ (ys : List (Int × Int)) (bs : List Addr) (p : Addr), ys.Perm ks → ys.Pairwise (fun x y => SrtO.lexB y x = false) → Paired (PairAt H) ys bs → H p = none → Q (.ref p) (upd H p (.lst (bs.map V.ref)))
def adV : Value → Addr
  | .ref a => a
  | _ => 0
section
variable {X : Cx}
theorem keysP : ∀ {H : Hp} {kvs : List (List Key × V)} {ks : List (Int × Int)} {xs : List (List Key × Addr × Value)}, KT H kvs xs → kvs.map (·.1) = ks.map kP → Paired (PairAt H) ks (xs.map (·.2.1))
  | _, [], [], _, .nil, _ => .nil
  | _, [], _ :: _, _, .nil, h => by cases h
  | _, _ :: _, [], _, .cons _ _, h => by cases h
  | H, p :: ps, k :: ks, _, .cons h t, e => by
    have e1 : p.1 = kP k := (List.cons.inj e).1
    refine .cons ?_ (keysP t (List.cons.inj e).2)
    have e2 := h.2.1
    rw [e1] at e2
    exact e2
theorem pairedMem {α β : Type} {R : α → β → Prop} : ∀ {xs : List α} {ys : List β}, Paired R xs ys → ∀ y ∈ ys, ∃ x ∈ xs, R x y
  | _, _, .nil, y, h => by cases h
  | _, _, .cons r t, y, h => by
    rcases List.mem_cons.mp h with e | h
    · subst e
      exact ⟨_, List.mem_cons_self, r⟩
    · obtain ⟨x, m, q⟩ := pairedMem t y h
      exact ⟨x, List.mem_cons_of_mem _ m, q⟩
/-- what stands at an address, as a pair -/
def pOf (H : Hp) (b : Addr) : Int × Int := match H b with
  | some (.tup [.int i, .int j]) => (i, j)
  | _ => (0, 0)
theorem PairAt.pOf {H : Hp} {k : Int × Int} {b : Addr} (h : PairAt H k b) : Lp.pOf H b = k := by
  unfold Lp.pOf
  rw [show H b = _ from h]
theorem PairAt.own {H : Hp} {k : Int × Int} {b : Addr} (h : PairAt H k b) : PairAt H (Lp.pOf H b) b := by
  rw [h.pOf]
  exact h
theorem paired_own {H : Hp} : ∀ {ks : List (Int × Int)} {bs : List Addr}, Paired (PairAt H) ks bs → ks = bs.map (pOf H)
  | _, _, .nil => rfl
  | _, _, .cons r t => by rw [List.map_cons, ← paired_own t, r.pOf]
theorem own_paired {H : Hp} : ∀ {bs : List Addr}, (∀ b ∈ bs, PairAt H (pOf H b) b) → Paired (PairAt H) (bs.map (pOf H)) bs
  | [], _ => .nil
  | b :: bs, h => .cons (h b List.mem_cons_self) (own_paired fun c m => h c (List.mem_cons_of_mem _ m))
theorem call_sortedDP (hcalm : X.calm = true) : CallR X (.builtin "sorted") rSortDP := by
  intro pins s σ H xs us Q I r q
  obtain ⟨a, kvs, ks, rfl, hd, hks, q⟩ := q
  obtain ⟨u, rfl, rx⟩ := r.one
  cases rx
  obtain ⟨z, lo, xs, pr, o, es, ep, ho, hx, hdt, he, hn⟩ := (show ObjOk X.prog X.w H s.heap a (.dT kvs) from hd.ok I.hok)
  have l1 : es.size = xs.length := size_of_entries he
  have l2 : kvs.length = xs.length := Paired.length pr
  have h16 : es.size ≤ sizeLine := by omega
  refine Calls.call_function_entry PyProof.Rows.kind_sorted PyProof.Rows.plain_sorted PyProof.Rows.entry_sorted (PyProof.Rows.args_sorted1 _) ?_
  unfold Builtin.«sorted»
  refine wpAny_bind (m := checkCount "sorted" 1 1 _) (wpAny_pure ?_)
  refine wpAny_bind (PySem.W.kdu_collect (A := X.A.in1) (kdl_raw lo hx hdt) (I.ok.hd hcalm) ho h16 fun h' tk acc hk it => ?_)
  have ea : acc.toList = (xs.map fun x => x.2.1).map Value.ref := by
    rw [List.map_map]
    have hl : acc.toList.length = xs.length := by rw [Array.length_toList, it.1]; exact l1
    apply List.ext_getElem?
    intro j
    rw [List.getElem?_map]
    cases hj : acc.toList[j]? with
    | none =>
      have h1 := List.getElem?_eq_none_iff.mp hj
      rw [List.getElem?_eq_none (by omega)]
      all_goals rfl
    | some v =>
      obtain ⟨en, hen, hv⟩ := it.2 j v (by rw [← Array.getElem?_toList]; exact hj)
      have qe := entry_at he j
      rw [hen] at qe
      cases hb : xs[j]? with
      | none =>
        rw [hb] at qe
        exact nomatch (show some en = none from qe)
      | some b =>
        rw [hb] at qe
        have e2 : en = entryOfKey (tupleKind (mixKind X.prog X.w)) b := Option.some.inj qe
        rw [hv, e2]
        all_goals rfl
  have kp := keysP pr hks
  have hal : acc.toList.length = xs.length := by rw [ea, List.length_map, List.length_map]
  have I1 : Inv X pins σ H { s with heap := h', toks := tk } := I.kept hk
  have hp : ∀ v ∈ acc.toList, Srt.IsPair h' v (pOf H (adV v)).1 (pOf H (adV v)).2 := fun v hv => by
    rw [ea] at hv
    obtain ⟨b, mb, rfl⟩ := List.mem_map.mp hv
    obtain ⟨k, _, hb⟩ := pairedMem kp b mb
    have hb' := hb.own
    obtain ⟨_, its2, r2, o2, ho2, hc2, n2, hd2⟩ := (show ObjOk X.prog X.w H h' b (.tup _) from I1.hok b _ hb')
    obtain ⟨u1, u2, rfl, ri, rj⟩ := vals2 r2
    obtain ⟨t1, rfl⟩ := ri
    obtain ⟨t2, rfl⟩ := rj
    exact ⟨b, o2, t1, t2, n2, rfl, ho2, hc2, hd2⟩
  refine wpAny_bind (wpAny_newList ?_ (by rw [hal]; omega))
  have hoL : (h'.push (seqObj "list" acc.toList.toArray 0)).get? h'.objs.size = some (seqObj "list" acc.toList.toArray 0) := Heap.get?_push_size _ rfl
  show wpAny _ _ _ _ _ { s with heap := h'.push (seqObj "list" acc.toList.toArray 0), toks := tk }
  refine wpAny_bind (wpAny_holding (wpAny_call_entry PyProof.Rows.slot_list_sort ⟨_, hoL, rfl⟩ PyProof.Rows.entry_list_sort
    (SrtO.list_sort_ord (s := { s with heap := h'.push (seqObj "list" acc.toList.toArray 0), toks := tk }) (SrtO.swo_lex fun u => pOf H (adV u)) hoL (by rw [hal]; omega)
      (fun h2 => SrtO.pairs_sortableO (by omega) (fun v hv => (hp v hv).keeps fun b o e _ => Heap.get?_push_of_some _ e) fun o e => ?_) fun out h1 h2 => ⟨_, rfl, ?_⟩) (PyProof.Rows.args_list_sort _)))
  · have e' : some o = some (seqObj "list" acc.toList.toArray 0) := e.symm.trans hoL
    cases e'
    intro c
    exact absurd (Value.type.inj c) (by decide)
  · obtain ⟨e', he'⟩ := PyProof.Rows.sortedHeap_at (vs := acc.toList) (out := out.toArray) hoL
    have ho3 : ∀ v ∈ out, ∃ b, v = Value.ref b ∧ b ∈ xs.map fun x => x.2.1 := fun v hv => by
      have hm := h2.perm.mem_iff.mp hv
      rw [ea] at hm
      obtain ⟨b, mb, e⟩ := List.mem_map.mp hm
      exact ⟨b, e.symm, mb⟩
    have eo : out = (out.map adV).map Value.ref := by
      clear h1 h2 he'
      induction out with
      | nil => rfl
      | cons v vs ih =>
        obtain ⟨b, e, _⟩ := ho3 v List.mem_cons_self
        rw [List.map_cons, List.map_cons, ← ih fun u hu => ho3 u (List.mem_cons_of_mem _ hu), e]
        rfl
    have pm : (out.map adV).Perm (xs.map fun x => x.2.1) := by
      have p1 := h2.perm.map adV
      rw [ea, List.map_map] at p1
      have e2 : (adV ∘ Value.ref) = id := rfl
      rw [e2, List.map_id] at p1
      exact p1
    have hz : ((out.map adV).map V.ref).length ≤ sizeLine := by
      rw [List.length_map, pm.length_eq, List.length_map]
      omega
    have rv : Vals ((out.map adV).map V.ref) out := by
      have q := vals_refs (out.map adV)
      rw [← eo] at q
      exact q
    refine wpAny_pure ⟨_, rfl, .ref h'.objs.size, upd H h'.objs.size (.lst ((out.map adV).map V.ref)), I1.laid (t' := tk) (fun b u e => ?_) (Nat.le_refl _)
      (show ObjOk X.prog X.w _ _ _ (.lst ((out.map adV).map V.ref)) from ⟨hz, out, e', rv, he'⟩), rfl, q ((out.map adV).map (pOf H)) (out.map adV) _ ?_ ?_ ?_ (I1.hok.fresh (Nat.le_refl _))⟩
    · have hb : b < h'.objs.size := Heap.lt_size e
      rw [PyProof.Rows.sortedHeap_old (Nat.ne_of_lt hb) (by rw [size_push']; exact Nat.lt_succ_of_lt hb)]
      exact Heap.get?_push_of_some _ e
    · rw [paired_own kp]
      exact pm.map _
    · rw [List.map_map]
      exact List.pairwise_map.mpr (h1.imp fun {x y} z => z)
    · refine own_paired fun b mb => ?_
      obtain ⟨k, _, hb⟩ := pairedMem kp b (pm.mem_iff.mp mb)
      exact hb.own
end
end Lp
namespace Lp
open PySem PySem.Spec PySem.Calls PyProof.Rows L2
/-! ### repr of tables -/
def kD : Key → PyData
  | .inl i => .int i
  | .inr x => .str x
/-- v is told as d, in h -/
def TV (h : Heap) (v : V) (d : PyData) : Prop := ∀ u, RelV v u → ∃ as, Reads h u d as ∧ sysModules ∉ as
/-- what stands at a is told as d -/
def Told (H : Hp) (v : V) (d : PyData) : Prop := ∀ (P : Program) (w : World) (h : Heap), HOk P w H h → TV h v d
theorem TV.int {h : Heap} (i : Int) : TV h (.int i) (.int i) := fun u r => by
  obtain ⟨t, rfl⟩ := (show ∃ t, u = Value.int i t from r)
  exact ⟨_, .int i t, by simp⟩
theorem TV.str {h : Heap} (x : Str) : TV h (.str x) (.str x) := fun u r => by
  obtain ⟨t, rfl⟩ := (show ∃ t, u = Value.str x t from r)
  exact ⟨_, .str x t, by simp⟩
theorem Told.int {H : Hp} (i : Int) : Told H (.int i) (.int i) := fun _ _ _ _ => TV.int i
theorem TV.key {h : Heap} (k : Key) : TV h (kV k) (kD k) := by
  cases k with
  | inl i => exact TV.int i
  | inr x => exact TV.str x
theorem tvs_all {h : Heap} : ∀ {vs : List V} {us : List Value} {ds : List PyData}, Vals vs us → Paired (TV h) vs ds → ∃ as, ReadsAll h us ds as ∧ sysModules ∉ as
  | _, _, _, .nil, .nil => ⟨_, .nil, by simp⟩
  | _, _, _, .cons r t, .cons a b => by
    obtain ⟨as, h1, n1⟩ := a _ r
    obtain ⟨bs, h2, n2⟩ := tvs_all t b
    exact ⟨_, .cons h1 h2, fun z => (List.mem_append.mp z).elim n1 n2⟩
theorem Paired.maps {α β γ δ : Type} {R : α → β → Prop} {S : γ → δ → Prop} {f : α → γ} {g : β → δ} : ∀ {xs : List α} {ys : List β}, Paired R xs ys → (∀ a b, R a b → S (f a) (g b)) → Paired S (xs.map f) (ys.map g)
  | _, _, .nil, _ => .nil
  | _, _, .cons r t, k => .cons (k _ _ r) (Paired.maps t k)
theorem tv_keys {h : Heap} : ∀ ks : List Key, Paired (TV h) (ks.map kV) (ks.map kD)
  | [] => .nil
  | k :: ks => .cons (TV.key k) (tv_keys ks)
theorem told_tup {H : Hp} {a : Addr} {ks : List Key} (e : H a = some (.tup (ks.map kV))) : Told H (.ref a) (.tuple (ks.map kD)) := fun P w h ok u r => by
  cases (show u = Value.ref a from r)
  obtain ⟨_, its, rv, o, ho, hc, n, hd⟩ := (show ObjOk P w H h a (.tup _) from ok a _ e)
  obtain ⟨as, h1, n1⟩ := tvs_all rv (tv_keys ks)
  exact ⟨_, .tuple ho hc hd (by rw [List.toList_toArray]; exact h1), n1⟩
/-- a dict of int or text keys, its values told -/
theorem told_dK {H : Hp} {a : Addr} {kvs : List (Key × V)} {ds : List PyData} (e : H a = some (.dK kvs)) (hv : Paired (fun kv d => Told H kv.2 d) kvs ds) : Told H (.ref a) (.dict ((kvs.map fun p => kD p.1).zip ds)) := fun P w h ok u r => by
  cases (show u = Value.ref a from r)
  obtain ⟨_, hs, vs, kv, o, es, ep, ho, hx, hd, hk, hp, _⟩ := (show ObjOk P w H h a (.dK kvs) from ok a _ e)
  have hl : kvs.length = ds.length := Paired.length hv
  have main : ∀ {kvs : List (Key × V)} {vs : List (Key × Value)} {ens : List DictEntry} {ds : List PyData}, KV kvs vs → Pairs (mixKind P w) ens vs → Paired (fun kv d => Told H kv.2 d) kvs ds →
      ∃ as bs, ReadsAll h (ens.map (·.key)) (kvs.map fun p => kD p.1) as ∧ ReadsAll h (ens.map (·.val)) ds bs ∧ sysModules ∉ as ∧ sysModules ∉ bs := by
    intro kvs
    induction kvs with
    | nil =>
      intro vs ens ds k1 k2 k3
      cases k1
      cases k2
      cases k3
      exact ⟨_, _, .nil, .nil, by simp, by simp⟩
    | cons p kvs ih =>
      intro vs ens ds k1 k2 k3
      cases k1 with
      | cons r1 t1 =>
        cases k2 with
        | cons f1 f2 t2 =>
          cases k3 with
          | cons r3 t3 =>
            obtain ⟨as, bs, a1, a2, a3, a4⟩ := ih t1 t2 t3
            obtain ⟨e1, e2⟩ := r1
            obtain ⟨bs', b1, b2⟩ := r3 P w h ok _ e2
            rw [← e1] at f1
            rw [← f2] at b1
            rcases keyIs_shape (show keyIs _ _ = true from f1) with ⟨i, t, z1, z2⟩ | ⟨x, t, z1, z2⟩
            · refine ⟨[] ++ as, bs' ++ bs, .cons ?_ a1, .cons b1 a2, by simpa using a3, fun z => (List.mem_append.mp z).elim b2 a4⟩
              have z3 := z1
              refine (?_ : Reads h (DictEntry.key _) (kD p.1) [])
              rw [z1, z2]
              exact .int i t
            · refine ⟨[] ++ as, bs' ++ bs, .cons ?_ a1, .cons b1 a2, by simpa using a3, fun z => (List.mem_append.mp z).elim b2 a4⟩
              have z3 := z1
              refine (?_ : Reads h (DictEntry.key _) (kD p.1) [])
              rw [z1, z2]
              exact .str x t
  obtain ⟨as, bs, a1, a2, a3, a4⟩ := main kv hp hv
  refine ⟨_, Reads.dict ho hx.1 hd (as := as) (bs := bs) ?_ ?_, fun z => ?_⟩
  · rw [List.map_fst_zip (by rw [List.length_map]; omega)]
    exact a1
  · rw [List.map_snd_zip (by rw [List.length_map]; omega)]
    exact a2
  · rcases List.mem_cons.mp (show sysModules ∈ a :: (as ++ bs) from z) with z | z
    · exact (beq_eq_false_iff_ne.mp hs) z.symm
    · exact (List.mem_append.mp z).elim a3 a4
/-- a dict of tuple keys, its values told -/
theorem told_dT {H : Hp} {a : Addr} {kvs : List (List Key × V)} {ds : List PyData} (e : H a = some (.dT kvs)) (hv : Paired (fun kv d => Told H kv.2 d) kvs ds) : Told H (.ref a) (.dict ((kvs.map fun p => PyData.tuple (p.1.map kD)).zip ds)) := fun P w h ok u r => by
  cases (show u = Value.ref a from r)
  obtain ⟨_, hs, xs, pr, o, es, ep, ho, hx, hd, he, hn⟩ := (show ObjOk P w H h a (.dT kvs) from ok a _ e)
  have hl : kvs.length = ds.length := Paired.length hv
  have main : ∀ {kvs : List (List Key × V)} {xs : List (List Key × Addr × Value)} {ds : List PyData}, KT H kvs xs → Paired (fun kv d => Told H kv.2 d) kvs ds →
      ∃ as bs, ReadsAll h (xs.map fun x => Value.ref x.2.1) (kvs.map fun p => PyData.tuple (p.1.map kD)) as ∧ ReadsAll h (xs.map fun x => x.2.2) ds bs ∧ sysModules ∉ as ∧ sysModules ∉ bs := by
    intro kvs
    induction kvs with
    | nil =>
      intro xs ds k1 k3
      cases k1
      cases k3
      exact ⟨_, _, .nil, .nil, by simp, by simp⟩
    | cons p kvs ih =>
      intro xs ds k1 k3
      cases k1 with
      | cons r1 t1 =>
        cases k3 with
        | cons r3 t3 =>
          obtain ⟨as, bs, a1, a2, a3, a4⟩ := ih t1 t3
          obtain ⟨e1, e2, e3⟩ := r1
          obtain ⟨bs', b1, b2⟩ := r3 P w h ok _ e3
          obtain ⟨cs, c1, c2⟩ := told_tup e2 P w h ok _ rfl
          exact ⟨cs ++ as, bs' ++ bs, .cons c1 a1, .cons b1 a2, fun z => (List.mem_append.mp z).elim c2 a3, fun z => (List.mem_append.mp z).elim b2 a4⟩
  obtain ⟨as, bs, a1, a2, a3, a4⟩ := main pr hv
  have ek : es.toList.map (·.key) = xs.map fun x => Value.ref x.2.1 := by
    rw [he, List.map_map]
    rfl
  have ev : es.toList.map (·.val) = xs.map fun x => x.2.2 := by
    rw [he, List.map_map]
    rfl
  refine ⟨_, Reads.dict ho hx.1 hd (as := as) (bs := bs) ?_ ?_, fun z => ?_⟩
  · rw [List.map_fst_zip (by rw [List.length_map]; omega), ek]
    exact a1
  · rw [List.map_snd_zip (by rw [List.length_map]; omega), ev]
    exact a2
  · rcases List.mem_cons.mp (show sysModules ∈ a :: (as ++ bs) from z) with z | z
    · exact (beq_eq_false_iff_ne.mp hs) z.symm
    · exact (List.mem_append.mp z).elim a3 a4
/-- repr of what is told -/
def rReprD : List V → Hp → VK → Prop := fun xs H Q => ∃ a d, xs = [V.ref a] ∧ Told H (.ref a) d ∧ d.showable = true ∧ d.shown.length ≤ sizeLine ∧ d.depth ≤ 32 ∧ Q (.str d.shown) H
theorem call_reprD {X : Cx} (hg : X.A.guards = some []) (hu : X.A.units + 64 < cLine) : CallR X (.builtin "repr") rReprD := by
  intro pins s σ H xs us Q I r h
  obtain ⟨a, d, rfl, ht, sh, ln, dp, q⟩ := h
  obtain ⟨u, rfl, rx⟩ := r.one
  cases rx
  obtain ⟨as, R, n⟩ := ht X.prog X.w s.heap I.hok _ rfl
  refine repr_of_reads' R sh (fun _ => n) hg (by omega) (fun _ _ e => e) (fun h' u tk k => ?_) ln
  exact ⟨.str d.shown, H, I.kept k, ⟨_, rfl⟩, q⟩
end Lp
namespace Lp
open PySem PySem.Spec PySem.Calls PyProof.Rows L2
/-- a def's promise where no repr is under way -/
structure FnG (P : Program) (w : World) (K : PySem.W.Frag) (mg : Str → Option Value) (base : Heap) (CX : CXT) (k : Nat) (f : Addr) (fd : FuncData) (ps : List Str) (sp : Sp) : Prop where
  len : ∀ vs H Q E, sp vs H Q E → vs.length = ps.length
  go : ∀ (A : Around) (outer : List Env) (s : Shared) (H : Hp) (args : Args) (us : List Value) (vs : List V) (Q : VK) (E : XK), A.guards = some [] → Room k A → Env0 P w K mg base A outer s H → BindsTo s fd args (ps.zip us) → Vals vs us → sp vs H Q E →
    codeAny (model P w) A (.call (.ref f) args) (CR CX outer P w H s Q E) s
theorem FnG.of {P : Program} {w : World} {K : PySem.W.Frag} {mg : Str → Option Value} {base : Heap} {CX : CXT} {k : Nat} {f : Addr} {fd : FuncData} {ps : List Str} {sp : Sp} (F : FnOk P w K mg base CX k f fd ps sp) : FnG P w K mg base CX k f fd ps sp :=
  ⟨F.len, fun A outer s H args us vs Q E _ => F.run A outer s H args us vs Q E⟩
section
variable {P : Program} {w : World} {K : PySem.W.Frag} {mg : Str → Option Value} {base : Heap}
theorem okG {CX : CXT} {x qual : Str} {st : Stmt} {f : Addr} {fd : FuncData} {N ps : List Str} {k : Nat} {sp : Sp} (F : Fun K x qual st f fd) (S : FnScope N ps (defScope st)) (len : ∀ vs H Q E, sp vs H Q E → vs.length = ps.length)
    (hbody : ∀ (cdv : Value) (A : Around) (outer : List Env) (s : Shared) (H : Hp) (vs : List V) (Q : VK) (E : XK), A.guards = some [] → Room k (A.deeper (envOfC qual (defScope st) s.heap.objs.size f cdv)) → sp vs H Q E →
      ∃ t, PSs (cxOf CX P w K mg base N qual (defScope st) f cdv A outer s H E) (defBody st) t ∧ t { nx := fun _ H' => Q .non H', rt := Q } (L2.start N vs) H) : FnG P w K mg base CX (k + 1) f fd ps sp := by
  obtain ⟨oc, od, kV, doc, pm, an, cdv, ct, osl, rfl, lk, hcd⟩ := F.ex
  refine ⟨len, fun A outer s H args us vs Q E hg hr e0 hb rv hsp => ?_⟩
  have hl := len _ _ _ _ hsp
  have up : ∀ b o, base.get? b = some o → s.heap.get? b = some o := fun b o e => (e0.bs b o e).1
  have kinds : ∀ y ∈ ps.zip us, (defScope st).names.lookup y.1 = some .local ∨ ((defScope st).names.lookup y.1 = some .cell ∧ ((cellsFrom (s.heap.objs.size + 1) (defScope st).names []).lookup y.1).isSome = true) := fun y hy => by
    rcases S.par y.1 (List.of_mem_zip hy).1 with q | q
    · exact .inl q
    · exact .inr ⟨q, PySem.W.cellsFrom_some _ _ _ (.inl q)⟩
  refine codeAny_call_function hr.depth (e0.mod.kin.keeps up _ _ lk) rfl S.co S.gen rfl (PySem.W.codeRec_of (e0.mod.kin.keeps up) hcd) (hb _ _ _ _ (wpAny_newFunctionEnv_cells S.kind kinds fun env he s1 x => ?_))
  subst he
  have KN := e0.mod.nolimit.keeps up
  refine ⟨KN.keeps x.toInCall.keep, codeAny_func ?_⟩
  obtain ⟨t, ht, hq⟩ := hbody cdv A outer s H vs Q E hg (hr.deeper _) hsp
  have I := inv_start (CX := CX) (P := P) (w := w) (K := K) (mg := mg) (base := base) (qual := qual) (f := f) (cd := cdv) (E := E) S hr.hd e0 hl rv x
  refine wpAny_mono (ht.run [] s1 _ H _ I hq) (fun fl s' hs => ?_) fun e s' z => z
  match fl, hs with
  | .ret u', hs =>
    obtain ⟨v', σ', H', J, r', q⟩ := hs
    exact ⟨v', H', J.os, J.bare, J.base, J.hok, r', q⟩
  | .next, hs =>
    obtain ⟨σ', H', J, q⟩ := hs
    exact ⟨.non, H', J.os, J.bare, J.base, J.hok, rfl, q⟩
  | .brk, hs =>
    obtain ⟨_, _, _, q⟩ := hs
    exact q.elim
  | .cont, hs =>
    obtain ⟨_, _, _, q⟩ := hs
    exact q.elim
end
section
variable {X : Cx} {CX : CXT} {k : Nat} {f : Addr} {fd : FuncData} {ps : List Str} {sp : Sp} {x : Str} {p pos : Pos} {e : Expr} {es : List Expr} {t : TA} {E : XK}
/-- f(e, ..), f such a def -/
theorem pe_callG (F : FnG X.prog X.w X.K X.mg X.base CX k f fd ps sp) (gd : X.A.guards = some []) (hr : Room k X.A) (hg : Gl X x) (hm : X.mg x = some (.ref f)) (hk : PySem.W.keepIn X.K (.ref f) = true) (hb : Binds X.K fd ps []) (hx : Passes CX X E)
    (ha : PA X (e :: es) t) (hdb : (x == ("__debug__" : Str)) = false := by decide) (he : starEach (e :: es) X.env = (false, eval e X.env) :: starEach es X.env := by rfl) (hpl : (backTo pos (starEach es X.env)).any (·.1) = false := by rfl) :
    PE X (.Call (.Name x p) (e :: es) [] pos) (tCall sp [] E t) := by
  refine ⟨fun pins s σ H Q I h => ?_⟩
  refine wpAny_Call_Name_kw (ld_glob I hg hm ?_ hdb)
  refine PySem.W.callWith_K (h₀ := X.base) I.ok.mod.kin hk (thn (ha.run pos pins s σ H _ I h) fun us s1 ⟨vs, H1, I1, r, q⟩ => ⟨I1.kIn, ?_⟩) he hpl
  have r2 : Vals (vs ++ []) (us ++ []) := r.append .nil
  have hl : (us ++ []).length = ps.length := by rw [← r2.length]; exact F.len _ _ _ _ q
  refine wpAny_call (codeAny_mono (F.go X.A X.stack s1 H1 ⟨us, []⟩ (us ++ []) (vs ++ []) Q E gd hr I1.env0 (hb s1 us I1.kIn hl) r2 q) fun r s' hq => ?_)
  cases r with
  | error e => exact hx pins σ H1 s1 e s' I1 hq
  | ok fl =>
    cases fl with
    | ret u => exact I1.after hq
    | next => exact False.elim hq
    | brk => exact False.elim hq
    | cont => exact False.elim hq
end
end Lp
namespace Lp
open PySem PySem.Spec PySem.Calls PyProof.Rows L2
/-! ### {k: v for ..}, the keys ints, texts or tuples of them (the layer's pe_dc, over DPut) -/
theorem set_fresh {X : Cx} {pins : List (Addr × Obj)} {σ : L2.St} {H H' : Hp} {s : Shared} {E : Value → Shared → Prop} {D : Addr} {y v : V} {uk uv : Value} {Q : Unit → Shared → Prop} (hu : X.A.units + 1 < cLine) (I : Inv X pins σ H s) (g : DPut H D y v H')
    (rk : RelV y uk) (rv : RelV v uv) (h : ∀ s', Inv X pins σ H' s' → Q () s') : wpAny (model X.prog X.w) X.A (dictSet D uk uv) Q E s := by
  rcases g with ⟨kvs, k, e, ey, l, eH⟩ | ⟨kvs, k, b, e, ey, eb, l, eH⟩
  · subst ey
    subst eH
    exact d_dictSet I e l rk rv h
  · subst ey
    subst eH
    cases (show uk = Value.ref b from rk)
    obtain ⟨z, nd, xs, rel, at_⟩ := dt_of I.hok e
    have zx : xs.length ≤ sizeLine := by rw [← Paired.length rel]; exact z
    have zp : (putK kvs k v).length ≤ sizeLine := by have := length_putK kvs k v; omega
    refine wpAny_dictSet_heap (hsz := zx) (show X.A.units < cLine by omega) (key_of I.hok eb) at_ fun h' at' sb => h _ ?_
    obtain ⟨q, es, ep, hq, h2, h3, h4, _, h5⟩ := at'
    refine d_write I (by rw [e]; exact True.intro) sb ⟨q, hq⟩ ⟨zp, nd, _, (rel.put k eb rv).keeps fun c ys ec => ?_, q, es, ep, hq, h2, h3, h4, h5⟩
    rw [upd_ne (ne_of ec e (fun z => nomatch z))]
    exact ec
section
variable {X : Cx}
/-- the new dict: for keys of one word (b = false), or for tuples -/
def dNew (b : Bool) : HO := if b then .dT [] else .dK []
theorem dNew_ok (b : Bool) {P : Program} {w : World} {H : Hp} (h : Heap) (hb : sysModules < h.objs.size) : ObjOk P w H (h.push { cls := .type "dict", data := .dict #[] }) h.objs.size (dNew b) := by
  cases b with
  | false => exact dk_empty h hb
  | true => exact dt_empty h hb
def tDp (b : Bool) (wi : TI) (g : TG) (tt : TT) (tk tv : TE) (vs : List Nat) : TE := fun σ H Q => wi σ H fun J H1 => ∀ D, H1 D = none → ∃ W : Nat → Nat → Hp → Prop, (∃ m, W 0 m (upd H1 D (dNew b))) ∧ ∀ i m H, W i m H →
  (J.stop i H ∧ Q (.ref D) H) ∨ (J.go i H ∧ ∃ Nx : Hp → Prop, (∀ H', Nx H' → ∃ m', m' < m ∧ W (i + 1) m' H') ∧ ∀ x H', J.yld i H x H' → g x (wipe σ vs) H' fun σ2 H2 => wipe σ2 vs = wipe σ vs ∧ tt σ2 H2 fun c H3 =>
    if c = true then tk σ2 H3 fun y H4 => tv σ2 H4 fun z H5 => ∃ H6, DPut H5 D y z H6 ∧ Nx H6 else Nx H3)
theorem dp_core {b : Bool} {pins : List (Addr × Obj)} {s : Shared} {σ : L2.St} {H : Hp} {Q : VK} {kx vx tgt iter : Expr} {ifs : List Expr} {scope : Scope} {own : List (Str × Nat)} {pos at0 : Pos} {wi : TI} {g : TG} {tt : TT} {tk tv : TE} {use : Option (Value → Sem Unit)} {Qf : Value → Shared → Prop}
    (room : X.A.units + 1 < cLine) (calm : X.calm = true) (nd : X.N.Nodup) (I : Inv X pins σ H s) (walk : PI X tgt iter wi) (blk : BlkOk X.N X.env.scope scope own)
    (goal : ∀ (s : Shared) (H : Hp) (C : Addr) (cl : List (Str × Addr)) (fp : List Addr), PG (X.blk s H scope (compEnvC scope cl C X.env) fp) tgt g)
    (tests : ∀ (s : Shared) (H : Hp) (C : Addr) (cl : List (Str × Addr)) (fp : List Addr), PTs (X.blk s H scope (compEnvC scope cl C X.env) fp) ifs tt)
    (key : ∀ (s : Shared) (H : Hp) (C : Addr) (cl : List (Str × Addr)) (fp : List Addr), PE (X.blk s H scope (compEnvC scope cl C X.env) fp) kx tk)
    (val : ∀ (s : Shared) (H : Hp) (C : Addr) (cl : List (Str × Addr)) (fp : List Addr), PE (X.blk s H scope (compEnvC scope cl C X.env) fp) vx tv)
    (plain : ∀ x, foldedSetIterable iter X.env x = pure x) (h : tDp b wi g tt tk tv (own.map (·.2)) σ H Q)
    (back : ∀ D C s' m H', Inv X pins σ H' s' → Q (.ref D) H' → s'.heap.Ns C m → FpOk X pins H' C → compPost (model X.prog X.w) X.A X.xe use Qf (.ref D) C (.ok .next) s') :
    wpAny (model X.prog X.w) X.A (comprehension (.DictComp kx vx [⟨tgt, iter, ifs, 0⟩] scope pos) scope X.env at0 newDict false (eval iter X.env) use) Qf X.xe s := by
  have free : ∀ y ∈ scope.names, y.2 = .free → ∃ c, X.env.cells.lookup y.1 = some c := fun y hy e => (blk.free y hy e).elim (fun k => I.ok.has _ (.inl k)) (fun k => I.ok.has _ (.inr k))
  refine wpAny_comprehension_free (use := use) rfl plain (closure_ok free) blk.kind (fun y hy e => by rw [blk.uniq y hy, e]) (thn (walk.run pins s σ H _ I h) fun xv s1 hx => thn hx fun itv s2 h2 => ?_)
  obtain ⟨it, fp, tn, J, H2, rfl, I2, T, here2, own2, q⟩ := h2
  refine wpAny_newObj_type (newEnv_comp ?_)
  generalize eD : s2.heap.objs.size = D
  obtain ⟨W, ⟨m0, w0⟩, turn⟩ := q D (I2.hok.fresh (Nat.le_of_eq eD))
  generalize e3 : ({ s2 with heap := s2.heap.push { cls := .type "dict", data := .dict #[] } } : Shared) = s3
  have I3 : Inv X pins σ (upd H2 D (dNew b)) s3 := by
    rw [← e3]
    refine I2.laid (t' := s2.toks) (fun b o e => Heap.get?_push_of_some _ e) (Nat.le_of_eq eD) ?_
    rw [← eD]
    exact dNew_ok b s2.heap I2.big
  have h3 : s3.heap = s2.heap.push { cls := .type "dict", data := .dict #[] } := by rw [← e3]
  have own3 : ∀ b' ∈ fp, FpOk X pins (upd H2 D (dNew b)) b' ∧ b' < s3.heap.objs.size := fun b' hb => by
    obtain ⟨o, e, _⟩ := T.obj _ _ here2 b' hb
    have lt := Heap.lt_size e
    refine ⟨⟨?_, (own2 b' hb).2⟩, by rw [h3, Heap.size_push]; exact Nat.lt_succ_of_lt lt⟩
    rw [upd_ne (by rw [← eD]; exact Nat.ne_of_lt lt)]
    exact (own2 b' hb).1
  have here3 : tn 0 s3.heap := T.keep _ _ _ here2 fun b _ o e => by rw [h3]; exact Heap.get?_push_of_some _ e
  have I4 := block_start I3 blk nd own3
  have pg := goal s3 (upd H2 D (dNew b)) s3.heap.objs.size (cellsFrom (s3.heap.objs.size + 1) scope.names (cloFrom X.env.cells scope.names [])) fp
  have pt := tests s3 (upd H2 D (dNew b)) s3.heap.objs.size (cellsFrom (s3.heap.objs.size + 1) scope.names (cloFrom X.env.cells scope.names [])) fp
  have pk := key s3 (upd H2 D (dNew b)) s3.heap.objs.size (cellsFrom (s3.heap.objs.size + 1) scope.names (cloFrom X.env.cells scope.names [])) fp
  have pv := val s3 (upd H2 D (dNew b)) s3.heap.objs.size (cellsFrom (s3.heap.objs.size + 1) scope.names (cloFrom X.env.cells scope.names [])) fp
  show codeAny _ _ (.compStart (.DictComp kx vx [⟨tgt, iter, ifs, 0⟩] scope pos) 0 (.ref it) (.ref D) (compEnvC scope (cellsFrom (s3.heap.objs.size + 1) scope.names (cloFrom X.env.cells scope.names [])) s3.heap.objs.size X.env)) (compPost (model X.prog X.w) X.A X.xe use Qf (.ref D) s3.heap.objs.size)
    { s3 with heap := pushCells (s3.heap.push { cls := .type "dict", data := .dict #[] }) scope.names }
  have none3 : ∀ b' ∈ fp, (upd H2 D (dNew b)) b' = none := fun b' hb => (own3 b' hb).1.1
  generalize eE : compEnvC scope (cellsFrom (s3.heap.objs.size + 1) scope.names (cloFrom X.env.cells scope.names [])) s3.heap.objs.size X.env = ce at I4 pg pt pk pv ⊢
  have eL : ce.locals = s3.heap.objs.size := by subst eE; rfl
  generalize eH : upd H2 D (dNew b) = H3 at I3 I4 pg pt pk pv w0 none3 own3
  generalize e4 : ({ s3 with heap := pushCells (s3.heap.push { cls := .type "dict", data := .dict #[] }) scope.names } : Shared) = s4 at I4 ⊢
  have here4 : tn 0 s4.heap := T.keep _ _ _ here3 fun b _ o e => by rw [← e4]; exact pushCells_keeps _ _ _ _ (Heap.get?_push_of_some _ e)
  have still : ∀ {σ' : L2.St} {H' : Hp} {s' : Shared}, Inv (X.blk s3 H3 scope ce fp) [] σ' H' s' → (∀ b ∈ fp, H' b = none) → ∀ b ∈ fp, FpOk (X.blk s3 H3 scope ce fp) [] H' b := fun {σ' H' s'} J n b hb =>
    ⟨n b hb, (J.ok.exf b hb).1, J.ok.exfs b hb, .inl hb, fun x c e => (J.ok.exf b hb).2 x c e, fun p hp => absurd (show p ∈ ([] : List (Addr × Obj)) ++ [] from hp) (by simp)⟩
  have loop : codeAny (model X.prog X.w) X.A (.compLoop (.DictComp kx vx [⟨tgt, iter, ifs, 0⟩] scope pos) 0 (.ref it) (.ref D) ce) (compPost (model X.prog X.w) X.A X.xe use Qf (.ref D) s3.heap.objs.size) s4 := by
    refine compLoop_anyD (fun n s' => ∃ i G, Inv (X.blk s3 H3 scope ce fp) [] (wipe σ (own.map (·.2))) G s' ∧ tn i s'.heap ∧ (∀ b ∈ fp, G b = none) ∧ W i n G) ?_ m0 ⟨0, H3, I4, here4, none3, w0⟩
    rintro n s5 ⟨i, G, I5, here5, none5, w5⟩
    rcases turn i n G w5 with ⟨stop, qq⟩ | ⟨go, Nx, nxt, step⟩
    · refine thnF (T.done (X.blk s3 H3 scope ce fp) rfl rfl rfl calm i [] s5 _ G (fun _ _ => False) I5 (still I5 none5) here5 stop) fun r s6 ⟨er, I6⟩ => ?_
      subst er
      have I7 : Inv X pins σ G s6 := I3.call' (ch := fp) I6.os I6.base I6.hok I6.bare fun b hb => ⟨(own3 b hb).1.2.2.2.1, (own3 b hb).1.2.1, (own3 b hb).1.2.2.2.2.1, (own3 b hb).1.2.2.2.2.2⟩
      have nC : G s3.heap.objs.size = none := by
        have z : G ce.locals = none := I6.free
        rw [eL] at z
        exact z
      obtain ⟨m, ns, _⟩ := I6.loc
      have ns' : s6.heap.Ns ce.locals m := ns
      rw [eL] at ns'
      exact back D s3.heap.objs.size s6 m G I7 qq ns' (I3.fpOk (Nat.le_refl _) nC)
    · refine thnF (T.item (X.blk s3 H3 scope ce fp) rfl rfl rfl calm i [] s5 _ G (fun _ _ => False) I5 (still I5 none5) here5 go) fun r s6 ⟨u, er, h6⟩ => ?_
      subst er
      refine thnF h6 fun _ s7 ⟨x, H7, I7, r7, y7, here7, none7⟩ => ?_
      refine thnF (pg.run _ s7 _ H7 x u _ (I7.pinned (still I7 none7) (T.obj _ _ here7)) r7 (step x H7 y7)) fun _ s8 ⟨σ8, H8, I8, w8, q8⟩ => ?_
      refine thnF (pt.run _ s8 σ8 H8 _ I8 q8) fun c s9 ⟨H9, I9, q9⟩ => ?_
      have fin : ∀ {s' : Shared} {G' : Hp}, Inv (X.blk s3 H3 scope ce fp) ([] ++ pinsAt fp s7.heap) σ8 G' s' → Nx G' → ∃ m, m < n ∧ ∃ i H', Inv (X.blk s3 H3 scope ce fp) [] (wipe σ (own.map (·.2))) H' s' ∧ tn i s'.heap ∧ (∀ b ∈ fp, H' b = none) ∧ W i m H' := fun {s' G'} J nx => by
        obtain ⟨m', lt, w'⟩ := nxt G' nx
        have pin : ∀ b ∈ fp, ∀ o, s7.heap.get? b = some o → s'.heap.get? b = some o ∧ G' b = none := fun b hb o e =>
          let z := J.pin (b, o) (List.mem_append_right _ (List.mem_append_right _ (mem_pinsAt hb e)))
          ⟨z.1, z.2.1⟩
        have len : (wipe σ (own.map (·.2))).length = σ8.length := by rw [← w8, wipe_length]
        refine ⟨m', lt, i + 1, G', (J.unpinned (pins := [])).weak len (fun j v e => ?_), T.keep _ _ _ here7 fun b hb o e => (pin b hb o e).1, fun b hb => ?_, w'⟩
        · rw [← w8] at e
          exact (wipe_some e).1
        · obtain ⟨o, e, _⟩ := T.obj _ _ here7 b hb
          exact (pin b hb o e).2
      cases c with
      | false =>
        simp only [Bool.false_eq_true, if_false] at q9 ⊢
        exact fin I9 q9
      | true =>
        simp only [if_true] at q9 ⊢
        refine thnF (pk.run _ s9 σ8 H9 _ I9 q9) fun z s10 ⟨yk, H10, I10, r10, q10⟩ => ?_
        refine thnF (pv.run _ s10 σ8 H10 _ I10 q10) fun z2 s11 ⟨yv, H11, I11, r11, H12, put, nx⟩ => ?_
        exact set_fresh (X := X.blk s3 H3 scope ce fp) room I11 put r10 r11 fun s12 I12 => fin I12 nx
  exact codeAny_compStart_dict loop (T.self X.A 0 _ _ _ here4 loop)
theorem pe_dp {b : Bool} {kx vx tgt iter : Expr} {ifs : List Expr} {scope : Scope} {own : List (Str × Nat)} {pos : Pos} {wi : TI} {g : TG} {tt : TT} {tk tv : TE} (room : X.A.units + 1 < cLine) (calm : X.calm = true) (nd : X.N.Nodup) (walk : PI X tgt iter wi) (blk : BlkOk X.N X.env.scope scope own)
    (goal : ∀ (s : Shared) (H : Hp) (C : Addr) (cl : List (Str × Addr)) (fp : List Addr), PG (X.blk s H scope (compEnvC scope cl C X.env) fp) tgt g)
    (tests : ∀ (s : Shared) (H : Hp) (C : Addr) (cl : List (Str × Addr)) (fp : List Addr), PTs (X.blk s H scope (compEnvC scope cl C X.env) fp) ifs tt)
    (key : ∀ (s : Shared) (H : Hp) (C : Addr) (cl : List (Str × Addr)) (fp : List Addr), PE (X.blk s H scope (compEnvC scope cl C X.env) fp) kx tk)
    (val : ∀ (s : Shared) (H : Hp) (C : Addr) (cl : List (Str × Addr)) (fp : List Addr), PE (X.blk s H scope (compEnvC scope cl C X.env) fp) vx tv)
    (plain : ∀ x, foldedSetIterable iter X.env x = pure x := by intro _; rfl) : PE X (.DictComp kx vx [⟨tgt, iter, ifs, 0⟩] scope pos) (tDp b wi g tt tk tv (own.map (·.2))) := by
  refine ⟨fun pins s σ H Q I h => ?_⟩
  rw [arm_eval_DictComp]
  refine dp_core room calm nd I walk blk goal tests key val plain h fun D C s' m H' J q ns f => ⟨m, ns, fun h'' sb => ?_⟩
  obtain ⟨f0, f1, f2, f3, f4, f5⟩ := f
  exact ⟨.ref D, H', J.turned (t' := s'.toks) (fun b o hb e => (sb.2 b hb).trans e) f0 f1 f3 f4 f5, rfl, q⟩
/-- by a structure of walk -/
theorem dp_it {J : It} {n : Nat} {G : Hp → Prop} {Y : Nat → Hp → V → Hp → Prop} (w : Walk J n G Y) {b : Bool} {g : TG} {tt : TT} {tk tv : TE} {vs : List Nat} {σ : L2.St} {H1 : Hp} {D : Addr} {Qd : Hp → Prop} (Pv : Nat → Hp → Prop) (h0 : Pv 0 (upd H1 D (dNew b))) (hG : ∀ i H, i ≤ n → Pv i H → G H)
    (hs : ∀ i x H H', i < n → Pv i H → Y i H x H' → g x (wipe σ vs) H' fun σ2 H2 => wipe σ2 vs = wipe σ vs ∧ tt σ2 H2 fun c H3 =>
      if c = true then tk σ2 H3 fun y H4 => tv σ2 H4 fun z H5 => ∃ H6, DPut H5 D y z H6 ∧ Pv (i + 1) H6 else Pv (i + 1) H3) (hd : ∀ H, Pv n H → Qd H) :
    ∃ W : Nat → Nat → Hp → Prop, (∃ m, W 0 m (upd H1 D (dNew b))) ∧ ∀ i m H, W i m H →
      (J.stop i H ∧ Qd H) ∨ (J.go i H ∧ ∃ Nx : Hp → Prop, (∀ H', Nx H' → ∃ m', m' < m ∧ W (i + 1) m' H') ∧ ∀ x H', J.yld i H x H' → g x (wipe σ vs) H' fun σ2 H2 => wipe σ2 vs = wipe σ vs ∧ tt σ2 H2 fun c H3 =>
        if c = true then tk σ2 H3 fun y H4 => tv σ2 H4 fun z H5 => ∃ H6, DPut H5 D y z H6 ∧ Nx H6 else Nx H3) := by
  refine ⟨fun i m H => m = n - i ∧ i ≤ n ∧ Pv i H, ⟨n, by simp, Nat.zero_le _, h0⟩, ?_⟩
  rintro i m H ⟨rfl, hi, p⟩
  have q := hG i H hi p
  by_cases lt : i < n
  · exact .inr ⟨w.goes i H lt q, Pv (i + 1), fun H' p' => ⟨n - (i + 1), by omega, rfl, lt, p'⟩, fun x H' y => hs i x H H' lt p (w.yields i H x H' lt q y)⟩
  · have e : i = n := by omega
    subst e
    exact .inl ⟨w.stops H q, hd H p⟩
end
end Lp
/-! Rows: from whole numbers to whole numbers, as a dict keeps them. -/
namespace Lp
open PySem L2
abbrev Row := List (Int × Int)
/-- its number at k, 0 if it has none -/
def co : Row → Int → Int
  | [], _ => 0
  | p :: r, k => if p.1 = k then p.2 else co r k
def has (r : Row) (k : Int) : Prop := ∃ p ∈ r, p.1 = k
instance (r : Row) (k : Int) : Decidable (has r k) := by unfold has; exact inferInstance
def iK (r : Row) : List (Key × V) := r.map fun p => (Sum.inl p.1, V.int p.2)
def RowAt (H : Hp) (a : Addr) (r : Row) : Prop := H a = some (.dK (iK r))
/-- as a dict keeps it: no key twice -/
def Nd (r : Row) : Prop := (r.map (·.1)).Nodup
theorem co_cons (p : Int × Int) (r : Row) (k : Int) : co (p :: r) k = if p.1 = k then p.2 else co r k := rfl
theorem co_none {r : Row} {k : Int} (h : ¬ has r k) : co r k = 0 := by
  induction r with
  | nil => rfl
  | cons p r ih =>
    rw [co_cons, if_neg fun e => h ⟨p, List.mem_cons_self, e⟩]
    exact ih fun ⟨q, m, e⟩ => h ⟨q, List.mem_cons_of_mem _ m, e⟩
theorem valV_iK (r : Row) (k : Int) : valV (iK r) (Sum.inl k) = if has r k then some (.int (co r k)) else none := by
  induction r with
  | nil => rfl
  | cons p r ih =>
    have e0 : iK (p :: r) = (Sum.inl p.1, V.int p.2) :: iK r := rfl
    by_cases e : p.1 = k
    · rw [e0, valV_pos (by rw [← e]), co_cons, if_pos e, if_pos ⟨p, List.mem_cons_self, e⟩]
    · have ne : ¬ ((Sum.inl p.1 : Key) = Sum.inl k) := fun z => e (Sum.inl.inj z)
      have e1 : valV (iK (p :: r)) (Sum.inl k) = valV (iK r) (Sum.inl k) := by
        rw [e0]
        simp only [valV, List.find?_cons, decide_eq_false ne]
      rw [e1, ih, co_cons, if_neg e]
      have e2 : has (p :: r) k ↔ has r k := ⟨fun ⟨q, m, h⟩ => by
        rcases List.mem_cons.mp m with z | z
        · rw [z] at h; exact absurd h e
        · exact ⟨q, z, h⟩, fun ⟨q, m, h⟩ => ⟨q, List.mem_cons_of_mem _ m, h⟩⟩
      by_cases h : has r k
      · rw [if_pos h, if_pos (e2.mpr h)]
      · rw [if_neg h, if_neg fun z => h (e2.mp z)]
/-- r[k] = v -/
def putR (r : Row) (k v : Int) : Row := if has r k then r.map (fun p => if p.1 = k then (p.1, v) else p) else r ++ [(k, v)]
theorem any_iK (r : Row) (k : Int) : ((iK r).any fun kv => decide (kv.1 = (Sum.inl k : Key))) = decide (has r k) := by
  induction r with
  | nil => rfl
  | cons p r ih =>
    have e0 : iK (p :: r) = (Sum.inl p.1, V.int p.2) :: iK r := rfl
    rw [e0, List.any_cons, ih]
    by_cases e : p.1 = k
    · have e2 : has (p :: r) k := ⟨p, List.mem_cons_self, e⟩
      simp [e, e2]
    · have ne : ¬ ((Sum.inl p.1 : Key) = Sum.inl k) := fun z => e (Sum.inl.inj z)
      have e2 : has (p :: r) k ↔ has r k := ⟨fun ⟨q, m, h⟩ => by
        rcases List.mem_cons.mp m with z | z
        · rw [z] at h; exact absurd h e
        · exact ⟨q, z, h⟩, fun ⟨q, m, h⟩ => ⟨q, List.mem_cons_of_mem _ m, h⟩⟩
      simp [ne, e2]
theorem putK_iK (r : Row) (k v : Int) : putK (iK r) (Sum.inl k) (.int v) = iK (putR r k v) := by
  unfold putK putR
  rw [any_iK]
  by_cases h : has r k
  · rw [decide_eq_true h, if_pos rfl, if_pos h]
    unfold iK
    rw [List.map_map, List.map_map]
    refine List.map_congr_left fun p _ => ?_
    by_cases e : p.1 = k
    · simp [e]
    · simp [e]
  · rw [decide_eq_false h, if_neg (by decide), if_neg h]
    unfold iK
    rw [List.map_append]
    rfl
theorem keys_put (r : Row) (k v : Int) : (putR r k v).map (·.1) = if has r k then r.map (·.1) else r.map (·.1) ++ [k] := by
  unfold putR
  by_cases h : has r k
  · rw [if_pos h, if_pos h, List.map_map]
    refine List.map_congr_left fun p _ => ?_
    by_cases e : p.1 = k
    · simp [e]
    · simp [e]
  · rw [if_neg h, if_neg h, List.map_append]
    rfl
theorem has_mem {r : Row} {k : Int} : has r k ↔ k ∈ r.map (·.1) := by
  rw [List.mem_map]
  exact Iff.rfl
theorem nd_put {r : Row} (h : Nd r) (k v : Int) : Nd (putR r k v) := by
  unfold Nd at h ⊢
  rw [keys_put]
  by_cases e : has r k
  · rw [if_pos e]; exact h
  · rw [if_neg e, List.nodup_append]
    refine ⟨h, by simp, fun a ha b hb z => e (has_mem.mpr ?_)⟩
    rw [List.mem_singleton] at hb
    rw [← hb, ← z]
    exact ha
theorem co_put (r : Row) (k v j : Int) : co (putR r k v) j = if k = j then v else co r j := by
  unfold putR
  by_cases h : has r k
  · rw [if_pos h]
    induction r with
    | nil => obtain ⟨p, m, _⟩ := h; cases m
    | cons p r ih =>
      rw [List.map_cons]
      by_cases e : p.1 = k
      · rw [if_pos e, co_cons, co_cons]
        by_cases ej : k = j
        · rw [if_pos ej]
          exact if_pos (show p.1 = j by rw [e, ej])
        · have nj : ¬ p.1 = j := fun z => ej (by rw [← e, z])
          rw [if_neg nj, if_neg ej, if_neg nj]
          -- other keys of the rest stand as they are
          clear ih h
          induction r with
          | nil => rfl
          | cons q r ih =>
            rw [List.map_cons, co_cons, co_cons, ← ih]
            by_cases eq : q.1 = k
            · rw [if_pos eq]
              have n2 : ¬ q.1 = j := fun z => ej (by rw [← eq, z])
              rw [if_neg n2, if_neg n2]
            · rw [if_neg eq]
      · rw [if_neg e, co_cons, co_cons]
        have h' : has r k := by
          obtain ⟨q, m, z⟩ := h
          rcases List.mem_cons.mp m with y | y
          · rw [y] at z; exact absurd z e
          · exact ⟨q, y, z⟩
        rw [ih h']
        by_cases ep : p.1 = j
        · have nk : ¬ k = j := fun z => e (by rw [ep, z])
          rw [if_pos ep, if_neg nk, if_pos ep]
        · rw [if_neg ep, if_neg ep]
  · rw [if_neg h]
    induction r with
    | nil => rfl
    | cons p r ih =>
      have np : ¬ p.1 = k := fun z => h ⟨p, List.mem_cons_self, z⟩
      rw [List.cons_append, co_cons, co_cons, ih fun ⟨q, m, z⟩ => h ⟨q, List.mem_cons_of_mem _ m, z⟩]
      by_cases ep : p.1 = j
      · have nk : ¬ k = j := fun z => np (by rw [ep, z])
        rw [if_pos ep, if_neg nk, if_pos ep]
      · rw [if_neg ep, if_neg ep]
theorem co_mem {r : Row} (h : Nd r) {p : Int × Int} (m : p ∈ r) : co r p.1 = p.2 := by
  induction r with
  | nil => cases m
  | cons q r ih =>
    unfold Nd at h
    rw [List.map_cons, List.nodup_cons] at h
    rw [co_cons]
    rcases List.mem_cons.mp m with e | e
    · rw [e, if_pos rfl]
    · rw [if_neg fun z => h.1 (List.mem_map.mpr ⟨p, e, z.symm⟩)]
      exact ih h.2 e
/-- sums: the keys of the parts, the numbers added -/
def addR (t r : Row) (c : Int) : Row := r.foldl (fun t p => putR t p.1 (co t p.1 + c * p.2)) t
theorem addR_nil (t : Row) (c : Int) : addR t [] c = t := rfl
theorem addR_cons (t : Row) (p : Int × Int) (r : Row) (c : Int) : addR t (p :: r) c = addR (putR t p.1 (co t p.1 + c * p.2)) r c := rfl
theorem addR_snoc (t r : Row) (p : Int × Int) (c : Int) : addR t (r ++ [p]) c = putR (addR t r c) p.1 (co (addR t r c) p.1 + c * p.2) := by
  unfold addR
  rw [List.foldl_append]
  rfl
theorem nd_addR {t r : Row} {c : Int} (h : Nd t) : Nd (addR t r c) := by
  induction r generalizing t with
  | nil => exact h
  | cons p r ih =>
    rw [addR_cons]
    exact ih (nd_put h _ _)
theorem co_addR {t r : Row} {c : Int} (h : Nd r) (j : Int) : co (addR t r c) j = co t j + c * co r j := by
  induction r generalizing t with
  | nil => simp [addR_nil, co]
  | cons p r ih =>
    have h' := h
    unfold Nd at h'
    rw [List.map_cons, List.nodup_cons] at h'
    rw [addR_cons, ih h'.2, co_put, co_cons]
    by_cases e : p.1 = j
    · have z : co r j = 0 := co_none fun q => h'.1 (by rw [e]; exact has_mem.mp q)
      rw [if_pos e, if_pos e, z, e]
      omega
    · rw [if_neg e, if_neg e]
/-- keys below n -/
def Bel (n : Int) (r : Row) : Prop := ∀ p ∈ r, 0 ≤ p.1 ∧ p.1 < n
theorem bel_keys {n : Int} {r : Row} : Bel n r ↔ ∀ k ∈ r.map (·.1), 0 ≤ k ∧ k < n := ⟨fun h k m => by
  obtain ⟨p, hp, e⟩ := List.mem_map.mp m
  rw [← e]
  exact h p hp, fun h p m => h _ (List.mem_map.mpr ⟨p, m, rfl⟩)⟩
theorem bel_put {n : Int} {r : Row} (h : Bel n r) {k v : Int} (hk : 0 ≤ k ∧ k < n) : Bel n (putR r k v) := by
  rw [bel_keys] at h ⊢
  rw [keys_put]
  by_cases e : has r k
  · rw [if_pos e]; exact h
  · rw [if_neg e]
    intro j m
    rcases List.mem_append.mp m with m | m
    · exact h j m
    · rw [List.mem_singleton.mp m]; exact hk
theorem bel_addR {n : Int} {t r : Row} {c : Int} (h : Bel n t) (hr : Bel n r) : Bel n (addR t r c) := by
  induction r generalizing t with
  | nil => exact h
  | cons p r ih =>
    rw [addR_cons]
    exact ih (bel_put h (hr p List.mem_cons_self)) fun q m => hr q (List.mem_cons_of_mem _ m)
theorem nodup_len : ∀ {n : Nat} {l : List Int}, l.Nodup → (∀ k ∈ l, 0 ≤ k ∧ k < (n : Int)) → l.length ≤ n
  | 0, l, _, h => by
    cases l with
    | nil => exact Nat.le_refl _
    | cons k l => exact absurd (h k List.mem_cons_self) (by omega)
  | n + 1, l, nd, h => by
    have f : (l.filter fun k => decide (k ≠ (n : Int))).length ≤ n := nodup_len (nd.filter _) fun k m => by
      have m' := List.mem_filter.mp m
      have := h k m'.1
      have := of_decide_eq_true m'.2
      omega
    have g : (l.filter fun k => decide (k = (n : Int))).length ≤ 1 := by
      have e : ∀ l : List Int, l.Nodup → (l.filter fun k => decide (k = (n : Int))).length ≤ 1 := by
        intro l
        induction l with
        | nil => intro _; exact Nat.zero_le _
        | cons k l ih =>
          intro nd
          rw [List.nodup_cons] at nd
          by_cases e : k = (n : Int)
          · have z : l.filter (fun k => decide (k = (n : Int))) = [] := List.filter_eq_nil_iff.mpr fun j m q => nd.1 (by rw [e, ← of_decide_eq_true q]; exact m)
            rw [List.filter_cons, if_pos (decide_eq_true e), z]
            exact Nat.le_refl _
          · rw [List.filter_cons, if_neg (by rw [decide_eq_false e]; decide)]
            exact ih nd.2
      exact e l nd
    have s : ∀ l : List Int, l.length = (l.filter fun k => decide (k = (n : Int))).length + (l.filter fun k => decide (k ≠ (n : Int))).length := by
      intro l
      induction l with
      | nil => rfl
      | cons k l ih =>
        by_cases e : k = (n : Int)
        · simp only [List.filter_cons, e, decide_true, if_true, ne_eq, not_true, decide_false, Bool.false_eq_true, if_false, List.length_cons] at ih ⊢
          omega
        · simp only [List.filter_cons, e, decide_false, ne_eq, not_false_eq_true, decide_true, if_true, Bool.false_eq_true, if_false, List.length_cons] at ih ⊢
          omega
    have := s l
    omega
theorem row_len {n : Nat} {r : Row} (h : Nd r) (b : Bel n r) : r.length ≤ n := by
  have := nodup_len h (bel_keys.mp b)
  rw [List.length_map] at this
  exact this
/-- one that is told as such: ascending, numbers from 1 to p - 1 -/
structure Canon (p : Int) (r : Row) : Prop where
  asc : (r.map (·.1)).Pairwise (· < ·)
  num : ∀ q ∈ r, 0 < q.2 ∧ q.2 < p
theorem Canon.nd {p : Int} {r : Row} (c : Canon p r) : Nd r := c.asc.imp fun {a b} h e => by omega
theorem Canon.has_iff {p : Int} {r : Row} (c : Canon p r) (k : Int) : has r k ↔ co r k ≠ 0 := by
  constructor
  · rintro ⟨q, m, e⟩ z
    have := co_mem c.nd m
    rw [e, z] at this
    have := (c.num q m).1
    omega
  · intro h
    by_cases z : has r k
    · exact z
    · exact absurd (co_none z) h
/-- such a row is told by its numbers -/
theorem Canon.ext : ∀ {p : Int} {r s : Row}, Canon p r → Canon p s → (∀ k, co r k = co s k) → r = s
  | _, [], [], _, _, _ => rfl
  | _, [], q :: s, _, c, h => by
    have := h q.1
    rw [co_mem c.nd (List.mem_cons_self)] at this
    have := (c.num q List.mem_cons_self).1
    simp only [co] at *
    omega
  | _, q :: r, [], c, _, h => by
    have := h q.1
    rw [co_mem c.nd (List.mem_cons_self)] at this
    have := (c.num q List.mem_cons_self).1
    simp only [co] at *
    omega
  | p, q :: r, t :: s, c, d, h => by
    have c1 : Canon p r := ⟨(List.pairwise_cons.mp (List.map_cons ▸ c.asc)).2, fun x m => c.num x (List.mem_cons_of_mem _ m)⟩
    have d1 : Canon p s := ⟨(List.pairwise_cons.mp (List.map_cons ▸ d.asc)).2, fun x m => d.num x (List.mem_cons_of_mem _ m)⟩
    have cl : ∀ k, has r k → q.1 < k := fun k m => (List.pairwise_cons.mp (List.map_cons ▸ c.asc)).1 k (has_mem.mp m)
    have dl : ∀ k, has s k → t.1 < k := fun k m => (List.pairwise_cons.mp (List.map_cons ▸ d.asc)).1 k (has_mem.mp m)
    have e1 : q.1 = t.1 := by
      have hq : has (t :: s) q.1 := (d.has_iff _).mpr (by rw [← h]; exact (c.has_iff _).mp ⟨q, List.mem_cons_self, rfl⟩)
      have ht : has (q :: r) t.1 := (c.has_iff _).mpr (by rw [h]; exact (d.has_iff _).mp ⟨t, List.mem_cons_self, rfl⟩)
      have split : ∀ {x : Int × Int} {l : Row} {k : Int}, has (x :: l) k → x.1 = k ∨ has l k := fun {x l k} ⟨y, m, e⟩ => by
        rcases List.mem_cons.mp m with z | z
        · rw [z] at e; exact .inl e
        · exact .inr ⟨y, z, e⟩
      rcases split hq with e | m
      · exact e.symm
      · rcases split ht with e | m'
        · exact e
        · have := dl _ m
          have := cl _ m'
          omega
    have e2 : q.2 = t.2 := by
      have a := co_mem c.nd (List.mem_cons_self (a := q) (l := r))
      have b := co_mem d.nd (List.mem_cons_self (a := t) (l := s))
      rw [← a, ← b, h, e1]
    have e3 : q = t := Prod.ext e1 e2
    subst e3
    rw [Canon.ext c1 d1 fun k => by
      have hk := h k
      rw [co_cons, co_cons] at hk
      by_cases e : q.1 = k
      · rw [co_none fun m => by have := cl _ m; omega, co_none fun m => by have := dl _ m; omega]
      · rw [if_neg e, if_neg e] at hk
        exact hk]
end Lp
/-! sums.py over rows -/
namespace Lp
open PySem L2
theorem same_upd {H H' : Hp} {p : Addr} {o : HO} (s : Same H H') (n : H p = none) : Same H (upd H' p o) := fun b u e => by
  rw [upd_ne (ne_of_none e n)]
  exact s b u e
/-- truth, in a block as outside -/
def tTru (K : PySem.W.Frag) (ta : TE) : TT := fun σ H Q => ta σ H fun x H' => ∃ k, TruV K x H' k ∧ Q k H'
theorem pt_tru {X : Cx} {K : PySem.W.Frag} {a : Expr} {ta : TE} (hK : X.K = K) (ha : PE X a ta) (he : ∀ whole, isTrue a X.env whole = (do let v ← whole; standAt a.pos; holding [v] (truthy v))) :
    PT X a (tTru K ta) := by
  subst hK
  exact pt_truth ha he
/-- readings, opened to plain logic -/
local macro_rules | `(tactic| walk_at "rd") => `(tactic| simp only [tSeq, tAsg, tYes, tTest, tOp, tCB, tCons, tNil, tVar, tC, rI0, rI, gName, wipe, tDisp, tTru, TruV, tPairs, tRet, tIf, tIfS, tPar, tLst, tTup, tDrop, tDGet, tCall, sDPut, L2.start,
  List.map_cons, List.map_nil, List.foldl_cons, List.foldl_nil, List.length_cons, List.length_nil, List.replicate_succ, List.replicate_zero, List.append_nil, List.cons_append, List.nil_append, List.set_cons_zero, List.set_cons_succ, List.getElem?_cons_zero, List.getElem?_cons_succ,
  Option.some.injEq, List.cons.injEq, V.int.injEq, V.bl.injEq, V.ref.injEq, V.str.injEq, exists_eq_left', exists_eq_left, exists_eq_right, and_true, true_and, exists_and_left, Nat.add_zero, Nat.reduceAdd, Nat.reduceSub, Nat.sub_zero, if_true, if_false])
theorem get_row {H : Hp} {a : Addr} {r : Row} {k : Int} (h : RowAt H a r) (m : has r k) : DGet H a (.int k) (some (.int (co r k))) := by
  have q := DGet.k (k := Sum.inl k) h
  rw [valV_iK, if_pos m] at q
  exact q
theorem look_row {H : Hp} {a : Addr} {r : Row} {k : Int} (h : RowAt H a r) : DGet H a (.int k) (if has r k then some (.int (co r k)) else none) := by
  have q := DGet.k (k := Sum.inl k) h
  rw [valV_iK] at q
  exact q
theorem put_row {H : Hp} {a : Addr} {r : Row} {k v : Int} (h : RowAt H a r) (z : r.length < sizeLine) : DPut H a (.int k) (.int v) (upd H a (.dK (iK (putR r k v)))) := by
  have q := DPut.k (k := Sum.inl k) (v := .int v) h (by unfold iK; rw [List.length_map]; exact z)
  rw [putK_iK] at q
  exact q
/-! ### tidied -/
def tidyL (p : Int) (r : Row) (ys : List Int) : Row := (ys.filter fun y => decide ((co r y).fmod p ≠ 0)).map fun y => (y, (co r y).fmod p)
theorem tidyL_snoc (p : Int) (r : Row) (ys : List Int) (y : Int) : tidyL p r (ys ++ [y]) = if (co r y).fmod p ≠ 0 then tidyL p r ys ++ [(y, (co r y).fmod p)] else tidyL p r ys := by
  unfold tidyL
  rw [List.filter_append, List.map_append]
  by_cases e : (co r y).fmod p ≠ 0
  · rw [if_pos e, List.filter_cons, if_pos (decide_eq_true e)]
    rfl
  · rw [if_neg e, List.filter_cons, if_neg (by rw [decide_eq_false e]; decide)]
    exact List.append_nil _
theorem has_tidyL {p : Int} {r : Row} {ys : List Int} {k : Int} (h : has (tidyL p r ys) k) : k ∈ ys := by
  obtain ⟨q, m, e⟩ := h
  obtain ⟨y, my, rfl⟩ := List.mem_map.mp m
  rw [← e]
  exact (List.mem_filter.mp my).1
theorem co_tidyL {p : Int} {r : Row} : ∀ {ys : List Int} {k : Int}, k ∈ ys → co (tidyL p r ys) k = (co r k).fmod p
  | [], _, m => by cases m
  | y :: ys, k, m => by
    unfold tidyL
    by_cases e : (co r y).fmod p ≠ 0
    · rw [List.filter_cons, if_pos (decide_eq_true e), List.map_cons, co_cons]
      by_cases ek : y = k
      · rw [if_pos ek, ek]
      · rw [if_neg ek]
        rcases List.mem_cons.mp m with z | z
        · exact absurd z.symm ek
        · exact co_tidyL z
    · rw [List.filter_cons, if_neg (by rw [decide_eq_false e]; decide)]
      by_cases mk : k ∈ ys
      · exact co_tidyL mk
      · rcases List.mem_cons.mp m with z | z
        · subst z
          have n : ¬ has (tidyL p r ys) k := fun q => mk (has_tidyL q)
          have := co_none n
          unfold tidyL at this
          rw [this]
          exact (Decidable.not_not.mp e).symm
        · exact absurd z mk
theorem tidyL_spec {p : Int} {r : Row} {ys : List Int} (hp : 0 < p) (perm : ys.Perm (r.map (·.1))) (asc : ys.Pairwise (· ≤ ·)) (nd : Nd r) : Canon p (tidyL p r ys) ∧ ∀ k, co (tidyL p r ys) k = (co r k).fmod p := by
  have ny : ys.Nodup := perm.nodup_iff.mpr nd
  have lt : ys.Pairwise (· < ·) := (asc.and ny).imp fun {a b} h => by omega
  refine ⟨⟨?_, fun q m => ?_⟩, fun k => ?_⟩
  · have e : (tidyL p r ys).map (·.1) = ys.filter fun y => decide ((co r y).fmod p ≠ 0) := by
      unfold tidyL
      rw [List.map_map]
      exact List.map_id _
    rw [e]
    exact lt.filter _
  · obtain ⟨y, my, rfl⟩ := List.mem_map.mp m
    have h := of_decide_eq_true (List.mem_filter.mp my).2
    have := fmod_in (a := co r y) hp
    simp only
    omega
  · by_cases m : k ∈ ys
    · exact co_tidyL m
    · rw [co_none fun q => m (has_tidyL q), co_none fun q => m (perm.mem_iff.mpr (has_mem.mp q)), Int.zero_fmod]
abbrev sTidied : Stmt := top 20
def spTidied : Sp := fun vs H Q _ => ∃ (a : Addr) (r : Row) (p : Int), vs = [.ref a, .int p] ∧ RowAt H a r ∧ Nd r ∧ r.length < 64 ∧ 0 < p ∧
  ∀ H' q r', Same H H' → H q = none → RowAt H' q r' → Canon p r' → (∀ k, co r' k = (co r k).fmod p) → Q (.ref q) H'
section
variable {P : Program} {w : World} {K : PySem.W.Frag} {mg : Str → Option Value} {base : Heap}
theorem scTidied : FnScope ["row", "prime", "place"] ["row", "prime"] (defScope sTidied) := ⟨rfl, rfl, rfl, by decide +kernel, rfl, by decide +kernel, by decide +kernel⟩
theorem ok_tidied {f : Addr} {fd : FuncData} (F : Fun K "tidied" "tidied" sTidied f fd) (mSorted : mg "sorted" = none) : FnOk P w K mg base CX0 1 f fd ["row", "prime"] spTidied := by
  refine F.ok scTidied (fun vs H Q E h => ?_) (fun cdv A outer s H vs Q E hr h => ?_)
  · obtain ⟨a, r, p, rfl, _⟩ := h
    rfl
  · obtain ⟨a, r, p, rfl, hR, nd, z64, hp, k⟩ := h
    have hu := hu_of hr
    refine ⟨_, pss_one (ps_ret (pe_dp (b := false) (own := [("place", 2)]) (g := gName 2) hu rfl scTidied.nd (pi_list (pe_callB (call_sortedDI rfl) (by rfl) mSorted (by decide +kernel) (pa_cons (pv 0) pa_nil))) (blkOk_by (N := ["row", "prime", "place"]) (sc := defScope sTidied) (by decide +kernel))
      (fun _ _ _ _ _ => pg_name (i := 2) scTidied.nd rfl (Or.inl rfl)) (fun _ _ _ _ _ => pts_one (pt_tru (K := K) rfl (pe_op op_modN (pe_dget hu (pv 0) (pv 2) (fun _ _ => rfl)) (pv 1)) (by intro _; rfl)))
      (fun _ _ _ _ _ => pv 2) (fun _ _ _ _ _ => pe_op op_modN (pe_dget hu (pv 0) (pv 2) (fun _ _ => rfl)) (pv 1)))), ?_⟩
    simp only [tSeq, tAsg, tDp, iList, tRet, tCB, tCons, tNil]
    refine ⟨_, rfl, a, iK r, r.map (·.1), rfl, .inl hR, by unfold iK; rw [List.map_map, List.map_map]; rfl, by rw [List.length_map]; exact z64, fun ys l perm asc hl => ?_⟩
    have ny : ys.Nodup := perm.nodup_iff.mpr nd
    have s1 : Same H (upd H l (.lst (ys.map V.int))) := same_new hl
    refine ⟨l, rfl, ⟨_, SqL.of upd_same⟩, fun D hD => ?_⟩
    have hDH : H D = none := by
      by_cases e : D = l
      · rw [e]; exact hl
      · rw [upd_ne e] at hD; exact hD
    refine dp_it walk_list (b := false) (fun i H' => Same (upd H l (.lst (ys.map V.int))) H' ∧ RowAt H' D (tidyL p r (ys.take i))) ⟨same_new hD, upd_same⟩ (fun i H' _ h => SqL.of (h.1 _ _ upd_same)) ?_ ?_
    · rintro i x H1 H' hi ⟨s2, hT⟩ ⟨rfl, hx⟩
      obtain ⟨y, hy, rfl⟩ := int_at hx
      have il : i < ys.length := (List.getElem?_eq_some_iff.mp hy).1
      have my : has r y := has_mem.mpr (perm.mem_iff.mp (List.mem_of_getElem? hy))
      have hR' : RowAt H' a r := s2 _ _ (s1 _ _ hR)
      have tk : ys.take (i + 1) = ys.take i ++ [y] := by
        rw [List.take_add_one, hy]
        rfl
      have nt : y ∉ ys.take i := fun m => by
        obtain ⟨j, hj⟩ := List.mem_iff_getElem?.mp m
        have lj : j < i := by
          have := (List.getElem?_eq_some_iff.mp hj).1
          rw [List.length_take] at this
          omega
        rw [List.getElem?_take, if_pos lj] at hj
        have := (List.getElem?_inj (by omega) ny).mp (hj.trans hy.symm)
        omega
      have ht : ¬ has (tidyL p r (ys.take i)) y := fun m => nt (has_tidyL m)
      have zt : (tidyL p r (ys.take i)).length ≤ i := by
        unfold tidyL
        rw [List.length_map]
        refine Nat.le_trans (List.length_filter_le _ _) ?_
        rw [List.length_take]
        omega
      have zy : ys.length < 64 := by rw [perm.length_eq, List.length_map]; exact z64
      have hDH1 : upd H l (.lst (ys.map V.int)) D = none := hD
      walk_at "rd"
      refine ⟨_, get_row hR' my, _, rfl, by omega, ?_⟩
      rw [tk, tidyL_snoc]
      by_cases e : (co r y).fmod p = 0
      · rw [if_neg (by rw [e]; decide), if_neg (fun z => z e)]
        exact ⟨s2, hT⟩
      · rw [if_pos (by simpa using e), if_pos e]
        refine ⟨_, get_row hR' my, _, rfl, by omega, _, put_row hT (small1000 (by omega)), same_upd s2 hDH1, ?_⟩
        have ep : putR (tidyL p r (ys.take i)) y ((co r y).fmod p) = tidyL p r (ys.take i) ++ [(y, (co r y).fmod p)] := by
          unfold putR
          rw [if_neg ht]
        rw [ep]
        exact upd_same
    · rintro H' ⟨s2, hT⟩
      rw [List.length_map, List.take_length] at hT
      obtain ⟨c1, c2⟩ := tidyL_spec hp perm asc nd
      exact k H' D _ (s1.trans s2) hDH hT c1 c2
end
end Lp
namespace Lp
open PySem L2
local macro_rules | `(tactic| walk_at "rd") => `(tactic| simp only [tSeq, tAsg, tYes, tTest, tOp, tCB, tCons, tNil, tVar, tC, rI0, rI, gName, wipe, tDisp, tTru, TruV, tB, tNext, tDGet2, tLock, tDIn, tDNotIn, tOr, tNot, tChain, tAnd, tCont, tUn, rU, tPairs, tRet, tIf, tIfS, tPar, tLst, tTup, tDrop, tDGet, tCall, sDPut, L2.start,
  List.map_cons, List.map_nil, List.foldl_cons, List.foldl_nil, List.length_cons, List.length_nil, List.replicate_succ, List.replicate_zero, List.append_nil, List.cons_append, List.nil_append, List.set_cons_zero, List.set_cons_succ, List.getElem?_cons_zero, List.getElem?_cons_succ,
  Option.some.injEq, List.cons.injEq, V.int.injEq, V.bl.injEq, V.ref.injEq, V.str.injEq, exists_eq_left', exists_eq_left, exists_eq_right, and_true, true_and, exists_and_left, Nat.add_zero, Nat.reduceAdd, Nat.reduceSub, Nat.sub_zero, if_true, if_false])
theorem unlock_eq {H : Hp} {T R : Addr} {f u x : HO} (n : T ≠ R) (h : H R = some u) : upd (upd (upd H R f) T x) R u = upd H T x := by
  funext b
  by_cases e : b = R
  · subst e
    rw [upd_same, upd_ne (Ne.symm n)]
    exact h.symm
  · rw [upd_ne e]
    by_cases e2 : b = T
    · subst e2
      rw [upd_same, upd_same]
    · rw [upd_ne e2, upd_ne e2, upd_ne e]
def RowF (H : Hp) (a : Addr) (od : Obj) (r : Row) : Prop := H a = some (.frz od (.dK (iK r)))
theorem get_rowF {H : Hp} {a : Addr} {od : Obj} {r : Row} {k : Int} (h : RowF H a od r) (m : has r k) : DGet H a (.int k) (some (.int (co r k))) :=
  .inl ⟨iK r, Sum.inl k, .inr ⟨od, h⟩, rfl, by rw [valV_iK, if_pos m]⟩
theorem iK_at {r : Row} {i : Nat} {k : Key} {v : V} (h : (iK r)[i]? = some (k, v)) : ∃ q, r[i]? = some q ∧ k = Sum.inl q.1 ∧ v = .int q.2 := by
  unfold iK at h
  rw [List.getElem?_map] at h
  cases e : r[i]? with
  | none => rw [e] at h; cases h
  | some q => rw [e] at h; cases h; exact ⟨q, rfl, rfl, rfl⟩
theorem len_putR (r : Row) (k v : Int) : (putR r k v).length ≤ r.length + 1 := by
  unfold putR
  by_cases e : has r k
  · rw [if_pos e, List.length_map]; omega
  · rw [if_neg e, List.length_append]; exact Nat.le_refl _
theorem len_addR (t r : Row) (c : Int) : (addR t r c).length ≤ t.length + r.length := by
  induction r generalizing t with
  | nil => exact Nat.le_refl _
  | cons p r ih =>
    rw [addR_cons]
    have := ih (t := putR t p.1 (co t p.1 + c * p.2))
    have := len_putR t p.1 (co t p.1 + c * p.2)
    rw [List.length_cons]
    omega
/-- a loop over a dict that may be walked already -/
def tLockO (t : TS) : TS := fun D σ H => tLock t D σ H ∨ t D σ H
theorem ps_lockO {X : Cx} {st : Stmt} {t : TS} (h : PS X st t) : PS X st (tLockO t) := ⟨fun pins s σ H D I hw => hw.elim ((ps_lock h).run pins s σ H D I) (h.run pins s σ H D I)⟩
theorem iK_inj {r s : Row} (h : iK r = iK s) : r = s := by
  induction r generalizing s with
  | nil => cases s with
    | nil => rfl
    | cons q s => cases h
  | cons p r ih => cases s with
    | nil => cases h
    | cons q s =>
      have h' : (Sum.inl p.1, V.int p.2) :: iK r = (Sum.inl q.1, V.int q.2) :: iK s := h
      have h1 := (List.cons.inj h').1
      have e1 : p.1 = q.1 := Sum.inl.inj (Prod.mk.inj h1).1
      have e2 : p.2 = q.2 := V.int.inj (Prod.mk.inj h1).2
      rw [ih (List.cons.inj h').2, Prod.ext e1 e2]
/-- a row that may be walked just now -/
def RowR (H : Hp) (a : Addr) (r : Row) : Prop := RowAt H a r ∨ ∃ od, RowF H a od r
theorem RowR.of {H : Hp} {a : Addr} {r : Row} (h : RowAt H a r) : RowR H a r := .inl h
/-- .. behind a lock on R -/
theorem RowR.lock {H H' : Hp} {a R : Addr} {od : Obj} {r s : Row} (h : RowAt H a s) (hR : RowAt H R r) (hR' : RowF H' R od r) (st : ∀ b o, b ≠ R → H b = some o → H' b = some o) (na : True) : RowR H' a s := by
  by_cases e : a = R
  · subst e
    have e2 : iK s = iK r := by
      have := (show H a = some (.dK (iK s)) from h).symm.trans (show H a = some (.dK (iK r)) from hR)
      exact HO.dK.inj (Option.some.inj this)
    rw [iK_inj e2]
    exact .inr ⟨od, hR'⟩
  · exact .inl (st _ _ e h)
/-! ### add_to -/
abbrev sAddTo : Stmt := top 22
def spAddTo : Sp := fun vs H Q _ => ∃ (T R : Addr) (t r : Row) (c : Int), vs = [.ref T, .ref R, .int c] ∧ RowAt H T t ∧ RowR H R r ∧ T ≠ R ∧ Nd r ∧ (-(2 ^ 64) < c ∧ c < 2 ^ 64) ∧ t.length + r.length ≤ 1000 ∧
  Q .non (upd H T (.dK (iK (addR t r c))))
section
variable {P : Program} {w : World} {K : PySem.W.Frag} {mg : Str → Option Value} {base : Heap}
theorem scAddTo : FnScope ["total", "row", "times", "place"] ["total", "row", "times"] (defScope sAddTo) := ⟨rfl, rfl, rfl, by decide +kernel, rfl, by decide +kernel, by decide +kernel⟩
theorem ok_add_to {f : Addr} {fd : FuncData} (F : Fun K "add_to" "add_to" sAddTo f fd) : FnOk P w K mg base CX0 1 f fd ["total", "row", "times"] spAddTo := by
  refine F.ok scAddTo (fun vs H Q E h => ?_) (fun cdv A outer s H vs Q E hr h => ?_)
  · obtain ⟨T, R, t, r, c, rfl, _⟩ := h
    rfl
  · obtain ⟨T, R, t, r, c, rfl, hT, hR, ne, nd, hc, z, k⟩ := h
    have hu := hu_of hr
    refine ⟨_, pss_one (ps_lockO (ps_for PassesOwn.never rfl (pi_keys (pv 1)) (pg_name (i := 3) scAddTo.nd rfl (Or.inl rfl))
      (pss_one (ps_dput hu (pv 0) (pv 3) (pe_op op_add (pe_dget2 hu (pv 0) (pv 3) pe_int ⟨rfl, rfl, rfl, rfl⟩) (pe_op op_mul (pv 2) (pe_dget hu (pv 1) (pv 3) (fun _ _ => rfl)))) rfl)))), ?_⟩
    rcases hR with hR | ⟨od, hR⟩
    · refine .inl ⟨R, _, hR, trivial, fun od => ⟨_, rfl, R, od, rfl, .inl ⟨_, upd_same, ?_⟩⟩⟩
      refine for_it walk_keys (fun i σ H' => ∃ v3, σ = [some (.ref T), some (.ref R), some (.int c), v3] ∧ (∀ b, b ≠ T → H' b = upd H R (.frz od (.dK (iK r))) b) ∧ RowAt H' T (addR t (r.take i) c)) ?_ ?_ ?_ ?_
      · exact ⟨none, rfl, fun _ _ => rfl, by unfold RowAt; rw [upd_ne ne]; exact hT⟩
      · rintro i σ H' _ ⟨v3, rfl, hb, hT'⟩
        rw [hb R (Ne.symm ne)]
        exact upd_same
      · rintro i x σ H' H1 hi ⟨v3, rfl, hb, hT'⟩ ⟨rfl, kk, vv, hx, rfl⟩
        obtain ⟨q, hq, rfl, rfl⟩ := iK_at hx
        have hF : RowF H1 R od r := by
          unfold RowF
          rw [hb R (Ne.symm ne)]
          exact upd_same
        have mq : q ∈ r := List.mem_of_getElem? hq
        have gq := get_rowF hF ⟨q, mq, rfl⟩
        rw [co_mem nd mq] at gq
        have tk : r.take (i + 1) = r.take i ++ [q] := by
          rw [List.take_add_one, hq]
          rfl
        have za := len_addR t (r.take i) c
        have zt : (r.take i).length ≤ r.length := by rw [List.length_take]; omega
        have e0 : (if has (addR t (r.take i) c) q.1 then some (V.int (co (addR t (r.take i) c) q.1)) else none).getD (.int 0) = .int (co (addR t (r.take i) c) q.1) := by
          by_cases m : has (addR t (r.take i) c) q.1
          · rw [if_pos m]; rfl
          · rw [if_neg m, co_none m]; rfl
        show gName 3 (.int q.1) _ _ _
        walk_at "rd"
        refine ⟨.inl ⟨_, .inl hT'⟩, _, look_row hT', _, gq, ?_⟩
        rw [e0]
        refine ⟨_, rfl, .inl hc, _, rfl, _, put_row hT' (small1000 (by omega)), fun b hn => ?_, ?_⟩
        · rw [upd_ne hn]
          exact hb b hn
        · rw [tk, addR_snoc]
          exact upd_same
      · rintro σ H' ⟨v3, rfl, hb, hT'⟩
        have zl : (iK r).length = r.length := by unfold iK; rw [List.length_map]
        rw [zl, List.take_length] at hT'
        refine ⟨by rw [hb R (Ne.symm ne)]; exact upd_same, ?_⟩
        have e : upd H' R (.dK (iK r)) = upd H T (.dK (iK (addR t r c))) := by
          funext b
          by_cases e : b = R
          · subst e
            rw [upd_same, upd_ne (Ne.symm ne)]
            exact hR.symm
          · rw [upd_ne e]
            by_cases e2 : b = T
            · subst e2
              rw [upd_same]
              exact hT'
            · rw [upd_ne e2, hb b e2, upd_ne e]
        show Q .non (upd H' R (.dK (iK r)))
        rw [e]
        exact k
    · refine .inr ⟨_, rfl, R, od, rfl, .inl ⟨_, hR, ?_⟩⟩
      refine for_it walk_keys (fun i σ H' => ∃ v3, σ = [some (.ref T), some (.ref R), some (.int c), v3] ∧ (∀ b, b ≠ T → H' b = H b) ∧ RowAt H' T (addR t (r.take i) c)) ?_ ?_ ?_ ?_
      · exact ⟨none, rfl, fun _ _ => rfl, hT⟩
      · rintro i σ H' _ ⟨v3, rfl, hb, hT'⟩
        rw [hb R (Ne.symm ne)]
        exact hR
      · rintro i x σ H' H1 hi ⟨v3, rfl, hb, hT'⟩ ⟨rfl, kk, vv, hx, rfl⟩
        obtain ⟨q, hq, rfl, rfl⟩ := iK_at hx
        have hF : RowF H1 R od r := by
          unfold RowF
          rw [hb R (Ne.symm ne)]
          exact hR
        have mq : q ∈ r := List.mem_of_getElem? hq
        have gq := get_rowF hF ⟨q, mq, rfl⟩
        rw [co_mem nd mq] at gq
        have tk : r.take (i + 1) = r.take i ++ [q] := by
          rw [List.take_add_one, hq]
          rfl
        have za := len_addR t (r.take i) c
        have zt : (r.take i).length ≤ r.length := by rw [List.length_take]; omega
        have e0 : (if has (addR t (r.take i) c) q.1 then some (V.int (co (addR t (r.take i) c) q.1)) else none).getD (.int 0) = .int (co (addR t (r.take i) c) q.1) := by
          by_cases m : has (addR t (r.take i) c) q.1
          · rw [if_pos m]; rfl
          · rw [if_neg m, co_none m]; rfl
        show gName 3 (.int q.1) _ _ _
        walk_at "rd"
        refine ⟨.inl ⟨_, .inl hT'⟩, _, look_row hT', _, gq, ?_⟩
        rw [e0]
        refine ⟨_, rfl, .inl hc, _, rfl, _, put_row hT' (small1000 (by omega)), fun b hn => ?_, ?_⟩
        · rw [upd_ne hn]
          exact hb b hn
        · rw [tk, addR_snoc]
          exact upd_same
      · rintro σ H' ⟨v3, rfl, hb, hT'⟩
        have zl : (iK r).length = r.length := by unfold iK; rw [List.length_map]
        rw [zl, List.take_length] at hT'
        have e : H' = upd H T (.dK (iK (addR t r c))) := by
          funext b
          by_cases e2 : b = T
          · subst e2
            rw [upd_same]
            exact hT'
          · rw [upd_ne e2, hb b e2]
        show Q .non H'
        rw [e]
        exact k
end
end Lp
namespace Lp
open PySem L2
local macro_rules | `(tactic| walk_at "rd") => `(tactic| simp only [tSeq, tAsg, tYes, tTest, tOp, tCB, tCons, tNil, tVar, tC, rI0, rI, gName, wipe, tDisp, tTru, TruV, tB, tNext, tDGet2, tLock, tDIn, tDNotIn, tOr, tNot, tChain, tAnd, tCont, tUn, rU, tPairs, tRet, tIf, tIfS, tPar, tLst, tTup, tDrop, tDGet, tCall, sDPut, L2.start,
  List.map_cons, List.map_nil, List.foldl_cons, List.foldl_nil, List.length_cons, List.length_nil, List.replicate_succ, List.replicate_zero, List.append_nil, List.cons_append, List.nil_append, List.set_cons_zero, List.set_cons_succ, List.getElem?_cons_zero, List.getElem?_cons_succ,
  Option.some.injEq, List.cons.injEq, V.int.injEq, V.bl.injEq, V.ref.injEq, V.str.injEq, exists_eq_left', exists_eq_left, exists_eq_right, and_true, true_and, exists_and_left, Nat.add_zero, Nat.reduceAdd, Nat.reduceSub, Nat.sub_zero, if_true, if_false])
/-! ### sums of rows at places -/
def ledR (S : Int → Row) (r : Row) : Row := r.foldl (fun t q => addR t (S q.1) q.2) []
theorem ledR_snoc (S : Int → Row) (r : Row) (q : Int × Int) : ledR S (r ++ [q]) = addR (ledR S r) (S q.1) q.2 := by
  unfold ledR
  rw [List.foldl_append]
  rfl
/-- the sum of its numbers times f at its places -/
def sumW (r : Row) (f : Int → Int) : Int := (r.map fun q => q.2 * f q.1).sum
theorem sumW_snoc (r : Row) (q : Int × Int) (f : Int → Int) : sumW (r ++ [q]) f = sumW r f + q.2 * f q.1 := by
  unfold sumW
  rw [List.map_append, List.sum_append]
  simp
theorem rev_ind {α : Type} {P : List α → Prop} (h0 : P []) (h1 : ∀ l a, P l → P (l ++ [a])) : ∀ l, P l := by
  intro l
  have : ∀ m : List α, P m.reverse := by
    intro m
    induction m with
    | nil => exact h0
    | cons a m ih =>
      rw [List.reverse_cons]
      exact h1 _ _ ih
  have q := this l.reverse
  rw [List.reverse_reverse] at q
  exact q
theorem ledR_ok {S : Int → Row} {n : Int} : ∀ {r : Row}, (∀ q ∈ r, Nd (S q.1) ∧ Bel n (S q.1)) → Nd (ledR S r) ∧ Bel n (ledR S r) ∧ ∀ j, co (ledR S r) j = sumW r fun k => co (S k) j := by
  intro r
  induction r using rev_ind with
  | h0 => exact fun _ => ⟨List.Pairwise.nil, fun p m => (by cases m), fun j => rfl⟩
  | h1 l a ih =>
    intro h
    obtain ⟨h1, h2, h3⟩ := ih fun q m => h q (List.mem_append_left _ m)
    obtain ⟨g1, g2⟩ := h a (List.mem_append_right _ List.mem_cons_self)
    rw [ledR_snoc]
    refine ⟨nd_addR h1, bel_addR h2 g2, fun j => ?_⟩
    rw [co_addR g1, h3, sumW_snoc]
theorem bel_of {p : Int} {n : Int} {t r : Row} (c : Canon p r) (e : ∀ k, co r k = (co t k).fmod p) (b : Bel n t) : Bel n r := fun q m => by
  have h1 : co r q.1 ≠ 0 := (c.has_iff _).mp ⟨q, m, rfl⟩
  by_cases h : has t q.1
  · obtain ⟨y, my, ey⟩ := h
    rw [← ey]
    exact b y my
  · rw [e, co_none h, Int.zero_fmod] at h1
    exact absurd rfl h1
abbrev sLed : Stmt := top 23
def spLed : Sp := fun vs H Q _ => ∃ (L R : Addr) (as : List Addr) (r : Row) (S : Int → Row) (p : Int) (n : Nat), vs = [.ref L, .ref R, .int p] ∧ H L = some (.lst (as.map V.ref)) ∧ RowAt H R r ∧ Nd r ∧ Bel as.length r ∧ r.length ≤ 400 ∧ n ≤ 60 ∧
  (∀ q ∈ r, (-(2 ^ 64) < q.2 ∧ q.2 < 2 ^ 64) ∧ ∃ a, as[q.1.toNat]? = some a ∧ RowAt H a (S q.1) ∧ Nd (S q.1) ∧ Bel n (S q.1)) ∧ 0 < p ∧
  ∀ H' q r', Same H H' → H q = none → RowAt H' q r' → Canon p r' → Bel n r' → (∀ j, co r' j = (sumW r fun k => co (S k) j).fmod p) → Q (.ref q) H'
section
variable {P : Program} {w : World} {K : PySem.W.Frag} {mg : Str → Option Value} {base : Heap}
theorem scLed : FnScope ["rows", "row", "prime", "total", "place"] ["rows", "row", "prime"] (defScope sLed) := ⟨rfl, rfl, rfl, by decide +kernel, rfl, by decide +kernel, by decide +kernel⟩
theorem ok_led {f fA fT : Addr} {fd dA dT : FuncData} (F : Fun K "led" "led" sLed f fd) (A1 : FnOk P w K mg base CX0 1 fA dA ["total", "row", "times"] spAddTo) (mA : mg "add_to" = some (.ref fA)) (kA : PySem.W.keepIn K (.ref fA) = true) (bA : Binds K dA ["total", "row", "times"] [])
    (T1 : FnOk P w K mg base CX0 1 fT dT ["row", "prime"] spTidied) (mT : mg "tidied" = some (.ref fT)) (kT : PySem.W.keepIn K (.ref fT) = true) (bT : Binds K dT ["row", "prime"] []) : FnOk P w K mg base CX0 2 f fd ["rows", "row", "prime"] spLed := by
  refine F.ok scLed (fun vs H Q E h => ?_) (fun cdv A outer s H vs Q E hr h => ?_)
  · obtain ⟨L, R, as, r, S, p, n, rfl, _⟩ := h
    rfl
  · obtain ⟨L, R, as, r, S, p, n, rfl, hL, hR, nd, bl, z, hn, hq, hp, k⟩ := h
    have hu := hu_of hr
    refine ⟨_, pss_cons (ps_set (i := 3) scLed.nd rfl (Or.inl rfl) pe_dnewK) (pss_cons (ps_lock (ps_for PassesOwn.never rfl (pi_keys (pv 1)) (pg_name (i := 4) scLed.nd rfl (Or.inl rfl))
      (pss_one (ps_expr (pe_call A1 hr (by rfl) mA kA bA .nil pass0 (pa_cons (pv 3) (pa_cons (pe_ix ix_list (pv 0) (pv 4) (fun _ _ => rfl)) (pa_cons (pe_dget hu (pv 1) (pv 4) (fun _ _ => rfl)) pa_nil))))))))
      (pss_one (ps_ret (pe_call T1 hr (by rfl) mT kT bT .nil pass0 (pa_cons (pv 3) (pa_cons (pv 2) pa_nil)))))), ?_⟩
    intro T hT
    have hRT : RowAt (upd H T (.dK [])) R r := by
      unfold RowAt
      rw [upd_ne (ne_of_none hR hT)]
      exact hR
    refine ⟨R, _, hRT, trivial, fun od => ⟨_, rfl, R, od, rfl, .inl ⟨_, upd_same, ?_⟩⟩⟩
    have nTR : T ≠ R := fun e => ne_of_none (show H R = some _ from hR) hT e.symm
    refine for_it walk_keys (fun i σ H' => ∃ v4, σ = [some (.ref L), some (.ref R), some (.int p), some (.ref T), v4] ∧ (∀ b, b ≠ T → H' b = upd H R (.frz od (.dK (iK r))) b) ∧ RowAt H' T (ledR S (r.take i))) ?_ ?_ ?_ ?_
    · refine ⟨none, rfl, fun b hb => ?_, ?_⟩
      · by_cases e : b = R
        · subst e
          rw [upd_same, upd_same]
        · rw [upd_ne e, upd_ne e, upd_ne hb]
      · unfold RowAt
        rw [upd_ne nTR]
        exact upd_same
    · rintro i σ H' _ ⟨v4, rfl, hb, hT'⟩
      rw [hb R (Ne.symm nTR)]
      exact upd_same
    · rintro i x σ H' H1 hi ⟨v4, rfl, hb, hT'⟩ ⟨rfl, kk, vv, hx, rfl⟩
      obtain ⟨q, hq1, rfl, rfl⟩ := iK_at hx
      have hF : RowF H1 R od r := by
        unfold RowF
        rw [hb R (Ne.symm nTR)]
        exact upd_same
      have mq : q ∈ r := List.mem_of_getElem? hq1
      have gq := get_rowF hF ⟨q, mq, rfl⟩
      rw [co_mem nd mq] at gq
      obtain ⟨hc, a, ha, hRa, nda, bla⟩ := hq q mq
      have tk : r.take (i + 1) = r.take i ++ [q] := by
        rw [List.take_add_one, hq1]
        rfl
      show gName 4 (.int q.1) _ _ _
      walk_at "rd"
      have nLR : L ≠ R := ne_of hL hR (fun z => nomatch z)
      have nLT : L ≠ T := ne_of_none hL hT
      have naT : a ≠ T := ne_of_none (show H a = some _ from hRa) hT
      have up : ∀ b o, b ≠ T → b ≠ R → H b = some o → H1 b = some o := fun b o n1 n2 e => by
        rw [hb b n1, upd_ne n2]
        exact e
      have hRl : RowR H1 a (S q.1) := by
        by_cases e : a = R
        · refine RowR.lock (H := H) (R := R) (od := od) (r := r) hRa hR hF (fun b o nb ho => ?_) trivial
          by_cases eT : b = T
          · subst eT
            rw [hT] at ho
            cases ho
          · exact up _ _ eT nb ho
        · exact .inl (up _ _ naT e hRa)
      have ix : atI (as.map V.ref) q.1 = some (V.ref a) := by
        have e := atI_nat (xs := as.map V.ref) (j := q.1.toNat) (v := .ref a) (by rw [List.getElem?_map, ha]; rfl)
        rwa [Int.toNat_of_nonneg (bl q mq).1] at e
      obtain ⟨t1, t2, _⟩ := ledR_ok (S := S) (n := n) (r := r.take i) fun q' m => by
        obtain ⟨_, _, _, _, g1, g2⟩ := hq q' (List.mem_of_mem_take m)
        exact ⟨g1, g2⟩
      have z1 := row_len t1 t2
      have z2 := row_len nda bla
      refine ⟨L, _, q.1, .ref a, rfl, rfl, SqL.of (up _ _ nLT nLR hL), ix, _, gq, T, a, _, S q.1, q.2, rfl, hT', hRl, Ne.symm naT, nda, hc, by omega, fun b hn => ?_, ?_⟩
      · rw [upd_ne hn]
        exact hb b hn
      · rw [tk, ledR_snoc]
        exact upd_same
    · rintro σ H' ⟨v4, rfl, hb, hT'⟩
      have zl : (iK r).length = r.length := by unfold iK; rw [List.length_map]
      rw [zl, List.take_length] at hT'
      refine ⟨by rw [hb R (Ne.symm nTR)]; exact upd_same, ?_⟩
      obtain ⟨t1, t2, t3⟩ := ledR_ok (S := S) (n := n) (r := r) fun q' m => by
        obtain ⟨_, _, _, _, g1, g2⟩ := hq q' m
        exact ⟨g1, g2⟩
      have z1 := row_len t1 t2
      have s1 : Same H (upd H' R (.dK (iK r))) := fun b o e => by
        by_cases eR : b = R
        · subst eR
          rw [upd_same]
          exact (show H b = some (.dK (iK r)) from hR).symm.trans e
        · rw [upd_ne eR, hb b (ne_of_none e hT), upd_ne eR]
          exact e
      refine ⟨_, rfl, _, rfl, T, _, p, rfl, by unfold RowAt; rw [upd_ne nTR]; exact hT', t1, by omega, hp, fun H2 q r' s2 nq hr' c1 c2 => k H2 q r' (s1.trans s2) ?_ hr' c1 (bel_of c1 c2 t2) fun j => by rw [c2, t3]⟩
      by_cases e : H q = none
      · exact e
      · obtain ⟨o, ho⟩ := Option.ne_none_iff_exists'.mp e
        have := s1 _ _ ho
        rw [nq] at this
        cases this
end
end Lp
namespace Lp
open PySem L2
local macro_rules | `(tactic| walk_at "rd") => `(tactic| simp only [tSeq, tAsg, tYes, tTest, tOp, tCB, tCons, tNil, tVar, tC, rI0, rI, gName, wipe, tDisp, tTru, TruV, tB, tNext, tDGet2, tLock, tDIn, tDNotIn, tOr, tNot, tChain, tAnd, tCont, tUn, rU, tPairs, tRet, tIf, tIfS, tPar, tLst, tTup, tDrop, tDGet, tCall, sDPut, L2.start,
  List.map_cons, List.map_nil, List.foldl_cons, List.foldl_nil, List.length_cons, List.length_nil, List.replicate_succ, List.replicate_zero, List.append_nil, List.cons_append, List.nil_append, List.set_cons_zero, List.set_cons_succ, List.getElem?_cons_zero, List.getElem?_cons_succ,
  Option.some.injEq, List.cons.injEq, V.int.injEq, V.bl.injEq, V.ref.injEq, V.str.injEq, exists_eq_left', exists_eq_left, exists_eq_right, and_true, true_and, exists_and_left, Nat.add_zero, Nat.reduceAdd, Nat.reduceSub, Nat.sub_zero, if_true, if_false])
/-! ### tables of rows by pairs of places -/
abbrev PTab := List ((Int × Int) × Addr)
def pT (pt : PTab) : List (List Key × V) := pt.map fun e => (kP e.1, V.ref e.2)
def TabAt (H : Hp) (P : Addr) (pt : PTab) : Prop := H P = some (.dT (pT pt))
def lk (pt : PTab) (k : Int × Int) : Option Addr := (pt.find? fun e => decide (e.1 = k)).map (·.2)
theorem valV_pT (pt : PTab) (k : Int × Int) : valV (pT pt) (kP k) = (lk pt k).map V.ref := by
  induction pt with
  | nil => rfl
  | cons e pt ih =>
    have e0 : pT (e :: pt) = (kP e.1, V.ref e.2) :: pT pt := rfl
    by_cases h : e.1 = k
    · have l1 : lk (e :: pt) k = some e.2 := by simp [lk, List.find?_cons, h]
      rw [e0, valV_pos (by rw [← h]), l1]
      rfl
    · have ne : ¬ kP e.1 = kP k := fun z => h (kP_inj z)
      have l1 : lk (e :: pt) k = lk pt k := by simp [lk, List.find?_cons, h]
      have v1 : valV (pT (e :: pt)) (kP k) = valV (pT pt) (kP k) := by
        rw [e0]
        simp only [valV, List.find?_cons, decide_eq_false ne]
      rw [v1, ih, l1]
theorem get_tab {H : Hp} {P t : Addr} {pt : PTab} {a b : Int} (h : TabAt H P pt) (ht : H t = some (.tup [.int a, .int b])) : DGet H P (.ref t) ((lk pt (a, b)).map V.ref) := by
  have q := DGet.t (k := kP (a, b)) h (show H t = some (.tup ((kP (a, b)).map kV)) from ht)
  rw [valV_pT] at q
  exact q
/-- what stood in G stands, but at T -/
def Kept (T : Addr) (G H : Hp) : Prop := ∀ b o, b ≠ T → G b = some o → H b = some o
theorem Kept.refl (T : Addr) (G : Hp) : Kept T G G := fun _ _ _ h => h
theorem Kept.new {T p : Addr} {G H : Hp} {o : HO} (k : Kept T G H) (n : H p = none) : Kept T G (upd H p o) := fun b u h e => by
  rw [upd_ne (ne_of_none (k b u h e) n)]
  exact k b u h e
theorem Kept.at {T : Addr} {G H : Hp} {o : HO} (k : Kept T G H) : Kept T G (upd H T o) := fun b u h e => by
  rw [upd_ne h]
  exact k b u h e
theorem Kept.row {T a : Addr} {G H : Hp} {r : Row} (k : Kept T G H) (n : a ≠ T) (h : RowR G a r) : RowR H a r := h.elim (fun h => .inl (k _ _ n h)) fun ⟨od, h⟩ => .inr ⟨od, k _ _ n h⟩
/-- behind a loop over what stood at B -/
theorem Kept.open {T B : Addr} {G H : Hp} {f u : HO} (k : Kept T (upd G B f) H) (hB : G B = some u) : Kept T G (upd H B u) := fun b o h e => by
  by_cases eB : b = B
  · subst eB
    rw [upd_same, ← hB]
    exact e
  · rw [upd_ne eB]
    exact k b o h (by rw [upd_ne eB]; exact e)
/-! ### product_sum -/
def inR (S : Int × Int → Row) (a : Int × Int) (t other : Row) : Row := other.foldl (fun t b => addR t (S (a.1, b.1)) (a.2 * b.2)) t
def prodR (S : Int × Int → Row) (one other : Row) : Row := one.foldl (fun t a => inR S a t other) []
theorem inR_snoc (S : Int × Int → Row) (a : Int × Int) (t other : Row) (b : Int × Int) : inR S a t (other ++ [b]) = addR (inR S a t other) (S (a.1, b.1)) (a.2 * b.2) := by
  unfold inR
  rw [List.foldl_append]
  rfl
theorem prodR_snoc (S : Int × Int → Row) (one other : Row) (a : Int × Int) : prodR S (one ++ [a]) other = inR S a (prodR S one other) other := by
  unfold prodR
  rw [List.foldl_append]
  rfl
theorem inR_ok {S : Int × Int → Row} {n : Int} {a : Int × Int} {t : Row} (ht : Nd t ∧ Bel n t) : ∀ {other : Row}, (∀ b ∈ other, Nd (S (a.1, b.1)) ∧ Bel n (S (a.1, b.1))) →
    Nd (inR S a t other) ∧ Bel n (inR S a t other) ∧ ∀ j, co (inR S a t other) j = co t j + a.2 * sumW other fun b => co (S (a.1, b)) j := by
  intro other
  induction other using rev_ind with
  | h0 => exact fun _ => ⟨ht.1, ht.2, fun j => by simp [inR, sumW]⟩
  | h1 l b ih =>
    intro h
    obtain ⟨h1, h2, h3⟩ := ih fun q m => h q (List.mem_append_left _ m)
    obtain ⟨g1, g2⟩ := h b (List.mem_append_right _ List.mem_cons_self)
    rw [inR_snoc]
    refine ⟨nd_addR h1, bel_addR h2 g2, fun j => ?_⟩
    rw [co_addR g1, h3, sumW_snoc, Int.mul_add, Int.mul_assoc, Int.add_assoc]
theorem prodR_ok {S : Int × Int → Row} {n : Int} {other : Row} : ∀ {one : Row}, (∀ a ∈ one, ∀ b ∈ other, Nd (S (a.1, b.1)) ∧ Bel n (S (a.1, b.1))) →
    Nd (prodR S one other) ∧ Bel n (prodR S one other) ∧ ∀ j, co (prodR S one other) j = sumW one fun a => sumW other fun b => co (S (a, b)) j := by
  intro one
  induction one using rev_ind with
  | h0 => exact fun _ => ⟨List.Pairwise.nil, fun p m => (by cases m), fun j => rfl⟩
  | h1 l a ih =>
    intro h
    obtain ⟨h1, h2, h3⟩ := ih fun q m => h q (List.mem_append_left _ m)
    rw [prodR_snoc]
    obtain ⟨g1, g2, g3⟩ := inR_ok (S := S) (a := a) ⟨h1, h2⟩ (h a (List.mem_append_right _ List.mem_cons_self))
    exact ⟨g1, g2, fun j => by rw [g3, h3, sumW_snoc]⟩
/-- the rows of a table at the places of one and other -/
def RowsAt (H : Hp) (pt : PTab) (S : Int × Int → Row) (n : Nat) (one other : Row) : Prop := ∀ a ∈ one, ∀ b ∈ other, Nd (S (a.1, b.1)) ∧ Bel n (S (a.1, b.1)) ∧ (∀ q, lk pt (a.1, b.1) = some q → RowAt H q (S (a.1, b.1))) ∧ (lk pt (a.1, b.1) = none → S (a.1, b.1) = [])
def Small (r : Row) : Prop := ∀ q ∈ r, -(2 ^ 31) < q.2 ∧ q.2 < 2 ^ 31
abbrev sProd : Stmt := top 24
def spProd : Sp := fun vs H Q _ => ∃ (P A B : Addr) (pt : PTab) (S : Int × Int → Row) (one other : Row) (n : Nat), vs = [.ref P, .ref A, .ref B] ∧ TabAt H P pt ∧ RowAt H A one ∧ RowAt H B other ∧ A ≠ B ∧ Nd one ∧ Nd other ∧ Small one ∧ Small other ∧ n ≤ 60 ∧ RowsAt H pt S n one other ∧
  ∀ H' T t, Same H H' → H T = none → RowAt H' T t → Nd t → Bel n t → (∀ j, co t j = sumW one fun a => sumW other fun b => co (S (a, b)) j) → Q (.ref T) H'
theorem small_mul {x y : Int} (hx : -(2 ^ 31) < x ∧ x < 2 ^ 31) (hy : -(2 ^ 31) < y ∧ y < 2 ^ 31) : -(2 ^ 64) < x * y ∧ x * y < 2 ^ 64 := by
  have h : (x * y).natAbs < 2 ^ 31 * 2 ^ 31 := by
    rw [Int.natAbs_mul]
    exact Nat.mul_lt_mul'' (by omega) (by omega)
  omega
section
variable {P : Program} {w : World} {K : PySem.W.Frag} {mg : Str → Option Value} {base : Heap}
theorem scProd : FnScope ["product", "one", "other", "total", "a", "b"] ["product", "one", "other"] (defScope sProd) := ⟨rfl, rfl, rfl, by decide +kernel, rfl, by decide +kernel, by decide +kernel⟩
theorem ok_product_sum {f fA : Addr} {fd dA : FuncData} (F : Fun K "product_sum" "product_sum" sProd f fd) (A1 : FnOk P w K mg base CX0 1 fA dA ["total", "row", "times"] spAddTo) (mA : mg "add_to" = some (.ref fA)) (kA : PySem.W.keepIn K (.ref fA) = true) (bA : Binds K dA ["total", "row", "times"] []) :
    FnOk P w K mg base CX0 2 f fd ["product", "one", "other"] spProd := by
  refine F.ok scProd (fun vs H Q E h => ?_) (fun cdv A outer s H vs Q E hr h => ?_)
  · obtain ⟨P', A', B', pt, S, one, other, n, rfl, _⟩ := h
    rfl
  · obtain ⟨P', A', B', pt, S, one, other, n, rfl, hP, hA, hB, nAB, nd1, nd2, sm1, sm2, hn, hS, k⟩ := h
    have hu := hu_of hr
    refine ⟨_, pss_cons (ps_set (i := 3) scProd.nd rfl (Or.inl rfl) pe_dnewK) (pss_cons (ps_lock (ps_for PassesOwn.never rfl (pi_keys (pv 1)) (pg_name (i := 4) scProd.nd rfl (Or.inl rfl))
      (pss_one (ps_lock (ps_for PassesOwn.never rfl (pi_keys (pv 2)) (pg_name (i := 5) scProd.nd rfl (Or.inl rfl))
        (pss_one (ps_if (pt_cmp (pc_din hu (pe_tup (pa_cons (pv 4) (pa_cons (pv 5) pa_nil))) (pv 0)))
          (pss_one (ps_expr (pe_call A1 hr (by rfl) mA kA bA .nil pass0 (pa_cons (pv 3) (pa_cons (pe_dget hu (pv 0) (pe_tup (pa_cons (pv 4) (pa_cons (pv 5) pa_nil))) (fun _ _ => rfl))
            (pa_cons (pe_op op_mul (pe_dget hu (pv 1) (pv 4) (fun _ _ => rfl)) (pe_dget hu (pv 2) (pv 5) (fun _ _ => rfl))) pa_nil)))))) pss_nil)))))))
      (pss_one (ps_ret (pv 3)))), ?_⟩
    intro T hT
    have up0 : ∀ b o, H b = some o → upd H T (.dK []) b = some o := fun b o e => by
      rw [upd_ne (ne_of_none e hT)]
      exact e
    have nAT : A' ≠ T := ne_of_none (show H A' = some _ from hA) hT
    have nBT : B' ≠ T := ne_of_none (show H B' = some _ from hB) hT
    have nPT : P' ≠ T := ne_of_none (show H P' = some _ from hP) hT
    have nPA : P' ≠ A' := ne_of (show H P' = some _ from hP) (show H A' = some _ from hA) (fun z => nomatch z)
    have nPB : P' ≠ B' := ne_of (show H P' = some _ from hP) (show H B' = some _ from hB) (fun z => nomatch z)
    refine ⟨A', _, up0 _ _ hA, trivial, fun oa => ⟨_, rfl, A', oa, rfl, .inl ⟨_, upd_same, ?_⟩⟩⟩
    generalize eG : upd (upd H T (.dK [])) A' (.frz oa (.dK (iK one))) = G1
    have gA : G1 A' = some (.frz oa (.dK (iK one))) := by rw [← eG]; exact upd_same
    have gT : G1 T = some (.dK []) := by rw [← eG, upd_ne (Ne.symm nAT)]; exact upd_same
    have gO : ∀ b o, b ≠ A' → H b = some o → G1 b = some o := fun b o nb e => by
      rw [← eG, upd_ne nb]
      exact up0 _ _ e
    refine for_it walk_keys (fun i σ H' => ∃ v4 v5, σ = [some (.ref P'), some (.ref A'), some (.ref B'), some (.ref T), v4, v5] ∧ Kept T G1 H' ∧ RowAt H' T (prodR S (one.take i) other)) ⟨none, none, rfl, Kept.refl _ _, gT⟩
      (fun i σ H' _ ⟨_, _, _, kp, _⟩ => kp _ _ nAT gA) ?_ ?_
    · rintro i x σ H' H1 hi ⟨v4, v5, rfl, kp, hT1⟩ ⟨rfl, kk, vv, hx, rfl⟩
      obtain ⟨a, ha1, rfl, rfl⟩ := iK_at hx
      have ma : a ∈ one := List.mem_of_getElem? ha1
      have tka : one.take (i + 1) = one.take i ++ [a] := by
        rw [List.take_add_one, ha1]
        rfl
      have hB1 : RowAt H1 B' other := kp _ _ nBT (gO _ _ (Ne.symm nAB) hB)
      show gName 4 (.int a.1) _ _ _
      refine ⟨B', _, hB1, trivial, fun ob => ⟨_, rfl, B', ob, rfl, .inl ⟨_, upd_same, ?_⟩⟩⟩
      generalize eG2 : upd H1 B' (.frz ob (.dK (iK other))) = G2
      have g2B : G2 B' = some (.frz ob (.dK (iK other))) := by rw [← eG2]; exact upd_same
      have g2O : ∀ b o, b ≠ B' → H1 b = some o → G2 b = some o := fun b o nb e => by
        rw [← eG2, upd_ne nb]
        exact e
      have pre := prodR_ok (S := S) (n := n) (other := other) (one := one.take i) fun x m y my => ⟨(hS x (List.mem_of_mem_take m) y my).1, (hS x (List.mem_of_mem_take m) y my).2.1⟩
      refine for_it walk_keys (fun j σ H2 => ∃ v5, σ = [some (.ref P'), some (.ref A'), some (.ref B'), some (.ref T), some (.int a.1), v5] ∧ Kept T G2 H2 ∧ RowAt H2 T (inR S a (prodR S (one.take i) other) (other.take j)))
        ⟨v5, rfl, Kept.refl _ _, g2O _ _ (Ne.symm nBT) hT1⟩ (fun j σ H2 _ ⟨_, _, kp2, _⟩ => kp2 _ _ nBT g2B) ?_ ?_
      · rintro j x σ H2 H3 hj ⟨v5, rfl, kp2, hT2⟩ ⟨rfl, kk, vv, hx2, rfl⟩
        obtain ⟨b, hb1, rfl, rfl⟩ := iK_at hx2
        have mb : b ∈ other := List.mem_of_getElem? hb1
        have tkb : other.take (j + 1) = other.take j ++ [b] := by
          rw [List.take_add_one, hb1]
          rfl
        obtain ⟨ndS, blS, yes, no⟩ := hS a ma b mb
        show gName 5 (.int b.1) _ _ _
        walk_at "rd"
        have up3 : ∀ b o, b ≠ T → b ≠ A' → b ≠ B' → H b = some o → H3 b = some o := fun b o n1 n2 n3 e => kp2 _ _ n1 (g2O _ _ n3 (kp _ _ n1 (gO _ _ n2 e)))
        have fA : RowF H3 A' oa one := kp2 _ _ nAT (g2O _ _ nAB (kp _ _ nAT gA))
        have fB : RowF H3 B' ob other := kp2 _ _ nBT g2B
        have hP3 : TabAt H3 P' pt := up3 _ _ nPT nPA nPB hP
        refine ⟨by show 2 ≤ sizeLine; decide, fun p np => ⟨_, get_tab (H := upd H3 p (.tup [.int a.1, .int b.1])) (by unfold TabAt; rw [upd_ne (ne_of_none (show H3 P' = some _ from hP3) np)]; exact hP3) upd_same, ?_⟩⟩
        have k1 : Kept T H3 (upd H3 p (.tup [.int a.1, .int b.1])) := (Kept.refl T H3).new np
        have nTp : T ≠ p := ne_of_none (show H3 T = some _ from hT2) np
        have hT3 : RowAt (upd H3 p (.tup [.int a.1, .int b.1])) T (inR S a (prodR S (one.take i) other) (other.take j)) := by
          unfold RowAt
          rw [upd_ne nTp]
          exact hT2
        cases el : lk pt (a.1, b.1) with
        | none =>
          rw [if_neg (by simp)]
          refine ⟨fun c o h e => k1 _ _ h (kp2 _ _ h e), ?_⟩
          rw [tkb, inR_snoc, no el]
          exact hT3
        | some q =>
          rw [if_pos (by simp)]
          refine ⟨by show 2 ≤ sizeLine; decide, fun p2 np2 => ?_⟩
          generalize eU : upd (upd H3 p (.tup [.int a.1, .int b.1])) p2 (.tup [.int a.1, .int b.1]) = U
          have kU : Kept T H3 U := by rw [← eU]; exact k1.new np2
          have hTU : RowAt U T (inR S a (prodR S (one.take i) other) (other.take j)) := by
            unfold RowAt
            rw [← eU, upd_ne (ne_of_none (show _ = some _ from hT3) np2)]
            exact hT3
          have hPU : TabAt U P' pt := kU _ _ nPT hP3
          have gq := get_tab (H := U) (t := p2) (a := a.1) (b := b.1) hPU (by rw [← eU]; exact upd_same)
          rw [el] at gq
          have ga := get_rowF (H := U) (kU _ _ nAT fA) ⟨a, ma, rfl⟩
          rw [co_mem nd1 ma] at ga
          have gb := get_rowF (H := U) (kU _ _ nBT fB) ⟨b, mb, rfl⟩
          rw [co_mem nd2 mb] at gb
          have hq := yes q el
          have nqT : q ≠ T := ne_of_none (show H q = some _ from hq) hT
          have hqR : RowR H3 q (S (a.1, b.1)) := by
            by_cases e1 : q = A'
            · have e2 : S (a.1, b.1) = one := iK_inj (HO.dK.inj (Option.some.inj ((show H q = some (.dK (iK (S (a.1, b.1)))) from hq).symm.trans (by rw [e1]; exact hA))))
              rw [e2, e1]
              exact .inr ⟨_, fA⟩
            · by_cases e3 : q = B'
              · have e2 : S (a.1, b.1) = other := iK_inj (HO.dK.inj (Option.some.inj ((show H q = some (.dK (iK (S (a.1, b.1)))) from hq).symm.trans (by rw [e3]; exact hB))))
                rw [e2, e3]
                exact .inr ⟨_, fB⟩
              · exact .inl (up3 _ _ nqT e1 e3 hq)
          have cur := inR_ok (S := S) (a := a) (n := n) ⟨pre.1, pre.2.1⟩ (other := other.take j) fun y my => ⟨(hS a ma y (List.mem_of_mem_take my)).1, (hS a ma y (List.mem_of_mem_take my)).2.1⟩
          have z1 := row_len cur.1 cur.2.1
          have z2 := row_len ndS blS
          have hc := small_mul (sm1 a ma) (sm2 b mb)
          refine ⟨_, gq, _, ga, _, gb, _, rfl, _, rfl, .inl (by have := sm1 a ma; omega), ?_⟩
          refine ⟨T, q, _, S (a.1, b.1), _, rfl, hTU, kU.row nqT hqR, Ne.symm nqT, ndS, hc, by omega, fun c o h e => ?_, ?_⟩
          · rw [upd_ne h]
            exact kU _ _ h (kp2 _ _ h e)
          · rw [tkb, inR_snoc]
            exact upd_same
      · rintro σ H2 ⟨v5, rfl, kp2, hT2⟩
        have zl : (iK other).length = other.length := by unfold iK; rw [List.length_map]
        rw [zl, List.take_length] at hT2
        rw [← eG2] at kp2
        refine ⟨kp2 _ _ nBT upd_same, _, _, rfl, fun c o h e => (kp2.open hB1) _ _ h (kp _ _ h e), ?_⟩
        rw [tka, prodR_snoc]
        unfold RowAt
        rw [upd_ne (Ne.symm nBT)]
        exact hT2
    · rintro σ H' ⟨v4, v5, rfl, kp, hT1⟩
      have zl : (iK one).length = one.length := by unfold iK; rw [List.length_map]
      rw [zl, List.take_length] at hT1
      have kA2 := (by rw [← eG] at kp; exact kp.open (up0 _ _ hA) : Kept T (upd H T (.dK [])) (upd H' A' (.dK (iK one))))
      obtain ⟨t1, t2, t3⟩ := prodR_ok (S := S) (n := n) (other := other) (one := one) fun x m y my => ⟨(hS x m y my).1, (hS x m y my).2.1⟩
      refine ⟨kp _ _ nAT gA, _, rfl, k _ T _ (fun b o e => kA2 _ _ (ne_of_none e hT) (up0 _ _ e)) hT ?_ t1 t2 t3⟩
      unfold RowAt
      rw [upd_ne (Ne.symm nAT)]
      exact hT1
end
end Lp
namespace Lp
open PySem L2
local macro_rules | `(tactic| walk_at "rd") => `(tactic| simp only [tSeq, tAsg, tYes, tTest, tOp, tCB, tCons, tNil, tVar, tC, rI0, rI, gName, wipe, tDisp, tTru, TruV, tB, tNext, tDGet2, tLock, tDIn, tDNotIn, tOr, tNot, tChain, tAnd, tCont, tUn, rU, tPairs, tRet, tIf, tIfS, tPar, tLst, tTup, tDrop, tDGet, tCall, sDPut, L2.start,
  List.map_cons, List.map_nil, List.foldl_cons, List.foldl_nil, List.length_cons, List.length_nil, List.replicate_succ, List.replicate_zero, List.append_nil, List.cons_append, List.nil_append, List.set_cons_zero, List.set_cons_succ, List.getElem?_cons_zero, List.getElem?_cons_succ,
  Option.some.injEq, List.cons.injEq, V.int.injEq, V.bl.injEq, V.ref.injEq, V.str.injEq, exists_eq_left', exists_eq_left, exists_eq_right, and_true, true_and, exists_and_left, Nat.add_zero, Nat.reduceAdd, Nat.reduceSub, Nat.sub_zero, if_true, if_false])
/-! ### tables as they are told -/
abbrev ltP2 (x y : Int × Int) : Prop := SrtO.lexB x y = true
theorem ltP2_irrefl (x : Int × Int) : ¬ ltP2 x x := fun h => by
  have := SrtO.lexB_iff.mp h
  omega
/-- a table at P: its rows at their places, S tells them, nothing elsewhere -/
structure TabIn (H : Hp) (P : Addr) (pt : PTab) (S : Int × Int → Row) (n : Nat) : Prop where
  tab : TabAt H P pt
  len : pt.length ≤ 5000
  nd : (pt.map (·.1)).Nodup
  row : ∀ e ∈ pt, RowAt H e.2 (S e.1) ∧ Nd (S e.1) ∧ Bel n (S e.1)
  off : ∀ k, (∀ e ∈ pt, e.1 ≠ k) → S k = []
/-- the row as it is told -/
def nfR (p : Int) (r : Row) : Row := tidyL p r ((r.map (·.1)).mergeSort fun a b => decide (a ≤ b))
theorem nfR_spec {p : Int} {r : Row} (hp : 0 < p) (nd : Nd r) : Canon p (nfR p r) ∧ ∀ k, co (nfR p r) k = (co r k).fmod p := by
  refine tidyL_spec hp (List.mergeSort_perm _ _) ?_ nd
  have q := List.pairwise_mergeSort (le := fun a b : Int => decide (a ≤ b)) (fun a b c h1 h2 => by
    have := of_decide_eq_true h1
    have := of_decide_eq_true h2
    exact decide_eq_true (by omega)) (fun a b => by
    by_cases h : a ≤ b
    · simp [h]
    · have : b ≤ a := by omega
      simp [this]) (r.map (·.1))
  exact q.imp fun {a b} h => of_decide_eq_true h
theorem nfR_eq {p : Int} {r r' : Row} (hp : 0 < p) (nd : Nd r) (c : Canon p r') (e : ∀ k, co r' k = (co r k).fmod p) : r' = nfR p r :=
  Canon.ext c (nfR_spec hp nd).1 fun k => by rw [e, (nfR_spec hp nd).2]
theorem nfR_nil (p : Int) : nfR p [] = [] := by
  unfold nfR tidyL
  rw [List.map_nil]
  simp
/-- .. and ascending, its rows canonical, none of noughts -/
structure TabOk (H : Hp) (P : Addr) (pt : PTab) (S : Int × Int → Row) (p : Int) : Prop where
  tab : TabAt H P pt
  asc : (pt.map (·.1)).Pairwise ltP2
  row : ∀ e ∈ pt, RowAt H e.2 (S e.1) ∧ S e.1 ≠ []
  can : ∀ k, Canon p (S k)
  off : ∀ k, (∀ e ∈ pt, e.1 ≠ k) → S k = []
theorem lk_some {pt : PTab} {k : Int × Int} {a : Addr} (h : lk pt k = some a) : (k, a) ∈ pt := by
  unfold lk at h
  cases e : pt.find? (fun e => decide (e.1 = k)) with
  | none => rw [e] at h; cases h
  | some q =>
    rw [e] at h
    have h1 := List.find?_some e
    have h2 := List.mem_of_find?_eq_some e
    have e1 : q.1 = k := of_decide_eq_true h1
    have e2 : q.2 = a := Option.some.inj h
    rw [← e1, ← e2]
    exact h2
theorem lk_none {pt : PTab} {k : Int × Int} (h : lk pt k = none) : ∀ e ∈ pt, e.1 ≠ k := fun e m z => by
  unfold lk at h
  rw [Option.map_eq_none_iff, List.find?_eq_none] at h
  exact h e m (decide_eq_true z)
theorem lk_mem {pt : PTab} (nd : (pt.map (·.1)).Nodup) {e : (Int × Int) × Addr} (m : e ∈ pt) : lk pt e.1 = some e.2 := by
  induction pt with
  | nil => cases m
  | cons q pt ih =>
    rw [List.map_cons, List.nodup_cons] at nd
    by_cases h : q.1 = e.1
    · have l1 : lk (q :: pt) e.1 = some q.2 := by simp [lk, List.find?_cons, h]
      rcases List.mem_cons.mp m with z | z
      · rw [l1, z]
      · exact absurd (List.mem_map.mpr ⟨e, z, h.symm⟩) nd.1
    · have l1 : lk (q :: pt) e.1 = lk pt e.1 := by simp [lk, List.find?_cons, h]
      rcases List.mem_cons.mp m with z | z
      · exact absurd (by rw [z]) h
      · rw [l1]
        exact ih nd.2 z
theorem TabOk.nd {H : Hp} {P : Addr} {pt : PTab} {S : Int × Int → Row} {p : Int} (t : TabOk H P pt S p) : (pt.map (·.1)).Nodup := by
  refine t.asc.imp fun {a b} h (e : a = b) => ?_
  subst e
  exact ltP2_irrefl a h
theorem Paired.nth {α β : Type} {R : α → β → Prop} : ∀ {xs : List α} {ys : List β}, Paired R xs ys → ∀ {i : Nat} {y : β}, ys[i]? = some y → ∃ x, xs[i]? = some x ∧ R x y
  | _, _, .nil, i, y, h => by cases h
  | _, _, .cons r t, 0, y, h => by
    cases h
    exact ⟨_, rfl, r⟩
  | _, _, .cons r t, i + 1, y, h => Paired.nth t h
theorem pT_snoc {qt : PTab} {y : Int × Int} {q : Addr} (h : lk qt y = none) : putK (pT qt) (kP y) (.ref q) = pT (qt ++ [(y, q)]) := by
  rw [putK_new _ (by rw [valV_pT, h]; rfl)]
  unfold pT
  rw [List.map_append]
  rfl
theorem lk_notin {qt : PTab} {y : Int × Int} (h : y ∉ qt.map (·.1)) : lk qt y = none := by
  cases e : lk qt y with
  | none => rfl
  | some a => exact absurd (List.mem_map.mpr ⟨_, lk_some e, rfl⟩) h
theorem take_snoc {α : Type} {l : List α} {i : Nat} {y : α} (h : l[i]? = some y) : l.take (i + 1) = l.take i ++ [y] := by
  rw [List.take_add_one, h]
  rfl
theorem nodup_take {α : Type} {l : List α} (nd : l.Nodup) {i : Nat} {y : α} (h : l[i]? = some y) : y ∉ l.take i := fun m => by
  obtain ⟨j, hj⟩ := List.mem_iff_getElem?.mp m
  have li : i < l.length := (List.getElem?_eq_some_iff.mp h).1
  have lj : j < i := by
    have := (List.getElem?_eq_some_iff.mp hj).1
    rw [List.length_take] at this
    omega
  rw [List.getElem?_take, if_pos lj] at hj
  have := (List.getElem?_inj (by omega) nd).mp (hj.trans h.symm)
  omega
theorem none_of_same {H H' : Hp} {a : Addr} (s : Same H H') (h : H' a = none) : H a = none := by
  cases e : H a with
  | none => rfl
  | some o => rw [s _ _ e] at h; cases h
theorem none_upd {H : Hp} {a b : Addr} {o : HO} (h : upd H b o a = none) : H a = none := by
  by_cases e : a = b
  · subst e
    rw [upd_same] at h
    cases h
  · rw [upd_ne e] at h
    exact h
/-! ### sign -/
def sgn (t : Int) : Int := if t.fmod 2 = 0 then 1 else -1
abbrev sSign : Stmt := top 19
def spSign : Sp := fun vs H Q _ => ∃ t : Int, vs = [.int t] ∧ Q (.int (sgn t)) H
/-! ### tidied_table, keys pairs -/
abbrev sTab : Stmt := top 21
def spTabP : Sp := fun vs H Q _ => ∃ (P : Addr) (pt : PTab) (S : Int × Int → Row) (n : Nat) (p : Int), vs = [.ref P, .int p] ∧ TabIn H P pt S n ∧ n ≤ 60 ∧ 0 < p ∧
  ∀ H' P' pt', Same H H' → H P' = none → TabOk H' P' pt' (fun k => nfR p (S k)) p → (∀ e ∈ pt', H e.2 = none) → Q (.ref P') H'
section
variable {P : Program} {w : World} {K : PySem.W.Frag} {mg : Str → Option Value} {base : Heap}
theorem scSign : FnScope ["turn"] ["turn"] (defScope sSign) := ⟨rfl, rfl, rfl, by decide +kernel, rfl, by decide +kernel, by decide +kernel⟩
theorem ok_sign {f : Addr} {fd : FuncData} (F : Fun K "sign" "sign" sSign f fd) : FnOk P w K mg base CX0 1 f fd ["turn"] spSign := by
  refine F.ok scSign (fun vs H Q E h => ?_) (fun cdv A outer s H vs Q E hr h => ?_)
  · obtain ⟨t, rfl, _⟩ := h
    rfl
  · obtain ⟨t, rfl, k⟩ := h
    have hu := hu_of hr
    refine ⟨_, pss_one (ps_ret (pe_ifExp (pt_tru (K := K) rfl (pe_op op_modN (pv 0) pe_int) (by intro _; rfl)) (pe_un un_neg pe_int) pe_int)), ?_⟩
    walk_at "rd"
    refine ⟨by decide, ?_⟩
    unfold sgn at k
    by_cases e : t.fmod 2 = 0
    · rw [if_pos e] at k
      rw [if_neg (by rw [e]; decide)]
      exact k
    · rw [if_neg e] at k
      rw [if_pos (by simpa using e)]
      first | exact k | exact ⟨1, rfl, k⟩
theorem scTab : FnScope ["table", "prime", "rows", "key"] ["table", "prime"] (defScope sTab) := ⟨rfl, rfl, rfl, by decide +kernel, rfl, by decide +kernel, by decide +kernel⟩
theorem ok_tabP {f fT : Addr} {fd dT : FuncData} (F : Fun K "tidied_table" "tidied_table" sTab f fd) (mSorted : mg "sorted" = none)
    (T1 : FnOk P w K mg base CX0 1 fT dT ["row", "prime"] spTidied) (mT : mg "tidied" = some (.ref fT)) (kT : PySem.W.keepIn K (.ref fT) = true) (bT : Binds K dT ["row", "prime"] []) : FnOk P w K mg base CX0 2 f fd ["table", "prime"] spTabP := by
  refine F.ok scTab (fun vs H Q E h => ?_) (fun cdv A outer s H vs Q E hr h => ?_)
  · obtain ⟨P', pt, S, n, p, rfl, _⟩ := h
    rfl
  · obtain ⟨P', pt, S, n, p, rfl, I, hn, hp, k⟩ := h
    have hu := hu_of hr
    refine ⟨_, pss_cons (ps_set (i := 2) scTab.nd rfl (Or.inr rfl) (pe_dp (b := true) (own := [("key", 3)]) (g := gName 3) (tt := tYes) hu rfl scTab.nd (pi_list (pe_callB (call_sortedDP rfl) (by rfl) mSorted (by decide +kernel) (pa_cons (pv 0) pa_nil))) (blkOk_by (N := ["table", "prime", "rows", "key"]) (sc := defScope sTab) (by decide +kernel))
        (fun _ _ _ _ _ => pg_name (i := 3) scTab.nd rfl (Or.inl rfl)) (fun _ _ _ _ _ => pts_nil) (fun _ _ _ _ _ => pv 3)
        (fun _ _ _ _ _ => pe_call T1 hr (by rfl) mT kT bT .nil pass0 (pa_cons (pe_dget hu (pv 0) (pv 3) (fun _ _ => rfl)) (pa_cons (pv 1) pa_nil)))))
      (pss_one (ps_ret (pe_lock (pe_dp (b := true) (own := [("key", 3)]) (g := gName 3) hu rfl scTab.nd (pi_keys (pv 2)) (blkOk_by (N := ["table", "prime", "rows", "key"]) (sc := defScope sTab) (by decide +kernel))
        (fun _ _ _ _ _ => pg_name (i := 3) scTab.nd rfl (Or.inl rfl)) (fun _ _ _ _ _ => pts_one (pt_tru (K := K) rfl (pe_dget hu (pv 2) (pv 3) (fun _ _ => rfl)) (by intro _; rfl))) (fun _ _ _ _ _ => pv 3)
        (fun _ _ _ _ _ => pe_dget hu (pv 2) (pv 3) (fun _ _ => rfl)))))), ?_⟩
    simp only [tSeq, tAsg, tDp, iList, tRet, tCB, tCons, tNil, tLockE, iKeys]
    refine ⟨_, rfl, P', pT pt, pt.map (·.1), rfl, .inl I.tab, by unfold pT; rw [List.map_map, List.map_map]; rfl, fun ys bs l perm asc prd hl => ?_⟩
    have ny : ys.Nodup := perm.nodup_iff.mpr I.nd
    have zy : ys.length = pt.length := by rw [perm.length_eq, List.length_map]
    have zb : bs.length = ys.length := (Paired.length prd).symm
    have lt : ys.Pairwise ltP2 := (asc.and ny).imp fun {a b} h => by
      have h1 := SrtO.lexB_no.mp h.1
      refine SrtO.lexB_iff.mpr ?_
      have h2 : ¬ (a.1 = b.1 ∧ a.2 = b.2) := fun z => h.2 (Prod.ext z.1 z.2)
      omega
    have s1 : Same H (upd H l (.lst (bs.map V.ref))) := same_new hl
    refine ⟨l, rfl, ⟨_, SqL.of upd_same⟩, fun D hD => ?_⟩
    have hDH : H D = none := none_upd hD
    have inv0 : ∀ i, i ≤ ys.length → i ≤ 5000 := fun i h => by have := I.len; omega
    refine dp_it walk_list (b := true) (fun i H' => Same (upd H l (.lst (bs.map V.ref))) H' ∧ ∃ qt : PTab, qt.map (·.1) = ys.take i ∧ TabAt H' D qt ∧ ∀ e ∈ qt, H e.2 = none ∧ RowAt H' e.2 (nfR p (S e.1))) ?_ (fun i H' _ h => SqL.of (h.1 _ _ upd_same)) ?_ ?_
    · exact ⟨same_new hD, [], rfl, upd_same, fun e m => nomatch m⟩
    · rintro i x H1 H' hi ⟨s2, qt, hk, hT, hR⟩ ⟨rfl, hx⟩
      rw [List.getElem?_map] at hx
      cases eb : bs[i]? with
      | none => rw [eb] at hx; cases hx
      | some b =>
        rw [eb] at hx
        cases hx
        obtain ⟨y, hy, hb⟩ := Paired.nth prd eb
        have my : y ∈ pt.map (·.1) := perm.mem_iff.mp (List.mem_of_getElem? hy)
        obtain ⟨e, me, rfl⟩ := List.mem_map.mp my
        obtain ⟨r1, r2, r3⟩ := I.row e me
        have le := lk_mem I.nd me
        have up : Same H H' := s1.trans s2
        have hP' : TabAt H' P' pt := up _ _ I.tab
        have hb' : H' b = some (.tup [.int e.1.1, .int e.1.2]) := up _ _ hb
        have gp := get_tab hP' hb'
        rw [le] at gp
        have z2 := row_len r2 r3
        have li : i < ys.length := (List.getElem?_eq_some_iff.mp hy).1
        have zq : qt.length = i := by
          have := congrArg List.length hk
          rw [List.length_map, List.length_take] at this
          omega
        have := I.len
        walk_at "rd"
        refine ⟨_, gp, e.2, S e.1, p, rfl, up _ _ r1, r2, by omega, hp, fun H2 q r' s3 nq hq c1 c2 => ?_⟩
        have er : r' = nfR p (S e.1) := nfR_eq hp r2 c1 c2
        have hT2 : TabAt H2 D qt := s3 _ _ hT
        refine ⟨_, .inr ⟨pT qt, kP e.1, b, hT2, rfl, s3 _ _ hb', by unfold pT; rw [List.length_map]; exact Nat.lt_of_le_of_lt (show qt.length ≤ 5000 by omega) (by decide), rfl⟩, ?_, qt ++ [(e.1, q)], ?_, ?_, ?_⟩
        · have nD : upd H l (.lst (bs.map V.ref)) D = none := hD
          exact same_upd (s2.trans s3) nD
        · rw [List.map_append, hk, take_snoc hy]
          rfl
        · rw [pT_snoc (lk_notin (by rw [hk]; exact nodup_take ny hy))]
          exact upd_same
        · intro e2 m
          rcases List.mem_append.mp m with m | m
          · obtain ⟨n1, n2⟩ := hR e2 m
            refine ⟨n1, ?_⟩
            unfold RowAt
            rw [upd_ne (ne_of (show H2 e2.2 = some _ from s3 _ _ n2) hT2 (fun z => nomatch z))]
            exact s3 _ _ n2
          · rw [List.mem_singleton.mp m]
            refine ⟨none_of_same up nq, ?_⟩
            unfold RowAt
            rw [upd_ne (ne_of (show H2 q = some _ from hq) hT2 (fun z => nomatch z))]
            rw [← er]
            exact hq
    · rintro H1 ⟨s2, qt, hk, hT, hR⟩
      rw [List.length_map, zb, List.take_length] at hk
      have zq : qt.length = ys.length := by
        have := congrArg List.length hk
        rw [List.length_map] at this
        exact this
      have := I.len
      refine ⟨D, _, hT, trivial, fun od => ⟨_, rfl, D, od, rfl, .inr ⟨_, upd_same, fun D2 hD2 => ?_⟩⟩⟩
      generalize eG : upd H1 D (.frz od (.dT (pT qt))) = G at hD2 ⊢
      have gD : G D = some (.frz od (.dT (pT qt))) := by rw [← eG]; exact upd_same
      have gO : ∀ b o, b ≠ D → H1 b = some o → G b = some o := fun b o nb e => by
        rw [← eG, upd_ne nb]
        exact e
      have nD2 : H1 D2 = none := by
        rw [← eG] at hD2
        exact none_upd hD2
      have nDD : D2 ≠ D := fun e => by rw [e, hT] at nD2; cases nD2
      refine dp_it walk_keysT (b := true) (fun i H' => Same G H' ∧ TabAt H' D2 ((qt.take i).filter fun e => decide (nfR p (S e.1) ≠ []))) ⟨same_new hD2, upd_same⟩ (fun i H' _ h => h.1 _ _ gD) ?_ ?_
      · rintro i x H2 H' hi ⟨s3, hT3⟩ ⟨rfl, kk, vv, t, hx, rfl, ht⟩
        unfold pT at hx
        rw [List.getElem?_map] at hx
        cases eb : qt[i]? with
        | none => rw [eb] at hx; cases hx
        | some e =>
          rw [eb] at hx
          cases hx
          have me : e ∈ qt := List.mem_of_getElem? eb
          have ndq : (qt.map (·.1)).Nodup := by rw [hk]; exact ny
          obtain ⟨n1, n2⟩ := hR e me
          have neD : e.2 ≠ D := ne_of (show H1 e.2 = some _ from n2) hT (fun z => nomatch z)
          have rw_ : RowAt H' e.2 (nfR p (S e.1)) := s3 _ _ (gO _ _ neD n2)
          have gp : DGet H' D (.ref t) (some (.ref e.2)) := .inr ⟨pT qt, kP e.1, t, .inr ⟨od, s3 _ _ gD⟩, rfl, ht, by rw [valV_pT, lk_mem ndq me]; rfl⟩
          have tk : (qt.take (i + 1)).filter (fun e => decide (nfR p (S e.1) ≠ [])) = (qt.take i).filter (fun e => decide (nfR p (S e.1) ≠ [])) ++ (if nfR p (S e.1) ≠ [] then [e] else []) := by
            rw [take_snoc eb, List.filter_append]
            congr 1
            by_cases z : nfR p (S e.1) ≠ []
            · rw [if_pos z, List.filter_cons, if_pos (decide_eq_true z)]
              rfl
            · rw [if_neg z, List.filter_cons, if_neg (by rw [decide_eq_false z]; decide)]
              rfl
          walk_at "rd"
          refine ⟨_, gp, _, .inr (.inr ⟨_, rw_, rfl⟩), ?_⟩
          rw [tk]
          by_cases z : nfR p (S e.1) ≠ []
          · have ne : (!(iK (nfR p (S e.1))).isEmpty) = true := by
              cases h : nfR p (S e.1) with
              | nil => exact absurd h z
              | cons _ _ => rfl
            rw [if_pos ne, if_pos z]
            refine ⟨_, gp, _, .inr ⟨_, kP e.1, t, hT3, rfl, ht, ?_, rfl⟩, ?_, ?_⟩
            · unfold pT
              rw [List.length_map]
              have h1 := List.length_filter_le (fun e => decide (nfR p (S e.1) ≠ [])) (qt.take i)
              rw [List.length_take] at h1
              exact Nat.lt_of_le_of_lt (show _ ≤ 5000 by omega) (by decide)
            · exact same_upd s3 hD2
            · rw [pT_snoc (lk_notin fun m => ?_)]
              · exact upd_same
              · obtain ⟨e2, m2, q2⟩ := List.mem_map.mp m
                have m3 := (List.mem_filter.mp m2).1
                have := nodup_take ndq (i := i) (y := e.1) (by rw [List.getElem?_map, eb]; rfl)
                rw [← List.map_take] at this
                exact this (List.mem_map.mpr ⟨e2, m3, q2⟩)
          · have ne : (!(iK (nfR p (S e.1))).isEmpty) = false := by
              rw [Decidable.not_not.mp z]
              rfl
            rw [if_neg (by rw [ne]; decide), if_neg z, List.append_nil]
            exact ⟨s3, hT3⟩
      · rintro H2 ⟨s3, hT3⟩
        have zl : (pT qt).length = qt.length := by unfold pT; rw [List.length_map]
        rw [zl, List.take_length] at hT3
        have s4 : Same H (upd H2 D (.dT (pT qt))) := fun b o e => by
          have nb : b ≠ D := ne_of_none e hDH
          rw [upd_ne nb]
          exact s3 _ _ (gO _ _ nb (s2 _ _ (s1 _ _ e)))
        have ndq : (qt.map (·.1)).Nodup := by rw [hk]; exact ny
        refine ⟨s3 _ _ gD, k _ D2 (qt.filter fun e => decide (nfR p (S e.1) ≠ [])) s4 (none_of_same (s1.trans s2) nD2) ⟨?_, ?_, ?_, ?_, ?_⟩ ?_⟩
        · unfold TabAt
          rw [upd_ne nDD]
          exact hT3
        · have h1 : (qt.map (·.1)).Pairwise ltP2 := by rw [hk]; exact lt
          exact h1.sublist (List.Sublist.map _ List.filter_sublist)
        · intro e m
          obtain ⟨m1, m2⟩ := List.mem_filter.mp m
          obtain ⟨n1, n2⟩ := hR e m1
          have neD : e.2 ≠ D := ne_of (show H1 e.2 = some _ from n2) hT (fun z => nomatch z)
          refine ⟨?_, of_decide_eq_true m2⟩
          unfold RowAt
          rw [upd_ne neD]
          exact s3 _ _ (gO _ _ neD n2)
        · intro y
          by_cases h : ∃ e ∈ pt, e.1 = y
          · obtain ⟨e, m, rfl⟩ := h
            exact (nfR_spec hp (I.row e m).2.1).1
          · have : S y = [] := I.off y fun e m z => h ⟨e, m, z⟩
            show Canon p (nfR p (S y))
            rw [this, nfR_nil]
            exact ⟨List.Pairwise.nil, fun q m => nomatch m⟩
        · intro y h
          by_cases hm : ∃ e ∈ pt, e.1 = y
          · obtain ⟨e, m, rfl⟩ := hm
            have : e.1 ∈ qt.map (·.1) := by rw [hk]; exact perm.mem_iff.mpr (List.mem_map.mpr ⟨e, m, rfl⟩)
            obtain ⟨e2, m2, q2⟩ := List.mem_map.mp this
            by_cases z : nfR p (S e.1) = []
            · exact z
            · exact absurd q2 (h e2 (List.mem_filter.mpr ⟨m2, decide_eq_true (by rw [q2]; exact z)⟩))
          · show nfR p (S y) = []
            rw [I.off y fun e m z => hm ⟨e, m, z⟩, nfR_nil]
        · intro e m
          exact (hR e (List.mem_filter.mp m).1).1
end
end Lp
namespace Lp
open PySem L2
local macro_rules | `(tactic| walk_at "rd") => `(tactic| simp only [tSeq, tAsg, tYes, tTest, tOp, tCB, tCons, tNil, tVar, tC, rI0, rI, gName, wipe, tDisp, tTru, TruV, tB, tNext, tDGet2, tLock, tDIn, tDNotIn, tOr, tNot, tChain, tAnd, tCont, tUn, rU, tPairs, tRet, tIf, tIfS, tPar, tLst, tTup, tDrop, tDGet, tCall, sDPut, L2.start,
  List.map_cons, List.map_nil, List.foldl_cons, List.foldl_nil, List.length_cons, List.length_nil, List.replicate_succ, List.replicate_zero, List.append_nil, List.cons_append, List.nil_append, List.set_cons_zero, List.set_cons_succ, List.getElem?_cons_zero, List.getElem?_cons_succ,
  Option.some.injEq, List.cons.injEq, V.int.injEq, V.bl.injEq, V.ref.injEq, V.str.injEq, exists_eq_left', exists_eq_left, exists_eq_right, and_true, true_and, exists_and_left, Nat.add_zero, Nat.reduceAdd, Nat.reduceSub, Nat.sub_zero, if_true, if_false])
/-! ### tables of rows by places -/
abbrev ITab := List (Int × Addr)
def iT (it : ITab) : List (Key × V) := it.map fun e => (Sum.inl e.1, V.ref e.2)
def ITabAt (H : Hp) (P : Addr) (it : ITab) : Prop := H P = some (.dK (iT it))
def lkI (it : ITab) (k : Int) : Option Addr := (it.find? fun e => decide (e.1 = k)).map (·.2)
theorem valV_iT (it : ITab) (k : Int) : valV (iT it) (Sum.inl k) = (lkI it k).map V.ref := by
  induction it with
  | nil => rfl
  | cons e it ih =>
    have e0 : iT (e :: it) = (Sum.inl e.1, V.ref e.2) :: iT it := rfl
    by_cases h : e.1 = k
    · have l1 : lkI (e :: it) k = some e.2 := by simp [lkI, List.find?_cons, h]
      rw [e0, valV_pos (by rw [← h]), l1]
      rfl
    · have ne : ¬ (Sum.inl e.1 : Key) = Sum.inl k := fun z => h (Sum.inl.inj z)
      have l1 : lkI (e :: it) k = lkI it k := by simp [lkI, List.find?_cons, h]
      have v1 : valV (iT (e :: it)) (Sum.inl k) = valV (iT it) (Sum.inl k) := by
        rw [e0]
        simp only [valV, List.find?_cons, decide_eq_false ne]
      rw [v1, ih, l1]
theorem get_itab {H : Hp} {P : Addr} {it : ITab} {a : Int} (h : ITabAt H P it) : DGet H P (.int a) ((lkI it a).map V.ref) := by
  have q := DGet.k (k := Sum.inl a) h
  rw [valV_iT] at q
  exact q
theorem lkI_some {it : ITab} {k : Int} {a : Addr} (h : lkI it k = some a) : (k, a) ∈ it := by
  unfold lkI at h
  cases e : it.find? (fun e => decide (e.1 = k)) with
  | none => rw [e] at h; cases h
  | some q =>
    rw [e] at h
    have h1 := List.find?_some e
    have h2 := List.mem_of_find?_eq_some e
    have e1 : q.1 = k := of_decide_eq_true h1
    have e2 : q.2 = a := Option.some.inj h
    rw [← e1, ← e2]
    exact h2
theorem lkI_none {it : ITab} {k : Int} (h : lkI it k = none) : ∀ e ∈ it, e.1 ≠ k := fun e m z => by
  unfold lkI at h
  rw [Option.map_eq_none_iff, List.find?_eq_none] at h
  exact h e m (decide_eq_true z)
theorem lkI_mem {it : ITab} (nd : (it.map (·.1)).Nodup) {e : Int × Addr} (m : e ∈ it) : lkI it e.1 = some e.2 := by
  induction it with
  | nil => cases m
  | cons q it ih =>
    rw [List.map_cons, List.nodup_cons] at nd
    by_cases h : q.1 = e.1
    · have l1 : lkI (q :: it) e.1 = some q.2 := by simp [lkI, List.find?_cons, h]
      rcases List.mem_cons.mp m with z | z
      · rw [l1, z]
      · exact absurd (List.mem_map.mpr ⟨e, z, h.symm⟩) nd.1
    · have l1 : lkI (q :: it) e.1 = lkI it e.1 := by simp [lkI, List.find?_cons, h]
      rcases List.mem_cons.mp m with z | z
      · exact absurd (by rw [z]) h
      · rw [l1]
        exact ih nd.2 z
theorem lkI_notin {qt : ITab} {y : Int} (h : y ∉ qt.map (·.1)) : lkI qt y = none := by
  cases e : lkI qt y with
  | none => rfl
  | some a => exact absurd (List.mem_map.mpr ⟨_, lkI_some e, rfl⟩) h
theorem iT_snoc {qt : ITab} {y : Int} {q : Addr} (h : lkI qt y = none) : putK (iT qt) (Sum.inl y) (.ref q) = iT (qt ++ [(y, q)]) := by
  rw [putK_new _ (by rw [valV_iT, h]; rfl)]
  unfold iT
  rw [List.map_append]
  rfl
structure ITabIn (H : Hp) (P : Addr) (it : ITab) (S : Int → Row) (n : Nat) : Prop where
  tab : ITabAt H P it
  len : it.length < 64
  nd : (it.map (·.1)).Nodup
  row : ∀ e ∈ it, RowAt H e.2 (S e.1) ∧ Nd (S e.1) ∧ Bel n (S e.1)
  off : ∀ k, (∀ e ∈ it, e.1 ≠ k) → S k = []
structure ITabOk (H : Hp) (P : Addr) (it : ITab) (S : Int → Row) (p : Int) : Prop where
  tab : ITabAt H P it
  asc : (it.map (·.1)).Pairwise (· < ·)
  row : ∀ e ∈ it, RowAt H e.2 (S e.1) ∧ S e.1 ≠ []
  can : ∀ k, Canon p (S k)
  off : ∀ k, (∀ e ∈ it, e.1 ≠ k) → S k = []
theorem ITabOk.nd {H : Hp} {P : Addr} {it : ITab} {S : Int → Row} {p : Int} (t : ITabOk H P it S p) : (it.map (·.1)).Nodup := by
  refine t.asc.imp fun {a b} h (e : a = b) => ?_
  omega
def spTabI : Sp := fun vs H Q _ => ∃ (P : Addr) (it : ITab) (S : Int → Row) (n : Nat) (p : Int), vs = [.ref P, .int p] ∧ ITabIn H P it S n ∧ n ≤ 60 ∧ 0 < p ∧
  ∀ H' P' it', Same H H' → H P' = none → ITabOk H' P' it' (fun k => nfR p (S k)) p → (∀ e ∈ it', H e.2 = none) → Q (.ref P') H'
section
variable {P : Program} {w : World} {K : PySem.W.Frag} {mg : Str → Option Value} {base : Heap}
theorem ok_tabI {f fT : Addr} {fd dT : FuncData} (F : Fun K "tidied_table" "tidied_table" sTab f fd) (mSorted : mg "sorted" = none)
    (T1 : FnOk P w K mg base CX0 1 fT dT ["row", "prime"] spTidied) (mT : mg "tidied" = some (.ref fT)) (kT : PySem.W.keepIn K (.ref fT) = true) (bT : Binds K dT ["row", "prime"] []) : FnOk P w K mg base CX0 2 f fd ["table", "prime"] spTabI := by
  refine F.ok scTab (fun vs H Q E h => ?_) (fun cdv A outer s H vs Q E hr h => ?_)
  · obtain ⟨P', pt, S, n, p, rfl, _⟩ := h
    rfl
  · obtain ⟨P', pt, S, n, p, rfl, I, hn, hp, k⟩ := h
    have hu := hu_of hr
    refine ⟨_, pss_cons (ps_set (i := 2) scTab.nd rfl (Or.inr rfl) (pe_dp (b := false) (own := [("key", 3)]) (g := gName 3) (tt := tYes) hu rfl scTab.nd (pi_list (pe_callB (call_sortedDI rfl) (by rfl) mSorted (by decide +kernel) (pa_cons (pv 0) pa_nil))) (blkOk_by (N := ["table", "prime", "rows", "key"]) (sc := defScope sTab) (by decide +kernel))
        (fun _ _ _ _ _ => pg_name (i := 3) scTab.nd rfl (Or.inl rfl)) (fun _ _ _ _ _ => pts_nil) (fun _ _ _ _ _ => pv 3)
        (fun _ _ _ _ _ => pe_call T1 hr (by rfl) mT kT bT .nil pass0 (pa_cons (pe_dget hu (pv 0) (pv 3) (fun _ _ => rfl)) (pa_cons (pv 1) pa_nil)))))
      (pss_one (ps_ret (pe_lock (pe_dp (b := false) (own := [("key", 3)]) (g := gName 3) hu rfl scTab.nd (pi_keys (pv 2)) (blkOk_by (N := ["table", "prime", "rows", "key"]) (sc := defScope sTab) (by decide +kernel))
        (fun _ _ _ _ _ => pg_name (i := 3) scTab.nd rfl (Or.inl rfl)) (fun _ _ _ _ _ => pts_one (pt_tru (K := K) rfl (pe_dget hu (pv 2) (pv 3) (fun _ _ => rfl)) (by intro _; rfl))) (fun _ _ _ _ _ => pv 3)
        (fun _ _ _ _ _ => pe_dget hu (pv 2) (pv 3) (fun _ _ => rfl)))))), ?_⟩
    simp only [tSeq, tAsg, tDp, iList, tRet, tCB, tCons, tNil, tLockE, iKeys]
    refine ⟨_, rfl, P', iT pt, pt.map (·.1), rfl, .inl I.tab, by unfold iT; rw [List.map_map, List.map_map]; rfl, by rw [List.length_map]; exact I.len, fun ys l perm asc hl => ?_⟩
    have ny : ys.Nodup := perm.nodup_iff.mpr I.nd
    have zy : ys.length = pt.length := by rw [perm.length_eq, List.length_map]
    have lt : ys.Pairwise (· < ·) := (asc.and ny).imp fun {a b} h => by omega
    have s1 : Same H (upd H l (.lst (ys.map V.int))) := same_new hl
    refine ⟨l, rfl, ⟨_, SqL.of upd_same⟩, fun D hD => ?_⟩
    have hDH : H D = none := none_upd hD
    have inv0 : ∀ i, i ≤ ys.length → i ≤ 5000 := fun i h => by have := I.len; omega
    refine dp_it walk_list (b := false) (fun i H' => Same (upd H l (.lst (ys.map V.int))) H' ∧ ∃ qt : ITab, qt.map (·.1) = ys.take i ∧ ITabAt H' D qt ∧ ∀ e ∈ qt, H e.2 = none ∧ e.2 ≠ D ∧ RowAt H' e.2 (nfR p (S e.1))) ?_ (fun i H' _ h => SqL.of (h.1 _ _ upd_same)) ?_ ?_
    · exact ⟨same_new hD, [], rfl, upd_same, fun e m => nomatch m⟩
    · rintro i x H1 H' hi ⟨s2, qt, hk, hT, hR⟩ ⟨rfl, hx⟩
      obtain ⟨y, hy, rfl⟩ := int_at hx
      have my : y ∈ pt.map (·.1) := perm.mem_iff.mp (List.mem_of_getElem? hy)
      obtain ⟨e, me, rfl⟩ := List.mem_map.mp my
      obtain ⟨r1, r2, r3⟩ := I.row e me
      have le := lkI_mem I.nd me
      have up : Same H H' := s1.trans s2
      have hP' : ITabAt H' P' pt := up _ _ I.tab
      have gp := get_itab (a := e.1) hP'
      rw [le] at gp
      have z2 := row_len r2 r3
      have li : i < ys.length := (List.getElem?_eq_some_iff.mp hy).1
      have zq : qt.length = i := by
        have := congrArg List.length hk
        rw [List.length_map, List.length_take] at this
        omega
      have := I.len
      walk_at "rd"
      refine ⟨_, gp, e.2, S e.1, p, rfl, up _ _ r1, r2, by omega, hp, fun H2 q r' s3 nq hq c1 c2 => ?_⟩
      have er : r' = nfR p (S e.1) := nfR_eq hp r2 c1 c2
      have hT2 : ITabAt H2 D qt := s3 _ _ hT
      refine ⟨_, .inl ⟨iT qt, Sum.inl e.1, hT2, rfl, by unfold iT; rw [List.length_map]; exact small1000 (by omega), rfl⟩, ?_, qt ++ [(e.1, q)], ?_, ?_, ?_⟩
      · have nD : upd H l (.lst (ys.map V.int)) D = none := hD
        exact same_upd (s2.trans s3) nD
      · rw [List.map_append, hk, take_snoc hy]
        rfl
      · rw [iT_snoc (lkI_notin (by rw [hk]; exact nodup_take ny hy))]
        exact upd_same
      · intro e2 m
        rcases List.mem_append.mp m with m | m
        · obtain ⟨n1, n0, n2⟩ := hR e2 m
          refine ⟨n1, n0, ?_⟩
          unfold RowAt
          rw [upd_ne n0]
          exact s3 _ _ n2
        · rw [List.mem_singleton.mp m]
          have nqD : q ≠ D := fun z => by rw [z, hT] at nq; cases nq
          refine ⟨none_of_same up nq, nqD, ?_⟩
          unfold RowAt
          rw [upd_ne nqD]
          rw [← er]
          exact hq
    · rintro H1 ⟨s2, qt, hk, hT, hR⟩
      rw [List.length_map, List.take_length] at hk
      have zq : qt.length = ys.length := by
        have := congrArg List.length hk
        rw [List.length_map] at this
        exact this
      have := I.len
      refine ⟨D, _, hT, trivial, fun od => ⟨_, rfl, D, od, rfl, .inl ⟨_, upd_same, fun D2 hD2 => ?_⟩⟩⟩
      generalize eG : upd H1 D (.frz od (.dK (iT qt))) = G at hD2 ⊢
      have gD : G D = some (.frz od (.dK (iT qt))) := by rw [← eG]; exact upd_same
      have gO : ∀ b o, b ≠ D → H1 b = some o → G b = some o := fun b o nb e => by
        rw [← eG, upd_ne nb]
        exact e
      have nD2 : H1 D2 = none := by
        rw [← eG] at hD2
        exact none_upd hD2
      have nDD : D2 ≠ D := fun e => by rw [e, hT] at nD2; cases nD2
      refine dp_it walk_keys (b := false) (fun i H' => Same G H' ∧ ITabAt H' D2 ((qt.take i).filter fun e => decide (nfR p (S e.1) ≠ []))) ⟨same_new hD2, upd_same⟩ (fun i H' _ h => h.1 _ _ gD) ?_ ?_
      · rintro i x H2 H' hi ⟨s3, hT3⟩ ⟨rfl, kk, vv, hx, rfl⟩
        unfold iT at hx
        rw [List.getElem?_map] at hx
        cases eb : qt[i]? with
        | none => rw [eb] at hx; cases hx
        | some e =>
          rw [eb] at hx
          cases hx
          have me : e ∈ qt := List.mem_of_getElem? eb
          have ndq : (qt.map (·.1)).Nodup := by rw [hk]; exact ny
          obtain ⟨n1, neD, n2⟩ := hR e me
          have rw_ : RowAt H' e.2 (nfR p (S e.1)) := s3 _ _ (gO _ _ neD n2)
          have gp : DGet H' D (.int e.1) (some (.ref e.2)) := .inl ⟨iT qt, Sum.inl e.1, .inr ⟨od, s3 _ _ gD⟩, rfl, by rw [valV_iT, lkI_mem ndq me]; rfl⟩
          have tk : (qt.take (i + 1)).filter (fun e => decide (nfR p (S e.1) ≠ [])) = (qt.take i).filter (fun e => decide (nfR p (S e.1) ≠ [])) ++ (if nfR p (S e.1) ≠ [] then [e] else []) := by
            rw [take_snoc eb, List.filter_append]
            congr 1
            by_cases z : nfR p (S e.1) ≠ []
            · rw [if_pos z, List.filter_cons, if_pos (decide_eq_true z)]
              rfl
            · rw [if_neg z, List.filter_cons, if_neg (by rw [decide_eq_false z]; decide)]
              rfl
          walk_at "rd"
          refine ⟨_, gp, _, .inr (.inr ⟨_, rw_, rfl⟩), ?_⟩
          rw [tk]
          by_cases z : nfR p (S e.1) ≠ []
          · have ne : (!(iK (nfR p (S e.1))).isEmpty) = true := by
              cases h : nfR p (S e.1) with
              | nil => exact absurd h z
              | cons _ _ => rfl
            rw [if_pos ne, if_pos z]
            refine ⟨_, gp, _, .inl ⟨_, Sum.inl e.1, hT3, rfl, ?_, rfl⟩, ?_, ?_⟩
            · unfold iT
              rw [List.length_map]
              have h1 := List.length_filter_le (fun e => decide (nfR p (S e.1) ≠ [])) (qt.take i)
              rw [List.length_take] at h1
              exact small1000 (by omega)
            · exact same_upd s3 hD2
            · rw [iT_snoc (lkI_notin fun m => ?_)]
              · exact upd_same
              · obtain ⟨e2, m2, q2⟩ := List.mem_map.mp m
                have m3 := (List.mem_filter.mp m2).1
                have := nodup_take ndq (i := i) (y := e.1) (by rw [List.getElem?_map, eb]; rfl)
                rw [← List.map_take] at this
                exact this (List.mem_map.mpr ⟨e2, m3, q2⟩)
          · have ne : (!(iK (nfR p (S e.1))).isEmpty) = false := by
              rw [Decidable.not_not.mp z]
              rfl
            rw [if_neg (by rw [ne]; decide), if_neg z, List.append_nil]
            exact ⟨s3, hT3⟩
      · rintro H2 ⟨s3, hT3⟩
        have zl : (iT qt).length = qt.length := by unfold iT; rw [List.length_map]
        rw [zl, List.take_length] at hT3
        have s4 : Same H (upd H2 D (.dK (iT qt))) := fun b o e => by
          have nb : b ≠ D := ne_of_none e hDH
          rw [upd_ne nb]
          exact s3 _ _ (gO _ _ nb (s2 _ _ (s1 _ _ e)))
        have ndq : (qt.map (·.1)).Nodup := by rw [hk]; exact ny
        refine ⟨s3 _ _ gD, k _ D2 (qt.filter fun e => decide (nfR p (S e.1) ≠ [])) s4 (none_of_same (s1.trans s2) nD2) ⟨?_, ?_, ?_, ?_, ?_⟩ ?_⟩
        · unfold ITabAt
          rw [upd_ne nDD]
          exact hT3
        · have h1 : (qt.map (·.1)).Pairwise (· < ·) := by rw [hk]; exact lt
          exact h1.sublist (List.Sublist.map _ List.filter_sublist)
        · intro e m
          obtain ⟨m1, m2⟩ := List.mem_filter.mp m
          obtain ⟨n1, neD, n2⟩ := hR e m1
          refine ⟨?_, of_decide_eq_true m2⟩
          unfold RowAt
          rw [upd_ne neD]
          exact s3 _ _ (gO _ _ neD n2)
        · intro y
          by_cases h : ∃ e ∈ pt, e.1 = y
          · obtain ⟨e, m, rfl⟩ := h
            exact (nfR_spec hp (I.row e m).2.1).1
          · have : S y = [] := I.off y fun e m z => h ⟨e, m, z⟩
            show Canon p (nfR p (S y))
            rw [this, nfR_nil]
            exact ⟨List.Pairwise.nil, fun q m => nomatch m⟩
        · intro y h
          by_cases hm : ∃ e ∈ pt, e.1 = y
          · obtain ⟨e, m, rfl⟩ := hm
            have : e.1 ∈ qt.map (·.1) := by rw [hk]; exact perm.mem_iff.mpr (List.mem_map.mpr ⟨e, m, rfl⟩)
            obtain ⟨e2, m2, q2⟩ := List.mem_map.mp this
            by_cases z : nfR p (S e.1) = []
            · exact z
            · exact absurd q2 (h e2 (List.mem_filter.mpr ⟨m2, decide_eq_true (by rw [q2]; exact z)⟩))
          · show nfR p (S y) = []
            rw [I.off y fun e m z => hm ⟨e, m, z⟩, nfR_nil]
        · intro e m
          exact (hR e (List.mem_filter.mp m).1).1
end
end Lp
namespace Lp
open PySem L2
local macro_rules | `(tactic| walk_at "rd") => `(tactic| simp only [tSeq, tAsg, tYes, tTest, tOp, tCB, tCons, tNil, tVar, tC, rI0, rI, gName, wipe, tDisp, tTru, TruV, tB, tNext, tDGet2, tLock, tDIn, tDNotIn, tOr, tNot, tChain, tAnd, tCont, tUn, rU, tPairs, tRet, tIf, tIfS, tPar, tLst, tTup, tDrop, tDGet, tCall, sDPut, L2.start,
  List.map_cons, List.map_nil, List.foldl_cons, List.foldl_nil, List.length_cons, List.length_nil, List.replicate_succ, List.replicate_zero, List.append_nil, List.cons_append, List.nil_append, List.set_cons_zero, List.set_cons_succ, List.getElem?_cons_zero, List.getElem?_cons_succ,
  Option.some.injEq, List.cons.injEq, V.int.injEq, V.bl.injEq, V.ref.injEq, V.str.injEq, exists_eq_left', exists_eq_left, exists_eq_right, and_true, true_and, exists_and_left, Nat.add_zero, Nat.reduceAdd, Nat.reduceSub, Nat.sub_zero, if_true, if_false])
/-! ### judging.py: kinds -/
def kinds : List String := ["NoneType", "bool", "int", "str", "list", "tuple", "dict"]
/-- x is of the kind s, one of those -/
def KindV (K : PySem.W.Frag) (H : Hp) (x : V) (s : String) : Prop := TyX K H x (.type s) ∧ s ∈ kinds
theorem kit_in {K : PySem.W.Frag} {s : String} (m : s ∈ kinds) (c : String) (g : String → Bool) (h : kinds.all (fun s => decide (L2.kitB s c = some (g s))) = true) : PySem.W.kitOne K (.type s) (.type c) = some (g s) :=
  kit_ty (of_decide_eq_true (List.all_eq_true.mp h s m))
theorem kind_int {K : PySem.W.Frag} {H : Hp} {x : V} (h : KindV K H x "int") : ∃ i, x = .int i := by
  obtain ⟨t, _⟩ := h
  generalize e : Value.type "int" = u at t
  cases t with
  | base b =>
    cases b with
    | int i => exact ⟨i, rfl⟩
    | non => exact absurd (Value.type.inj e) (by decide)
    | bl _ => exact absurd (Value.type.inj e) (by decide)
    | str _ => exact absurd (Value.type.inj e) (by decide)
    | flt _ => exact absurd (Value.type.inj e) (by decide)
    | lst _ => exact absurd (Value.type.inj e) (by decide)
    | frz _ => exact absurd (Value.type.inj e) (by decide)
    | tup _ => exact absurd (Value.type.inj e) (by decide)
    | dK _ => exact absurd (Value.type.inj e) (by decide)
    | dT _ => exact absurd (Value.type.inj e) (by decide)
    | ins _ _ _ _ _ => cases e
  | byt _ => exact absurd (Value.type.inj e) (by decide)
  | set _ => exact absurd (Value.type.inj e) (by decide)
  | kList _ _ => exact absurd (Value.type.inj e) (by decide)
  | kTuple _ _ => exact absurd (Value.type.inj e) (by decide)
  | kDict _ _ => exact absurd (Value.type.inj e) (by decide)
  | fTuple _ => exact absurd (Value.type.inj e) (by decide)
  | fDict _ => exact absurd (Value.type.inj e) (by decide)
theorem KindV.int {K : PySem.W.Frag} {H : Hp} (i : Int) : KindV K H (.int i) "int" := ⟨.base (.int i), by decide⟩
abbrev sIsNum : Stmt := top 9
abbrev sIsBet : Stmt := top 10
abbrev sIsList : Stmt := top 11
def spIsNum (K : PySem.W.Frag) : Sp := fun vs H Q _ => ∃ x s, vs = [x] ∧ KindV K H x s ∧ Q (.bl (s == "int")) H
/-- a number from lo to hi -/
def betB (x : V) (lo hi : Int) : Bool := match x with
  | .int i => decide (lo ≤ i) && decide (i ≤ hi)
  | _ => false
def spIsBet (K : PySem.W.Frag) : Sp := fun vs H Q _ => ∃ x s lo hi, vs = [x, .int lo, .int hi] ∧ KindV K H x s ∧ Q (.bl (betB x lo hi)) H
def spIsList (K : PySem.W.Frag) : Sp := fun vs H Q _ => ∃ x s, vs = [x] ∧ KindV K H x s ∧ ∀ H', Same H H' → Q (.bl (s == "list" || s == "tuple")) H'
section
variable {P : Program} {w : World} {K : PySem.W.Frag} {mg : Str → Option Value} {base : Heap}
theorem scIsNum : FnScope ["thing"] ["thing"] (defScope sIsNum) := ⟨rfl, rfl, rfl, by decide +kernel, rfl, by decide +kernel, by decide +kernel⟩
theorem ok_is_number {f : Addr} {fd : FuncData} (F : Fun K "is_number" "is_number" sIsNum f fd) (mI : mg "isinstance" = none) (mInt : mg "int" = none) (mBool : mg "bool" = none) : FnOk P w K mg base CX0 1 f fd ["thing"] (spIsNum K) := by
  refine F.ok scIsNum (fun vs H Q E h => ?_) (fun cdv A outer s H vs Q E hr h => ?_)
  · obtain ⟨x, t, rfl, _⟩ := h
    rfl
  · obtain ⟨x, t, rfl, kv, k⟩ := h
    refine ⟨_, pss_one (ps_ret (pe_and (pe_callB call_isi (by rfl) mI (by decide +kernel) (pa_cons (pv 0) (pa_cons (pe_bltn (v := .ty "int") (by rfl) mInt (by decide +kernel) rfl) pa_nil)))
      (pe_one (pe_not (pe_callB call_isi (by rfl) mI (by decide +kernel) (pa_cons (pv 0) (pa_cons (pe_bltn (v := .ty "bool") (by rfl) mBool (by decide +kernel) rfl) pa_nil))))))), ?_⟩
    refine ⟨_, rfl, x, .ty "int", .type t, .type "int", _, rfl, .ty _, kv.1, kit_in kv.2 "int" (fun s => s == "int" || s == "bool") (by decide +kernel), _, rfl, ite2 (fun h1 => ⟨_, rfl, x, .ty "bool", .type t, .type "bool", _, rfl, .ty _, kv.1, kit_in kv.2 "bool" (fun s => s == "bool") (by decide +kernel), _, rfl, ?_⟩) fun h1 => ?_⟩
    · have e : (!(t == "bool")) = (t == "int") := by
        rcases (by simpa using h1 : t = "int" ∨ t = "bool") with e | e <;> rw [e] <;> decide
      rw [e]
      exact k
    · have e : (t == "int") = false := by
        cases h : t == "int" with
        | false => rfl
        | true => exact absurd (by rw [h]; rfl) h1
      rw [e] at k
      exact k
theorem scIsBet : FnScope ["thing", "least", "most"] ["thing", "least", "most"] (defScope sIsBet) := ⟨rfl, rfl, rfl, by decide +kernel, rfl, by decide +kernel, by decide +kernel⟩
theorem ok_is_between {f fN : Addr} {fd dN : FuncData} (F : Fun K "is_between" "is_between" sIsBet f fd) (N1 : FnOk P w K mg base CX0 1 fN dN ["thing"] (spIsNum K)) (mN : mg "is_number" = some (.ref fN)) (kN : PySem.W.keepIn K (.ref fN) = true) (bN : Binds K dN ["thing"] []) :
    FnOk P w K mg base CX0 2 f fd ["thing", "least", "most"] (spIsBet K) := by
  refine F.ok scIsBet (fun vs H Q E h => ?_) (fun cdv A outer s H vs Q E hr h => ?_)
  · obtain ⟨x, t, lo, hi, rfl, _⟩ := h
    rfl
  · obtain ⟨x, t, lo, hi, rfl, kv, k⟩ := h
    refine ⟨_, pss_one (ps_ret (pe_and (pe_call N1 hr (by rfl) mN kN bN .nil pass0 (pa_cons (pv 0) pa_nil)) (pe_one (pe_chain op_le op_le (pv 1) (pv 0) (pv 2))))), ?_⟩
    refine ⟨_, rfl, x, t, rfl, kv, _, rfl, ite2 (fun h1 => ?_) fun h1 => ?_⟩
    · have e : t = "int" := by simpa using h1
      subst e
      obtain ⟨i, rfl⟩ := kind_int kv
      refine ⟨_, rfl, _, rfl, _, _, rfl, rfl, _, rfl, ite2 (fun h2 => ⟨_, rfl, _, _, rfl, rfl, ?_⟩) fun h2 => ?_⟩
      · have e : betB (.int i) lo hi = decide (i ≤ hi) := by
          show (decide (lo ≤ i) && decide (i ≤ hi)) = _
          rw [h2, Bool.true_and]
        rw [e] at k
        exact k
      · have e : betB (.int i) lo hi = false := by
          show (decide (lo ≤ i) && decide (i ≤ hi)) = _
          rw [show decide (lo ≤ i) = false from by simpa using h2, Bool.false_and]
        rw [e] at k
        exact k
    · have e : betB x lo hi = false := by
        cases x with
        | int i =>
          have kt := kv.1
          cases kt with
          | base b =>
            cases b
            exact absurd rfl h1
        | _ => rfl
      rw [e] at k
      exact k
theorem scIsList : FnScope ["thing"] ["thing"] (defScope sIsList) := ⟨rfl, rfl, rfl, by decide +kernel, rfl, by decide +kernel, by decide +kernel⟩
theorem ok_is_list {f : Addr} {fd : FuncData} (F : Fun K "is_list" "is_list" sIsList f fd) (mI : mg "isinstance" = none) (mL : mg "list" = none) (mT : mg "tuple" = none) : FnOk P w K mg base CX0 1 f fd ["thing"] (spIsList K) := by
  refine F.ok scIsList (fun vs H Q E h => ?_) (fun cdv A outer s H vs Q E hr h => ?_)
  · obtain ⟨x, t, rfl, _⟩ := h
    rfl
  · obtain ⟨x, t, rfl, kv, k⟩ := h
    refine ⟨_, pss_one (ps_ret (pe_callB call_isiT (by rfl) mI (by decide +kernel) (pa_cons (pv 0) (pa_cons (pe_tup (pa_cons (pe_bltn (v := .ty "list") (by rfl) mL (by decide +kernel) rfl) (pa_cons (pe_bltn (v := .ty "tuple") (by rfl) mT (by decide +kernel) rfl) pa_nil))) pa_nil)))), ?_⟩
    refine ⟨_, rfl, by show 2 ≤ sizeLine; decide, fun p np => ?_⟩
    have s1 : Same H (upd H p (.tup [.ty "list", .ty "tuple"])) := same_new np
    have ty : TyX K (upd H p (.tup [.ty "list", .ty "tuple"])) x (.type t) := by
      cases kv.1 with
      | base b =>
        refine .base ?_
        cases b with
        | non => exact .non
        | bl b => exact .bl b
        | int i => exact .int i
        | str z => exact .str z
        | flt z => exact .flt z
        | lst e => exact .lst (s1 _ _ e)
        | frz e => exact .frz (s1 _ _ e)
        | tup e => exact .tup (s1 _ _ e)
        | dK e => exact .dK (s1 _ _ e)
        | dT e => exact .dT (s1 _ _ e)
      | byt b => exact .byt b
      | set e => exact .set (s1 _ _ e)
      | kList e c => exact .kList e c
      | kTuple e c => exact .kTuple e c
      | kDict e c => exact .kDict e c
      | fTuple e => exact .fTuple (s1 _ _ e)
      | fDict e => exact .fDict (s1 _ _ e)
    refine ⟨x, p, _, .type t, [.type "list", .type "tuple"], _, rfl, upd_same, .cons (.ty _) (.cons (.ty _) .nil), ty, ?_, k _ s1⟩
    show (match PySem.W.kitOne K (.type t) (.type "list") with
      | some true => some true
      | some false => (match PySem.W.kitOne K (.type t) (.type "tuple") with
        | some true => some true
        | some false => some false
        | none => none)
      | none => none) = _
    rw [kit_in kv.2 "list" (fun s => s == "list") (by decide +kernel), kit_in kv.2 "tuple" (fun s => s == "tuple") (by decide +kernel)]
    cases t == "list" <;> cases t == "tuple" <;> rfl
end
end Lp
namespace Lp
open PySem L2
local macro_rules | `(tactic| walk_at "rd") => `(tactic| simp only [tSeq, tAsg, tYes, tTest, tOp, tCB, tCons, tNil, tVar, tC, rI0, rI, gName, wipe, tDisp, tTru, TruV, tB, tNext, tDGet2, tLock, tDIn, tDNotIn, tOr, tNot, tChain, tAnd, tCont, tUn, rU, tPairs, tRet, tIf, tIfS, tPar, tLst, tTup, tDrop, tDGet, tCall, sDPut, L2.start,
  List.map_cons, List.map_nil, List.foldl_cons, List.foldl_nil, List.length_cons, List.length_nil, List.replicate_succ, List.replicate_zero, List.append_nil, List.cons_append, List.nil_append, List.set_cons_zero, List.set_cons_succ, List.getElem?_cons_zero, List.getElem?_cons_succ,
  Option.some.injEq, List.cons.injEq, V.int.injEq, V.bl.injEq, V.ref.injEq, V.str.injEq, exists_eq_left', exists_eq_left, exists_eq_right, and_true, true_and, exists_and_left, Nat.add_zero, Nat.reduceAdd, Nat.reduceSub, Nat.sub_zero, if_true, if_false])
theorem TyX.same {K : PySem.W.Frag} {H H' : Hp} {x : V} {t : Value} (s1 : Same H H') (h : TyX K H x t) : TyX K H' x t := by
  cases h with
  | base b =>
    refine .base ?_
    cases b with
    | non => exact .non
    | bl b => exact .bl b
    | int i => exact .int i
    | str z => exact .str z
    | flt z => exact .flt z
    | lst e => exact .lst (s1 _ _ e)
    | frz e => exact .frz (s1 _ _ e)
    | tup e => exact .tup (s1 _ _ e)
    | dK e => exact .dK (s1 _ _ e)
    | dT e => exact .dT (s1 _ _ e)
    | ins e a b c d f => exact .ins (s1 _ _ e) a b c d f
  | byt b => exact .byt b
  | set e => exact .set (s1 _ _ e)
  | kList e c => exact .kList e c
  | kTuple e c => exact .kTuple e c
  | kDict e c => exact .kDict e c
  | fTuple e => exact .fTuple (s1 _ _ e)
  | fDict e => exact .fDict (s1 _ _ e)
theorem KindV.same {K : PySem.W.Frag} {H H' : Hp} {x : V} {s : String} (s1 : Same H H') (h : KindV K H x s) : KindV K H' x s := ⟨TyX.same s1 h.1, h.2⟩
/-! ### is_word -/
abbrev sIsWord : Stmt := top 13
def wordB (xs : List V) (n lo hi : Int) : Bool := (decide (lo ≤ xs.length) && decide ((xs.length : Int) ≤ hi)) && xs.all fun x => betB x 0 (n - 1)
def spIsWord (K : PySem.W.Frag) : Sp := fun vs H Q _ => ∃ x s n lo hi, vs = [x, .int n, .int lo, .int hi] ∧ KindV K H x s ∧ (s ≠ "tuple" → Q (.bl false) H) ∧
  (s = "tuple" → ∃ a xs, x = .ref a ∧ H a = some (.tup xs) ∧ xs.length ≤ 1000 ∧ (∀ e ∈ xs, ∃ t, KindV K H e t) ∧ ∀ H', Same H H' → Q (.bl (wordB xs n lo hi)) H')
section
variable {P : Program} {w : World} {K : PySem.W.Frag} {mg : Str → Option Value} {base : Heap}
theorem scIsWord : FnScope ["thing", "places", "least", "most", "place"] ["thing", "places", "least", "most"] (defScope sIsWord) := ⟨rfl, rfl, rfl, by decide +kernel, rfl, by decide +kernel, by decide +kernel⟩
theorem ok_is_word {f fB : Addr} {fd dB : FuncData} (F : Fun K "is_word" "is_word" sIsWord f fd) (B1 : FnOk P w K mg base CX0 2 fB dB ["thing", "least", "most"] (spIsBet K)) (mB : mg "is_between" = some (.ref fB)) (kB : PySem.W.keepIn K (.ref fB) = true) (bB : Binds K dB ["thing", "least", "most"] [])
    (mI : mg "isinstance" = none) (mT : mg "tuple" = none) (mLen : mg "len" = none) (mAll : mg "all" = none) : FnOk P w K mg base CX0 3 f fd ["thing", "places", "least", "most"] (spIsWord K) := by
  refine F.ok scIsWord (fun vs H Q E h => ?_) (fun cdv A outer s H vs Q E hr h => ?_)
  · obtain ⟨x, t, n, lo, hi, rfl, _⟩ := h
    rfl
  · obtain ⟨x, t, n, lo, hi, rfl, kv, no, yes⟩ := h
    refine ⟨_, pss_cons (ps_if (PW.pt (pw_or (pt_not (pt_val (pe_callB call_isi (by rfl) mI (by decide +kernel) (pa_cons (pv 0) (pa_cons (pe_bltn (v := .ty "tuple") (by rfl) mT (by decide +kernel) rfl) pa_nil)))))
        (pw_or1 (pt_not (pt_chain op_le op_le (pv 2) (pe_callB call_len_seq (by rfl) mLen PySem.boot_len (pa_cons (pv 0) pa_nil)) (pv 3))))))
        (pss_one (ps_ret pe_bl)) pss_nil)
      (pss_one (ps_ret (pe_callB (cr_all rfl) (by rfl) mAll (by decide +kernel) (pa_cons (pe_lc (own := [("place", 4)]) (g := gName 4) (tt := tYes) rfl scIsWord.nd (pi_tup (pv 0)) (blkOk_by (N := ["thing", "places", "least", "most", "place"]) (sc := defScope sIsWord) (by decide +kernel))
        (fun _ _ _ _ _ => pg_name (i := 4) scIsWord.nd rfl (Or.inl rfl)) (fun _ _ _ _ _ => pts_nil) (fun _ _ _ _ _ => pe_call B1 hr (by rfl) mB kB bB .nil pass0 (pa_cons (pv 4) (pa_cons pe_int (pa_cons (pe_op op_sub (pv 1) pe_int) pa_nil))))) pa_nil)))), ?_⟩
    refine ⟨_, rfl, x, .ty "tuple", .type t, .type "tuple", _, rfl, .ty _, kv.1, kit_in kv.2 "tuple" (fun s => s == "tuple") (by decide +kernel), _, rfl, ?_⟩
    by_cases et : t = "tuple"
    · obtain ⟨a, xs, rfl, ha, zx, hk, fin⟩ := yes et
      have eb : (t == "tuple") = true := by rw [et]; rfl
      rw [eb]
      refine iteF ?_
      refine ⟨_, rfl, _, rfl, a, xs, rfl, .inr (SqT.of ha), ?_⟩
      have outw : (decide (lo ≤ xs.length) && decide ((xs.length : Int) ≤ hi)) = false → Q (.bl false) H := fun e => by
        have := fin H (Same.refl H)
        unfold wordB at this
        rw [e, Bool.false_and] at this
        exact this
      refine ⟨_, _, rfl, rfl, _, rfl, ite2 (fun h1 => ⟨_, rfl, _, _, rfl, rfl, _, rfl, ?_⟩) fun h1 => ?_⟩
      · by_cases h2 : (xs.length : Int) ≤ hi
        · rw [decide_eq_true h2]
          refine iteF ?_
          refine ⟨_, rfl, a, rfl, ⟨_, SqT.of ha⟩, fun D hD => ?_⟩
          refine lc_it walk_tup (fun i H' => Same H H' ∧ H' D = some (.lst (((xs.take i).map fun x => betB x 0 (n - 1)).map V.bl))) ⟨same_new hD, upd_same⟩ (fun i H' _ h => SqT.of (h.1 _ _ ha)) ?_ ?_
          · rintro i x H1 H' hi' ⟨s1, hT⟩ ⟨rfl, hx⟩
            obtain ⟨t', ht'⟩ := hk x (List.mem_of_getElem? hx)
            walk_at "rd"
            have li : i < xs.length := (List.getElem?_eq_some_iff.mp hx).1
            refine ⟨x, t', 0, n - 1, rfl, ht'.same s1, _, hT, ?_, same_upd s1 hD, ?_⟩
            · rw [List.length_map, List.length_map, List.length_take]
              exact small1000 (by omega)
            · rw [upd_same, take_snoc hx, List.map_append, List.map_append]
              rfl
          · rintro H1 ⟨s1, hT⟩
            rw [List.take_length] at hT
            have e : wordB xs n lo hi = (xs.map fun x => betB x 0 (n - 1)).all id := by
              unfold wordB
              rw [h1, decide_eq_true h2, List.all_map]
              rfl
            refine ⟨D, _, rfl, SqL.of hT, ?_⟩
            rw [← e]
            exact fin H1 s1
        · rw [decide_eq_false h2]
          exact iteT (outw (by rw [decide_eq_false h2, Bool.and_false]))
      · have e := show decide (lo ≤ (xs.length : Int)) = false from by simpa using h1
        exact ⟨_, rfl, iteT (outw (by rw [e, Bool.false_and]))⟩
    · have eb : (t == "tuple") = false := by
        cases h : t == "tuple" with
        | false => rfl
        | true => exact absurd (by simpa using h) et
      rw [eb]
      exact iteT (iteT (no et))
end
end Lp
namespace Lp
open PySem L2
local macro_rules | `(tactic| walk_at "rd") => `(tactic| simp only [tSeq, tAsg, tYes, tTest, tOp, tCB, tCons, tNil, tVar, tC, rI0, rI, gName, wipe, tDisp, tTru, TruV, tB, tNext, tDGet2, tLock, tDIn, tDNotIn, tOr, tNot, tChain, tAnd, tCont, tUn, rU, tPairs, tRet, tIf, tIfS, tPar, tLst, tTup, tDrop, tDGet, tCall, sDPut, L2.start,
  List.map_cons, List.map_nil, List.foldl_cons, List.foldl_nil, List.length_cons, List.length_nil, List.replicate_succ, List.replicate_zero, List.append_nil, List.cons_append, List.nil_append, List.set_cons_zero, List.set_cons_succ, List.getElem?_cons_zero, List.getElem?_cons_succ,
  Option.some.injEq, List.cons.injEq, V.int.injEq, V.bl.injEq, V.ref.injEq, V.str.injEq, exists_eq_left', exists_eq_left, exists_eq_right, and_true, true_and, exists_and_left, Nat.add_zero, Nat.reduceAdd, Nat.reduceSub, Nat.sub_zero, if_true, if_false])
/-- two ways to walk -/
def tiOr (a b : TI) : TI := fun σ H R => a σ H R ∨ b σ H R
theorem pi_or {X : Cx} {tg e : Expr} {a b : TI} (ha : PI X tg e a) (hb : PI X tg e b) : PI X tg e (tiOr a b) := ⟨fun pins s σ H R I h => h.elim (ha.run pins s σ H R I) (hb.run pins s σ H R I)⟩
abbrev sAreH : Stmt := top 14
def heightsB (xs : List V) (lo hi : Int) : Bool := decide ((xs.length : Int) ≤ 32) && xs.all fun x => betB x lo hi
def spAreH (K : PySem.W.Frag) : Sp := fun vs H Q _ => ∃ x s lo hi, vs = [x, .int lo, .int hi] ∧ KindV K H x s ∧ ((s == "list" || s == "tuple") = false → ∀ H', Same H H' → Q (.bl false) H') ∧
  ((s == "list" || s == "tuple") = true → ∃ a xs, x = .ref a ∧ (H a = some (.lst xs) ∨ H a = some (.tup xs)) ∧ xs.length ≤ 1000 ∧ (∀ e ∈ xs, ∃ t, KindV K H e t) ∧ ∀ H', Same H H' → Q (.bl (heightsB xs lo hi)) H')
section
variable {P : Program} {w : World} {K : PySem.W.Frag} {mg : Str → Option Value} {base : Heap}
theorem scAreH : FnScope ["thing", "least", "most", "height"] ["thing", "least", "most"] (defScope sAreH) := ⟨rfl, rfl, rfl, by decide +kernel, rfl, by decide +kernel, by decide +kernel⟩
theorem ok_are_heights {f fB fL : Addr} {fd dB dL : FuncData} (F : Fun K "are_heights" "are_heights" sAreH f fd) (B1 : FnOk P w K mg base CX0 2 fB dB ["thing", "least", "most"] (spIsBet K)) (mB : mg "is_between" = some (.ref fB)) (kB : PySem.W.keepIn K (.ref fB) = true) (bB : Binds K dB ["thing", "least", "most"] [])
    (L1 : FnOk P w K mg base CX0 1 fL dL ["thing"] (spIsList K)) (mL : mg "is_list" = some (.ref fL)) (kL : PySem.W.keepIn K (.ref fL) = true) (bL : Binds K dL ["thing"] [])
    (mLen : mg "len" = none) (mAll : mg "all" = none) : FnOk P w K mg base CX0 3 f fd ["thing", "least", "most"] (spAreH K) := by
  refine F.ok scAreH (fun vs H Q E h => ?_) (fun cdv A outer s H vs Q E hr h => ?_)
  · obtain ⟨x, t, lo, hi, rfl, _⟩ := h
    rfl
  · obtain ⟨x, t, lo, hi, rfl, kv, no, yes⟩ := h
    refine ⟨_, pss_one (ps_ret (pe_and (pe_call L1 (hr.mono (by decide)) (by rfl) mL kL bL .nil pass0 (pa_cons (pv 0) pa_nil)) (pe_and (pe_cmpR op_le (pe_callB call_len_seq (by rfl) mLen PySem.boot_len (pa_cons (pv 0) pa_nil)) pe_int (nomark _))
      (pe_one (pe_callB (cr_all rfl) (by rfl) mAll (by decide +kernel) (pa_cons (pe_lc (own := [("height", 3)]) (g := gName 3) (tt := tYes) rfl scAreH.nd (pi_or (pi_list (pv 0)) (pi_tup (pv 0))) (blkOk_by (N := ["thing", "least", "most", "height"]) (sc := defScope sAreH) (by decide +kernel))
        (fun _ _ _ _ _ => pg_name (i := 3) scAreH.nd rfl (Or.inl rfl)) (fun _ _ _ _ _ => pts_nil) (fun _ _ _ _ _ => pe_call B1 hr (by rfl) mB kB bB .nil pass0 (pa_cons (pv 3) (pa_cons (pv 1) (pa_cons (pv 2) pa_nil))))) pa_nil)))))), ?_⟩
    refine ⟨_, rfl, x, t, rfl, kv, fun H1 s1 => ⟨_, rfl, ?_⟩⟩
    cases eb : (t == "list" || t == "tuple") with
    | false => exact no eb H1 s1
    | true =>
      obtain ⟨a, xs, rfl, ha, zx, hk, fin⟩ := yes eb
      have ha1 : H1 a = some (.lst xs) ∨ H1 a = some (.tup xs) := ha.imp (s1 _ _) (s1 _ _)
      rw [if_pos rfl]
      refine ⟨_, rfl, a, xs, rfl, ha1.imp SqL.of SqT.of, _, _, rfl, rfl, _, rfl, ?_⟩
      by_cases h2 : (xs.length : Int) ≤ 32
      · rw [if_pos (decide_eq_true h2)]
        have step : ∀ (D : Addr) (hD : H1 D = none) (i : Nat) (x : V) (H' : Hp), xs[i]? = some x → Same H1 H' → H' D = some (.lst (((xs.take i).map fun x => betB x lo hi).map V.bl)) →
            spIsBet K [x, .int lo, .int hi] H' (fun y H4 => ∃ acc, H4 D = some (.lst acc) ∧ acc.length < sizeLine ∧ Same H1 (upd H4 D (.lst (acc ++ [y]))) ∧ upd H4 D (.lst (acc ++ [y])) D = some (.lst (((xs.take (i + 1)).map fun x => betB x lo hi).map V.bl))) E0 := by
          intro D hD i x H' hx s2 hT
          obtain ⟨t', ht'⟩ := hk x (List.mem_of_getElem? hx)
          have li : i < xs.length := (List.getElem?_eq_some_iff.mp hx).1
          refine ⟨x, t', lo, hi, rfl, ht'.same (s1.trans s2), _, hT, ?_, same_upd s2 hD, ?_⟩
          · rw [List.length_map, List.length_map, List.length_take]
            exact small1000 (by omega)
          · rw [upd_same, take_snoc hx, List.map_append, List.map_append]
            rfl
        have done : ∀ (D : Addr) (H' : Hp), Same H1 H' → H' D = some (.lst (((xs.take xs.length).map fun x => betB x lo hi).map V.bl)) → rAll K [.ref D] H' Q := by
          intro D H' s2 hT
          rw [List.take_length] at hT
          have e : heightsB xs lo hi = (xs.map fun x => betB x lo hi).all id := by
            unfold heightsB
            rw [decide_eq_true h2, List.all_map]
            rfl
          refine ⟨D, _, rfl, SqL.of hT, ?_⟩
          rw [← e]
          exact fin H' (s1.trans s2)
        rcases ha1 with ha1 | ha1
        · refine .inl ⟨_, rfl, a, rfl, ⟨_, SqL.of ha1⟩, fun D hD => ?_⟩
          refine lc_it walk_list (fun i H' => Same H1 H' ∧ H' D = some (.lst (((xs.take i).map fun x => betB x lo hi).map V.bl))) ⟨same_new hD, upd_same⟩ (fun i H' _ h => SqL.of (h.1 _ _ ha1)) ?_ ?_
          · rintro i x H2 H' hi' ⟨s2, hT⟩ ⟨rfl, hx⟩
            walk_at "rd"
            exact step D hD i x _ hx s2 hT
          · rintro H' ⟨s2, hT⟩
            exact done D H' s2 hT
        · refine .inr ⟨_, rfl, a, rfl, ⟨_, SqT.of ha1⟩, fun D hD => ?_⟩
          refine lc_it walk_tup (fun i H' => Same H1 H' ∧ H' D = some (.lst (((xs.take i).map fun x => betB x lo hi).map V.bl))) ⟨same_new hD, upd_same⟩ (fun i H' _ h => SqT.of (h.1 _ _ ha1)) ?_ ?_
          · rintro i x H2 H' hi' ⟨s2, hT⟩ ⟨rfl, hx⟩
            walk_at "rd"
            exact step D hD i x _ hx s2 hT
          · rintro H' ⟨s2, hT⟩
            exact done D H' s2 hT
      · rw [if_neg (by simpa using h2)]
        have := fin H1 s1
        unfold heightsB at this
        rw [decide_eq_false h2, Bool.false_and] at this
        exact this
end
end Lp
namespace Lp
open PySem L2
local macro_rules | `(tactic| walk_at "rd") => `(tactic| simp only [tSeq, tAsg, tYes, tTest, tOp, tCB, tCons, tNil, tVar, tC, rI0, rI, gName, wipe, tDisp, tTru, TruV, tB, tNext, tDGet2, tLock, tDIn, tDNotIn, tOr, tNot, tChain, tAnd, tCont, tUn, rU, tPairs, tRet, tIf, tIfS, tPar, tLst, tTup, tDrop, tDGet, tCall, sDPut, L2.start,
  List.map_cons, List.map_nil, List.foldl_cons, List.foldl_nil, List.length_cons, List.length_nil, List.replicate_succ, List.replicate_zero, List.append_nil, List.cons_append, List.nil_append, List.set_cons_zero, List.set_cons_succ, List.getElem?_cons_zero, List.getElem?_cons_succ,
  Option.some.injEq, List.cons.injEq, V.int.injEq, V.bl.injEq, V.ref.injEq, V.str.injEq, exists_eq_left', exists_eq_left, exists_eq_right, and_true, true_and, exists_and_left, Nat.add_zero, Nat.reduceAdd, Nat.reduceSub, Nat.sub_zero, if_true, if_false])
abbrev sIsRow : Stmt := top 12
def rowB (r : Row) (n : Int) : Bool := r.all fun q => decide (0 ≤ q.1) && decide (q.1 ≤ n - 1)
def spIsRow : Sp := fun vs H Q _ => ∃ (a : Addr) (r : Row) (n : Int), vs = [.ref a, .int n] ∧ RowAt H a r ∧ Nd r ∧ r.length ≤ 1000 ∧ ∀ H', Same H H' → Q (.bl (rowB r n)) H'
section
variable {P : Program} {w : World} {K : PySem.W.Frag} {mg : Str → Option Value} {base : Heap}
theorem scIsRow : FnScope ["thing", "places", "place"] ["thing", "places"] (defScope sIsRow) := ⟨rfl, rfl, rfl, by decide +kernel, rfl, by decide +kernel, by decide +kernel⟩
theorem ok_is_row {f fB fN : Addr} {fd dB dN : FuncData} (F : Fun K "is_row" "is_row" sIsRow f fd) (B1 : FnOk P w K mg base CX0 2 fB dB ["thing", "least", "most"] (spIsBet K)) (mB : mg "is_between" = some (.ref fB)) (kB : PySem.W.keepIn K (.ref fB) = true) (bB : Binds K dB ["thing", "least", "most"] [])
    (N1 : FnOk P w K mg base CX0 1 fN dN ["thing"] (spIsNum K)) (mN : mg "is_number" = some (.ref fN)) (kN : PySem.W.keepIn K (.ref fN) = true) (bN : Binds K dN ["thing"] [])
    (mI : mg "isinstance" = none) (mD : mg "dict" = none) (mAll : mg "all" = none) : FnOk P w K mg base CX0 3 f fd ["thing", "places"] spIsRow := by
  refine F.ok scIsRow (fun vs H Q E h => ?_) (fun cdv A outer s H vs Q E hr h => ?_)
  · obtain ⟨a, r, n, rfl, _⟩ := h
    rfl
  · obtain ⟨a, r, n, rfl, hR, nd, z, k⟩ := h
    have hu := hu_of hr
    refine ⟨_, pss_cons (ps_if (pt_not (pt_val (pe_callB call_isi (by rfl) mI (by decide +kernel) (pa_cons (pv 0) (pa_cons (pe_bltn (v := .ty "dict") (by rfl) mD (by decide +kernel) rfl) pa_nil))))) (pss_one (ps_ret pe_bl)) pss_nil)
      (pss_one (ps_ret (pe_callB (cr_all rfl) (by rfl) mAll (by decide +kernel) (pa_cons (pe_lock (pe_lc (own := [("place", 2)]) (g := gName 2) (tt := tYes) rfl scIsRow.nd (pi_keys (pv 0)) (blkOk_by (N := ["thing", "places", "place"]) (sc := defScope sIsRow) (by decide +kernel))
        (fun _ _ _ _ _ => pg_name (i := 2) scIsRow.nd rfl (Or.inl rfl)) (fun _ _ _ _ _ => pts_nil)
        (fun _ _ _ _ _ => pe_and (pe_call B1 hr (by rfl) mB kB bB .nil pass0 (pa_cons (pv 2) (pa_cons pe_int (pa_cons (pe_op op_sub (pv 1) pe_int) pa_nil)))) (pe_one (pe_call N1 (hr.mono (by decide)) (by rfl) mN kN bN .nil pass0 (pa_cons (pe_dget hu (pv 0) (pv 2) (fun _ _ => rfl)) pa_nil)))))) pa_nil)))), ?_⟩
    refine ⟨_, rfl, _, .ty "dict", .type "dict", .type "dict", true, rfl, .ty _, .base (.dK hR), kit_ty (by decide +kernel), _, rfl, iteF ?_⟩
    refine ⟨a, _, hR, trivial, fun od => ⟨_, rfl, a, od, rfl, .inl ⟨_, upd_same, fun D hD => ?_⟩⟩⟩
    have hDH : H D = none := none_upd hD
    have hDa : D ≠ a := fun e => by rw [e] at hDH; rw [show H a = some _ from hR] at hDH; cases hDH
    refine lc_it walk_keys (fun i H' => Same (upd H a (.frz od (.dK (iK r)))) H' ∧ H' D = some (.lst (((r.take i).map fun q => decide (0 ≤ q.1) && decide (q.1 ≤ n - 1)).map V.bl))) ⟨same_new hD, upd_same⟩ (fun i H' _ h => h.1 _ _ upd_same) ?_ ?_
    · rintro i x H1 H' hi ⟨s1, hT⟩ ⟨rfl, kk, vv, hx, rfl⟩
      obtain ⟨q, hq, rfl, rfl⟩ := iK_at hx
      have li : i < r.length := (List.getElem?_eq_some_iff.mp hq).1
      have hF : RowF H' a od r := s1 _ _ upd_same
      have mq : q ∈ r := List.mem_of_getElem? hq
      have gq := get_rowF hF ⟨q, mq, rfl⟩
      rw [co_mem nd mq] at gq
      have put : ∀ b : Bool, b = (decide (0 ≤ q.1) && decide (q.1 ≤ n - 1)) → ∃ acc, H' D = some (.lst acc) ∧ acc.length < sizeLine ∧ Same (upd H a (.frz od (.dK (iK r)))) (upd H' D (.lst (acc ++ [.bl b]))) ∧
          upd H' D (.lst (acc ++ [.bl b])) D = some (.lst (((r.take (i + 1)).map fun q => decide (0 ≤ q.1) && decide (q.1 ≤ n - 1)).map V.bl)) := by
        rintro b rfl
        refine ⟨_, hT, ?_, same_upd s1 hD, ?_⟩
        · rw [List.length_map, List.length_map, List.length_take]
          exact small1000 (by omega)
        · rw [upd_same, take_snoc hq, List.map_append, List.map_append]
          rfl
      show gName 2 (.int q.1) _ _ _
      walk_at "rd"
      refine ⟨_, rfl, _, rfl, _, _, rfl, rfl, ?_⟩
      refine ⟨.int q.1, "int", 0, n - 1, rfl, KindV.int _, _, rfl, ite2 (fun h1 => ?_) fun h1 => ?_⟩
      · refine ⟨_, rfl, _, rfl, a, _, rfl, gq, ?_⟩
        refine ⟨.int q.2, "int", rfl, KindV.int _, ?_⟩
        have e : ("int" == "int") = (decide (0 ≤ q.1) && decide (q.1 ≤ n - 1)) := by
          rw [show (decide (0 ≤ q.1) && decide (q.1 ≤ n - 1)) = true from h1]
          decide
        exact put _ e
      · have e : false = (decide (0 ≤ q.1) && decide (q.1 ≤ n - 1)) := by
          cases hh : (decide (0 ≤ q.1) && decide (q.1 ≤ n - 1)) with
          | false => rfl
          | true => exact absurd hh h1
        exact put _ e
    · rintro H' ⟨s1, hT⟩
      have zl : (iK r).length = r.length := by unfold iK; rw [List.length_map]
      rw [zl, List.take_length] at hT
      refine ⟨s1 _ _ upd_same, D, _, rfl, SqL.of (xs := ((r.map fun q => decide (0 ≤ q.1) && decide (q.1 ≤ n - 1)).map V.bl)) (by rw [upd_ne hDa]; exact hT), ?_⟩
      have e : (r.map fun q => decide (0 ≤ q.1) && decide (q.1 ≤ n - 1)).all id = rowB r n := by
        unfold rowB
        rw [List.all_map]
        rfl
      rw [e]
      refine k _ fun b o h => ?_
      by_cases eb : b = a
      · subst eb
        rw [upd_same, ← h]
        exact hR.symm
      · rw [upd_ne eb]
        exact s1 _ _ (by rw [upd_ne eb]; exact h)
end
end Lp
namespace Lp
open PySem L2
local macro_rules | `(tactic| walk_at "rd") => `(tactic| simp only [tSeq, tAsg, tYes, tTest, tOp, tCB, tCons, tNil, tVar, tC, rI0, rI, gName, wipe, tDisp, tTru, TruV, tB, tNext, tDGet2, tLock, tDIn, tDNotIn, tOr, tNot, tChain, tAnd, tCont, tUn, rU, tPairs, tRet, tIf, tIfS, tPar, tLst, tTup, tDrop, tDGet, tCall, sDPut, L2.start,
  List.map_cons, List.map_nil, List.foldl_cons, List.foldl_nil, List.length_cons, List.length_nil, List.replicate_succ, List.replicate_zero, List.append_nil, List.cons_append, List.nil_append, List.set_cons_zero, List.set_cons_succ, List.getElem?_cons_zero, List.getElem?_cons_succ,
  Option.some.injEq, List.cons.injEq, V.int.injEq, V.bl.injEq, V.ref.injEq, V.str.injEq, exists_eq_left', exists_eq_left, exists_eq_right, and_true, true_and, exists_and_left, Nat.add_zero, Nat.reduceAdd, Nat.reduceSub, Nat.sub_zero, if_true, if_false])
def primes : List Int := [2, 3, 5, 7, 11, 13, 17, 19, 23, 29, 31]
def primeB (x : V) : Bool := match x with
  | .int i => inV (.int i) (primes.map V.int)
  | _ => false
/-- an own error without own __init__ -/
structure ErrP (K : PySem.W.Frag) (mg : Str → Option Value) (x : Str) (C : Addr) : Prop where
  g : mg x = some (.ref C)
  x : PySem.W.excIn K C [.type "ValueError", .type "Exception", .type "BaseException", .type "object"] "ValueError.__new__" = true
  k : PySem.W.keepIn K (.ref C) = true
  b : PySem.W.subIn K (.ref C) (.type "BaseException") = some true
  t : PySem.W.typeIn K (.ref C) = some (.type "type")
abbrev sIsPrime : Stmt := top 15
def spIsPrime (K : PySem.W.Frag) : Sp := fun vs H Q _ => ∃ x s, vs = [x] ∧ KindV K H x s ∧ Q (.bl (primeB x)) H
abbrev sNeedP : Stmt := top 16
def spNeedP (K : PySem.W.Frag) (C : Addr) : Sp := fun vs H Q E => ∃ x s, vs = [x] ∧ KindV K H x s ∧ (primeB x = true → Q .non H) ∧ (primeB x = false → E (.ref C) none H)
section
variable {P : Program} {w : World} {K : PySem.W.Frag} {mg : Str → Option Value} {base : Heap}
theorem scIsPrime : FnScope ["thing"] ["thing"] (defScope sIsPrime) := ⟨rfl, rfl, rfl, by decide +kernel, rfl, by decide +kernel, by decide +kernel⟩
theorem ok_is_prime {f fN aP : Addr} {fd dN : FuncData} (F : Fun K "is_prime" "is_prime" sIsPrime f fd) (N1 : FnOk P w K mg base CX0 1 fN dN ["thing"] (spIsNum K)) (mN : mg "is_number" = some (.ref fN)) (kN : PySem.W.keepIn K (.ref fN) = true) (bN : Binds K dN ["thing"] [])
    (mP : mg "PRIMES" = some (.ref aP)) (hP : ∀ H, SqT K H aP (primes.map V.int)) : FnOk P w K mg base CX0 2 f fd ["thing"] (spIsPrime K) := by
  refine F.ok scIsPrime (fun vs H Q E h => ?_) (fun cdv A outer s H vs Q E hr h => ?_)
  · obtain ⟨x, t, rfl, _⟩ := h
    rfl
  · obtain ⟨x, t, rfl, kv, k⟩ := h
    refine ⟨_, pss_one (ps_ret (pe_and (pe_call N1 hr (by rfl) mN kN bN .nil pass0 (pa_cons (pv 0) pa_nil)) (pe_one (pe_cmpR op_in_seq (pv 0) (pe_glob (v := .ref aP) rfl mP rfl) (by rfl))))), ?_⟩
    refine ⟨_, rfl, x, t, rfl, kv, _, rfl, ?_⟩
    cases et : t == "int" with
    | false =>
      have e : primeB x = false := by
        cases x with
        | int i =>
          have kt := kv.1
          cases kt with
          | base b =>
            cases b
            exact absurd et (by decide)
        | _ => rfl
      rw [e] at k
      exact iteF k
    | true =>
      have e : t = "int" := by simpa using et
      subst e
      obtain ⟨i, rfl⟩ := kind_int kv
      exact iteT ⟨_, rfl, aP, _, rfl, .inr (hP H), rfl, by decide, k⟩
theorem scNeedP : FnScope ["prime"] ["prime"] (defScope sNeedP) := ⟨rfl, rfl, rfl, by decide +kernel, rfl, by decide +kernel, by decide +kernel⟩
theorem ok_need_prime {f fN C : Addr} {fd dN : FuncData} (F : Fun K "need_prime" "need_prime" sNeedP f fd) (N1 : FnOk P w K mg base CX0 2 fN dN ["thing"] (spIsPrime K)) (mN : mg "is_prime" = some (.ref fN)) (kN : PySem.W.keepIn K (.ref fN) = true) (bN : Binds K dN ["thing"] [])
    (T : ErrP K mg "BadPrime" C) : FnOk P w K mg base (L2.CX P w) 3 f fd ["prime"] (spNeedP K C) := by
  refine F.okX scNeedP (fun vs H Q E h => ?_) (fun cdv A outer s H vs Q E hr h => ?_)
  · obtain ⟨x, t, rfl, _⟩ := h
    rfl
  · obtain ⟨x, t, rfl, kv, yes, no⟩ := h
    refine ⟨_, pss_one (ps_if (pt_not (pt_val (pe_call N1 hr (by rfl) mN kN bN .nil pass0 (pa_cons (pv 0) pa_nil))))
      (pss_one (ps_raise rfl (takes_of rfl rfl rfl rfl) (pmk_own PySem.F.excBase_ValueError T.x T.g T.k (raises_own T.b T.t) rfl))) pss_nil), ?_⟩
    refine ⟨_, rfl, x, t, rfl, kv, _, rfl, ?_⟩
    cases eb : primeB x with
    | true => exact iteF (yes eb)
    | false => exact iteT (no eb)
end
end Lp
namespace Lp
open PySem L2
local macro_rules | `(tactic| walk_at "rd") => `(tactic| simp only [tSeq, tAsg, tYes, tTest, tOp, tCB, tCons, tNil, tVar, tC, rI0, rI, gName, wipe, tDisp, tTru, TruV, tB, tNext, tDGet2, tLock, tDIn, tDNotIn, tOr, tNot, tChain, tAnd, tCont, tUn, rU, tPairs, tRet, tIf, tIfS, tPar, tLst, tTup, tDrop, tDGet, tCall, sDPut, L2.start,
  List.map_cons, List.map_nil, List.foldl_cons, List.foldl_nil, List.length_cons, List.length_nil, List.replicate_succ, List.replicate_zero, List.append_nil, List.cons_append, List.nil_append, List.set_cons_zero, List.set_cons_succ, List.getElem?_cons_zero, List.getElem?_cons_succ,
  Option.some.injEq, List.cons.injEq, V.int.injEq, V.bl.injEq, V.ref.injEq, V.str.injEq, exists_eq_left', exists_eq_left, exists_eq_right, and_true, true_and, exists_and_left, Nat.add_zero, Nat.reduceAdd, Nat.reduceSub, Nat.sub_zero, if_true, if_false])
/-- what an expression makes, walked from here on -/
def tFrz (td : TE) : TE := fun σ H Q => td σ H fun x H1 => ∃ d u, x = .ref d ∧ H1 d = some u ∧ Mut (some u) ∧ ∀ od, Q x (upd H1 d (.frz od u))
theorem pe_frz {X : Cx} {e : Expr} {td : TE} (h : PE X e td) : PE X e (tFrz td) := by
  refine ⟨fun pins s σ H Q I hw => ?_⟩
  refine thn (h.run pins s σ H _ I hw) fun v s1 ⟨x, H1, I1, r, d, u, ex, hd, mu, q⟩ => ?_
  obtain ⟨od, I2⟩ := I1.lock hd mu
  exact ⟨x, _, I2, r, q od⟩
/-- heights: a list or a tuple of ints -/
def HsAt (H : Hp) (a : Addr) (hl : List Int) : Prop := H a = some (.lst (hl.map V.int)) ∨ H a = some (.tup (hl.map V.int))
theorem HsAt.same {H H' : Hp} {a : Addr} {hl : List Int} (s : Same H H') (h : HsAt H a hl) : HsAt H' a hl := h.imp (s _ _) (s _ _)
def hAt (hl : List Int) (k : Int) : Int := hl.getD k.toNat 0
def rowAtB (r : Row) (hl : List Int) (hh p : Int) : Bool := rowB r hl.length && (nfR p r).all fun q => decide (hAt hl q.1 = hh)
abbrev sRowAt : Stmt := top 26
def spRowAt : Sp := fun vs H Q _ => ∃ (a h : Addr) (r : Row) (hl : List Int) (hh p : Int), vs = [.ref a, .ref h, .int hh, .int p] ∧ RowAt H a r ∧ Nd r ∧ r.length < 64 ∧ HsAt H h hl ∧ hl.length ≤ 1000 ∧ 0 < p ∧ ∀ H', Same H H' → Q (.bl (rowAtB r hl hh p)) H'
section
variable {P : Program} {w : World} {K : PySem.W.Frag} {mg : Str → Option Value} {base : Heap}
theorem scRowAt : FnScope ["thing", "heights", "height", "prime", "place"] ["thing", "heights", "height", "prime"] (defScope sRowAt) := ⟨rfl, rfl, rfl, by decide +kernel, rfl, by decide +kernel, by decide +kernel⟩
theorem ok_row_at {f fR fT : Addr} {fd dR dT : FuncData} (F : Fun K "_is_row_at" "_is_row_at" sRowAt f fd) (R1 : FnOk P w K mg base CX0 3 fR dR ["thing", "places"] spIsRow) (mR : mg "is_row" = some (.ref fR)) (kR : PySem.W.keepIn K (.ref fR) = true) (bR : Binds K dR ["thing", "places"] [])
    (T1 : FnOk P w K mg base CX0 1 fT dT ["row", "prime"] spTidied) (mT : mg "tidied" = some (.ref fT)) (kT : PySem.W.keepIn K (.ref fT) = true) (bT : Binds K dT ["row", "prime"] [])
    (mLen : mg "len" = none) (mAll : mg "all" = none) : FnOk P w K mg base CX0 4 f fd ["thing", "heights", "height", "prime"] spRowAt := by
  refine F.ok scRowAt (fun vs H Q E h => ?_) (fun cdv A outer s H vs Q E hr h => ?_)
  · obtain ⟨a, h', r, hl, hh, p, rfl, _⟩ := h
    rfl
  · obtain ⟨a, h', r, hl, hh, p, rfl, hR, nd, z64, hH, zh, hp, k⟩ := h
    have hu := hu_of hr
    refine ⟨_, pss_cons (ps_if (pt_not (pt_val (pe_call R1 hr (by rfl) mR kR bR .nil pass0 (pa_cons (pv 0) (pa_cons (pe_callB call_len_seq (by rfl) mLen PySem.boot_len (pa_cons (pv 1) pa_nil)) pa_nil))))) (pss_one (ps_ret pe_bl)) pss_nil)
      (pss_one (ps_ret (pe_callB (cr_all rfl) (by rfl) mAll (by decide +kernel) (pa_cons (pe_lc (own := [("place", 4)]) (g := gName 4) (tt := tYes) rfl scRowAt.nd (pi_keys (pe_frz (pe_call T1 (hr.mono (by decide)) (by rfl) mT kT bT .nil pass0 (pa_cons (pv 0) (pa_cons (pv 3) pa_nil))))) (blkOk_by (N := ["thing", "heights", "height", "prime", "place"]) (sc := defScope sRowAt) (by decide +kernel))
        (fun _ _ _ _ _ => pg_name (i := 4) scRowAt.nd rfl (Or.inl rfl)) (fun _ _ _ _ _ => pts_nil)
        (fun _ _ _ _ _ => pe_cmp (pc_eqI (pe_ix (r := rIx K) ix_seq (pv 1) (pv 4) (fun _ _ => rfl)) (pv 2)) rfl)) pa_nil)))), ?_⟩
    refine ⟨_, rfl, _, rfl, h', _, rfl, hH.imp SqL.of SqT.of, ?_⟩
    rw [List.length_map]
    refine ⟨a, r, _, rfl, hR, nd, by omega, fun H1 s1 => ⟨_, rfl, ?_⟩⟩
    cases eb : rowB r hl.length with
    | false =>
      refine iteT ?_
      have := k H1 s1
      unfold rowAtB at this
      rw [eb, Bool.false_and] at this
      exact this
    | true =>
      refine iteF ?_
      refine ⟨_, rfl, _, rfl, a, r, p, rfl, s1 _ _ hR, nd, z64, hp, fun H2 d r' s2 nd' hd c1 c2 => ?_⟩
      have er : r' = nfR p r := nfR_eq hp nd c1 c2
      subst er
      refine ⟨d, _, rfl, hd, trivial, fun od => ⟨d, od, rfl, .inl ⟨_, upd_same, fun D hD => ?_⟩⟩⟩
      have hD2 : H2 D = none := none_upd hD
      have nDd : D ≠ d := fun e => by rw [e] at hD2; rw [show H2 d = some _ from hd] at hD2; cases hD2
      have sF : Same H (upd H2 d (.frz od (.dK (iK (nfR p r))))) := same_upd (s1.trans s2) (none_of_same s1 nd')
      refine lc_it walk_keys (fun i H' => Same (upd H2 d (.frz od (.dK (iK (nfR p r))))) H' ∧ H' D = some (.lst ((((nfR p r).take i).map fun q => decide (hAt hl q.1 = hh)).map V.bl))) ⟨same_new hD, upd_same⟩ (fun i H' _ h => h.1 _ _ upd_same) ?_ ?_
      · rintro i x H3 H' hi ⟨s3, hT⟩ ⟨rfl, kk, vv, hx, rfl⟩
        obtain ⟨q, hq, rfl, rfl⟩ := iK_at hx
        have li : i < (nfR p r).length := (List.getElem?_eq_some_iff.mp hq).1
        have mq : q ∈ nfR p r := List.mem_of_getElem? hq
        have zn : (nfR p r).length ≤ 64 := by
          unfold nfR tidyL
          rw [List.length_map]
          refine Nat.le_trans (List.length_filter_le _ _) ?_
          rw [List.length_mergeSort, List.length_map]
          omega
        have hq1 : has r q.1 := by
          have h1 : co (nfR p r) q.1 ≠ 0 := (c1.has_iff _).mp ⟨q, mq, rfl⟩
          by_cases h : has r q.1
          · exact h
          · rw [c2, co_none h, Int.zero_fmod] at h1
            exact absurd rfl h1
        have bnd : 0 ≤ q.1 ∧ q.1 < hl.length := by
          obtain ⟨q', m', e'⟩ := hq1
          have := List.all_eq_true.mp eb q' m'
          rw [Bool.and_eq_true] at this
          have h1 := of_decide_eq_true this.1
          have h2 := of_decide_eq_true this.2
          omega
        have hH' : HsAt H' h' hl := (hH.same sF).same s3
        have at_ : atI (hl.map V.int) q.1 = some (.int (hAt hl q.1)) := by
          have lt : q.1.toNat < hl.length := by omega
          have e := atI_nat (xs := hl.map V.int) (j := q.1.toNat) (v := .int (hAt hl q.1)) (by
            rw [List.getElem?_map, List.getElem?_eq_getElem lt]
            unfold hAt
            rw [List.getD_eq_getElem?_getD, List.getElem?_eq_getElem lt]
            rfl)
          rwa [Int.toNat_of_nonneg bnd.1] at e
        show gName 4 (.int q.1) _ _ _
        walk_at "rd"
        have put : ∃ acc, H' D = some (.lst acc) ∧ acc.length < sizeLine ∧ Same (upd H2 d (.frz od (.dK (iK (nfR p r))))) (upd H' D (.lst (acc ++ [.bl (decide (hAt hl q.1 = hh))]))) ∧
            upd H' D (.lst (acc ++ [.bl (decide (hAt hl q.1 = hh))])) D = some (.lst ((((nfR p r).take (i + 1)).map fun q => decide (hAt hl q.1 = hh)).map V.bl)) := by
          refine ⟨_, hT, ?_, same_upd s3 hD, ?_⟩
          · rw [List.length_map, List.length_map, List.length_take]
            exact small1000 (by omega)
          · rw [upd_same, take_snoc hq, List.map_append, List.map_append]
            rfl
        rcases hH' with e | e
        · exact ⟨_, rfl, _, rfl, .inl ⟨h', _, q.1, _, rfl, rfl, SqL.of e, at_, _, rfl, _, _, rfl, rfl, put⟩⟩
        · exact ⟨_, rfl, _, rfl, .inr (.inl ⟨h', _, q.1, _, rfl, rfl, SqT.of e, at_, _, rfl, _, _, rfl, rfl, put⟩)⟩
      · rintro H' ⟨s3, hT⟩
        have zl : (iK (nfR p r)).length = (nfR p r).length := by unfold iK; rw [List.length_map]
        rw [zl, List.take_length] at hT
        have e : ((nfR p r).map fun q => decide (hAt hl q.1 = hh)).all id = rowAtB r hl hh p := by
          unfold rowAtB
          rw [eb, Bool.true_and, List.all_map]
          rfl
        refine ⟨D, _, rfl, SqL.of hT, ?_⟩
        rw [e]
        exact k H' (sF.trans s3)
end
end Lp
namespace Lp
open PySem L2
local macro_rules | `(tactic| walk_at "rd") => `(tactic| simp only [tSeq, tAsg, tYes, tTest, tOp, tCB, tCons, tNil, tVar, tC, rI0, rI, gName, wipe, tDisp, tTru, TruV, tB, tNext, tDGet2, tLock, tDIn, tDNotIn, tOr, tNot, tChain, tAnd, tCont, tUn, rU, tPairs, tRet, tIf, tIfS, tPar, tLst, tTup, tDrop, tDGet, tCall, sDPut, L2.start,
  List.map_cons, List.map_nil, List.foldl_cons, List.foldl_nil, List.length_cons, List.length_nil, List.replicate_succ, List.replicate_zero, List.append_nil, List.cons_append, List.nil_append, List.set_cons_zero, List.set_cons_succ, List.getElem?_cons_zero, List.getElem?_cons_succ,
  Option.some.injEq, List.cons.injEq, V.int.injEq, V.bl.injEq, V.ref.injEq, V.str.injEq, exists_eq_left', exists_eq_left, exists_eq_right, and_true, true_and, exists_and_left, Nat.add_zero, Nat.reduceAdd, Nat.reduceSub, Nat.sub_zero, if_true, if_false])
theorem hAt_at {hl : List Int} {k : Int} (h : 0 ≤ k ∧ k < hl.length) : atI (hl.map V.int) k = some (.int (hAt hl k)) := by
  have lt : k.toNat < hl.length := by omega
  have e := atI_nat (xs := hl.map V.int) (j := k.toNat) (v := .int (hAt hl k)) (by
    rw [List.getElem?_map, List.getElem?_eq_getElem lt]
    unfold hAt
    rw [List.getD_eq_getElem?_getD, List.getElem?_eq_getElem lt]
    rfl)
  rwa [Int.toNat_of_nonneg h.1] at e
theorem HsAt.ix {K : PySem.W.Frag} {H : Hp} {a : Addr} {hl : List Int} {k : Int} {Q : VK} (h : HsAt H a hl) (b : 0 ≤ k ∧ k < hl.length) (q : Q (.int (hAt hl k)) H) : rIx K (.ref a) (.int k) H Q :=
  h.elim (fun e => .inl ⟨a, _, k, _, rfl, rfl, SqL.of e, hAt_at b, q⟩) fun e => .inr (.inl ⟨a, _, k, _, rfl, rfl, SqT.of e, hAt_at b, q⟩)
theorem all_take {α : Type} {l : List α} {f : α → Bool} {i : Nat} {x : α} (h : l[i]? = some x) (e : f x = false) : l.all f = false := by
  rw [List.all_eq_false]
  exact ⟨x, List.mem_of_getElem? h, by rw [e]; decide⟩
def inB (k n : Int) : Bool := decide (0 ≤ k) && decide (k ≤ n - 1)
def pairB (S : Int × Int → Row) (hl : List Int) (p : Int) (k : Int × Int) : Bool := (inB k.1 hl.length && inB k.2 hl.length) && rowAtB (S k) hl (hAt hl k.1 + hAt hl k.2) p
abbrev sIsProd : Stmt := top 27
def spIsProd : Sp := fun vs H Q _ => ∃ (P' h : Addr) (pt : PTab) (S : Int × Int → Row) (n : Nat) (hl : List Int) (p : Int), vs = [.ref P', .ref h, .int p] ∧ TabIn H P' pt S n ∧ n ≤ 60 ∧ HsAt H h hl ∧ hl.length ≤ 1000 ∧ 0 < p ∧
  ∀ H', Same H H' → Q (.bl (pt.all fun e => pairB S hl p e.1)) H'
section
variable {P : Program} {w : World} {K : PySem.W.Frag} {mg : Str → Option Value} {base : Heap}
theorem scIsProd : FnScope ["thing", "heights", "prime", "pair"] ["thing", "heights", "prime"] (defScope sIsProd) := ⟨rfl, rfl, rfl, by decide +kernel, rfl, by decide +kernel, by decide +kernel⟩
theorem ok_is_product {f fW fR : Addr} {fd dW dR : FuncData} (F : Fun K "_is_product" "_is_product" sIsProd f fd) (W1 : FnOk P w K mg base CX0 3 fW dW ["thing", "places", "least", "most"] (spIsWord K)) (mW : mg "is_word" = some (.ref fW)) (kW : PySem.W.keepIn K (.ref fW) = true) (bW : Binds K dW ["thing", "places", "least", "most"] [])
    (R1 : FnOk P w K mg base CX0 4 fR dR ["thing", "heights", "height", "prime"] spRowAt) (mR : mg "_is_row_at" = some (.ref fR)) (kR : PySem.W.keepIn K (.ref fR) = true) (bR : Binds K dR ["thing", "heights", "height", "prime"] [])
    (mI : mg "isinstance" = none) (mD : mg "dict" = none) (mLen : mg "len" = none) : FnOk P w K mg base CX0 5 f fd ["thing", "heights", "prime"] spIsProd := by
  refine F.ok scIsProd (fun vs H Q E h => ?_) (fun cdv A outer s H vs Q E hr h => ?_)
  · obtain ⟨a, h', pt, S, n, hl, p, rfl, _⟩ := h
    rfl
  · obtain ⟨a, h', pt, S, n, hl, p, rfl, I, hn, hH, zh, hp, k⟩ := h
    have hu := hu_of hr
    refine ⟨_, pss_cons (ps_if (pt_not (pt_val (pe_callB call_isi (by rfl) mI (by decide +kernel) (pa_cons (pv 0) (pa_cons (pe_bltn (v := .ty "dict") (by rfl) mD (by decide +kernel) rfl) pa_nil))))) (pss_one (ps_ret pe_bl)) pss_nil)
      (pss_cons (ps_lock (ps_for PassesOwn.never rfl (pi_keys (pv 0)) (pg_name (i := 3) scIsProd.nd rfl (Or.inl rfl))
        (pss_cons (ps_if (pt_not (pt_val (pe_call W1 (hr.mono (by decide)) (by rfl) mW kW bW .nil pass0 (pa_cons (pv 3) (pa_cons (pe_callB call_len_seq (by rfl) mLen PySem.boot_len (pa_cons (pv 1) pa_nil)) (pa_cons pe_int (pa_cons pe_int pa_nil))))))) (pss_one (ps_ret pe_bl)) pss_nil)
        (pss_one (ps_if (pt_not (pt_val (pe_call R1 hr (by rfl) mR kR bR .nil pass0 (pa_cons (pe_dget hu (pv 0) (pv 3) (fun _ _ => rfl)) (pa_cons (pv 1)
          (pa_cons (pe_op op_add (pe_ix (r := rIx K) ix_seq (pv 1) (pe_ix (r := rIxT K) ix_tup (pv 3) pe_int (fun _ _ => rfl)) (fun _ _ => rfl)) (pe_ix (r := rIx K) ix_seq (pv 1) (pe_ix (r := rIxT K) ix_tup (pv 3) pe_int (fun _ _ => rfl)) (fun _ _ => rfl))) (pa_cons (pv 2) pa_nil))))))) (pss_one (ps_ret pe_bl)) pss_nil)))))
      (pss_one (ps_ret pe_bl))), ?_⟩
    refine ⟨_, rfl, _, .ty "dict", .type "dict", .type "dict", true, rfl, .ty _, .base (.dT I.tab), kit_ty (by decide +kernel), _, rfl, iteF ?_⟩
    refine ⟨a, _, I.tab, trivial, fun od => ⟨_, rfl, a, od, rfl, .inr ⟨_, upd_same, ?_⟩⟩⟩
    generalize eG : upd H a (.frz od (.dT (pT pt))) = G
    have gA : G a = some (.frz od (.dT (pT pt))) := by rw [← eG]; exact upd_same
    have gO : ∀ b o, b ≠ a → H b = some o → G b = some o := fun b o nb e => by
      rw [← eG, upd_ne nb]
      exact e
    have back : ∀ H', Same G H' → Same H (upd H' a (.dT (pT pt))) := fun H' s b o e => by
      by_cases eb : b = a
      · subst eb
        rw [upd_same, ← e]
        exact I.tab.symm
      · rw [upd_ne eb]
        exact s _ _ (gO _ _ eb e)
    have hHG : HsAt G h' hl := hH.elim (fun (e : H h' = some (.lst (hl.map V.int))) => .inl (gO _ _ (ne_of e (show H a = some (.dT (pT pt)) from I.tab) (fun z => nomatch z)) e)) fun (e : H h' = some (.tup (hl.map V.int))) => .inr (gO _ _ (ne_of e (show H a = some (.dT (pT pt)) from I.tab) (fun z => nomatch z)) e)
    refine for_it walk_keysT (fun i σ H' => ∃ v3, σ = [some (.ref a), some (.ref h'), some (.int p), v3] ∧ Same G H' ∧ (pt.take i).all (fun e => pairB S hl p e.1) = true) ⟨none, rfl, Same.refl _, rfl⟩ (fun i σ H' _ ⟨_, _, s1, _⟩ => s1 _ _ gA) ?_ ?_
    · rintro i x σ H' H1 hi ⟨v3, rfl, s1, ok⟩ ⟨rfl, kk, vv, t, hx, rfl, ht⟩
      unfold pT at hx
      rw [List.getElem?_map] at hx
      cases ee : pt[i]? with
      | none => rw [ee] at hx; cases hx
      | some e =>
        rw [ee] at hx
        cases hx
        have me : e ∈ pt := List.mem_of_getElem? ee
        obtain ⟨r1, r2, r3⟩ := I.row e me
        have z2 := row_len r2 r3
        have ht2 : H1 t = some (.tup [.int e.1.1, .int e.1.2]) := ht
        have out : pairB S hl p e.1 = false → ∀ H', Same G H' → H' a = some (.frz od (.dT (pT pt))) ∧ Q (.bl false) (upd H' a (.dT (pT pt))) := fun h H' s => by
          have := k _ (back H' s)
          rw [all_take ee h] at this
          exact ⟨s _ _ gA, this⟩
        show gName 3 (.ref t) _ _ _
        refine ⟨_, rfl, _, rfl, h', _, rfl, (hHG.same s1).imp SqL.of SqT.of, ?_⟩
        rw [List.length_map]
        refine ⟨.ref t, "tuple", _, 2, 2, rfl, ⟨.base (.tup ht2), by decide⟩, fun z => absurd rfl z, fun _ => ⟨t, _, rfl, ht2, by show 2 ≤ 1000; decide, fun y m => ?_, fun H2 s2 => ⟨_, rfl, ?_⟩⟩⟩
        · rcases List.mem_cons.mp m with z | m
          · rw [z]; exact ⟨"int", KindV.int _⟩
          · rw [List.mem_singleton.mp m]; exact ⟨"int", KindV.int _⟩
        · have ew : wordB [.int e.1.1, .int e.1.2] hl.length 2 2 = (inB e.1.1 hl.length && inB e.1.2 hl.length) := by
            show ((decide ((2 : Int) ≤ ((2 : Nat) : Int)) && decide (((2 : Nat) : Int) ≤ 2)) && (betB (.int e.1.1) 0 (hl.length - 1) && (betB (.int e.1.2) 0 (hl.length - 1) && true))) = _
            rw [Bool.and_true]
            rfl
          rw [ew]
          cases eb : (inB e.1.1 hl.length && inB e.1.2 hl.length) with
          | false =>
            refine iteT (out ?_ H2 (s1.trans s2))
            unfold pairB
            rw [eb, Bool.false_and]
          | true =>
            refine iteF ?_
            rw [Bool.and_eq_true] at eb
            obtain ⟨b1, b2⟩ := eb
            have bn : ∀ k : Int, inB k hl.length = true → 0 ≤ k ∧ k < hl.length := fun k h => by
              unfold inB at h
              rw [Bool.and_eq_true] at h
              have h1 := of_decide_eq_true h.1
              have h2 := of_decide_eq_true h.2
              omega
            have s3 := s1.trans s2
            have gp : DGet H2 a (.ref t) (some (.ref e.2)) := .inr ⟨pT pt, kP e.1, t, .inr ⟨od, s3 _ _ gA⟩, rfl, s2 _ _ ht, by rw [valV_pT, lk_mem I.nd me]; rfl⟩
            have hH2 := hHG.same s3
            have ht3 : SqT K H2 t [.int e.1.1, .int e.1.2] := SqT.of (s2 _ _ ht2)
            have nea : e.2 ≠ a := ne_of (show H e.2 = some _ from r1) I.tab (fun z => nomatch z)
            refine ⟨_, rfl, _, rfl, a, _, rfl, gp, _, rfl, ?_⟩
            refine ⟨_, rfl, _, rfl, t, _, 0, _, rfl, rfl, ht3, rfl, hH2.ix (bn _ b1) ?_⟩
            refine ⟨_, rfl, _, rfl, t, _, 1, _, rfl, rfl, ht3, rfl, hH2.ix (bn _ b2) ?_⟩
            refine ⟨_, _, rfl, rfl, _, rfl, e.2, h', S e.1, hl, _, p, rfl, s3 _ _ (gO _ _ nea r1), r2, by omega, hH2, zh, hp, fun H3 s4 => ⟨_, rfl, ?_⟩⟩
            cases ec : rowAtB (S e.1) hl (hAt hl e.1.1 + hAt hl e.1.2) p with
            | false =>
              refine iteT (out ?_ H3 (s3.trans s4))
              unfold pairB
              rw [ec, Bool.and_false]
            | true =>
              refine iteF ⟨_, rfl, s3.trans s4, ?_⟩
              rw [take_snoc ee, List.all_append, ok, Bool.true_and]
              show (pairB S hl p e.1 && true) = true
              unfold pairB
              rw [b1, b2, ec]
              rfl
    · rintro σ H' ⟨v3, rfl, s1, ok⟩
      have zl : (pT pt).length = pt.length := by unfold pT; rw [List.length_map]
      rw [zl, List.take_length] at ok
      have := k _ (back H' s1)
      rw [ok] at this
      exact ⟨s1 _ _ gA, this⟩
end
end Lp
namespace Lp
open PySem L2
local macro_rules | `(tactic| walk_at "rd") => `(tactic| simp only [tSeq, tAsg, tYes, tTest, tOp, tCB, tCons, tNil, tVar, tC, rI0, rI, gName, wipe, tDisp, tTru, TruV, tB, tNext, tDGet2, tLock, tDIn, tDNotIn, tOr, tNot, tChain, tAnd, tCont, tUn, rU, tPairs, tRet, tIf, tIfS, tPar, tLst, tTup, tDrop, tDGet, tCall, sDPut, L2.start,
  List.map_cons, List.map_nil, List.foldl_cons, List.foldl_nil, List.length_cons, List.length_nil, List.replicate_succ, List.replicate_zero, List.append_nil, List.cons_append, List.nil_append, List.set_cons_zero, List.set_cons_succ, List.getElem?_cons_zero, List.getElem?_cons_succ,
  Option.some.injEq, List.cons.injEq, V.int.injEq, V.bl.injEq, V.ref.injEq, V.str.injEq, exists_eq_left', exists_eq_left, exists_eq_right, and_true, true_and, exists_and_left, Nat.add_zero, Nat.reduceAdd, Nat.reduceSub, Nat.sub_zero, if_true, if_false])
def stepB (S : Int → Row) (hl : List Int) (p : Int) (k : Int) : Bool := inB k hl.length && rowAtB (S k) hl (hAt hl k + 1) p
theorem inB_iff {k n : Int} (h : inB k n = true) : 0 ≤ k ∧ k < n := by
  unfold inB at h
  rw [Bool.and_eq_true] at h
  have h1 := of_decide_eq_true h.1
  have h2 := of_decide_eq_true h.2
  omega
abbrev sIsStep : Stmt := top 28
def spIsStep : Sp := fun vs H Q _ => ∃ (P' h : Addr) (it : ITab) (S : Int → Row) (n : Nat) (hl : List Int) (p : Int), vs = [.ref P', .ref h, .int p] ∧ ITabIn H P' it S n ∧ (∀ e ∈ it, e.2 ≠ P') ∧ n ≤ 60 ∧ HsAt H h hl ∧ hl.length ≤ 1000 ∧ 0 < p ∧
  ∀ H', Same H H' → Q (.bl (it.all fun e => stepB S hl p e.1)) H'
section
variable {P : Program} {w : World} {K : PySem.W.Frag} {mg : Str → Option Value} {base : Heap}
theorem scIsStep : FnScope ["thing", "heights", "prime", "place"] ["thing", "heights", "prime"] (defScope sIsStep) := ⟨rfl, rfl, rfl, by decide +kernel, rfl, by decide +kernel, by decide +kernel⟩
theorem ok_is_step {f fB fR : Addr} {fd dB dR : FuncData} (F : Fun K "_is_step" "_is_step" sIsStep f fd) (B1 : FnOk P w K mg base CX0 2 fB dB ["thing", "least", "most"] (spIsBet K)) (mB : mg "is_between" = some (.ref fB)) (kB : PySem.W.keepIn K (.ref fB) = true) (bB : Binds K dB ["thing", "least", "most"] [])
    (R1 : FnOk P w K mg base CX0 4 fR dR ["thing", "heights", "height", "prime"] spRowAt) (mR : mg "_is_row_at" = some (.ref fR)) (kR : PySem.W.keepIn K (.ref fR) = true) (bR : Binds K dR ["thing", "heights", "height", "prime"] [])
    (mI : mg "isinstance" = none) (mD : mg "dict" = none) (mLen : mg "len" = none) : FnOk P w K mg base CX0 5 f fd ["thing", "heights", "prime"] spIsStep := by
  refine F.ok scIsStep (fun vs H Q E h => ?_) (fun cdv A outer s H vs Q E hr h => ?_)
  · obtain ⟨a, h', it, S, n, hl, p, rfl, _⟩ := h
    rfl
  · obtain ⟨a, h', it, S, n, hl, p, rfl, I, off, hn, hH, zh, hp, k⟩ := h
    have hu := hu_of hr
    refine ⟨_, pss_cons (ps_if (pt_not (pt_val (pe_callB call_isi (by rfl) mI (by decide +kernel) (pa_cons (pv 0) (pa_cons (pe_bltn (v := .ty "dict") (by rfl) mD (by decide +kernel) rfl) pa_nil))))) (pss_one (ps_ret pe_bl)) pss_nil)
      (pss_cons (ps_lock (ps_for PassesOwn.never rfl (pi_keys (pv 0)) (pg_name (i := 3) scIsStep.nd rfl (Or.inl rfl))
        (pss_cons (ps_if (pt_not (pt_val (pe_call B1 (hr.mono (by decide)) (by rfl) mB kB bB .nil pass0 (pa_cons (pv 3) (pa_cons pe_int (pa_cons (pe_op op_sub (pe_callB call_len_seq (by rfl) mLen PySem.boot_len (pa_cons (pv 1) pa_nil)) pe_int) pa_nil)))))) (pss_one (ps_ret pe_bl)) pss_nil)
        (pss_one (ps_if (pt_not (pt_val (pe_call R1 hr (by rfl) mR kR bR .nil pass0 (pa_cons (pe_dget hu (pv 0) (pv 3) (fun _ _ => rfl)) (pa_cons (pv 1)
          (pa_cons (pe_op op_add (pe_ix (r := rIx K) ix_seq (pv 1) (pv 3) (fun _ _ => rfl)) pe_int) (pa_cons (pv 2) pa_nil))))))) (pss_one (ps_ret pe_bl)) pss_nil)))))
      (pss_one (ps_ret pe_bl))), ?_⟩
    refine ⟨_, rfl, _, .ty "dict", .type "dict", .type "dict", true, rfl, .ty _, .base (.dK I.tab), kit_ty (by decide +kernel), _, rfl, iteF ?_⟩
    refine ⟨a, _, I.tab, trivial, fun od => ⟨_, rfl, a, od, rfl, .inl ⟨_, upd_same, ?_⟩⟩⟩
    generalize eG : upd H a (.frz od (.dK (iT it))) = G
    have gA : G a = some (.frz od (.dK (iT it))) := by rw [← eG]; exact upd_same
    have gO : ∀ b o, b ≠ a → H b = some o → G b = some o := fun b o nb e => by
      rw [← eG, upd_ne nb]
      exact e
    have back : ∀ H', Same G H' → Same H (upd H' a (.dK (iT it))) := fun H' s b o e => by
      by_cases eb : b = a
      · subst eb
        rw [upd_same, ← e]
        exact I.tab.symm
      · rw [upd_ne eb]
        exact s _ _ (gO _ _ eb e)
    have hHG : HsAt G h' hl := hH.elim (fun (e : H h' = some (.lst (hl.map V.int))) => .inl (gO _ _ (ne_of e (show H a = some (.dK (iT it)) from I.tab) (fun z => nomatch z)) e)) fun (e : H h' = some (.tup (hl.map V.int))) => .inr (gO _ _ (ne_of e (show H a = some (.dK (iT it)) from I.tab) (fun z => nomatch z)) e)
    refine for_it walk_keys (fun i σ H' => ∃ v3, σ = [some (.ref a), some (.ref h'), some (.int p), v3] ∧ Same G H' ∧ (it.take i).all (fun e => stepB S hl p e.1) = true) ⟨none, rfl, Same.refl _, rfl⟩ (fun i σ H' _ ⟨_, _, s1, _⟩ => s1 _ _ gA) ?_ ?_
    · rintro i x σ H' H1 hi ⟨v3, rfl, s1, ok⟩ ⟨rfl, kk, vv, hx, rfl⟩
      unfold iT at hx
      rw [List.getElem?_map] at hx
      cases ee : it[i]? with
      | none => rw [ee] at hx; cases hx
      | some e =>
        rw [ee] at hx
        cases hx
        have me : e ∈ it := List.mem_of_getElem? ee
        obtain ⟨r1, r2, r3⟩ := I.row e me
        have z2 := row_len r2 r3
        have out : stepB S hl p e.1 = false → ∀ H', Same G H' → H' a = some (.frz od (.dK (iT it))) ∧ Q (.bl false) (upd H' a (.dK (iT it))) := fun h H' s => by
          have := k _ (back H' s)
          rw [all_take ee h] at this
          exact ⟨s _ _ gA, this⟩
        show gName 3 (.int e.1) _ _ _
        refine ⟨_, rfl, _, rfl, h', _, rfl, (hHG.same s1).imp SqL.of SqT.of, _, _, rfl, rfl, ?_⟩
        rw [List.length_map]
        refine ⟨.int e.1, "int", 0, _, rfl, KindV.int _, _, rfl, ?_⟩
        have ew : betB (.int e.1) 0 ((hl.length : Int) - 1) = inB e.1 hl.length := rfl
        rw [ew]
        cases eb : inB e.1 hl.length with
        | false =>
          refine iteT (out ?_ H1 s1)
          unfold stepB
          rw [eb, Bool.false_and]
        | true =>
          refine iteF ?_
          have gp : DGet H1 a (.int e.1) (some (.ref e.2)) := .inl ⟨iT it, Sum.inl e.1, .inr ⟨od, s1 _ _ gA⟩, rfl, by rw [valV_iT, lkI_mem I.nd me]; rfl⟩
          have hH2 := hHG.same s1
          refine ⟨_, rfl, _, rfl, a, _, rfl, gp, _, rfl, ?_⟩
          refine ⟨_, rfl, _, rfl, hH2.ix (inB_iff eb) ?_⟩
          refine ⟨_, _, rfl, rfl, _, rfl, e.2, h', S e.1, hl, _, p, rfl, s1 _ _ (gO _ _ (off e me) r1), r2, by omega, hH2, zh, hp, fun H3 s4 => ⟨_, rfl, ?_⟩⟩
          cases ec : rowAtB (S e.1) hl (hAt hl e.1 + 1) p with
          | false =>
            refine iteT (out ?_ H3 (s1.trans s4))
            unfold stepB
            rw [ec, Bool.and_false]
          | true =>
            refine iteF ⟨_, rfl, s1.trans s4, ?_⟩
            rw [take_snoc ee, List.all_append, ok, Bool.true_and]
            show (stepB S hl p e.1 && true) = true
            unfold stepB
            rw [eb, ec]
            rfl
    · rintro σ H' ⟨v3, rfl, s1, ok⟩
      have zl : (iT it).length = it.length := by unfold iT; rw [List.length_map]
      rw [zl, List.take_length] at ok
      have := k _ (back H' s1)
      rw [ok] at this
      exact ⟨s1 _ _ gA, this⟩
end
end Lp
namespace Lp
open PySem L2
local macro_rules | `(tactic| walk_at "rd") => `(tactic| simp only [tSeq, tAsg, tYes, tTest, tOp, tCB, tCons, tNil, tVar, tC, rI0, rI, gName, wipe, tDisp, tTru, TruV, tB, tNext, tDGet2, tLock, tDIn, tDNotIn, tOr, tNot, tChain, tAnd, tCont, tUn, rU, tPairs, tRet, tIf, tIfS, tPar, tLst, tTup, tDrop, tDGet, tCall, sDPut, L2.start,
  List.map_cons, List.map_nil, List.foldl_cons, List.foldl_nil, List.length_cons, List.length_nil, List.replicate_succ, List.replicate_zero, List.append_nil, List.cons_append, List.nil_append, List.set_cons_zero, List.set_cons_succ, List.getElem?_cons_zero, List.getElem?_cons_succ,
  Option.some.injEq, List.cons.injEq, V.int.injEq, V.bl.injEq, V.ref.injEq, V.str.injEq, exists_eq_left', exists_eq_left, exists_eq_right, and_true, true_and, exists_and_left, Nat.add_zero, Nat.reduceAdd, Nat.reduceSub, Nat.sub_zero, if_true, if_false])
/-- a b times c is a times b c -/
def Br (S : Int × Int → Row) (p : Int) (a b c : Int) : Prop := ∀ j, ((sumW (S (a, b)) fun d => co (S (d, c)) j) - (sumW (S (b, c)) fun d => co (S (a, d)) j)).fmod p = 0
def BrOk (S : Int × Int → Row) (p : Int) (n : Nat) : Prop := ∀ a b c : Nat, a < n → b < n → c < n → Br S p a b c
theorem TabOk.inn {H : Hp} {P : Addr} {pt : PTab} {S : Int × Int → Row} {p : Int} (t : TabOk H P pt S p) {H' : Hp} (s : Same H H') : TabOk H' P pt S p := ⟨s _ _ t.tab, t.asc, fun e m => ⟨s _ _ (t.row e m).1, (t.row e m).2⟩, t.can, t.off⟩
theorem TabOk.rows {H : Hp} {P : Addr} {pt : PTab} {S : Int × Int → Row} {p : Int} {n : Nat} (t : TabOk H P pt S p) (hb : ∀ k, Bel n (S k)) (one other : Row) : RowsAt H pt S n one other := fun a _ b _ =>
  ⟨(t.can _).nd, hb _, fun q h => (t.row _ (lk_some h)).1, fun h => t.off _ (lk_none h)⟩
theorem Canon.small {p : Int} {r : Row} (c : Canon p r) (hp : p ≤ 31) : Small r := fun q m => by
  have := c.num q m
  omega
theorem sumW_one (c : Int) (f : Int → Int) : sumW [(c, 1)] f = f c := by simp [sumW]
theorem nil_of {p : Int} {r r' : Row} (c : Canon p r') (e : ∀ k, co r' k = (co r k).fmod p) : r' = [] ↔ ∀ k, (co r k).fmod p = 0 := by
  constructor
  · intro h k
    rw [← e, h]
    rfl
  · intro h
    exact Canon.ext c ⟨List.Pairwise.nil, fun q m => nomatch m⟩ fun k => by rw [e, h]; rfl
/-- the row of a table at a key, there or a new one without numbers -/
theorem get_or {H : Hp} {P t e : Addr} {pt : PTab} {S : Int × Int → Row} {p : Int} {a b : Int} (T : TabOk H P pt S p) (ht : H t = some (.tup [.int a, .int b])) (he : H e = some (.dK [])) :
    ∃ o q, DGet H P (.ref t) o ∧ o.getD (.ref e) = .ref q ∧ RowAt H q (S (a, b)) ∧ (q = e ∨ lk pt (a, b) = some q) := by
  refine ⟨(lk pt (a, b)).map V.ref, ?_⟩
  have g := get_tab T.tab ht
  cases h : lk pt (a, b) with
  | some q =>
    rw [h] at g
    exact ⟨q, g, rfl, (T.row _ (lk_some h)).1, .inr rfl⟩
  | none =>
    rw [h] at g
    refine ⟨e, g, rfl, ?_, .inl rfl⟩
    rw [T.off _ (lk_none h)]
    exact he
abbrev sFree : Stmt := top 29
def spFree : Sp := fun vs H Q _ => ∃ (P' : Addr) (pt : PTab) (S : Int × Int → Row) (n : Nat) (p : Int), vs = [.int p, .int n, .ref P'] ∧ TabOk H P' pt S p ∧ (∀ k, Bel n (S k)) ∧ n ≤ 40 ∧ 0 < p ∧ p ≤ 31 ∧
  ∀ b H', (b = true ↔ BrOk S p n) → Same H H' → Q (.bl b) H'
section
variable {P : Program} {w : World} {K : PySem.W.Frag} {mg : Str → Option Value} {base : Heap}
theorem scFree : FnScope ["prime", "size", "product", "a", "b", "c", "total"] ["prime", "size", "product"] (defScope sFree) := ⟨rfl, rfl, rfl, by decide +kernel, rfl, by decide +kernel, by decide +kernel⟩
theorem ok_free {f fM fA fT : Addr} {fd dM dA dT : FuncData} (F : Fun K "_is_free_of_brackets" "_is_free_of_brackets" sFree f fd)
    (M1 : FnOk P w K mg base CX0 2 fM dM ["product", "one", "other"] spProd) (mM : mg "product_sum" = some (.ref fM)) (kM : PySem.W.keepIn K (.ref fM) = true) (bM : Binds K dM ["product", "one", "other"] [])
    (A1 : FnOk P w K mg base CX0 1 fA dA ["total", "row", "times"] spAddTo) (mA : mg "add_to" = some (.ref fA)) (kA : PySem.W.keepIn K (.ref fA) = true) (bA : Binds K dA ["total", "row", "times"] [])
    (T1 : FnOk P w K mg base CX0 1 fT dT ["row", "prime"] spTidied) (mT : mg "tidied" = some (.ref fT)) (kT : PySem.W.keepIn K (.ref fT) = true) (bT : Binds K dT ["row", "prime"] [])
    (mRange : mg "range" = none) : FnOk P w K mg base CX0 3 f fd ["prime", "size", "product"] spFree := by
  refine F.ok scFree (fun vs H Q E h => ?_) (fun cdv A outer s H vs Q E hr h => ?_)
  · obtain ⟨P', pt, S, n, p, rfl, _⟩ := h
    rfl
  · obtain ⟨P', pt, S, n, p, rfl, T, hb, hn, hp, hp2, k⟩ := h
    have hu := hu_of hr
    refine ⟨_, pss_cons (ps_for PassesOwn.never rfl (pi_range1 (by rfl) mRange (pa_cons (pv 1) pa_nil)) (pg_name (i := 3) scFree.nd rfl (Or.inl rfl)) (pss_one (ps_for PassesOwn.never rfl (pi_range1 (by rfl) mRange (pa_cons (pv 1) pa_nil)) (pg_name (i := 4) scFree.nd rfl (Or.inl rfl)) (pss_one (ps_for PassesOwn.never rfl (pi_range1 (by rfl) mRange (pa_cons (pv 1) pa_nil)) (pg_name (i := 5) scFree.nd rfl (Or.inl rfl)) (pss_cons (ps_if (PW.pt (pw_and (pt_cmp (pc_dnotin hu (pe_tup (pa_cons (pv 3) (pa_cons (pv 4) pa_nil))) (pv 2))) (pw_and1 (pt_cmp (pc_dnotin hu (pe_tup (pa_cons (pv 4) (pa_cons (pv 5) pa_nil))) (pv 2)))))) (pss_one ps_continue) pss_nil)
      (pss_cons (ps_set (i := 6) scFree.nd rfl (Or.inl rfl) (pe_call M1 hr (by rfl) mM kM bM .nil pass0 (pa_cons (pv 2) (pa_cons (pe_dget2 hu (pv 2) (pe_tup (pa_cons (pv 3) (pa_cons (pv 4) pa_nil))) pe_dnewK ⟨rfl, rfl, rfl, rfl⟩) (pa_cons (pe_disp (pps_cons (pv 5) pe_int pps_nil) (by rfl) (by rfl) (fun z => by cases z) (by decide)) pa_nil)))))
      (pss_cons (ps_expr (pe_call A1 (hr.mono (by decide)) (by rfl) mA kA bA .nil pass0 (pa_cons (pv 6) (pa_cons (pe_call M1 hr (by rfl) mM kM bM .nil pass0 (pa_cons (pv 2) (pa_cons (pe_disp (pps_cons (pv 3) pe_int pps_nil) (by rfl) (by rfl) (fun z => by cases z) (by decide)) (pa_cons (pe_dget2 hu (pv 2) (pe_tup (pa_cons (pv 4) (pa_cons (pv 5) pa_nil))) pe_dnewK ⟨rfl, rfl, rfl, rfl⟩) pa_nil)))) (pa_cons (pe_un un_neg pe_int) pa_nil)))))
      (pss_one (ps_if (pt_tru (K := K) rfl (pe_call T1 (hr.mono (by decide)) (by rfl) mT kT bT .nil pass0 (pa_cons (pv 6) (pa_cons (pv 0) pa_nil))) (by intro _; rfl)) (pss_one (ps_ret pe_bl)) pss_nil))))))))))
      (pss_one (ps_ret pe_bl)), ?_⟩
    have bnd : -(2 ^ 62) ≤ (n : Int) ∧ (n : Int) < 2 ^ 62 := by omega
    refine ⟨_, rfl, n, rfl, bnd.1, bnd.2, ?_⟩
    refine for_it (walk_range (lo := 0) (n := n)) (fun i σ H' => ∃ v3 v4 v5 v6, σ = [some (.int p), some (.int n), some (.ref P'), v3, v4, v5, v6] ∧ Same H H' ∧ ∀ a b c : Nat, a < i → b < n → c < n → Br S p a b c)
      ⟨none, none, none, none, rfl, Same.refl _, fun a b c h => absurd h (by omega)⟩ (fun _ _ _ _ _ => trivial) ?_ ?_
    · rintro i x σ H' H1 hi ⟨v3, v4, v5, v6, rfl, s1, okA⟩ ⟨rfl, rfl⟩
      show gName 3 (.int (0 + (i : Int))) _ _ _
      rw [Int.zero_add]
      refine ⟨_, rfl, n, rfl, bnd.1, bnd.2, ?_⟩
      refine for_it (walk_range (lo := 0) (n := n)) (fun j σ H' => ∃ v4 v5 v6, σ = [some (.int p), some (.int n), some (.ref P'), some (.int (i : Int)), v4, v5, v6] ∧ Same H H' ∧ ∀ b c : Nat, b < j → c < n → Br S p i b c)
        ⟨v4, v5, v6, rfl, s1, fun b c h => absurd h (by omega)⟩ (fun _ _ _ _ _ => trivial) ?_ ?_
      · rintro j x σ H' H2 hj ⟨v4, v5, v6, rfl, s2, okB⟩ ⟨rfl, rfl⟩
        show gName 4 (.int (0 + (j : Int))) _ _ _
        rw [Int.zero_add]
        refine ⟨_, rfl, n, rfl, bnd.1, bnd.2, ?_⟩
        refine for_it (walk_range (lo := 0) (n := n)) (fun l σ H' => ∃ v5 v6, σ = [some (.int p), some (.int n), some (.ref P'), some (.int (i : Int)), some (.int (j : Int)), v5, v6] ∧ Same H H' ∧ ∀ c : Nat, c < l → Br S p i j c)
          ⟨v5, v6, rfl, s2, fun c h => absurd h (by omega)⟩ (fun _ _ _ _ _ => trivial) ?_ ?_
        · rintro l x σ H' H3 hl ⟨v5, v6, rfl, s3, okC⟩ ⟨rfl, rfl⟩
          show gName 5 (.int (0 + (l : Int))) _ _ _
          rw [Int.zero_add]
          have nxt : ∀ {v6 : Option V} {H4 : Hp}, Same H H4 → Br S p i j l → ∃ v5' v6', ([some (.int p), some (.int n), some (.ref P'), some (.int (i : Int)), some (.int (j : Int)), some (.int (l : Int)), v6] : L2.St) = [some (.int p), some (.int n), some (.ref P'), some (.int (i : Int)), some (.int (j : Int)), v5', v6'] ∧ Same H H4 ∧ ∀ c : Nat, c < l + 1 → Br S p i j c :=
            fun {v6 H4} s br => ⟨_, _, rfl, s, fun c hc => by
              by_cases e : c = l
              · subst e; exact br
              · exact okC c (by omega)⟩
          have T3 := T.inn s3
          have rest : ∀ (D : Ends) (H5 : Hp), Same H H5 → (∀ v6 H', Same H H' → Br S p i j l → D.nx [some (.int p), some (.int n), some (.ref P'), some (.int (i : Int)), some (.int (j : Int)), some (.int (l : Int)), v6] H') → (¬ Br S p i j l → ∀ H', Same H H' → D.rt (.bl false) H') →
              (tSeq (tAsg (tCall spProd [] E0 (tCons (tVar 2) (tCons (tDGet2 (tVar 2) (tTup (tCons (tVar 3) (tCons (tVar 4) tNil))) tDNewK) (tCons (tDisp [(tVar 5, tC (V.int 1))]) tNil)))) (gName 6))
              (tSeq (tDrop (tCall spAddTo [] E0 (tCons (tVar 6) (tCons (tCall spProd [] E0 (tCons (tVar 2) (tCons (tDisp [(tVar 3, tC (V.int 1))]) (tCons (tDGet2 (tVar 2) (tTup (tCons (tVar 4) (tCons (tVar 5) tNil))) tDNewK) tNil)))) (tCons (tUn (rU fun i => V.int (-i)) (tC (V.int 1))) tNil)))))
                (tIfS (tTru K (tCall spTidied [] E0 (tCons (tVar 6) (tCons (tVar 0) tNil)))) (tRet (tC (V.bl false))) tNext)))
              D [some (.int p), some (.int n), some (.ref P'), some (.int (i : Int)), some (.int (j : Int)), some (.int (l : Int)), v6] H5 := by
            intro D H5 s5 good bad
            have T5 := T.inn s5
            refine ⟨_, rfl, ?_⟩
            refine ⟨_, rfl, P', rfl, .inr ⟨_, .inl T5.tab⟩, _, rfl, _, rfl, by show 2 ≤ sizeLine; decide, fun t nt => fun e ne => ?_⟩
            have s6 : Same H5 (upd (upd H5 t (.tup [.int i, .int j])) e (.dK [])) := same_upd (same_new nt) (none_upd ne)
            obtain ⟨o, q, g1, g2, g3, _⟩ := get_or (a := i) (b := j) (T5.inn s6) (t := t) (e := e) (by rw [upd_ne (fun z => by rw [z] at ne; rw [upd_same] at ne; cases ne)]; exact upd_same) upd_same
            refine ⟨o, g1, ?_⟩
            rw [g2]
            refine fun d1 nd1 => ⟨_, rfl, upd_same, [(Sum.inl (l : Int), .int 1)], rfl, by show 1 ≤ 15; decide, ?_⟩
            generalize eU : upd (upd H5 t (.tup [.int i, .int j])) e (.dK []) = U at *
            have s7 : Same U (upd (upd U d1 (.dK [])) d1 (.dK (mergeK [] [(Sum.inl (l : Int), .int 1)]))) := same_upd (same_new nd1) nd1
            generalize eU7 : upd (upd U d1 (.dK [])) d1 (.dK (mergeK [] [(Sum.inl (l : Int), .int 1)])) = U7 at s7 ⊢
            have r1 : RowAt U7 d1 [((l : Int), 1)] := by rw [← eU7]; exact upd_same
            have h7 : Same H U7 := (s5.trans s6).trans s7
            have T7 := T.inn h7
            have sm1 : ∀ c : Int, Small [(c, 1)] := fun c q m => by rw [List.mem_singleton.mp m]; show -(2 ^ 31) < (1 : Int) ∧ (1 : Int) < 2 ^ 31; decide
            have nd1' : ∀ c : Int, Nd [(c, 1)] := fun c => by unfold Nd; simp
            have nq : q ≠ d1 := ne_of_none (show U q = some _ from g3) nd1
            refine ⟨P', q, d1, pt, S, S (i, j), [((l : Int), 1)], n, rfl, T7.tab, s7 _ _ g3, r1, nq, (T.can _).nd, nd1' _, (T.can _).small hp2, sm1 _, by omega, T7.rows hb _ _, fun H8 R1 t1 s8 nR1 hR1 ndt1 blt1 cot1 => ?_⟩
            refine ⟨_, rfl, _, rfl, ?_⟩
            refine fun d2 nd2 => ⟨_, rfl, upd_same, [(Sum.inl (i : Int), .int 1)], rfl, by show 1 ≤ 15; decide, ?_⟩
            have s9 : Same H8 (upd (upd H8 d2 (.dK [])) d2 (.dK (mergeK [] [(Sum.inl (i : Int), .int 1)]))) := same_upd (same_new nd2) nd2
            generalize eU9 : upd (upd H8 d2 (.dK [])) d2 (.dK (mergeK [] [(Sum.inl (i : Int), .int 1)])) = U9 at s9 ⊢
            have r2 : RowAt U9 d2 [((i : Int), 1)] := by rw [← eU9]; exact upd_same
            have h9 : Same H U9 := (h7.trans s8).trans s9
            have T9 := T.inn h9
            refine ⟨_, rfl, P', rfl, .inr ⟨_, .inl T9.tab⟩, _, rfl, _, rfl, by show 2 ≤ sizeLine; decide, fun t2 nt2 => fun e2 ne2 => ?_⟩
            have s10 : Same U9 (upd (upd U9 t2 (.tup [.int j, .int l])) e2 (.dK [])) := same_upd (same_new nt2) (none_upd ne2)
            obtain ⟨o2, q2, f1, f2, f3, f4⟩ := get_or (a := j) (b := l) (T9.inn s10) (t := t2) (e := e2) (by rw [upd_ne (fun z => by rw [z] at ne2; rw [upd_same] at ne2; cases ne2)]; exact upd_same) upd_same
            refine ⟨o2, f1, ?_⟩
            rw [f2]
            generalize eU10 : upd (upd U9 t2 (.tup [.int j, .int l])) e2 (.dK []) = U10 at *
            have h10 : Same H U10 := h9.trans s10
            have T10 := T.inn h10
            have nd2q : d2 ≠ q2 := by
              rcases f4 with f4 | f4
              · rw [f4]
                exact ne_of_none (show U9 d2 = some _ from r2) (none_upd ne2)
              · exact Ne.symm (ne_of_none (s8 _ _ (h7 _ _ (T.row _ (lk_some f4)).1)) nd2)
            refine ⟨P', d2, q2, pt, S, [((i : Int), 1)], S (j, l), n, rfl, T10.tab, s10 _ _ r2, f3, nd2q, nd1' _, (T.can _).nd, sm1 _, (T.can _).small hp2, by omega, T10.rows hb _ _, fun H11 R2 t2' s11 nR2 hR2 ndt2 blt2 cot2 => ?_⟩
            refine ⟨1, rfl, ?_⟩
            have hR1' : RowAt H11 R1 t1 := s11 _ _ (s10 _ _ (s9 _ _ hR1))
            have nRR : R1 ≠ R2 := fun z => by
              have := s10 _ _ (s9 _ _ hR1)
              rw [z, nR2] at this
              cases this
            have z1 := row_len ndt1 blt1
            have z2 := row_len ndt2 blt2
            refine ⟨R1, R2, t1, t2', -1, rfl, hR1', .inl hR2, nRR, ndt2, by decide, by omega, ?_⟩
            have ndA := nd_addR (r := t2') (c := -1) ndt1
            have zA := row_len ndA (bel_addR blt1 blt2)
            have nR1H : H R1 = none := none_of_same h7 nR1
            have h12 : Same H (upd H11 R1 (.dK (iK (addR t1 t2' (-1))))) := same_upd (h10.trans s11) nR1H
            refine ⟨_, rfl, _, rfl, R1, addR t1 t2' (-1), p, rfl, upd_same, ndA, by omega, hp, fun H13 q9 r9 s13 n9 hr9 c1 c2 => ⟨_, .inr (.inr ⟨_, hr9, rfl⟩), ?_⟩⟩
            have key : r9 = [] ↔ Br S p i j l := by
              rw [nil_of c1 c2]
              refine forall_congr' fun x => ?_
              have ex : co (addR t1 t2' (-1)) x = (sumW (S ((i : Int), (j : Int))) fun d => co (S (d, (l : Int))) x) - (sumW (S ((j : Int), (l : Int))) fun d => co (S ((i : Int), d)) x) := by
                rw [co_addR ndt2, cot1, cot2, sumW_one]
                have e1 : (fun a => sumW [((l : Int), 1)] fun b => co (S (a, b)) x) = fun d => co (S (d, (l : Int))) x := funext fun a => sumW_one _ _
                rw [e1]
                omega
              rw [ex]
            cases r9 with
            | nil => exact good _ _ (h12.trans s13) (key.mp rfl)
            | cons y ys => exact bad (fun z => nomatch (key.mpr z)) _ (h12.trans s13)
          have tb : ∀ {U : Hp} {t : Addr} {a b : Int}, Same H U → U t = some (.tup [.int a, .int b]) → DGet U P' (.ref t) ((lk pt (a, b)).map V.ref) := fun {U t a b} s ht => get_tab (T.inn s).tab ht
          refine ⟨_, rfl, _, rfl, by show 2 ≤ sizeLine; decide, fun t nt => ⟨_, rfl, P', _, rfl, tb (same_upd s3 (none_of_same s3 nt)) upd_same, _, rfl, ?_⟩⟩
          have s4 : Same H (upd H3 t (.tup [.int i, .int j])) := s3.trans (same_new nt)
          cases e1 : lk pt ((i : Int), (j : Int)) with
          | some q => exact iteF (rest _ _ s4 (fun v6 H' s br => nxt s br) fun nb H' s => k false H' ⟨fun z => (nomatch z), fun ok => absurd (ok i j l hi hj hl) nb⟩ s)
          | none =>
            refine iteT ⟨_, rfl, _, rfl, by show 2 ≤ sizeLine; decide, fun t2 nt2 => ⟨_, rfl, P', _, rfl, tb (s4.trans (same_new nt2)) upd_same, _, rfl, ?_⟩⟩
            have s5 := s4.trans (same_new (o := .tup [.int j, .int l]) nt2)
            cases e2 : lk pt ((j : Int), (l : Int)) with
            | some q => exact iteF (rest _ _ s5 (fun v6 H' s br => nxt s br) fun nb H' s => k false H' ⟨fun z => (nomatch z), fun ok => absurd (ok i j l hi hj hl) nb⟩ s)
            | none =>
              refine iteT (nxt s5 fun x => ?_)
              rw [T.off _ (lk_none e1), T.off _ (lk_none e2)]
              exact Int.zero_fmod p
        · rintro σ H' ⟨v5, v6, rfl, s3, okC⟩
          exact ⟨_, _, _, rfl, s3, fun b c hb hc => by
            by_cases e : b = j
            · subst e; exact okC c hc
            · exact okB b c (by omega) hc⟩
      · rintro σ H' ⟨v4, v5, v6, rfl, s2, okB⟩
        exact ⟨_, _, _, _, rfl, s2, fun a b c ha hb hc => by
          by_cases e : a = i
          · subst e; exact okB b c hb hc
          · exact okA a b c (by omega) hb hc⟩
    · rintro σ H' ⟨v3, v4, v5, v6, rfl, s1, okA⟩
      exact k true H' ⟨fun _ => fun a b c ha hb hc => okA a b c ha hb hc, fun _ => rfl⟩ s1
end
end Lp
namespace Lp
open PySem L2
local macro_rules | `(tactic| walk_at "rd") => `(tactic| simp only [tSeq, tAsg, tYes, tTest, tOp, tCB, tCons, tNil, tVar, tC, rI0, rI, gName, wipe, tDisp, tTru, TruV, tB, tNext, tDGet2, tLock, tDIn, tDNotIn, tOr, tNot, tChain, tAnd, tCont, tUn, rU, tPairs, tRet, tIf, tIfS, tPar, tLst, tTup, tDrop, tDGet, tCall, sDPut, L2.start,
  List.map_cons, List.map_nil, List.foldl_cons, List.foldl_nil, List.length_cons, List.length_nil, List.replicate_succ, List.replicate_zero, List.append_nil, List.cons_append, List.nil_append, List.set_cons_zero, List.set_cons_succ, List.getElem?_cons_zero, List.getElem?_cons_succ,
  Option.some.injEq, List.cons.injEq, V.int.injEq, V.bl.injEq, V.ref.injEq, V.str.injEq, exists_eq_left', exists_eq_left, exists_eq_right, and_true, true_and, exists_and_left, Nat.add_zero, Nat.reduceAdd, Nat.reduceSub, Nat.sub_zero, if_true, if_false])
/-- the step of a product, by the rule of signs -/
def ruX (S : Int × Int → Row) (D : Int → Row) (hl : List Int) (a b x : Int) : Int := (sumW (S (a, b)) fun d => co (D d) x) - (sumW (D a) fun d => co (S (d, b)) x) - sgn (hAt hl a) * (sumW (D b) fun d => co (S (a, d)) x)
def Ru (S : Int × Int → Row) (D : Int → Row) (hl : List Int) (p a b : Int) : Prop := ∀ x, (ruX S D hl a b x).fmod p = 0
def RuOk (S : Int × Int → Row) (D : Int → Row) (hl : List Int) (p : Int) : Prop := ∀ a b : Nat, a < hl.length → b < hl.length → Ru S D hl p a b
theorem fmod_in_sub {p x y : Int} (hp : 0 < p) : (x.fmod p - y).fmod p = (x - y).fmod p := by
  rw [Int.fmod_eq_emod_of_nonneg _ (Int.le_of_lt hp), Int.fmod_eq_emod_of_nonneg _ (Int.le_of_lt hp), Int.fmod_eq_emod_of_nonneg _ (Int.le_of_lt hp)]
  rw [Int.sub_emod, Int.emod_emod, ← Int.sub_emod]
theorem sgn_cases (t : Int) : sgn t = 1 ∨ sgn t = -1 := by
  unfold sgn
  by_cases e : t.fmod 2 = 0
  · rw [if_pos e]; exact .inl rfl
  · rw [if_neg e]; exact .inr rfl
/-- a list of the steps of all places -/
structure StepsAt (H : Hp) (L : Addr) (D : Int → Row) (n : Nat) (p : Int) : Prop where
  ex : ∃ as : List Addr, as.length = n ∧ H L = some (.lst (as.map V.ref)) ∧ ∀ (k : Nat) (a : Addr), as[k]? = some a → RowAt H a (D k)
  can : ∀ k, Canon p (D k)
  bel : ∀ k, Bel n (D k)
theorem StepsAt.inn {H H' : Hp} {L : Addr} {D : Int → Row} {n : Nat} {p : Int} (t : StepsAt H L D n p) (s : Same H H') : StepsAt H' L D n p := by
  obtain ⟨as, e, l, r⟩ := t.ex
  exact ⟨⟨as, e, s _ _ l, fun k a h => s _ _ (r k a h)⟩, t.can, t.bel⟩
abbrev sRule : Stmt := top 30
def spRule : Sp := fun vs H Q _ => ∃ (h' P' L : Addr) (pt : PTab) (S : Int × Int → Row) (D : Int → Row) (hl : List Int) (p : Int), vs = [.int p, .ref h', .ref P', .ref L] ∧ HsAt H h' hl ∧ TabOk H P' pt S p ∧ (∀ k, Bel hl.length (S k)) ∧ StepsAt H L D hl.length p ∧ hl.length ≤ 20 + 12 ∧ 0 < p ∧ p ≤ 31 ∧
  ∀ b H', (b = true ↔ RuOk S D hl p) → Same H H' → Q (.bl b) H'
section
variable {P : Program} {w : World} {K : PySem.W.Frag} {mg : Str → Option Value} {base : Heap}
theorem scRule : FnScope ["prime", "heights", "product", "steps", "a", "b", "total"] ["prime", "heights", "product", "steps"] (defScope sRule) := ⟨rfl, rfl, rfl, by decide +kernel, rfl, by decide +kernel, by decide +kernel⟩
theorem ok_rule {f fL fM fA fT fG : Addr} {fd dL dM dA dT dG : FuncData} (F : Fun K "_keeps_rule" "_keeps_rule" sRule f fd)
    (L1 : FnOk P w K mg base CX0 2 fL dL ["rows", "row", "prime"] spLed) (mL : mg "led" = some (.ref fL)) (kL : PySem.W.keepIn K (.ref fL) = true) (bL : Binds K dL ["rows", "row", "prime"] [])
    (M1 : FnOk P w K mg base CX0 2 fM dM ["product", "one", "other"] spProd) (mM : mg "product_sum" = some (.ref fM)) (kM : PySem.W.keepIn K (.ref fM) = true) (bM : Binds K dM ["product", "one", "other"] [])
    (A1 : FnOk P w K mg base CX0 1 fA dA ["total", "row", "times"] spAddTo) (mA : mg "add_to" = some (.ref fA)) (kA : PySem.W.keepIn K (.ref fA) = true) (bA : Binds K dA ["total", "row", "times"] [])
    (T1 : FnOk P w K mg base CX0 1 fT dT ["row", "prime"] spTidied) (mT : mg "tidied" = some (.ref fT)) (kT : PySem.W.keepIn K (.ref fT) = true) (bT : Binds K dT ["row", "prime"] [])
    (G1 : FnOk P w K mg base CX0 1 fG dG ["turn"] spSign) (mG : mg "sign" = some (.ref fG)) (kG : PySem.W.keepIn K (.ref fG) = true) (bG : Binds K dG ["turn"] [])
    (mRange : mg "range" = none) (mLen : mg "len" = none) : FnOk P w K mg base CX0 3 f fd ["prime", "heights", "product", "steps"] spRule := by
  refine F.ok scRule (fun vs H Q E h => ?_) (fun cdv A outer s H vs Q E hr h => ?_)
  · obtain ⟨h', P', L, pt, S, D, hl, p, rfl, _⟩ := h
    rfl
  · obtain ⟨h', P', L, pt, S, D, hl, p, rfl, hH, T, hb, SD, hn, hp, hp2, k⟩ := h
    have hu := hu_of hr
    refine ⟨_, pss_cons (ps_for PassesOwn.never rfl (pi_range1 (by rfl) mRange (pa_cons (pe_callB call_len_seq (by rfl) mLen PySem.boot_len (pa_cons (pv 1) pa_nil)) pa_nil)) (pg_name (i := 4) scRule.nd rfl (Or.inl rfl)) (pss_one (ps_for PassesOwn.never rfl (pi_range1 (by rfl) mRange (pa_cons (pe_callB call_len_seq (by rfl) mLen PySem.boot_len (pa_cons (pv 1) pa_nil)) pa_nil)) (pg_name (i := 5) scRule.nd rfl (Or.inl rfl)) (pss_cons (ps_set (i := 6) scRule.nd rfl (Or.inl rfl) (pe_call L1 hr (by rfl) mL kL bL .nil pass0 (pa_cons (pv 3) (pa_cons (pe_dget2 hu (pv 2) (pe_tup (pa_cons (pv 4) (pa_cons (pv 5) pa_nil))) pe_dnewK ⟨rfl, rfl, rfl, rfl⟩) (pa_cons (pv 0) pa_nil)))))
      (pss_cons (ps_expr (pe_call A1 (hr.mono (by decide)) (by rfl) mA kA bA .nil pass0 (pa_cons (pv 6) (pa_cons (pe_call M1 (hr.mono (by decide)) (by rfl) mM kM bM .nil pass0 (pa_cons (pv 2) (pa_cons (pe_ix (r := rIxL K) ix_list (pv 3) (pv 4) (fun _ _ => rfl)) (pa_cons (pe_disp (pps_cons (pv 5) pe_int pps_nil) (by rfl) (by rfl) (fun z => by cases z) (by decide)) pa_nil)))) (pa_cons (pe_un un_neg pe_int) pa_nil)))))
      (pss_cons (ps_expr (pe_call A1 (hr.mono (by decide)) (by rfl) mA kA bA .nil pass0 (pa_cons (pv 6) (pa_cons (pe_call M1 (hr.mono (by decide)) (by rfl) mM kM bM .nil pass0 (pa_cons (pv 2) (pa_cons (pe_disp (pps_cons (pv 4) pe_int pps_nil) (by rfl) (by rfl) (fun z => by cases z) (by decide)) (pa_cons (pe_ix (r := rIxL K) ix_list (pv 3) (pv 5) (fun _ _ => rfl)) pa_nil)))) (pa_cons (pe_un un_neg (pe_call G1 (hr.mono (by decide)) (by rfl) mG kG bG .nil pass0 (pa_cons (pe_ix (r := rIx K) ix_seq (pv 1) (pv 4) (fun _ _ => rfl)) pa_nil))) pa_nil)))))
      (pss_one (ps_if (pt_tru (K := K) rfl (pe_call T1 (hr.mono (by decide)) (by rfl) mT kT bT .nil pass0 (pa_cons (pv 6) (pa_cons (pv 0) pa_nil))) (by intro _; rfl)) (pss_one (ps_ret pe_bl)) pss_nil))))))))
      (pss_one (ps_ret pe_bl)), ?_⟩
    generalize en : hl.length = n at *
    have bnd : -(2 ^ 62) ≤ (n : Int) ∧ (n : Int) < 2 ^ 62 := by omega
    refine ⟨_, rfl, h', _, rfl, hH.imp SqL.of SqT.of, ?_⟩
    rw [List.length_map, en]
    refine ⟨n, rfl, bnd.1, bnd.2, ?_⟩
    refine for_it (walk_range (lo := 0) (n := n)) (fun i σ H' => ∃ v4 v5 v6, σ = [some (.int p), some (.ref h'), some (.ref P'), some (.ref L), v4, v5, v6] ∧ Same H H' ∧ ∀ a b : Nat, a < i → b < n → Ru S D hl p a b)
      ⟨none, none, none, rfl, Same.refl _, fun a b h => absurd h (by omega)⟩ (fun _ _ _ _ _ => trivial) ?_ ?_
    · rintro i x σ H' H1 hi ⟨v4, v5, v6, rfl, s1, okA⟩ ⟨rfl, rfl⟩
      show gName 4 (.int (0 + (i : Int))) _ _ _
      rw [Int.zero_add]
      refine ⟨_, rfl, h', _, rfl, (hH.same s1).imp SqL.of SqT.of, ?_⟩
      rw [List.length_map, en]
      refine ⟨n, rfl, bnd.1, bnd.2, ?_⟩
      refine for_it (walk_range (lo := 0) (n := n)) (fun j σ H' => ∃ v5 v6, σ = [some (.int p), some (.ref h'), some (.ref P'), some (.ref L), some (.int (i : Int)), v5, v6] ∧ Same H H' ∧ ∀ b : Nat, b < j → Ru S D hl p i b)
        ⟨v5, v6, rfl, s1, fun b h => absurd h (by omega)⟩ (fun _ _ _ _ _ => trivial) ?_ ?_
      · rintro j x σ H' H2 hj ⟨v5, v6, rfl, s2, okB⟩ ⟨rfl, rfl⟩
        show gName 5 (.int (0 + (j : Int))) _ _ _
        rw [Int.zero_add]
        have nxt : ∀ (v6 : Option V) (H4 : Hp), Same H H4 → Ru S D hl p i j → ∃ v5' v6', ([some (.int p), some (.ref h'), some (.ref P'), some (.ref L), some (.int (i : Int)), some (.int (j : Int)), v6] : L2.St) = [some (.int p), some (.ref h'), some (.ref P'), some (.ref L), some (.int (i : Int)), v5', v6'] ∧ Same H H4 ∧ ∀ b : Nat, b < j + 1 → Ru S D hl p i b :=
          fun v6 H4 s br => ⟨_, _, rfl, s, fun b hb => by
            by_cases e : b = j
            · subst e; exact br
            · exact okB b (by omega)⟩
        have T2 := T.inn s2
        have D2 := SD.inn s2
        have good : ∀ (v6 : Option V) (H' : Hp), Same H H' → Ru S D hl p i j → _ := nxt
        have bad : ¬ Ru S D hl p i j → ∀ H', Same H H' → Q (.bl false) H' := fun nb H' s => k false H' ⟨fun z => (nomatch z), fun ok => absurd (ok i j (by omega) (by omega)) nb⟩ s
        have sm1 : ∀ c : Int, Small [(c, 1)] := fun c q m => by rw [List.mem_singleton.mp m]; show -(2 ^ 31) < (1 : Int) ∧ (1 : Int) < 2 ^ 31; decide
        have nd1' : ∀ c : Int, Nd [(c, 1)] := fun c => by unfold Nd; simp
        -- led(steps, product.get((a, b), {}), prime)
        refine ⟨_, rfl, _, rfl, P', rfl, .inr ⟨_, .inl T2.tab⟩, _, rfl, _, rfl, by show 2 ≤ sizeLine; decide, fun t nt => fun e ne => ?_⟩
        have s6 : Same H2 (upd (upd H2 t (.tup [.int i, .int j])) e (.dK [])) := same_upd (same_new nt) (none_upd ne)
        obtain ⟨o, q, g1, g2, g3, _⟩ := get_or (a := i) (b := j) (T2.inn s6) (t := t) (e := e) (by rw [upd_ne (fun z => by rw [z] at ne; rw [upd_same] at ne; cases ne)]; exact upd_same) upd_same
        refine ⟨o, g1, ?_⟩
        rw [g2]
        generalize eU : upd (upd H2 t (.tup [.int i, .int j])) e (.dK []) = U at *
        have h6 : Same H U := s2.trans s6
        have DU := SD.inn h6
        obtain ⟨as, e1, e2, e3⟩ := DU.ex
        have stepRow : ∀ c : Int, 0 ≤ c ∧ c < n → ∃ a, as[c.toNat]? = some a ∧ RowAt U a (D c) := fun c hc => by
          have lt : c.toNat < as.length := by omega
          refine ⟨as[c.toNat], List.getElem?_eq_getElem lt, ?_⟩
          have := e3 c.toNat _ (List.getElem?_eq_getElem lt)
          rwa [Int.toNat_of_nonneg hc.1] at this
        refine ⟨_, rfl, L, q, as, S (i, j), D, p, n, rfl, e2, g3, (T.can _).nd, by rw [e1]; exact hb _, by have := row_len (T.can (i, j)).nd (hb (i, j)); omega, by omega, fun y m => ?_, hp, fun H8 R0 t0 s8 nR0 hR0 c0 bl0 co0 => ?_⟩
        · obtain ⟨a, ha, hra⟩ := stepRow y.1 (hb _ y m)
          have := (T.can (i, j)).num y m
          exact ⟨by omega, a, ha, hra, (SD.can _).nd, SD.bel _⟩
        have h8 : Same H H8 := h6.trans s8
        -- add_to(total, product_sum(product, steps[a], {b: 1}), -1)
        obtain ⟨ai, hai, rai⟩ := stepRow i (by omega)
        obtain ⟨aj, haj, raj⟩ := stepRow j (by omega)
        have at_ : ∀ {c : Nat} {a : Addr}, as[(c : Int).toNat]? = some a → atI (as.map V.ref) (c : Int) = some (V.ref a) := fun {c a} h => atI_nat (by rw [List.getElem?_map]; rw [Int.toNat_natCast] at h; rw [h]; rfl)
        have T8 := T.inn h8
        refine ⟨_, rfl, _, rfl, ?_⟩
        refine ⟨_, rfl, _, rfl, L, _, i, .ref ai, rfl, rfl, SqL.of (s8 _ _ e2), at_ hai, ?_⟩
        refine fun d1 nd1 => ⟨_, rfl, upd_same, [(Sum.inl (j : Int), .int 1)], rfl, by show 1 ≤ 15; decide, ?_⟩
        have s9 : Same H8 (upd (upd H8 d1 (.dK [])) d1 (.dK (mergeK [] [(Sum.inl (j : Int), .int 1)]))) := same_upd (same_new nd1) nd1
        generalize eU9 : upd (upd H8 d1 (.dK [])) d1 (.dK (mergeK [] [(Sum.inl (j : Int), .int 1)])) = U9 at s9 ⊢
        have r1 : RowAt U9 d1 [((j : Int), 1)] := by rw [← eU9]; exact upd_same
        have rai8 : RowAt H8 ai (D i) := s8 _ _ rai
        have nid : ai ≠ d1 := ne_of_none (show H8 ai = some _ from rai8) nd1
        refine ⟨P', ai, d1, pt, S, D i, [((j : Int), 1)], n, rfl, (T8.inn s9).tab, s9 _ _ rai8, r1, nid, (SD.can _).nd, nd1' _, (SD.can _).small hp2, sm1 _, by omega, (T8.inn s9).rows hb _ _, fun H10 R1 t1 s10 nR1 hR1 ndt1 blt1 cot1 => ?_⟩
        refine ⟨1, rfl, ?_⟩
        have hR0' : RowAt H10 R0 t0 := s10 _ _ (s9 _ _ hR0)
        have n01 : R0 ≠ R1 := fun z => by
          have := s9 _ _ hR0
          rw [z, nR1] at this
          cases this
        have z0 := row_len c0.nd bl0
        have z1 := row_len ndt1 blt1
        refine ⟨R0, R1, t0, t1, -1, rfl, hR0', .inl hR1, n01, ndt1, by decide, by omega, ?_⟩
        have ndA := nd_addR (r := t1) (c := -1) c0.nd
        have blA := bel_addR (c := -1) bl0 blt1
        have nR0H : H R0 = none := none_of_same h6 nR0
        have h11 : Same H (upd H10 R0 (.dK (iK (addR t0 t1 (-1))))) := same_upd ((h8.trans s9).trans s10) nR0H
        generalize eV : upd H10 R0 (.dK (iK (addR t0 t1 (-1)))) = V11 at h11 ⊢
        have hR0V : RowAt V11 R0 (addR t0 t1 (-1)) := by rw [← eV]; exact upd_same
        have sUV : Same U V11 := fun b o hbo => by
          rw [← eV, upd_ne (ne_of_none hbo nR0)]
          exact s10 _ _ (s9 _ _ (s8 _ _ hbo))
        have T11 := T.inn h11
        -- add_to(total, product_sum(product, {a: 1}, steps[b]), -sign(heights[a]))
        refine ⟨_, rfl, _, rfl, ?_⟩
        refine fun d2 nd2 => ⟨_, rfl, upd_same, [(Sum.inl (i : Int), .int 1)], rfl, by show 1 ≤ 15; decide, ?_⟩
        have s12 : Same V11 (upd (upd V11 d2 (.dK [])) d2 (.dK (mergeK [] [(Sum.inl (i : Int), .int 1)]))) := same_upd (same_new nd2) nd2
        generalize eU12 : upd (upd V11 d2 (.dK [])) d2 (.dK (mergeK [] [(Sum.inl (i : Int), .int 1)])) = U12 at s12 ⊢
        have r2 : RowAt U12 d2 [((i : Int), 1)] := by rw [← eU12]; exact upd_same
        refine ⟨_, rfl, _, rfl, L, _, j, .ref aj, rfl, rfl, SqL.of (s12 _ _ (sUV _ _ e2)), at_ haj, ?_⟩
        have rajV : RowAt V11 aj (D j) := sUV _ _ raj
        have ndj : d2 ≠ aj := Ne.symm (ne_of_none (show V11 aj = some _ from rajV) nd2)
        refine ⟨P', d2, aj, pt, S, [((i : Int), 1)], D j, n, rfl, (T11.inn s12).tab, r2, s12 _ _ rajV, ndj, nd1' _, (SD.can _).nd, sm1 _, (SD.can _).small hp2, by omega, (T11.inn s12).rows hb _ _, fun H13 R2 t2 s13 nR2 hR2 ndt2 blt2 cot2 => ?_⟩
        have h13 : Same H H13 := (h11.trans s12).trans s13
        refine ⟨_, rfl, _, rfl, (hH.same h13).ix (by omega) ?_⟩
        refine ⟨_, rfl, _, rfl, ?_⟩
        have hR0W : RowAt H13 R0 (addR t0 t1 (-1)) := s13 _ _ (s12 _ _ hR0V)
        have n02 : R0 ≠ R2 := fun z => by
          have := s12 _ _ hR0V
          rw [z, nR2] at this
          cases this
        have z2 := row_len ndt2 blt2
        have zA := row_len ndA blA
        have sb : -(2 ^ 64) < -sgn (hAt hl i) ∧ -sgn (hAt hl i) < 2 ^ 64 := by
          rcases sgn_cases (hAt hl i) with e | e <;> rw [e] <;> decide
        refine ⟨R0, R2, addR t0 t1 (-1), t2, -sgn (hAt hl i), rfl, hR0W, .inl hR2, n02, ndt2, sb, by omega, ?_⟩
        have ndB := nd_addR (r := t2) (c := -sgn (hAt hl i)) ndA
        have zB := row_len ndB (bel_addR blA blt2)
        have h14 : Same H (upd H13 R0 (.dK (iK (addR (addR t0 t1 (-1)) t2 (-sgn (hAt hl i)))))) := same_upd h13 nR0H
        refine ⟨_, rfl, _, rfl, R0, _, p, rfl, upd_same, ndB, by omega, hp, fun H15 q9 r9 s15 n9 hr9 c1 c2 => ⟨_, .inr (.inr ⟨_, hr9, rfl⟩), ?_⟩⟩
        have key : r9 = [] ↔ Ru S D hl p i j := by
          rw [nil_of c1 c2]
          refine forall_congr' fun x => ?_
          have ex : co (addR (addR t0 t1 (-1)) t2 (-sgn (hAt hl i))) x = ((sumW (S ((i : Int), (j : Int))) fun d => co (D d) x).fmod p) - ((sumW (D i) fun d => co (S (d, (j : Int))) x) + sgn (hAt hl i) * (sumW (D j) fun d => co (S ((i : Int), d)) x)) := by
            rw [co_addR ndt2, co_addR ndt1, co0, cot1, cot2, sumW_one]
            have e4 : (fun a => sumW [((j : Int), 1)] fun b => co (S (a, b)) x) = fun d => co (S (d, (j : Int))) x := funext fun a => sumW_one _ _
            rw [e4]
            have ng := Int.neg_mul (sgn (hAt hl i)) (sumW (D j) fun b => co (S ((i : Int), b)) x)
            omega
          rw [ex, fmod_in_sub hp]
          unfold ruX
          rw [Int.sub_sub]
        cases r9 with
        | nil => exact nxt _ _ (h14.trans s15) (key.mp rfl)
        | cons y ys => exact bad (fun z => nomatch (key.mpr z)) _ (h14.trans s15)
      · rintro σ H' ⟨v5, v6, rfl, s2, okB⟩
        exact ⟨_, _, _, rfl, s2, fun a b ha hb => by
          by_cases e : a = i
          · subst e; exact okB b hb
          · exact okA a b (by omega) hb⟩
    · rintro σ H' ⟨v4, v5, v6, rfl, s1, okA⟩
      exact k true H' ⟨fun _ => fun a b ha hb => okA a b (by omega) (by omega), fun _ => rfl⟩ s1
end
end Lp
namespace Lp
open PySem PySem.Spec PySem.Calls PyProof.Rows L2
/-! ### abs of a bool, a bool in an f-string -/
section
variable {prog : Program} {w : World} {A : Around} {E : Value → Shared → Prop} {s : Shared} {b : Bool}
theorem self_bool {Q : Fin → Shared → Prop} (h : ∀ u tk, Q (.done (.ret (.int (if b then 1 else 0) u))) { s with toks := tk }) : wpAny (model prog w) A (Builtin.«int.__abs__» ⟨[.bool b], []⟩) Q E s := by
  unfold Builtin.«int.__abs__»
  cases b with
  | false =>
    have h' := h s.toks (s.toks + 1)
    wp_walk
    all_goals exact h'
  | true =>
    have h' := h s.toks (s.toks + 1)
    wp_walk
    all_goals exact h'
theorem abs_bool {Q : Value → Shared → Prop} (h : ∀ u tk, Q (.int (if b then 1 else 0) u) { s with toks := tk }) : wpAny (model prog w) A (call (.builtin "abs") [.bool b]) Q E s := by
  refine call_function_entry kind_abs plain_abs entry_abs (args_abs _) ?_
  unfold Builtin.«abs»
  refine wpAny_bind (m := oneArg "abs" _) (wpAny_pure ?_)
  refine wpAny_bind (m := callSpecial? (.bool b) (Str.ofString "__abs__")) (wpAny_callSpecial?_slot (T := "bool") (name := Str.ofString "__abs__") rfl PySem.F.slot_bool_abs
    (wpAny_call_entry PySem.F.slot_bool_abs rfl entry_int_abs ?_ (args_int_abs _)))
  exact self_bool fun u tk => ⟨_, rfl, by first | exact wpAny_pure (h u tk) | exact wpAny_pure ⟨_, rfl, h u tk⟩⟩
end
section
variable {X : Cx}
/-- abs of a whole number or of a bool -/
def rAbsB : List V → Hp → VK → Prop := fun xs H Q => (∃ i, xs = [.int i] ∧ Q (.int (if i < 0 then -i else i)) H) ∨ ∃ b : Bool, xs = [.bl b] ∧ Q (.int (if b then 1 else 0)) H
theorem call_absB : CallR X (.builtin "abs") rAbsB := by
  intro pins s σ H xs us Q I r h
  rcases h with ⟨i, rfl, q⟩ | ⟨b, rfl, q⟩
  · exact call_abs pins s σ H _ us Q I r ⟨i, rfl, q⟩
  · obtain ⟨u, rfl, r1⟩ := vals1 r
    cases (show u = Value.bool b from r1)
    exact abs_bool fun u tk => ⟨.int (if b then 1 else 0), H, I.tok _, ⟨_, rfl⟩, q⟩
/-- {x}: a text, a whole number or a bool -/
def tFmtB (te : TE) : TE := fun σ H Q => te σ H fun x H1 => (∃ y : Str, x = .str y ∧ y.length ≤ sizeLine ∧ Q (.str y) H1) ∨ (∃ i : Int, x = .int i ∧ i.natAbs.log2 < 1920 ∧ Q (.str (toString i)) H1) ∨ ∃ b : Bool, x = .bl b ∧ Q (.str (if b then "True" else "False")) H1
theorem pe_fmtB {e : Expr} {te : TE} {pos : Pos} (he : PE X e te) : PE X (.FormattedValue e (-1) none pos) (tFmtB te) := by
  refine ⟨fun pins s σ H Q I h => wpAny_FormattedValue_plain (thn (he.run pins s σ H _ I h) fun v s1 hv => ?_)⟩
  obtain ⟨x, H1, I1, r1, q⟩ := hv
  rcases q with ⟨y, rfl, hz, q⟩ | ⟨i, rfl, hz, q⟩ | ⟨b, rfl, q⟩
  · obtain ⟨t, rfl⟩ := r1
    exact wpAny_formatField_str ⟨.str y, H1, I1, ⟨t, rfl⟩, q⟩ ⟨.str y, H1, I1.tok _, ⟨_, rfl⟩, q⟩ hz
  · obtain ⟨t, rfl⟩ := r1
    exact wpAny_formatField_int hz ⟨.str (toString i), H1, I1.tok _, ⟨_, rfl⟩, q⟩
  · cases (show v = Value.bool b from r1)
    refine wpAny_formatField_bool ⟨.str (if b then "True" else "False"), H1, I1.tok _, ?_, q⟩
    cases b <;> exact ⟨_, rfl⟩
end
/-! ### _told -/
abbrev sTold : Stmt := top 1
inductive ToldOk (H : Hp) : V → Prop where
  | non : ToldOk H .non
  | bl (b : Bool) : ToldOk H (.bl b)
  | int (i : Int) : ToldOk H (.int i)
  | txt (z : Str) (h : z.length ≤ 1000) : ToldOk H (.str z)
  | lst {a : Addr} {xs : List V} (h : H a = some (.lst xs)) : ToldOk H (.ref a)
  | tup {a : Addr} {xs : List V} (h : H a = some (.tup xs)) : ToldOk H (.ref a)
  | dK {a : Addr} {kvs : List (Key × V)} (h : H a = some (.dK kvs)) : ToldOk H (.ref a)
def spTold : Sp := fun vs H Q _ => ∃ y, vs = [y] ∧ ToldOk H y ∧ ∀ z : Str, z.length ≤ 1100 → Q (.str z) H
theorem len_add (x y : Str) : (x ++ y).length = x.length + y.length := strLen_append x y
theorem two_len : (": " : Str).length = 2 := rfl
theorem int_len {i : Int} (h : i.natAbs < 10 ^ 7) : (Str.ofString (toString i)).length ≤ 8 := by
  have e := int_text_length_le10 (k := 7) (by decide) h
  rw [PySem.ofString_length]
  omega
section
variable {P : Program} {w : World} {K : PySem.W.Frag} {mg : Str → Option Value} {base : Heap}
theorem scTold : FnScope ["value"] ["value"] (defScope sTold) := ⟨rfl, rfl, rfl, by decide +kernel, rfl, by decide +kernel, by decide +kernel⟩
theorem ok_told {f : Addr} {fd : FuncData} (F : Fun K "_told" "_told" sTold f fd) (mI : mg "isinstance" = none) (mS : mg "str" = none) (mInt : mg "int" = none) (mAbs : mg "abs" = none) : FnOk P w K mg base CX0 1 f fd ["value"] spTold := by
  refine F.ok scTold (fun vs H Q E h => ?_) (fun cdv A outer s H vs Q E hr h => ?_)
  · obtain ⟨y, rfl, _⟩ := h
    rfl
  · obtain ⟨y, rfl, T, k⟩ := h
    refine ⟨_, pss_cons (ps_if (PW.pt (pw_or (pt_val (pe_callB call_isi (by rfl) mI (by decide +kernel) (pa_cons (pv 0) (pa_cons (pe_bltn (v := .ty "str") (by rfl) mS (by decide +kernel) rfl) pa_nil))))
        (pw_or1 (PW.pt (pw_and (pt_val (pe_callB call_isi (by rfl) mI (by decide +kernel) (pa_cons (pv 0) (pa_cons (pe_bltn (v := .ty "int") (by rfl) mInt (by decide +kernel) rfl) pa_nil))))
          (pw_and1 (pt_cmpR op_lt (pe_callB call_absB (by rfl) mAbs (by decide +kernel) (pa_cons (pv 0) pa_nil)) pe_int (nomark _))))))))
        (pss_one (ps_ret (pe_joined (.cons pe_str (.cons (pe_fmtB (pv 0)) .nil))))) pss_nil)
      (pss_one (ps_ret pe_str)), ?_⟩
    have le0 : ∀ z : Str, z.length ≤ 1100 → z.length ≤ sizeLine := fun z h => by
      rw [sizeLine_eq]
      omega
    cases T with
    | non => exact ⟨_, rfl, _, .ty "str", .type "NoneType", .type "str", false, rfl, .ty _, .base .non, kit_ty (by decide +kernel), _, rfl, iteF ⟨_, rfl, _, .ty "int", .type "NoneType", .type "int", false, rfl, .ty _, .base .non, kit_ty (by decide +kernel), _, rfl, iteF (iteF (k _ (by decide)))⟩⟩
    | lst e => exact ⟨_, rfl, _, .ty "str", .type "list", .type "str", false, rfl, .ty _, .base (.lst e), kit_ty (by decide +kernel), _, rfl, iteF ⟨_, rfl, _, .ty "int", .type "list", .type "int", false, rfl, .ty _, .base (.lst e), kit_ty (by decide +kernel), _, rfl, iteF (iteF (k _ (by decide)))⟩⟩
    | tup e => exact ⟨_, rfl, _, .ty "str", .type "tuple", .type "str", false, rfl, .ty _, .base (.tup e), kit_ty (by decide +kernel), _, rfl, iteF ⟨_, rfl, _, .ty "int", .type "tuple", .type "int", false, rfl, .ty _, .base (.tup e), kit_ty (by decide +kernel), _, rfl, iteF (iteF (k _ (by decide)))⟩⟩
    | dK e => exact ⟨_, rfl, _, .ty "str", .type "dict", .type "str", false, rfl, .ty _, .base (.dK e), kit_ty (by decide +kernel), _, rfl, iteF ⟨_, rfl, _, .ty "int", .type "dict", .type "int", false, rfl, .ty _, .base (.dK e), kit_ty (by decide +kernel), _, rfl, iteF (iteF (k _ (by decide)))⟩⟩
    | bl b =>
      refine ⟨_, rfl, _, .ty "str", .type "bool", .type "str", false, rfl, .ty _, .base (.bl b), kit_ty (by decide +kernel), _, rfl, iteF ⟨_, rfl, _, .ty "int", .type "bool", .type "int", true, rfl, .ty _, .base (.bl b), kit_ty (by decide +kernel), _, rfl, iteT ?_⟩⟩
      cases b with
      | false => exact ⟨_, rfl, .inr ⟨_, rfl, _, _, rfl, rfl, _, rfl, iteT ⟨_, rfl, le0 _ (by decide), _, rfl, .inr (.inr ⟨_, rfl, _, rfl, le0 _ (by decide), k _ (by decide)⟩)⟩⟩⟩
      | true => exact ⟨_, rfl, .inr ⟨_, rfl, _, _, rfl, rfl, _, rfl, iteT ⟨_, rfl, le0 _ (by decide), _, rfl, .inr (.inr ⟨_, rfl, _, rfl, le0 _ (by decide), k _ (by decide)⟩)⟩⟩⟩
    | int i =>
      refine ⟨_, rfl, _, .ty "str", .type "int", .type "str", false, rfl, .ty _, .base (.int i), kit_ty (by decide +kernel), _, rfl, iteF ⟨_, rfl, _, .ty "int", .type "int", .type "int", true, rfl, .ty _, .base (.int i), kit_ty (by decide +kernel), _, rfl, iteT ?_⟩⟩
      refine ⟨_, rfl, .inl ⟨_, rfl, _, _, rfl, rfl, _, rfl, ite2 (fun h => ?_) (fun _ => k _ (by decide))⟩⟩
      have h2 := of_decide_eq_true h
      have h1 : i.natAbs < 10 ^ 6 := by split at h2 <;> omega
      have hl := int_len (i := i) (by omega)
      have ht : (Str.empty ++ ": " ++ Str.ofString (toString i)).length ≤ 1100 := by
        rw [len_add, len_add]
        have e0 : (Str.empty).length = 0 := rfl
        have e1 := two_len
        omega
      refine ⟨_, rfl, le0 _ (by decide), _, rfl, .inr (.inl ⟨i, rfl, ?_, _, rfl, le0 _ ht, k _ ht⟩)⟩
      by_cases z : i.natAbs = 0
      · rw [z]
        decide
      · have := (Nat.log2_lt z (k := 1920)).mpr (Nat.lt_of_lt_of_le h1 (by decide))
        exact this
    | txt z h =>
      have ht : (Str.empty ++ ": " ++ z).length ≤ 1100 := by
        rw [len_add, len_add]
        have e0 : (Str.empty).length = 0 := rfl
        have e1 := two_len
        omega
      exact ⟨_, rfl, _, .ty "str", .type "str", .type "str", true, rfl, .ty _, .base (.str z), kit_ty (by decide +kernel), _, rfl, iteT (iteT ⟨_, rfl, le0 _ (by decide), _, rfl, .inl ⟨z, rfl, le0 _ (by omega), _, rfl, le0 _ ht, k _ ht⟩⟩)⟩
end
end Lp
namespace Lp
open PySem PySem.Spec PySem.Calls PyProof.Rows L2 PySem.W
/-! ### super().__init__(..) over ValueError, called through the bound wrapper -/
section
variable {prog : Program} {w : World} {A : Around} {E : Value → Shared → Prop} {h : Heap} {g : Array GenState} {d : Drawn} {t : Nat} {os : OsState}
abbrev mwVE (x : Addr) : Obj := kxs_mw "ValueError.__init__" x
theorem call_mw {nm q : Str} {C N u e t0 : Addr} {bs bm : List Value} {hdct : Bool} {sn : List Str} {sub : List Value} {ab : Bool} {col : Option Bool} {dd : Option Addr} {k0 k1 k2 k3 k5 : Option Value} {rest : List Value} {Q : Value → Shared → Prop}
    (hC : h.get? C = some (excClassObj nm q C N bs bm hdct sn sub ab col dd k0 k1 k2 k3 k5 "ValueError.__new__")) (he : h.get? e = some (HandSPX.excO C t0)) (hu : h.get? u = some (mwVE e)) (hz : rest.length ≤ sizeLine)
    (hq : ∀ h' t1, (∀ b o, b ≠ e → h.get? b = some o → h'.get? b = some o) → h'.get? e = some (HandSPX.excO C t1) → Q .none ⟨h', g, d, t, os⟩) :
    wpAny (model prog w) A (call (.ref u) rest) Q E ⟨h, g, d, t, os⟩ := by
  have tst : (Value.type "method-wrapper" == Value.type "method" || Value.type "method-wrapper" == Value.type "builtin_function_or_method" || Value.type "method-wrapper" == Value.type "method-wrapper") = true := by decide
  refine wpAny_call (codeAny_of_tree (show wpAny _ A.in1 (callAny (.ref u) ⟨rest, []⟩) _ _ _ from ?_))
  simp only [callAny]
  refine wpAny_bind (wpAny_load hu ?_)
  simp only [mwVE, kxs_mw, tst, if_true]
  refine KFB.if_so (by decide) (wpAny_bind (check_bound_init F.excBase_ValueError.toExcCallFacts hC he rfl (wpAny_bind (wpAny_pure (wpAny_pure ⟨plainId_quiet F.excBase_ValueError.init.plain _, codeAny_builtin F.excBase_ValueError.initEntry ?_⟩)))))
  rw [Around.under_plainId F.excBase_ValueError.init.plain _]
  wp_walk
  refine hq _ h.objs.size (fun b o hb ho => ?_) ?_
  · exact (Heap.get?_update_other _ _ (Ne.symm hb)).trans (Heap.get?_push_of_some _ ho)
  · exact (Heap.get?_update_self _ (Heap.get?_push_of_some _ he) rfl).trans rfl
theorem callWith_mw {M : Model} {s : Shared} {pos : Pos} {u x : Addr} {env : Env} {e : Expr} {es : List Expr} {Q : Value → Shared → Prop}
    (k : wpAny M A (spliced (backTo pos (starEach (e :: es) env))) (fun vs s₁ => s₁.heap.get? u = some (mwVE x) ∧ wpAny M A (call (.ref u) vs) Q E s₁) E s)
    (he : starEach (e :: es) env = (false, eval e env) :: starEach es env) (hp : (backTo pos (starEach es env)).any (·.1) = false) :
    wpAny M A (callWith pos (.ref u) [] (backTo pos (starEach (e :: es) env)) []) Q E s := by
  rw [he] at k ⊢
  exact kxs_callWith (i := "ValueError.__init__") (x := x) (show (false || (backTo pos (starEach es env)).any (·.1)) = false by rw [hp]; rfl) (evalArgs_plain k)
end
/-! ### the text of such an __init__ -/
def iA (x : Str) (p1 p2 : Pos) : Arguments := { posonlyargs := [], args := [{ arg := "self", annotation := none, pos := p1 }, { arg := x, annotation := none, pos := p2 }], vararg := none, kwonlyargs := [], kw_defaults := [], kwarg := none, defaults := [] }
structure Ps where
  (a b c d e f g h i j k l m n : Pos)
def iCall (x msg : Str) (p : Ps) : Expr := .Call (.Attribute (.Call (.Name "super" p.a) [] [] p.b) "__init__" p.c)
  [.JoinedStr [.Constant (.str msg) 0 p.d, .FormattedValue (.Call (.Name "_told" p.e) [.Name x p.f] [] p.g) (-1) none p.h] p.i] [] p.j
def iB (x msg : Str) (p : Ps) : List Stmt := [.Expr (iCall x msg p) p.j, .Assign [.Attribute (.Name "self" p.k) x p.l] (.Name x p.m) p.n]
def iS (x : Str) : Scope := { kind := .function, names := [("self", .local), (x, .local), ("__class__", .free), ("super", .globalImplicit), ("_told", .globalImplicit)], isGenerator := false, isCoroutine := false, more := [] }
/-- what the written part says of a class C with such an __init__ at fI -/
structure InitT (P : Program) (K : PySem.W.Frag) (mg : Str → Option Value) (C fI : Addr) (st : Stmt) (qual x msg : Str) : Prop where
  oex : OexC K C
  text : ∃ p1 p2 p, defArgs st = iA x p1 p2 ∧ defBody st = iB x msg p ∧ defScope st = iS x ∧
    (∀ env : Env, ∃ pl : Sem Bool, eval (iCall x msg p) env = (do
      let ov ← attributeBase (.Call (.Name "super" p.a) [] [] p.b) "__init__" env (eval (.Call (.Name "super" p.a) [] [] p.b) env)
      standAt p.c.atName
      let (f, first) ← holding [ov] (getMethod ov "__init__" pl)
      callWith p.j f first (backTo p.j (starEach [.JoinedStr [.Constant (.str msg) 0 p.d, .FormattedValue (.Call (.Name "_told" p.e) [.Name x p.f] [] p.g) (-1) none p.h] p.i] env)) []))
  fn : ∃ (oc ct doc pm : Value) (od an : Option Addr) (cda cc : Addr) (osl : Array (Option Value)), K.lookup fI = some ⟨oc, od, .func (ksFn "__init__" qual (defArgs st) (defBody st) (defScope st) .none .none doc pm an (.ref cda) ct cc), osl⟩ ∧ codeIn K (.ref cda) qual = true ∧
    (∃ ccl cdd vs ccs file tf, K.lookup cda = some ⟨ccl, cdd, .fields vs, ccs⟩ ∧ vs[2]? = some (.str file tf) ∧ ((P.main.file : Str) == file) = true) ∧ ∃ cl cld csl, K.lookup cc = some ⟨cl, cld, .cell (some (.ref C)), csl⟩
  top : (P.main.scope.names.lookup ("super" : Str)).isSome = false
  su : mg "super" = none
  above : ks_superIn K C C "__init__" = some (some (.builtin "ValueError.__init__"))
  opq : nsIn K cStatics "thirdparty.any" = some none
  isVE : subIn K (.ref C) (.type "ValueError") = some true
  isC : mroIn K C (.ref C) = some true
  noX : findIn K (.ref C) x = some none
  xne : x = "part" ∨ x = "at" ∨ x = "name" ∨ x = "most"
  msgl : msg.length ≤ 1000
/-- the promise of __init__ -/
def spInit (C : Addr) (x : Str) : Sp := fun vs H Q _ => ∃ a y, vs = [.ref a, y] ∧ H a = some (exo a C none) ∧ ToldOk H y ∧
  ∀ H' dx, H' a = some (exo a C (some dx)) → H' dx = some (exd dx [(x, y)]) → H dx = none → (∀ b o, H b = some o → b ≠ a → H' b = some o) → Q .non H'
theorem ToldOk.same {H H' : Hp} {y : V} (e : ToldOk H y) (s : Same H H') : ToldOk H' y := by
  cases e with
  | non => exact .non
  | bl b => exact .bl b
  | int i => exact .int i
  | txt z h => exact .txt z h
  | lst h => exact .lst (s _ _ h)
  | tup h => exact .tup (s _ _ h)
  | dK h => exact .dK (s _ _ h)
section
variable {P : Program} {w : World} {K : PySem.W.Frag} {mg : Str → Option Value} {base : Heap} {C fI ft : Addr} {st : Stmt} {qual x msg : Str} {fdt : FuncData}
theorem ok_init (T : InitT P K mg C fI st qual x msg) (GT : FnOk P w K mg base CX0 1 ft fdt ["value"] spTold) (gT : mg "_told" = some (.ref ft)) (kT : keepIn K (.ref ft) = true) (bT : Binds K fdt ["value"] []) :
    ∃ fd, Binds K fd ["self", x] [] ∧ (∀ (s : Shared) (u v : Value), BindsTo s fd ⟨[u], [(x, v)]⟩ ((["self", x] : List Str).zip [u, v])) ∧ FnOk P w K mg base CX0 3 fI fd ["self", x] (spInit C x) := by
  obtain ⟨p1, p2, p, hA, hB, hS, he⟩ := T.text
  obtain ⟨oc, ct, doc, pm, od, an, cda, cc, osl, lk, hcd, ⟨ccl, cdd, cvs, ccs, file, tf, hcda, hvs, hfile⟩, cl, cld, csl, hcc⟩ := T.fn
  rw [hA, hB, hS] at lk
  refine ⟨ksFn "__init__" qual (iA x p1 p2) (iB x msg p) (iS x) .none .none doc pm an (.ref cda) ct cc, .all fun us hl => ?_, fun s u v => .of_eq ?_, fun vs H Q E hsp => ?_, fun A outer s H args us vs Q E hr e0 hb r hsp => ?_⟩
  · match us, hl with
    | [_, _], _ => rcases T.xne with e | e | e | e <;> subst e <;> rfl
  · rcases T.xne with e | e | e | e <;> subst e <;> rfl
  · obtain ⟨a, y, rfl, _⟩ := hsp
    rfl
  obtain ⟨a, y, rfl, ha, hy, k⟩ := hsp
  obtain ⟨u1, u2, rfl, r1, r2⟩ := vals2 r
  cases (show u1 = Value.ref a from r1)
  have KX : K.In s.heap := e0.mod.kin.keeps fun b o e => (e0.bs b o e).1
  have lim : s.heap.NoLimit := e0.mod.nolimit.keeps fun b o e => (e0.bs b o e).1
  have nd : (iS x).names.lookup ("super" : Str) = some .globalImplicit ∧ (iS x).names.lookup ("__class__" : Str) = some .free ∧ (iS x).names.lookup ("_told" : Str) = some .globalImplicit ∧ (iS x).names.lookup x = some .local ∧ (x == ("__debug__" : Str)) = false ∧ (x == ("__classdict__" : Str)) = false := by
    rcases T.xne with e | e | e | e <;> subst e <;> exact ⟨by decide, by decide, by decide, by decide, by decide, by decide⟩
  let F : NdefX.NF := ⟨"__init__", qual, iA x p1 p2, iB x msg p, iS x, [("__class__", cc)], cda⟩
  have S : NdefX.NScope ["self", x, "__class__"] ["self", x] ["__class__"] (iS x) := by
    rcases T.xne with e | e | e | e <;> subst e <;> exact NdefX.nscope_by (by decide +kernel)
  refine ks_codeAny_call_defAt (binds := [("self", .ref a), (x, u2)]) hr.depth (KX _ _ lk) rfl lim (codeRec_of KX hcd) rfl hb (fun q hq => S.nocell q hq) (fun q hq => ?_) (fun h₁ hns kp => ?_)
  · have hq' : q = ((("self" : Str), Value.ref a) : Str × Value) ∨ q = (x, u2) := by simpa using hq
    rcases hq' with e | e
    · rw [e]
      exact S.par _ (by simp)
    · rw [e]
      exact S.par _ (by simp)
  have hccb := e0.bs _ _ (e0.mod.kin _ _ hcc)
  have lc : ∀ {y : Str} {c : Addr}, List.lookup y [(("__class__" : Str), cc)] = some c → y = "__class__" ∧ c = cc := fun {y c} e => by
    by_cases z : y = "__class__"
    · subst z
      have e1 : List.lookup ("__class__" : Str) [(("__class__" : Str), cc)] = some cc := by simp [List.lookup]
      rw [e1] at e
      exact ⟨rfl, (Option.some.inj e).symm⟩
    · have z' : (y == ("__class__" : Str)) = false := by simpa using z
      have e1 : List.lookup y [(("__class__" : Str), cc)] = none := by simp [List.lookup, z']
      rw [e1] at e
      cases e
  have CA : NdefX.CellsAt F.cl ["__class__"] [none] s.heap H := by
    refine ⟨rfl, fun y c e => ?_, fun y z c e1 e2 => (lc e1).1.trans (lc e2).1.symm, fun i y e => ?_⟩
    · obtain ⟨_, rfl⟩ := lc e
      exact ⟨hccb.2, _, _, hccb.1, rfl⟩
    · match i, e with
      | 0, e =>
        cases e
        exact ⟨cc, by show List.lookup ("__class__" : Str) [(("__class__" : Str), cc)] = some cc; simp [List.lookup], fun v z => by cases z⟩
      | n + 1, e => cases e
  have I := NdefX.inv_startN (CX := CX0) (P := P) (w := w) (K := K) (mg := mg) (base := base) (f := fI) (A := A) (outer := outer) (E := E) (F := F) (tk := s.toks + 2) S hr.hd e0 rfl r CA hns kp
  obtain ⟨nm, qn, N, bs, bm, sn, sub, ab, col, dd, k0, k1, k2, k3, k5, hC, hbm⟩ := T.oex.cls
  obtain ⟨t1, hat⟩ := exo_at I.hok ha
  obtain ⟨pl, hev⟩ := he (NdefX.envF F fI s.heap.objs.size)
  obtain ⟨mb, hmb1, hmb2⟩ := e0.mod.blt
  have X1 := I.kIn
  have hC1 := X1 _ _ hC
  have hcl : clsIn K C = some { name := nm, bases := bs, mro := .ref C :: bm, ns := N, qualname := qn, hasDict := true, slotNames := sn, subclasses := sub, abstract := ab, collection := col, hasDel := false } := by unfold clsIn; rw [hC] <;> rfl
  refine ks_wpAt_execs_cons (ks_wpAt_Expr_any ?_)
  refine ks_wpAt_MethodCall (pl := pl) (ks_wpAt_super_base (f := fI) (cc := cda) nd.1 nd.2.1 (by decide) rfl (X1 _ _ lk) rfl rfl rfl (X1 _ _ hcda) rfl hvs hfile T.top ?_) hev
  have lself : (([(("self" : Str), Value.ref a), (x, u2)] : List (Str × Value)).reverse).lookup ("self" : Str) = some (.ref a) := by
    have q : (("self" : Str) == x) = false := by rcases T.xne with e | e | e | e <;> subst e <;> decide
    simp [List.lookup, q]
  refine ks_loadName_global rfl nd.1 (loadGlobal_builtin (I.mod.glob.keeps I.bk) T.su (hmb1.keeps I.bk) ((hmb2 _ (by decide)).trans (by decide +kernel)) ⟨rfl, ?_⟩)
  refine wpAny_loadName_free rfl nd.2.1 (by show List.lookup ("__class__" : Str) [(("__class__" : Str), cc)] = some cc; simp [List.lookup]) ⟨_, X1 _ _ hcc, rfl⟩ ?_
  refine wpAny_loadName_local rfl (S.par _ (by simp)) hns lself ?_
  refine ks_wpAny_isType_cls hC1 rfl ⟨rfl, ?_⟩
  refine ks_wpAny_call_super hC1 rfl hat rfl (fun c => nofun) (looks_mroIn X1 T.isC) (fun h2 eso kso => ?_)
  have X2 : K.In h2 := fun b o e => kso b o (X1 b o e)
  have hal := T.above
  unfold ks_superIn at hal
  rw [hcl] at hal
  have IA : InstAt h2 a (HandSPX.excO C t1) C none := ⟨kso _ _ hat, rfl, rfl, trivial⟩
  have aC : a ≠ C := fun e => by
    have z := hat
    rw [e, hC1] at z
    cases z
  refine kxs_getMethod kxs_ValueError eso (looks_opaque X2 T.opq) (l₀ := .ref C :: bm) (fun A Q E s k q => wpAny_bind ((looks_clsIn X2 hcl) A _ E s k (wpAny_pure q))) rfl X2 hal (IA.type.andThen (looks_subIn X2 T.isVE)) aC (by decide) ?_
  refine callWith_mw (x := a) ?_ rfl rfl
  have I2 := I.kept (t' := s.toks + 2) kso
  have hun : H h2.objs.size = none := I2.hok.fresh (Nat.le_refl _)
  have I3 := I2.laid (a := h2.objs.size) (o := .ext fun h => h.get? h2.objs.size = some (mwVE a)) (h' := h2.push (mwVE a)) (t' := s.toks + 2 + 1) (fun b u e => Heap.get?_push_of_some _ e) (Nat.le_refl _) ⟨Heap.get?_push_at rfl rfl, ⟨_, Heap.get?_push_at rfl rfl⟩, fun g1 g2 e kk => kk _ e⟩
  have hr1 : Room 1 (A.deeper (NdefX.envF F fI s.heap.objs.size)) := (hr.deeper _).mono (by decide)
  have vx : ∀ {pos : Pos}, PE (NdefX.ncx CX0 P w K mg base ["self", x, "__class__"] F fI A outer s H E) (.Name x pos) (tVar 1) := fun {pos} => pe_var (i := 1) rfl (.inl nd.2.2.2.1) nd.2.2.2.2.1 nd.2.2.2.2.2
  have PAj : PA (NdefX.ncx CX0 P w K mg base ["self", x, "__class__"] F fI A outer s H E) [.JoinedStr [.Constant (.str msg) 0 p.d, .FormattedValue (.Call (.Name "_told" p.e) [.Name x p.f] [] p.g) (-1) none p.h] p.i] _ :=
    pa_cons (pe_joined (.cons pe_str (.cons (pe_fmtB (pe_call GT hr1 nd.2.2.1 gT kT bT .nil pass0 (pa_cons vx pa_nil))) .nil))) pa_nil
  have hlm : msg.length ≤ sizeLine := Nat.le_trans T.msgl (by decide)
  have hal3 : (upd H h2.objs.size (.ext fun h => h.get? h2.objs.size = some (mwVE a))) a = some (exo a C none) := by
    rw [upd_ne (ne_of_none ha hun)]
    exact ha
  have s3 : Same H (upd H h2.objs.size (.ext fun h => h.get? h2.objs.size = some (mwVE a))) := same_new hun
  refine thn (PAj.run p.j [] _ _ _ (fun vs H4 => vs.length = 1 ∧ H4 = upd H h2.objs.size (.ext fun h => h.get? h2.objs.size = some (mwVE a))) I3 ?_) fun us s4 ⟨vs, H4, I4, rv, l4, e4⟩ => ?_
  · have e0 : (Str.empty ++ msg).length = msg.length := by
      rw [len_add]
      exact Nat.zero_add _
    refine ⟨msg, rfl, by rw [e0]; exact hlm, _, rfl, y, rfl, hy.same s3, fun z hz => .inl ⟨z, rfl, Nat.le_trans hz (by decide), z, rfl, ?_, rfl, rfl⟩⟩
    rw [len_add, e0]
    have := T.msgl
    exact Nat.le_trans (show msg.length + z.length ≤ 2100 by omega) (by decide)
  subst e4
  have hmw : s4.heap.get? h2.objs.size = some (mwVE a) := (show ObjOk P w _ s4.heap h2.objs.size (.ext fun h => h.get? h2.objs.size = some (mwVE a)) from I4.hok _ _ upd_same).1
  obtain ⟨t4, hex⟩ := exo_at I4.hok hal3
  obtain ⟨hp4, g4, d4, tk4, os4⟩ := s4
  refine ⟨hmw, call_mw (I4.kIn _ _ hC) hex hmw (by rw [← Paired.length rv, l4]; decide) fun h5 t5 k5 e5 => ?_⟩
  have I5 := I4.write (t' := tk4) (x := a) (e := a) (o := exo a C none) (by rw [hal3]; exact True.intro) (.inl rfl) k5 ⟨_, e5⟩ (exo_ok e5)
  refine wpAt_of_wpAny ?_
  have R : PSs (NdefX.ncx CX0 P w K mg base ["self", x, "__class__"] F fI A outer s H E) [.Assign [.Attribute (.Name "self" p.k) x p.l] (.Name x p.m) p.n] _ := pss_one (ps_ost (pe_var (i := 0) rfl (.inl (S.par _ (by simp)))) vx)
  refine wpAny_mono (R.run [] _ _ _ { nx := fun _ H' => Q .non H', rt := fun _ _ => False } I5 ⟨_, rfl, _, rfl, a, C, rfl, T.oex, T.noX, .inl ⟨upd_same, fun dx hdx ne => ?_⟩⟩) (fun fl s6 hs => ?_) fun e s' z => z
  · have nda : H dx = none := by
      cases q : H dx with
      | none => rfl
      | some o =>
        rw [upd_ne ne] at hdx
        exact absurd (s3 _ _ q) (by rw [hdx]; exact nofun)
    refine k _ dx upd_same ?_ nda fun b o e n => ?_
    · rw [upd_ne ne]
      exact upd_same
    · rw [upd_ne n, upd_ne (ne_of_none e nda), upd_ne n]
      exact s3 _ _ e
  · cases fl with
    | next =>
      obtain ⟨σ', H', J, q⟩ := hs
      exact ⟨.non, H', J.os, J.bare, J.base, J.hok, rfl, q⟩
    | ret v =>
      obtain ⟨v', σ', H', J, rv', q⟩ := hs
      exact False.elim q
    | brk =>
      obtain ⟨_, _, _, q⟩ := hs
      exact False.elim q
    | cont =>
      obtain ⟨_, _, _, q⟩ := hs
      exact False.elim q
end
end Lp
namespace Lp
open PySem L2
local macro_rules | `(tactic| walk_at "rd") => `(tactic| simp only [tSeq, tAsg, tYes, tTest, tOp, tCB, tCons, tNil, tVar, tC, rI0, rI, gName, wipe, tDisp, tTru, TruV, tB, tNext, tDGet2, tLock, tDIn, tDNotIn, tOr, tNot, tChain, tAnd, tCont, tUn, rU, tPairs, tRet, tIf, tIfS, tPar, tLst, tTup, tDrop, tDGet, tCall, sDPut, L2.start,
  List.map_cons, List.map_nil, List.foldl_cons, List.foldl_nil, List.length_cons, List.length_nil, List.replicate_succ, List.replicate_zero, List.append_nil, List.cons_append, List.nil_append, List.set_cons_zero, List.set_cons_succ, List.getElem?_cons_zero, List.getElem?_cons_succ,
  Option.some.injEq, List.cons.injEq, V.int.injEq, V.bl.injEq, V.ref.injEq, V.str.injEq, exists_eq_left', exists_eq_left, exists_eq_right, and_true, true_and, exists_and_left, Nat.add_zero, Nat.reduceAdd, Nat.reduceSub, Nat.sub_zero, if_true, if_false])
/-- an own error with its own __init__, which keeps one thing under the name x -/
structure ErrI (P : Program) (w : World) (K : PySem.W.Frag) (mg : Str → Option Value) (base : Heap) (nm x : Str) (C fI : Addr) (fd : FuncData) : Prop where
  g : mg nm = some (.ref C)
  oex : OexC K C
  init : PySem.W.findIn K (.ref C) "__init__" = some (some (.ref fI))
  ty : PySem.W.typeIn K (.ref fI) = some (.type "function")
  ok : FnOk P w K mg base CX0 3 fI fd ["self", x] (spInit C x)
  bd : Binds K fd ["self", x] []
/-- the error C with v under x, as it leaves a def: what stood stands, the error itself is told no more -/
def Raised (C : Addr) (x : Str) (v : V) (H : Hp) (E : XK) : Prop := ∀ d H', Same H H' → H d = none → H' d = some (.xd [(x, v)]) → E (.ref C) (some d) H'
abbrev sNeedN : Stmt := top 17
def spNeedN (K : PySem.W.Frag) (C : Addr) : Sp := fun vs H Q E => ∃ v s lo hi z, vs = [v, .int lo, .int hi, .str z] ∧ KindV K H v s ∧ z.length ≤ 1000 ∧ (betB v lo hi = true → Q .non H) ∧ (betB v lo hi = false → Raised C "part" (.str z) H E)
section
variable {P : Program} {w : World} {K : PySem.W.Frag} {mg : Str → Option Value} {base : Heap}
theorem scNeedN : FnScope ["number", "least", "most", "part"] ["number", "least", "most", "part"] (defScope sNeedN) := ⟨rfl, rfl, rfl, by decide +kernel, rfl, by decide +kernel, by decide +kernel⟩
theorem ok_need_number {f fB C fI : Addr} {fd dB dI : FuncData} (F : Fun K "need_number" "need_number" sNeedN f fd) (B1 : FnOk P w K mg base CX0 2 fB dB ["thing", "least", "most"] (spIsBet K)) (mB : mg "is_between" = some (.ref fB)) (kB : PySem.W.keepIn K (.ref fB) = true) (bB : Binds K dB ["thing", "least", "most"] [])
    (T : ErrI P w K mg base "BadNumber" "part" C fI dI) : FnOk P w K mg base (L2.CX P w) 5 f fd ["number", "least", "most", "part"] (spNeedN K C) := by
  refine F.okX scNeedN (fun vs H Q E h => ?_) (fun cdv A outer s H vs Q E hr h => ?_)
  · obtain ⟨v, t, lo, hi, z, rfl, _⟩ := h
    rfl
  · obtain ⟨v, t, lo, hi, z, rfl, kv, hz, yes, no⟩ := h
    refine ⟨_, pss_one (ps_if (pt_not (pt_val (pe_call B1 (hr.mono (by decide)) (by rfl) mB kB bB .nil pass0 (pa_cons (pv 0) (pa_cons (pv 1) (pa_cons (pv 2) pa_nil))))))
      (pss_one (ps_raise rfl (takes_of rfl rfl rfl rfl) (pmk_oex T.oex T.init T.ty T.ok hr T.bd .nil pass0 (by rfl) T.g (pa_cons (pv 3) pa_nil)))) pss_nil), ?_⟩
    refine ⟨_, rfl, _, rfl, _, rfl, v, t, lo, hi, rfl, kv, _, rfl, ?_⟩
    cases eb : betB v lo hi with
    | true => exact iteF (yes eb)
    | false =>
      refine iteT ?_
      refine ⟨_, rfl, by show 1 ≤ 1000; decide, fun a na => ⟨a, .str z, rfl, upd_same, .txt z hz, fun H' dx h1 h2 h3 h4 => ?_⟩⟩
      refine ⟨rfl, dx, _, h1, h2, none_upd h3, no eb dx _ (fun b o e => ?_) (none_upd h3) upd_same⟩
      have nba : b ≠ a := ne_of_none e na
      rw [upd_ne (ne_of_none e (none_upd h3)), del_ne nba]
      exact h4 _ _ (by rw [upd_ne nba]; exact e) nba
end
end Lp
namespace Lp
open PySem L2
local macro_rules | `(tactic| walk_at "rd") => `(tactic| simp only [tSeq, tAsg, tYes, tTest, tOp, tCB, tCons, tNil, tVar, tC, rI0, rI, gName, wipe, tDisp, tTru, TruV, tB, tNext, tDGet2, tLock, tDIn, tDNotIn, tOr, tNot, tChain, tAnd, tCont, tUn, rU, tPairs, tRet, tIf, tIfS, tPar, tLst, tTup, tDrop, tDGet, tCall, sDPut, L2.start,
  List.map_cons, List.map_nil, List.foldl_cons, List.foldl_nil, List.length_cons, List.length_nil, List.replicate_succ, List.replicate_zero, List.append_nil, List.cons_append, List.nil_append, List.set_cons_zero, List.set_cons_succ, List.getElem?_cons_zero, List.getElem?_cons_succ,
  Option.some.injEq, List.cons.injEq, V.int.injEq, V.bl.injEq, V.ref.injEq, V.str.injEq, exists_eq_left', exists_eq_left, exists_eq_right, and_true, true_and, exists_and_left, Nat.add_zero, Nat.reduceAdd, Nat.reduceSub, Nat.sub_zero, if_true, if_false])
/-- a field, in a block as outside -/
theorem pe_fldK {X : Cx} {K : PySem.W.Frag} {e : Expr} {ta : TE} {f : Str} {pos : Pos} (hK : X.K = K) (ho : PE X e ta) (hb : attributeBase e f X.env (eval e X.env) = eval e X.env) : PE X (.Attribute e f pos) (tFld K ta f) := by
  subst hK
  exact pe_fld ho hb
/-- the class Frame -/
structure FrameC (K : PySem.W.Frag) (C : Addr) : Prop where
  cl : Cls K C
  n1 : NoAttr K C "prime"
  n2 : NoAttr K C "heights"
  n3 : NoAttr K C "product"
  n4 : NoAttr K C "step"
abbrev sStepsOf : Stmt := top 31
def spStepsOf (C : Addr) : Sp := fun vs H Q _ => ∃ (a dx h' st : Addr) (fs : List (Str × V)) (hl : List Int) (it : ITab) (D : Int → Row) (p : Int), vs = [.ref a] ∧ H a = some (.ins C dx fs) ∧ fs.lookup ("heights" : Str) = some (V.ref h') ∧ HsAt H h' hl ∧ fs.lookup ("step" : Str) = some (V.ref st) ∧ ITabOk H st it D p ∧
  (∀ k, Bel hl.length (D k)) ∧ hl.length ≤ 1000 ∧ ∀ H' L, Same H H' → H L = none → StepsAt H' L D hl.length p → Q (.ref L) H'
section
variable {P : Program} {w : World} {K : PySem.W.Frag} {mg : Str → Option Value} {base : Heap}
theorem scStepsOf : FnScope ["frame", "place"] ["frame"] (defScope sStepsOf) := ⟨rfl, rfl, rfl, by decide +kernel, rfl, by decide +kernel, by decide +kernel⟩
theorem ok_steps_of {f C : Addr} {fd : FuncData} (F : Fun K "steps_of" "steps_of" sStepsOf f fd) (T : FrameC K C) (mRange : mg "range" = none) (mLen : mg "len" = none) : FnOk P w K mg base CX0 1 f fd ["frame"] (spStepsOf C) := by
  refine F.ok scStepsOf (fun vs H Q E h => ?_) (fun cdv A outer s H vs Q E hr h => ?_)
  · obtain ⟨a, dx, h', st, fs, hl, it, D, p, rfl, _⟩ := h
    rfl
  · obtain ⟨a, dx, h', st, fs, hl, it, D, p, rfl, ha, f2, hH, f4, I, hb, zh, k⟩ := h
    have hu := hu_of hr
    refine ⟨_, pss_one (ps_ret (pe_lc (own := [("place", 1)]) (g := gName 1) (tt := tYes) rfl scStepsOf.nd (pi_range1 (by rfl) mRange (pa_cons (pe_callB call_len_seq (by rfl) mLen PySem.boot_len (pa_cons (pe_fldK (K := K) rfl (pv 0) rfl) pa_nil)) pa_nil))
      (blkOk_by (N := ["frame", "place"]) (sc := defScope sStepsOf) (by decide +kernel)) (fun _ _ _ _ _ => pg_name (i := 1) scStepsOf.nd rfl (Or.inl rfl)) (fun _ _ _ _ _ => pts_nil)
      (fun _ _ _ _ _ => pe_dget2 hu (pe_fldK (K := K) rfl (pv 0) rfl) (pv 1) pe_dnewK ⟨rfl, rfl, rfl, rfl⟩))), ?_⟩
    generalize en : hl.length = n at *
    refine ⟨_, rfl, a, C, dx, fs, _, rfl, ha, T.cl, T.n2, f2, h', _, rfl, hH.imp SqL.of SqT.of, ?_⟩
    rw [List.length_map, en]
    refine ⟨n, rfl, by omega, by omega, fun L hL => ?_⟩
    refine lc_it (walk_range (lo := 0) (n := n)) (fun i H' => Same H H' ∧ ∃ as : List Addr, as.length = i ∧ H' L = some (.lst (as.map V.ref)) ∧ ∀ (k : Nat) (b : Addr), as[k]? = some b → RowAt H' b (D k)) ⟨same_new hL, [], rfl, upd_same, fun k b h => by cases h⟩ (fun _ _ _ _ => trivial) ?_ ?_
    · rintro i x H1 H' hi ⟨s1, as, e1, e2, e3⟩ ⟨rfl, rfl⟩
      show gName 1 (.int (0 + (i : Int))) _ _ _
      rw [Int.zero_add]
      walk_at "rd"
      refine ⟨_, rfl, a, C, dx, fs, _, rfl, s1 _ _ ha, T.cl, T.n4, f4, st, rfl, .inl ⟨_, .inl (s1 _ _ I.tab)⟩, fun e ne => ?_⟩
      have sU : Same H' (upd H' e (.dK [])) := same_new ne
      have hLU : upd H' e (.dK []) L = some (.lst (as.map V.ref)) := sU _ _ e2
      have pick : ∃ q, ((lkI it (i : Int)).map V.ref).getD (.ref e) = .ref q ∧ RowAt (upd H' e (.dK [])) q (D i) := by
        cases h : lkI it (i : Int) with
        | some q => exact ⟨q, rfl, sU _ _ (s1 _ _ (I.row _ (lkI_some h)).1)⟩
        | none =>
          refine ⟨e, rfl, ?_⟩
          rw [I.off _ (lkI_none h)]
          exact upd_same
      obtain ⟨q, g1, g2⟩ := pick
      refine ⟨_, get_itab (sU _ _ (s1 _ _ I.tab)), _, hLU, by rw [List.length_map]; exact small1000 (by omega), same_upd (s1.trans sU) hL, as ++ [q], by rw [List.length_append, e1]; rfl, ?_, fun m b hm => ?_⟩
      · rw [g1, upd_same, List.map_append]
        rfl
      · have r : RowAt (upd H' e (.dK [])) b (D m) := by
          by_cases lt : m < as.length
          · rw [List.getElem?_append_left lt] at hm
            exact sU _ _ (e3 m b hm)
          · rw [List.getElem?_append_right (by omega)] at hm
            have em : m = i := by
              have := (List.getElem?_eq_some_iff.mp hm).1
              simp only [List.length_singleton] at this
              omega
            subst em
            rw [e1, Nat.sub_self] at hm
            cases hm
            exact g2
        unfold RowAt
        rw [upd_ne (ne_of (show _ = some _ from r) hLU (fun z => nomatch z))]
        exact r
    · rintro H' ⟨s1, as, e1, e2, e3⟩
      exact k H' L s1 hL ⟨⟨as, e1, e2, e3⟩, I.can, hb⟩
end
end Lp
namespace Lp
open PySem PySem.Spec PySem.Calls PyProof.Rows L2
/-! ### any(xs), xs a list of rows -/
def rAnyD (K : PySem.W.Frag) : List V → Hp → VK → Prop := fun vs H Q => ∃ (a : Addr) (as : List Addr) (rs : List Row), vs = [V.ref a] ∧ SqL K H a (as.map V.ref) ∧ Paired (RowAt H) as rs ∧ Q (.bl (rs.any fun r => !r.isEmpty)) H
theorem refs_are : ∀ {as : List Addr} {us : List Value}, Vals (as.map V.ref) us → us = as.map Value.ref
  | [], us, r => by
    rw [List.map_nil] at r
    cases r
    rfl
  | a :: as, us, r => by
    rw [List.map_cons] at r
    cases r with
    | cons h q =>
      cases h
      rw [List.map_cons, ← refs_are q]
theorem Paired.fst {α β : Type} {R : α → β → Prop} : ∀ {xs : List α} {ys : List β}, Paired R xs ys → ∀ {i : Nat} {x : α}, xs[i]? = some x → ∃ y, ys[i]? = some y ∧ R x y
  | _, _, .nil, i, x, h => by cases h
  | _, _, .cons r t, 0, x, h => by
    cases h
    exact ⟨_, rfl, r⟩
  | _, _, .cons r t, i + 1, x, h => Paired.fst t h
theorem cr_anyD {X : Cx} (hc : X.calm = true) : CallR X (.builtin "any") (rAnyD X.K) := by
  intro pins s σ H vs us Q I r h
  obtain ⟨a, as, rs, rfl, hs, pr, q⟩ := h
  obtain ⟨its, rv, hl, _⟩ := I.list hs
  rw [Vals.ref1 r]
  have ei := refs_are rv
  have ln : its.length = rs.length := by rw [ei, List.length_map]; exact Paired.length pr
  have tr : PySem.TruthIn X.prog X.w X.A.in1 s.heap (fun i v => its.toArray[i]? = some v) (fun i => !(rs.getD i []).isEmpty) := fun i v s' Q' E hk hi hq => by
    have hv : its[i]? = some v := by simpa using hi
    rw [ei, List.getElem?_map] at hv
    obtain ⟨b, hb, rfl⟩ := Option.map_eq_some_iff.mp hv
    obtain ⟨row, hr, hR⟩ := Paired.fst pr hb
    have hg : rs.getD i [] = row := by rw [List.getD_eq_getElem?_getD, hr]; rfl
    obtain ⟨z, nd, kv, rel, o, es, ep, h1, rest⟩ := dk_of I.hok (show H b = some (.dK (iK row)) from hR)
    refine wpAny_truthy_dict nd ⟨o, es, ep, hk _ _ h1, rest⟩ (by rw [← rel.length]; rw [sizeLine_eq] at z; omega) ?_
    have e : kv.isEmpty = row.isEmpty := by
      have q1 : (iK row).length = kv.length := rel.length
      have q2 : (iK row).length = row.length := by unfold iK; rw [List.length_map]
      cases row with
      | nil =>
        cases kv with
        | nil => rfl
        | cons _ _ => cases q1
      | cons _ _ =>
        cases kv with
        | nil => cases q1
        | cons _ _ => rfl
    rw [e, ← hg]
    exact hq _ (by omega)
  refine PySem.call_any_walkH (PySem.W.iter_listW (A := X.A.in1) (I.ok.hd hc) hl.isList fun s₂ e W st hfp hw hk => ?_)
  refine ⟨_, _, _, _, _, _, _, s.heap, _, rfl, W, st, hw, hk, tr, fun s' m => ?_⟩
  obtain ⟨h', tk, rfl, hk'⟩ := PySem.W.moved_old e rfl m
  refine ⟨.bl _, H, I.kept hk', ?_, q⟩
  show Value.bool _ = Value.bool _
  rw [List.size_toArray, ln, PySem.W.range_any (fun r : Row => !r.isEmpty) [] rs]
end Lp
namespace Lp
open PySem L2
local macro_rules | `(tactic| walk_at "rd") => `(tactic| simp only [tSeq, tAsg, tYes, tTest, tOp, tCB, tCons, tNil, tVar, tC, rI0, rI, gName, wipe, tDisp, tTru, TruV, tB, tNext, tDGet2, tLock, tDIn, tDNotIn, tOr, tNot, tChain, tAnd, tCont, tUn, rU, tPairs, tRet, tIf, tIfS, tPar, tLst, tTup, tDrop, tDGet, tCall, sDPut, L2.start,
  List.map_cons, List.map_nil, List.foldl_cons, List.foldl_nil, List.length_cons, List.length_nil, List.replicate_succ, List.replicate_zero, List.append_nil, List.cons_append, List.nil_append, List.set_cons_zero, List.set_cons_succ, List.getElem?_cons_zero, List.getElem?_cons_succ,
  Option.some.injEq, List.cons.injEq, V.int.injEq, V.bl.injEq, V.ref.injEq, V.str.injEq, exists_eq_left', exists_eq_left, exists_eq_right, and_true, true_and, exists_and_left, Nat.add_zero, Nat.reduceAdd, Nat.reduceSub, Nat.sub_zero, if_true, if_false])
/-- a def of the module, by its name -/
structure Df (P : Program) (w : World) (K : PySem.W.Frag) (mg : Str → Option Value) (base : Heap) (CX : CXT) (k : Nat) (x : Str) (ps : List Str) (sp : Sp) : Prop where
  ex : ∃ f fd, FnOk P w K mg base CX k f fd ps sp ∧ mg x = some (.ref f) ∧ PySem.W.keepIn K (.ref f) = true ∧ Binds K fd ps []
section
variable {X : Cx} {CX : CXT} {k : Nat} {ps : List Str} {sp : Sp} {x : Str} {p pos : Pos} {e : Expr} {es : List Expr} {t : TA} {E : XK}
theorem pe_df (D : Df X.prog X.w X.K X.mg X.base CX k x ps sp) (hr : Room k X.A) (hg : Gl X x) (hx : Passes CX X E)
    (ha : PA X (e :: es) t) (hdb : (x == ("__debug__" : Str)) = false := by decide) (he : starEach (e :: es) X.env = (false, eval e X.env) :: starEach es X.env := by rfl) (hpl : (backTo pos (starEach es X.env)).any (·.1) = false := by rfl) :
    PE X (.Call (.Name x p) (e :: es) [] pos) (tCall sp [] E t) := by
  obtain ⟨f, fd, F, m, k, b⟩ := D.ex
  exact pe_call F hr hg m k b .nil hx ha hdb he hpl
end
/-- a frame at x -/
structure FrameAt (C : Addr) (H : Hp) (x : Addr) (p : Int) (hl : List Int) (S : Int × Int → Row) (D : Int → Row) : Prop where
  ex : ∃ dx fs h P' St pt it, H x = some (.ins C dx fs) ∧ fs.lookup ("prime" : Str) = some (.int p) ∧ fs.lookup ("heights" : Str) = some (.ref h) ∧ H h = some (.tup (hl.map V.int)) ∧ fs.lookup ("product" : Str) = some (.ref P') ∧ TabOk H P' pt S p ∧
    fs.lookup ("step" : Str) = some (.ref St) ∧ ITabOk H St it D p
theorem ITabOk.inn {H H' : Hp} {P : Addr} {it : ITab} {S : Int → Row} {p : Int} (t : ITabOk H P it S p) (s : Same H H') : ITabOk H' P it S p := ⟨s _ _ t.tab, t.asc, fun e m => ⟨s _ _ (t.row e m).1, (t.row e m).2⟩, t.can, t.off⟩
theorem FrameAt.inn {C : Addr} {H H' : Hp} {x : Addr} {p : Int} {hl : List Int} {S : Int × Int → Row} {D : Int → Row} (t : FrameAt C H x p hl S D) (s : Same H H') : FrameAt C H' x p hl S D := by
  obtain ⟨dx, fs, h, P', St, pt, it, a1, a2, a3, a4, a5, a6, a7, a8⟩ := t.ex
  exact ⟨dx, fs, h, P', St, pt, it, s _ _ a1, a2, a3, s _ _ a4, a5, a6.inn s, a7, a8.inn s⟩
/-- all that stood stands, but at x -/
def SameBut (x : Addr) (H H' : Hp) : Prop := ∀ b o, b ≠ x → H b = some o → H' b = some o
theorem SameBut.refl (x : Addr) (H : Hp) : SameBut x H H := fun _ _ _ h => h
theorem SameBut.next {x : Addr} {H H1 H2 : Hp} (s : SameBut x H H1) (t : Same H1 H2) : SameBut x H H2 := fun b o n h => t _ _ (s b o n h)
theorem SameBut.at {x : Addr} {H H1 : Hp} {o : HO} (s : SameBut x H H1) : SameBut x H (upd H1 x o) := fun b u n h => by
  rw [upd_ne n]
  exact s b u n h
theorem SameBut.none {x : Addr} {H H1 : Hp} {a : Addr} (s : SameBut x H H1) (n : a ≠ x) (h : H1 a = none) : H a = none := by
  cases e : H a with
  | none => rfl
  | some o => rw [s _ _ n e] at h; cases h
theorem TabOk.but {x : Addr} {H H' : Hp} {P : Addr} {pt : PTab} {S : Int × Int → Row} {p : Int} (t : TabOk H P pt S p) (hx : ∃ C dx fs, H x = some (.ins C dx fs)) (s : SameBut x H H') : TabOk H' P pt S p := by
  obtain ⟨C, dx, fs, hx⟩ := hx
  exact ⟨s _ _ (ne_of (show H P = some _ from t.tab) hx (fun z => nomatch z)) t.tab, t.asc, fun e m => ⟨s _ _ (ne_of (show H e.2 = some _ from (t.row e m).1) hx (fun z => nomatch z)) (t.row e m).1, (t.row e m).2⟩, t.can, t.off⟩
theorem ITabOk.but {x : Addr} {H H' : Hp} {P : Addr} {pt : ITab} {S : Int → Row} {p : Int} (t : ITabOk H P pt S p) (hx : ∃ C dx fs, H x = some (.ins C dx fs)) (s : SameBut x H H') : ITabOk H' P pt S p := by
  obtain ⟨C, dx, fs, hx⟩ := hx
  exact ⟨s _ _ (ne_of (show H P = some _ from t.tab) hx (fun z => nomatch z)) t.tab, t.asc, fun e m => ⟨s _ _ (ne_of (show H e.2 = some _ from (t.row e m).1) hx (fun z => nomatch z)) (t.row e m).1, (t.row e m).2⟩, t.can, t.off⟩
theorem TabIn.inn {H H' : Hp} {P : Addr} {pt : PTab} {S : Int × Int → Row} {n : Nat} (t : TabIn H P pt S n) (s : Same H H') : TabIn H' P pt S n := ⟨s _ _ t.tab, t.len, t.nd, fun e m => ⟨s _ _ (t.row e m).1, (t.row e m).2⟩, t.off⟩
theorem ITabIn.inn {H H' : Hp} {P : Addr} {pt : ITab} {S : Int → Row} {n : Nat} (t : ITabIn H P pt S n) (s : Same H H') : ITabIn H' P pt S n := ⟨s _ _ t.tab, t.len, t.nd, fun e m => ⟨s _ _ (t.row e m).1, (t.row e m).2⟩, t.off⟩
theorem TabIn.but {x : Addr} {H H' : Hp} {P : Addr} {pt : PTab} {S : Int × Int → Row} {n : Nat} (t : TabIn H P pt S n) (hx : ∃ C dx fs, H x = some (.ins C dx fs)) (s : SameBut x H H') : TabIn H' P pt S n := by
  obtain ⟨C, dx, fs, hx⟩ := hx
  exact ⟨s _ _ (ne_of (show H P = some _ from t.tab) hx (fun z => nomatch z)) t.tab, t.len, t.nd, fun e m => ⟨s _ _ (ne_of (show H e.2 = some _ from (t.row e m).1) hx (fun z => nomatch z)) (t.row e m).1, (t.row e m).2⟩, t.off⟩
theorem ITabIn.but {x : Addr} {H H' : Hp} {P : Addr} {pt : ITab} {S : Int → Row} {n : Nat} (t : ITabIn H P pt S n) (hx : ∃ C dx fs, H x = some (.ins C dx fs)) (s : SameBut x H H') : ITabIn H' P pt S n := by
  obtain ⟨C, dx, fs, hx⟩ := hx
  exact ⟨s _ _ (ne_of (show H P = some _ from t.tab) hx (fun z => nomatch z)) t.tab, t.len, t.nd, fun e m => ⟨s _ _ (ne_of (show H e.2 = some _ from (t.row e m).1) hx (fun z => nomatch z)) (t.row e m).1, (t.row e m).2⟩, t.off⟩
theorem HsAt.but {x : Addr} {H H' : Hp} {a : Addr} {hl : List Int} (t : HsAt H a hl) (hx : ∃ C dx fs, H x = some (.ins C dx fs)) (s : SameBut x H H') : HsAt H' a hl := by
  obtain ⟨C, dx, fs, hx⟩ := hx
  exact t.elim (fun e => .inl (s _ _ (ne_of e hx (fun z => nomatch z)) e)) fun e => .inr (s _ _ (ne_of e hx (fun z => nomatch z)) e)
/-- the step twice is nothing -/
def TwOk (D : Int → Row) (p : Int) (n : Nat) : Prop := ∀ a : Nat, a < n → ∀ j, (sumW (D a) fun k => co (D k) j).fmod p = 0
/-- the error C with v under part, raised while the new object x is made -/
def RaisedBut (C : Addr) (x : Addr) (v : V) (H : Hp) (E : XK) : Prop := ∀ d H', SameBut x H H' → H d = none → H' d = some (.xd [("part", v)]) → E (.ref C) (some d) H'
abbrev sFrameInit : Stmt := inClass (top 32) 0
def spFrameInit (C CF : Addr) : Sp := fun vs H Q E => ∃ (x dx h Pd Sd : Addr) (hl : List Int) (pt : PTab) (S : Int × Int → Row) (it : ITab) (D : Int → Row) (p : Int), vs = [.ref x, .int p, .ref h, .ref Pd, .ref Sd] ∧ H x = some (.ins C dx []) ∧ primeB (.int p) = true ∧ HsAt H h hl ∧ hl.length ≤ 32 ∧
  heightsB (hl.map V.int) (-8) 16 = true ∧ TabIn H Pd pt S hl.length ∧ (pt.all fun e => pairB S hl p e.1) = true ∧ ITabIn H Sd it D hl.length ∧ (∀ e ∈ it, e.2 ≠ Sd) ∧ (it.all fun e => stepB D hl p e.1) = true ∧
  (BrOk (fun k => nfR p (S k)) p hl.length → TwOk (fun k => nfR p (D k)) p hl.length → RuOk (fun k => nfR p (S k)) (fun k => nfR p (D k)) hl p → ∀ H', SameBut x H H' → FrameAt C H' x p hl (fun k => nfR p (S k)) (fun k => nfR p (D k)) → Q .non H') ∧
  (¬ BrOk (fun k => nfR p (S k)) p hl.length → RaisedBut CF x (.str "bracket") H E) ∧
  (BrOk (fun k => nfR p (S k)) p hl.length → ¬ TwOk (fun k => nfR p (D k)) p hl.length → RaisedBut CF x (.str "twice") H E) ∧
  (BrOk (fun k => nfR p (S k)) p hl.length → TwOk (fun k => nfR p (D k)) p hl.length → ¬ RuOk (fun k => nfR p (S k)) (fun k => nfR p (D k)) hl p → RaisedBut CF x (.str "rule") H E)
theorem bel_nfR {p : Int} {n : Nat} {r : Row} (hp : 0 < p) (nd : Nd r) (b : Bel n r) : Bel n (nfR p r) := by
  obtain ⟨c1, c2⟩ := nfR_spec hp nd
  exact bel_of c1 c2 b
theorem prime_bd {p : Int} (h : primeB (.int p) = true) : 0 < p ∧ p ≤ 31 := by
  have h' : inV (.int p) (primes.map V.int) = true := h
  have key : ∀ l : List Int, inV (.int p) (l.map V.int) = true → p ∈ l := by
    intro l
    induction l with
    | nil => intro h; cases h
    | cons a l ih =>
      intro h
      rw [List.map_cons] at h
      have e : (eqV (.int a) (.int p) || inV (.int p) (l.map V.int)) = true := h
      rcases Bool.or_eq_true_iff.mp e with e | e
      · have : a = p := by simpa [eqV] using e
        rw [← this]; exact List.mem_cons_self
      · exact List.mem_cons_of_mem _ (ih e)
  have m := key _ h'
  have all : ∀ q ∈ primes, 0 < q ∧ q ≤ 31 := by decide
  exact all p m
end Lp
namespace Lp
open PySem L2
local macro_rules | `(tactic| walk_at "rd") => `(tactic| simp only [tSeq, tAsg, tYes, tTest, tOp, tCB, tCons, tNil, tVar, tC, rI0, rI, gName, wipe, tDisp, tTru, TruV, tB, tNext, tDGet2, tLock, tDIn, tDNotIn, tOr, tNot, tChain, tAnd, tCont, tUn, rU, tPairs, tRet, tIf, tIfS, tPar, tLst, tTup, tDrop, tDGet, tCall, sDPut, L2.start,
  List.map_cons, List.map_nil, List.foldl_cons, List.foldl_nil, List.length_cons, List.length_nil, List.replicate_succ, List.replicate_zero, List.append_nil, List.cons_append, List.nil_append, List.set_cons_zero, List.set_cons_succ, List.getElem?_cons_zero, List.getElem?_cons_succ,
  Option.some.injEq, List.cons.injEq, V.int.injEq, V.bl.injEq, V.ref.injEq, V.str.injEq, exists_eq_left', exists_eq_left, exists_eq_right, and_true, true_and, exists_and_left, Nat.add_zero, Nat.reduceAdd, Nat.reduceSub, Nat.sub_zero, if_true, if_false])
theorem passX {X : Cx} {E : XK} (tk : Takes X fun cls d _ H => E cls d H) : Passes (L2.CX X.prog X.w) X E := passes_call tk fun _ _ _ _ h => h
theorem raise_but {C x a d : Addr} {v : V} {H H1 : Hp} {E : XK} (s : SameBut x H H1) (hx : ∃ o, H1 x = some o) (r : RaisedBut C x v H E) {H' : Hp} {o : HO} (na : H1 a = none) (h3 : (upd H1 a o) d = none)
    (h4 : ∀ b o', (upd H1 a o) b = some o' → b ≠ a → H' b = some o') : E (.ref C) (some d) (upd (del H' a) d (.xd [("part", v)])) := by
  have nd1 : H1 d = none := none_upd h3
  obtain ⟨ox, hx⟩ := hx
  have ndx : d ≠ x := fun e => by rw [e, hx] at nd1; cases nd1
  refine r d _ (fun b u n e => ?_) (s.none ndx nd1) upd_same
  have e1 := s b u n e
  have nba : b ≠ a := ne_of_none e1 na
  rw [upd_ne (ne_of_none e1 nd1), del_ne nba]
  exact h4 _ _ (by rw [upd_ne nba]; exact e1) nba
theorem kP1 : ¬ (("prime" : Str) = "heights") := by decide +kernel
theorem kP2 : ¬ (("prime" : Str) = "product") := by decide +kernel
theorem kP3 : ¬ (("prime" : Str) = "step") := by decide +kernel
theorem kP4 : ¬ (("heights" : Str) = "product") := by decide +kernel
theorem kP5 : ¬ (("heights" : Str) = "step") := by decide +kernel
theorem kP6 : ¬ (("product" : Str) = "step") := by decide +kernel
def fl1 (p : Int) : List (Str × V) := putF "prime" (.int p) []
def fl2 (p : Int) (h : Addr) : List (Str × V) := putF "heights" (.ref h) (fl1 p)
def fl3 (p : Int) (h P : Addr) : List (Str × V) := putF "product" (.ref P) (fl2 p h)
def fl4 (p : Int) (h P S : Addr) : List (Str × V) := putF "step" (.ref S) (fl3 p h P)
theorem fl4_1 (p : Int) (h P S : Addr) : (fl4 p h P S).lookup ("prime" : Str) = some (.int p) := by
  unfold fl4 fl3 fl2 fl1
  rw [lookup_putF, if_neg kP3, lookup_putF, if_neg kP2, lookup_putF, if_neg kP1, lookup_putF, if_pos rfl]
theorem fl4_2 (p : Int) (h P S : Addr) : (fl4 p h P S).lookup ("heights" : Str) = some (.ref h) := by
  unfold fl4 fl3 fl2 fl1
  rw [lookup_putF, if_neg kP5, lookup_putF, if_neg kP4, lookup_putF, if_pos rfl]
theorem fl4_3 (p : Int) (h P S : Addr) : (fl4 p h P S).lookup ("product" : Str) = some (.ref P) := by
  unfold fl4 fl3 fl2 fl1
  rw [lookup_putF, if_neg kP6, lookup_putF, if_pos rfl]
theorem fl4_4 (p : Int) (h P S : Addr) : (fl4 p h P S).lookup ("step" : Str) = some (.ref S) := by
  unfold fl4 fl3 fl2 fl1
  rw [lookup_putF, if_pos rfl]
theorem len_putF_le (n : Str) (v : V) (fs : List (Str × V)) : (putF n v fs).length ≤ fs.length + 1 := by
  induction fs with
  | nil => exact Nat.le_refl _
  | cons q fs ih =>
    show (if q.1 = n then (q.1, v) :: fs else q :: putF n v fs).length ≤ _
    by_cases e : q.1 = n
    · rw [if_pos e]; simp
    · rw [if_neg e, List.length_cons, List.length_cons]; omega
theorem or_tup {K : PySem.W.Frag} {H : Hp} {h : Addr} {hl : List Int} {Q : VK} (hH : HsAt H h hl) (k : ∀ h2 H5, Same H H5 → H5 h2 = some (.tup (hl.map V.int)) → Q (.ref h2) H5) :
    (SqL K H h (hl.map V.int) ∧ ∀ l, H l = none → Q (.ref l) (upd H l (.tup (hl.map V.int)))) ∨ (SqT K H h (hl.map V.int) ∧ Q (.ref h) H) :=
  hH.elim (fun e => .inl ⟨SqL.of e, fun l hl => k l _ (same_new hl) upd_same⟩) fun e => .inr ⟨SqT.of e, k h H (Same.refl H) e⟩
theorem call_tupHs {X : Cx} : CallR X (.type "tuple") (fun xs H Q => ∃ h hl, xs = [.ref h] ∧ HsAt H h hl ∧ ∀ h2 H5, Same H H5 → H5 h2 = some (.tup (hl.map V.int)) → Q (.ref h2) H5) := by
  intro pins s σ H xs us Q I r ⟨h, hl, e, hH, k⟩
  exact call_tuple_of pins s σ H xs us Q I r ⟨h, hl.map V.int, e, or_tup hH k⟩
theorem Paired.imp2 {α β : Type} {R S : α → β → Prop} (h : ∀ a b, R a b → S a b) : ∀ {xs : List α} {ys : List β}, Paired R xs ys → Paired S xs ys
  | _, _, .nil => .nil
  | _, _, .cons r t => .cons (h _ _ r) (Paired.imp2 h t)
theorem Paired.app {α β : Type} {R : α → β → Prop} : ∀ {xs : List α} {ys : List β} {us : List α} {vs : List β}, Paired R xs ys → Paired R us vs → Paired R (xs ++ us) (ys ++ vs)
  | _, _, _, _, .nil, q => q
  | _, _, _, _, .cons r t, q => .cons r (Paired.app t q)
theorem at_snoc {α : Type} {l : List α} {x y : α} {k : Nat} (h : (l ++ [x])[k]? = some y) : l[k]? = some y ∨ (k = l.length ∧ y = x) := by
  by_cases lt : k < l.length
  · rw [List.getElem?_append_left lt] at h
    exact .inl h
  · rw [List.getElem?_append_right (by omega)] at h
    have lt2 := (List.getElem?_eq_some_iff.mp h).1
    simp only [List.length_singleton] at lt2
    have e : k = l.length := by omega
    subst e
    rw [Nat.sub_self] at h
    exact .inr ⟨rfl, (Option.some.inj h).symm⟩
theorem SameBut.more {x : Addr} {H H1 H2 : Hp} (s : SameBut x H H1) (t : SameBut x H1 H2) : SameBut x H H2 := fun b o n h => t _ _ n (s b o n h)
section
variable {P : Program} {w : World} {K : PySem.W.Frag} {mg : Str → Option Value} {base : Heap}
theorem scFI : FnScope ["self", "prime", "heights", "product", "step", "steps", "row"] ["self", "prime", "heights", "product", "step"] (defScope sFrameInit) := ⟨rfl, rfl, rfl, by decide +kernel, rfl, by decide +kernel, by decide +kernel⟩
theorem ok_frame_init {f C CF CP fI : Addr} {fd dI : FuncData} (F : Fun K "__init__" "Frame.__init__" sFrameInit f fd) (T : FrameC K C) (TF : ErrI P w K mg base "BadFrame" "part" CF fI dI)
    (NP : Df P w K mg base (L2.CX P w) 3 "need_prime" ["prime"] (spNeedP K CP)) (AH : Df P w K mg base CX0 3 "are_heights" ["thing", "least", "most"] (spAreH K)) (IP : Df P w K mg base CX0 5 "_is_product" ["thing", "heights", "prime"] spIsProd)
    (IS : Df P w K mg base CX0 5 "_is_step" ["thing", "heights", "prime"] spIsStep) (TP : Df P w K mg base CX0 2 "tidied_table" ["table", "prime"] spTabP) (TI : Df P w K mg base CX0 2 "tidied_table" ["table", "prime"] spTabI)
    (FB : Df P w K mg base CX0 3 "_is_free_of_brackets" ["prime", "size", "product"] spFree) (SO : Df P w K mg base CX0 1 "steps_of" ["frame"] (spStepsOf C)) (LD : Df P w K mg base CX0 2 "led" ["rows", "row", "prime"] spLed)
    (KR : Df P w K mg base CX0 3 "_keeps_rule" ["prime", "heights", "product", "steps"] spRule) (mLen : mg "len" = none) (mTup : mg "tuple" = none) (mAny : mg "any" = none) :
    FnOk P w K mg base (L2.CX P w) 6 f fd ["self", "prime", "heights", "product", "step"] (spFrameInit C CF) := by
  refine F.okX scFI (fun vs H Q E h => ?_) (fun cdv A outer s H vs Q E hr h => ?_)
  · obtain ⟨x, dx, h', Pd, Sd, hl, pt, S, it, D, p, rfl, _⟩ := h
    rfl
  · obtain ⟨x, dx, h', Pd, Sd, hl, pt, S, it, D, p, rfl, hx, hpr, hH, zh, hhB, IT, hpB, II, nSd, hsB, good, bad1, bad2, bad3⟩ := h
    have hu := hu_of hr
    refine ⟨_, pss_cons (ps_expr (pe_df NP (hr.mono (by decide)) (by rfl) (passX (takes_of rfl rfl rfl rfl)) (pa_cons (pv 1) pa_nil)))
      (pss_cons (ps_if (pt_not (pt_val (pe_df AH (hr.mono (by decide)) (by rfl) pass0 (pa_cons (pv 2) (pa_cons (pe_un un_neg pe_int) (pa_cons pe_int pa_nil))))))
        (pss_one (ps_raise rfl (takes_of rfl rfl rfl rfl) (pmk_oex TF.oex TF.init TF.ty TF.ok (hr.mono (by decide)) TF.bd .nil pass0 (by rfl) TF.g (pa_cons pe_str pa_nil)))) pss_nil)
      (pss_cons (ps_if (pt_not (pt_val (pe_df IP hr (by rfl) pass0 (pa_cons (pv 3) (pa_cons (pv 2) (pa_cons (pv 1) pa_nil))))))
        (pss_one (ps_raise rfl (takes_of rfl rfl rfl rfl) (pmk_oex TF.oex TF.init TF.ty TF.ok (hr.mono (by decide)) TF.bd .nil pass0 (by rfl) TF.g (pa_cons pe_str pa_nil)))) pss_nil)
      (pss_cons (ps_if (pt_not (pt_val (pe_df IS hr (by rfl) pass0 (pa_cons (pv 4) (pa_cons (pv 2) (pa_cons (pv 1) pa_nil))))))
        (pss_one (ps_raise rfl (takes_of rfl rfl rfl rfl) (pmk_oex TF.oex TF.init TF.ty TF.ok (hr.mono (by decide)) TF.bd .nil pass0 (by rfl) TF.g (pa_cons pe_str pa_nil)))) pss_nil)
      (pss_cons (ps_fld (pv 0) (pv 1) rfl)
      (pss_cons (ps_fld (pv 0) (pe_callTy call_tupHs (by rfl) mTup (by decide +kernel) (pa_cons (pv 2) pa_nil)) rfl)
      (pss_cons (ps_fld (pv 0) (pe_df TP (hr.mono (by decide)) (by rfl) pass0 (pa_cons (pv 3) (pa_cons (pv 1) pa_nil))) rfl)
      (pss_cons (ps_fld (pv 0) (pe_df TI (hr.mono (by decide)) (by rfl) pass0 (pa_cons (pv 4) (pa_cons (pv 1) pa_nil))) rfl)
      (pss_cons (ps_if (pt_not (pt_val (pe_df FB (hr.mono (by decide)) (by rfl) pass0 (pa_cons (pv 1) (pa_cons (pe_callB call_len_seq (by rfl) mLen PySem.boot_len (pa_cons (pv 2) pa_nil)) (pa_cons (pe_fld (pv 0) rfl) pa_nil))))))
        (pss_one (ps_raise rfl (takes_of rfl rfl rfl rfl) (pmk_oex TF.oex TF.init TF.ty TF.ok (hr.mono (by decide)) TF.bd .nil pass0 (by rfl) TF.g (pa_cons pe_str pa_nil)))) pss_nil)
      (pss_cons (ps_set (i := 5) scFI.nd rfl (Or.inr rfl) (pe_df SO (hr.mono (by decide)) (by rfl) pass0 (pa_cons (pv 0) pa_nil)))
      (pss_cons (ps_if (pt_val (pe_callB (cr_anyD rfl) (by rfl) mAny (by decide +kernel) (pa_cons (pe_lc (own := [("row", 6)]) (g := gName 6) (tt := tYes) rfl scFI.nd (pi_list (pv 5)) (blkOk_by (N := ["self", "prime", "heights", "product", "step", "steps", "row"]) (sc := defScope sFrameInit) (by decide +kernel))
          (fun _ _ _ _ _ => pg_name (i := 6) scFI.nd rfl (Or.inl rfl)) (fun _ _ _ _ _ => pts_nil) (fun _ _ _ _ _ => pe_df LD (hr.mono (by decide)) (by rfl) pass0 (pa_cons (pv 5) (pa_cons (pv 6) (pa_cons (pv 1) pa_nil))))) pa_nil)))
        (pss_one (ps_raise rfl (takes_of rfl rfl rfl rfl) (pmk_oex TF.oex TF.init TF.ty TF.ok (hr.mono (by decide)) TF.bd .nil pass0 (by rfl) TF.g (pa_cons pe_str pa_nil)))) pss_nil)
      (pss_one (ps_if (pt_not (pt_val (pe_df KR (hr.mono (by decide)) (by rfl) pass0 (pa_cons (pv 1) (pa_cons (pe_fld (pv 0) rfl) (pa_cons (pe_fld (pv 0) rfl) (pa_cons (pv 5) pa_nil)))))))
        (pss_one (ps_raise rfl (takes_of rfl rfl rfl rfl) (pmk_oex TF.oex TF.init TF.ty TF.ok (hr.mono (by decide)) TF.bd .nil pass0 (by rfl) TF.g (pa_cons pe_str pa_nil)))) pss_nil)))))))))))), ?_⟩
    obtain ⟨hp, hp2⟩ := prime_bd hpr
    have hxe : ∃ C dx fs, H x = some (.ins C dx fs) := ⟨_, _, _, hx⟩
    -- need_prime(prime)
    refine ⟨_, rfl, .int p, "int", rfl, KindV.int _, fun _ => ?_, fun e => by rw [hpr] at e; cases e⟩
    -- are_heights
    obtain ⟨sk, kv, skb⟩ : ∃ s, KindV K H (.ref h') s ∧ (s == "list" || s == "tuple") = true := by
      rcases hH with e | e
      · exact ⟨"list", ⟨.base (.lst e), by decide⟩, rfl⟩
      · exact ⟨"tuple", ⟨.base (.tup e), by decide⟩, rfl⟩
    refine ⟨_, rfl, 8, rfl, .ref h', sk, -8, 16, rfl, kv, fun z _ _ => absurd z (by rw [skb]; decide), fun _ => ⟨h', hl.map V.int, rfl, hH, by rw [List.length_map]; omega, fun e m => ?_, fun H1 s1 => ⟨_, rfl, ?_⟩⟩⟩
    · obtain ⟨i, _, rfl⟩ := List.mem_map.mp m
      exact ⟨"int", KindV.int _⟩
    rw [hhB]
    refine iteF ?_
    -- _is_product
    refine ⟨_, rfl, _, rfl, _, rfl, Pd, h', pt, S, hl.length, hl, p, rfl, IT.inn s1, by omega, hH.same s1, by omega, hp, fun H2 s2 => ⟨_, rfl, ?_⟩⟩
    rw [hpB]
    refine iteF ?_
    have s12 := s1.trans s2
    -- _is_step
    refine ⟨_, rfl, _, rfl, _, rfl, Sd, h', it, D, hl.length, hl, p, rfl, II.inn s12, nSd, by omega, hH.same s12, by omega, hp, fun H3 s3 => ⟨_, rfl, ?_⟩⟩
    rw [hsB]
    refine iteF ?_
    have s13 := s12.trans s3
    -- self.prime = prime
    refine ⟨_, rfl, _, rfl, x, C, dx, [], rfl, s13 _ _ hx, T.cl, T.n1, by show 0 < 1000; decide, ?_⟩
    have b4 : SameBut x H (upd H3 x (.ins C dx (fl1 p))) := SameBut.at (SameBut.next (.refl x H) s13)
    generalize e4 : upd H3 x (.ins C dx (fl1 p)) = H4 at b4
    have hx4 : H4 x = some (.ins C dx (fl1 p)) := by rw [← e4]; exact upd_same
    have e4' : upd H3 x (.ins C dx (putF "prime" (.int p) [])) = H4 := e4
    rw [e4']
    have l1 : (fl1 p).length ≤ 1 := len_putF_le _ _ _
    have l2 : ∀ h, (fl2 p h).length ≤ 2 := fun h => Nat.le_trans (len_putF_le _ _ _) (by omega)
    have l3 : ∀ h P, (fl3 p h P).length ≤ 3 := fun h P => Nat.le_trans (len_putF_le _ _ _) (by have := l2 h; omega)
    -- self.heights = tuple(heights)
    refine ⟨_, rfl, h', hl, rfl, hH.but hxe b4, fun h2 H5 s5 ht => ?_⟩
    have hx5 : H5 x = some (.ins C dx (fl1 p)) := s5 _ _ hx4
    have b5 : SameBut x H H5 := b4.next s5
    refine ⟨_, rfl, x, C, dx, _, rfl, hx5, T.cl, T.n2, by omega, ?_⟩
    have q6 : SameBut x H5 (upd H5 x (.ins C dx (fl2 p h2))) := (SameBut.refl x H5).at
    have e6' : upd H5 x (.ins C dx (putF "heights" (.ref h2) (fl1 p))) = upd H5 x (.ins C dx (fl2 p h2)) := rfl
    rw [e6']
    have hx6 : upd H5 x (.ins C dx (fl2 p h2)) x = some (.ins C dx (fl2 p h2)) := upd_same
    generalize upd H5 x (.ins C dx (fl2 p h2)) = H6 at q6 hx6 ⊢
    have nh2 : h2 ≠ x := ne_of ht hx5 (fun z => nomatch z)
    have ht6 := q6 _ _ nh2 ht
    have b6 := b5.more q6
    -- self.product = tidied_table(product, prime)
    refine ⟨_, rfl, _, rfl, Pd, pt, S, hl.length, p, rfl, IT.but hxe b6, by omega, hp, fun H7 P7 pt7 s7 n7 T7 _ => ?_⟩
    have hx7 := s7 _ _ hx6
    have ht7 := s7 _ _ ht6
    have b7 := b6.next s7
    have l2' := l2 h2
    refine ⟨_, rfl, x, C, dx, _, rfl, hx7, T.cl, T.n3, by omega, ?_⟩
    have q8 : SameBut x H7 (upd H7 x (.ins C dx (fl3 p h2 P7))) := (SameBut.refl x H7).at
    have e8' : upd H7 x (.ins C dx (putF "product" (.ref P7) (fl2 p h2))) = upd H7 x (.ins C dx (fl3 p h2 P7)) := rfl
    rw [e8']
    have hx8 : upd H7 x (.ins C dx (fl3 p h2 P7)) x = some (.ins C dx (fl3 p h2 P7)) := upd_same
    generalize upd H7 x (.ins C dx (fl3 p h2 P7)) = H8 at q8 hx8 ⊢
    have T8 := T7.but ⟨_, _, _, hx7⟩ q8
    have ht8 := q8 _ _ nh2 ht7
    have b8 := b7.more q8
    -- self.step = tidied_table(step, prime)
    refine ⟨_, rfl, _, rfl, Sd, it, D, hl.length, p, rfl, II.but hxe b8, by omega, hp, fun H9 P9 it9 s9 n9 I9 _ => ?_⟩
    have hx9 := s9 _ _ hx8
    have ht9 := s9 _ _ ht8
    have b9 := b8.next s9
    have l3' := l3 h2 P7
    refine ⟨_, rfl, x, C, dx, _, rfl, hx9, T.cl, T.n4, by omega, ?_⟩
    have q10 : SameBut x H9 (upd H9 x (.ins C dx (fl4 p h2 P7 P9))) := (SameBut.refl x H9).at
    have e10' : upd H9 x (.ins C dx (putF "step" (.ref P9) (fl3 p h2 P7))) = upd H9 x (.ins C dx (fl4 p h2 P7 P9)) := rfl
    rw [e10']
    have hx10 : upd H9 x (.ins C dx (fl4 p h2 P7 P9)) x = some (.ins C dx (fl4 p h2 P7 P9)) := upd_same
    generalize upd H9 x (.ins C dx (fl4 p h2 P7 P9)) = H10 at q10 hx10 ⊢
    have T10 := (T8.inn s9).but ⟨_, _, _, hx9⟩ q10
    have I10 := I9.but ⟨_, _, _, hx9⟩ q10
    have ht10 := q10 _ _ nh2 ht9
    have b10 := b9.more q10
    have belS : ∀ k, Bel hl.length (nfR p (S k)) := fun k => by
      by_cases e : ∃ e ∈ pt, e.1 = k
      · obtain ⟨e, m, rfl⟩ := e
        exact bel_nfR hp (IT.row e m).2.1 (IT.row e m).2.2
      · rw [IT.off k fun e' m z => e ⟨e', m, z⟩, nfR_nil]
        exact fun q m => nomatch m
    have belD : ∀ k, Bel hl.length (nfR p (D k)) := fun k => by
      by_cases e : ∃ e ∈ it, e.1 = k
      · obtain ⟨e, m, rfl⟩ := e
        exact bel_nfR hp (II.row e m).2.1 (II.row e m).2.2
      · rw [II.off k fun e' m z => e ⟨e', m, z⟩, nfR_nil]
        exact fun q m => nomatch m
    -- _is_free_of_brackets
    refine ⟨_, rfl, _, rfl, h', _, rfl, (hH.but hxe b10).imp SqL.of SqT.of, ?_⟩
    rw [List.length_map]
    refine ⟨_, rfl, x, C, dx, _, _, rfl, hx10, T.cl, T.n3, fl4_3 _ _ _ _, P7, pt7, _, hl.length, p, rfl, T10, belS, by omega, hp, hp2, fun b H11 hb s11 => ⟨_, rfl, ?_⟩⟩
    have b11 := b10.next s11
    have hx11 := s11 _ _ hx10
    cases b with
    | false =>
      refine iteT ⟨by show 1 ≤ 1000; decide, fun a na => ⟨a, .str "bracket", rfl, upd_same, .txt _ (by decide), fun H' dx' h1 h2 h3 h4 => ⟨rfl, dx', _, h1, h2, none_upd h3, ?_⟩⟩⟩
      exact raise_but b11 ⟨_, hx11⟩ (bad1 fun z => nomatch hb.mpr z) na h3 h4
    | true =>
      refine iteF ?_
      have hbr := hb.mp rfl
      -- steps = steps_of(self)
      refine ⟨_, rfl, x, dx, h2, P9, _, hl, it9, _, p, rfl, hx11, fl4_2 _ _ _ _, .inr (s11 _ _ ht10), fl4_4 _ _ _ _, I10.inn s11, belD, by omega, fun H12 L s12 nL hL => ?_⟩
      have b12 := b11.next s12
      have hx12 := s12 _ _ hx11
      obtain ⟨as, ea, hLl, hrow⟩ := hL.ex
      -- any([led(steps, row, prime) for row in steps])
      have can : ∀ k, Canon p (nfR p (D k)) := I10.can
      refine ⟨_, rfl, L, rfl, ⟨_, SqL.of hLl⟩, fun Dd hD => ?_⟩
      refine lc_it walk_list (fun i H' => Same H12 H' ∧ ∃ (bs : List Addr) (rs : List Row), bs.length = i ∧ rs.length = i ∧ H' Dd = some (.lst (bs.map V.ref)) ∧ Paired (RowAt H') bs rs ∧
        ∀ (k : Nat) (r : Row), rs[k]? = some r → Canon p r ∧ ∀ j, co r j = (sumW (nfR p (D k)) fun m => co (nfR p (D m)) j).fmod p) ⟨same_new hD, [], [], rfl, rfl, upd_same, .nil, fun k r h => by cases h⟩ (fun i H' _ h => SqL.of (h.1 _ _ hLl)) ?_ ?_
      · rintro i y H' H'' hi ⟨t1, bs, rs, z1, z2, hB, hP, hC⟩ ⟨rfl, hy⟩
        rw [List.getElem?_map] at hy
        cases ey : as[i]? with
        | none => rw [ey] at hy; cases hy
        | some ai =>
          rw [ey] at hy
          cases hy
          have li : i < as.length := (List.getElem?_eq_some_iff.mp ey).1
          have rowi := hrow i ai ey
          have zi := row_len (can i).nd (belD i)
          show gName 6 (.ref ai) _ _ _
          walk_at "rd"
          refine ⟨L, ai, as, nfR p (D i), fun k => nfR p (D k), p, hl.length, rfl, t1 _ _ hLl, t1 _ _ rowi, (can i).nd, by rw [ea]; exact belD i, by omega, by omega, fun q m => ?_, hp, fun H14 qa r' t2 nq hq c1 c2 c3 => ?_⟩
          · have b1 := belD i q m
            have b2 := (can i).num q m
            have lt : q.1.toNat < as.length := by omega
            refine ⟨by omega, as[q.1.toNat], List.getElem?_eq_getElem lt, ?_, (can _).nd, belD _⟩
            have e0 : ((q.1.toNat : Nat) : Int) = q.1 := Int.toNat_of_nonneg b1.1
            have := hrow q.1.toNat _ (List.getElem?_eq_getElem lt)
            rw [e0] at this
            exact t1 _ _ this
          · have hB2 := t2 _ _ hB
            have nqD : qa ≠ Dd := fun e => by rw [e] at nq; rw [hB] at nq; cases nq
            refine ⟨_, hB2, by rw [List.length_map]; exact small1000 (by omega), same_upd (t1.trans t2) hD, bs ++ [qa], by rw [List.length_append, z1]; rfl, rs ++ [r'], by rw [List.length_append, z2]; rfl, ?_, ?_, fun k r hk => ?_⟩
            · rw [upd_same, List.map_append]
              rfl
            · have keep : ∀ b r, RowAt H14 b r → RowAt (upd H14 Dd (.lst (bs.map V.ref ++ [.ref qa]))) b r := fun b r h => by
                unfold RowAt
                rw [upd_ne (ne_of (show H14 b = some _ from h) hB2 (fun z => nomatch z))]
                exact h
              exact Paired.imp2 keep (Paired.app (Paired.imp2 (fun a b h => t2 _ _ h) hP) (.cons hq .nil))
            · rcases at_snoc hk with hk | ⟨rfl, rfl⟩
              · exact hC k r hk
              · rw [z2]
                exact ⟨c1, c3⟩
      · rintro H13 ⟨t1, bs, rs, z1, z2, hB, hP, hC⟩
        rw [List.length_map] at z1 z2
        refine ⟨Dd, bs, rs, rfl, SqL.of hB, hP, _, rfl, ?_⟩
        have b13 := b12.next t1
        have hx13 := t1 _ _ hx12
        have tw : (rs.any fun r => !r.isEmpty) = false ↔ TwOk (fun k => nfR p (D k)) p hl.length := by
          rw [List.any_eq_false]
          constructor
          · intro h a ha j
            have lt : a < rs.length := by omega
            have := h rs[a] (List.getElem_mem lt)
            obtain ⟨_, c3⟩ := hC a _ (List.getElem?_eq_getElem lt)
            have e : rs[a] = [] := by
              cases h2 : rs[a] with
              | nil => rfl
              | cons _ _ => rw [h2] at this; exact absurd rfl this
            rw [e] at c3
            exact (c3 j).symm
          · intro h r m
            obtain ⟨k, hk⟩ := List.mem_iff_getElem?.mp m
            obtain ⟨c1, c3⟩ := hC k r hk
            have lk : k < rs.length := (List.getElem?_eq_some_iff.mp hk).1
            have e : r = [] := Canon.ext c1 ⟨List.Pairwise.nil, fun q m => nomatch m⟩ fun j => by
              rw [c3, h k (by omega)]
              rfl
            rw [e]
            exact fun z => nomatch z
        cases et : rs.any fun r => !r.isEmpty with
        | true =>
          have nt : ¬ TwOk (fun k => nfR p (D k)) p hl.length := fun z => by rw [tw.mpr z] at et; cases et
          refine iteT ⟨by show 1 ≤ 1000; decide, fun a na => ⟨a, .str "twice", rfl, upd_same, .txt _ (by decide), fun H' dx' h1 h2 h3 h4 => ⟨rfl, dx', _, h1, h2, none_upd h3, ?_⟩⟩⟩
          exact raise_but b13 ⟨_, hx13⟩ (bad2 hbr nt) na h3 h4
        | false =>
          refine iteF ?_
          have htw := tw.mp et
          -- _keeps_rule
          refine ⟨_, rfl, _, rfl, x, C, dx, _, _, rfl, hx13, T.cl, T.n2, fl4_2 _ _ _ _, ?_⟩
          refine ⟨_, rfl, x, C, dx, _, _, rfl, hx13, T.cl, T.n3, fl4_3 _ _ _ _, ?_⟩
          refine ⟨_, rfl, h2, P7, L, pt7, _, _, hl, p, rfl, .inr (t1 _ _ (s12 _ _ (s11 _ _ ht10))), ((T10.inn s11).inn s12).inn t1, belS, hL.inn t1, by omega, hp, hp2, fun b H14 hb2 s14 => ⟨_, rfl, ?_⟩⟩
          have b14 := b13.next s14
          have hx14 := s14 _ _ hx13
          cases b with
          | false =>
            refine iteT ⟨by show 1 ≤ 1000; decide, fun a na => ⟨a, .str "rule", rfl, upd_same, .txt _ (by decide), fun H' dx' h1 h2 h3 h4 => ⟨rfl, dx', _, h1, h2, none_upd h3, ?_⟩⟩⟩
            exact raise_but b14 ⟨_, hx14⟩ (bad3 hbr htw fun z => nomatch hb2.mpr z) na h3 h4
          | true =>
            refine iteF ?_
            have up := ((s11.trans s12).trans t1).trans s14
            exact good hbr htw (hb2.mp rfl) H14 b14 ⟨dx, _, h2, P7, P9, pt7, it9, hx14, fl4_1 _ _ _ _, fl4_2 _ _ _ _, up _ _ ht10, fl4_3 _ _ _ _, T10.inn up, fl4_4 _ _ _ _, I10.inn up⟩
end
end Lp
namespace Lp
open PySem PySem.Spec PySem.Calls PyProof.Rows L2 LamX
/-! ### a lambda as a value, called from within a built-in -/
def lamQ (x : Str) : Str := x ++ "<lambda>"
/-- the lambda at f, its code object at c' -/
def LamO (q : Str) (params : Arguments) (body : Expr) (scope : Scope) (cl : List (Str × Addr)) (c' f : Addr) : HO := .ext fun h => ∃ pm ctv, h.get? f = some (PySem.W.kla_obj "<lambda>" q params body scope cl pm c' ctv)
theorem lamO_ne {q : Str} {params : Arguments} {body : Expr} {scope : Scope} {cl : List (Str × Addr)} {c' f : Addr} (ps : Array Value) : LamO q params body scope cl c' f ≠ .tbl ps := fun z => by
  unfold LamO at z
  cases z
section
variable {X : Cx} {pins : List (Addr × Obj)} {σ : L2.St} {H : Hp} {s : Shared}
theorem laidLam {q : Str} {params : Arguments} {body : Expr} {scope : Scope} {cl : List (Str × Addr)} {c' : Addr} {pm ctv : Value} {h' : Heap} {tk : Nat} (I : Inv X pins σ H { s with heap := h', toks := tk }) :
    Inv X pins σ (upd H h'.objs.size (LamO q params body scope cl c' h'.objs.size)) { s with heap := h'.push (PySem.W.kla_obj "<lambda>" q params body scope cl pm c' ctv), toks := tk } :=
  I.laid (t' := tk) (fun b o e => Heap.get?_push_of_some _ e) (Nat.le_refl _) ⟨⟨pm, ctv, Heap.get?_push_size _ rfl⟩, ⟨_, Heap.get?_push_size _ rfl⟩, fun g1 g2 ⟨pm, ctv, e⟩ st => ⟨pm, ctv, st _ e⟩⟩
theorem lam_make3 {T : List (Addr × Str)} {c P : Addr} {params : Arguments} {body : Expr} {scope : Scope} {pos : Pos} {E : Value → Shared → Prop} {Q : Value → Shared → Prop}
    (I : Inv X pins σ H s) (TB : TabB X.base X.mg c P) (hcode : X.env.code = .ref c) (hm : (P, lamQ X.env.qual) ∈ T) (hu : ∀ p ∈ T, p.1 = P → p.2 = lamQ X.env.qual) (hT : Tabs T H) (hdef : defaultsOf params X.env = ([], [])) (hfree : ∀ y ∈ scope.names, y.2 = .free → ∃ c, X.env.cells.lookup y.1 = some c)
    (h : ∀ (f c' : Addr) (H1 : Hp) (s' : Shared), Inv X pins σ (upd H1 f (LamO (lamQ X.env.qual) params body scope (cloFrom X.env.cells scope.names []) c' f)) s' → ExtN H H1 → Tabs T H1 → H1 f = none → f ≠ c' → H1 c' = some (CodeO c' (lamQ X.env.qual)) → Q (.ref f) s') :
    wpAny (model X.prog X.w) X.A (eval (.Lambda params body scope pos) X.env) Q E s := by
  obtain ⟨ps, hP, ht, ha⟩ := hT _ hm
  refine PySem.W.kla_eval hdef ?_
  have bP := TB.bm.keeps I.bk
  have hP' : s.heap.get? P = some { cls := .none, data := .fields ps } := I.hok P _ hP
  cases hc : codeAmong pos ps.toList with
  | none =>
    refine PySem.W.kla_makeFunction (mg := X.mg) (c := c) (P := P) (ps := ps) (closure_ok hfree) I.ok.glob (I.mod.glob.keeps I.bk) hcode (TB.code.keeps I.bk) hP' ht hc TB.gP bP fun c' ctv h' tk hx hge hlt ⟨c2, oc, vs, t, e2, hoc, hd, hv⟩ htb => ?_
    cases e2
    have nC : H c' = none := I.hok.fresh hge
    have I1 := inv_table (t' := tk) (more := #[rawInt pos.line, rawInt pos.col, .ref c']) (h' := h') I hP hx htb hge ⟨oc, vs, t, hoc, hd, hv⟩
    have nPc : P ≠ c' := ne_of_none hP nC
    have hE : ExtN H (upd (upd H P (.tbl (ps ++ #[rawInt pos.line, rawInt pos.col, .ref c']))) c' (CodeO c' (lamQ X.env.qual))) := fun b o e n => by
      rw [upd_ne (ne_of_none e nC), upd_ne (fun z => n ps (by rw [z, hP] at e; exact (Option.some.inj e).symm))]; exact e
    have sz : s.heap.objs.size ≤ h'.objs.size := by omega
    refine h h'.objs.size c' _ _ (laidLam I1) hE (fun p hp => ?_) ?_ (Nat.ne_of_gt hlt) upd_same
    · by_cases hb : p.1 = P
      · rw [hu p hp hb, hb]
        have eL : (ps ++ #[rawInt pos.line, rawInt pos.col, .ref c']).toList = ps.toList ++ [rawInt pos.line, rawInt pos.col, .ref c'] := Array.toList_append
        refine ⟨_, (upd_ne nPc).trans upd_same, eL ▸ PySem.TriplesOk_snoc _ _ _ _ ht, fun p' cv hcv => ?_⟩
        exact (among_app _ ht (eL ▸ hcv)).elim (fun z => let ⟨c0, e1, e2⟩ := ha p' cv z; ⟨c0, e1, hE _ _ e2 codeO_ne⟩) fun z => ⟨c', z, upd_same⟩
      · obtain ⟨ps', a1, a2, a3⟩ := hT p hp
        exact ⟨ps', (upd_ne (ne_of_none a1 nC)).trans ((upd_ne hb).trans a1), a2, fun p' cv hcv => let ⟨c0, e1, e2⟩ := a3 p' cv hcv; ⟨c0, e1, hE _ _ e2 codeO_ne⟩⟩
    · rw [upd_ne (Nat.ne_of_gt hlt), upd_ne (Nat.ne_of_gt (Nat.lt_of_lt_of_le (Heap.lt_size hP') sz))]
      exact I.hok.fresh sz
  | some cv =>
    obtain ⟨c', e, hco⟩ := ha pos cv hc
    subst e
    refine PySem.W.kla_makeFunctionHit (mg := X.mg) (c := c) (P := P) (ps := ps) (closure_ok hfree) I.ok.glob (I.mod.glob.keeps I.bk) hcode (TB.code.keeps I.bk) hP' ht hc bP fun ctv h' tk hx hsz => ?_
    have nf : H h'.objs.size = none := I.hok.fresh hsz
    exact h h'.objs.size c' H _ (laidLam (I.kept (t' := tk) hx)) (ExtN.refl H) hT nf (fun z => by rw [z] at nf; rw [nf] at hco; cases hco) hco
/-- lambda ..: a value -/
def tLamV (T : List (Addr × Str)) (q : Str) (params : Arguments) (body : Expr) (scope : Scope) (cl : List (Str × Addr)) : TE := fun _ H Q => Tabs T H ∧ ∀ f c' H1, ExtN H H1 → Tabs T H1 → H1 f = none → f ≠ c' → H1 c' = some (CodeO c' q) → Q (.ref f) (upd H1 f (LamO q params body scope cl c' f))
theorem pe_lam {T : List (Addr × Str)} {c P : Addr} {params : Arguments} {body : Expr} {scope : Scope} {pos : Pos} (TB : TabB X.base X.mg c P) (hcode : X.env.code = .ref c) (hm : (P, lamQ X.env.qual) ∈ T) (hu : ∀ p ∈ T, p.1 = P → p.2 = lamQ X.env.qual)
    (hdef : defaultsOf params X.env = ([], [])) (hfree : ∀ y ∈ scope.names, y.2 = .free → ∃ c, X.env.cells.lookup y.1 = some c) : PE X (.Lambda params body scope pos) (tLamV T (lamQ X.env.qual) params body scope (cloFrom X.env.cells scope.names [])) := by
  refine ⟨fun pins s σ H Q I h => ?_⟩
  obtain ⟨hT, h⟩ := h
  exact lam_make3 I TB hcode hm hu hT hdef hfree fun f c' H1 s' I1 e1 T1 n1 n2 hc => ⟨.ref f, _, I1, rfl, h f c' H1 e1 T1 n1 n2 hc⟩
end
/-- a lambda without captured names is run -/
theorem run_lam {P : Program} {w : World} {K : PySem.W.Frag} {mg : Str → Option Value} {base : Heap} {N ps : List Str} {k : Nat} {q : Str} {params : Arguments} {body : Expr} {scope : Scope} {f c' : Addr} {pm ctv : Value} {A : Around} {outer : List Env} {s : Shared} {H : Hp} {us : List Value} {vs : List V} {Q : VK}
    (S : FnScope N ps scope) (hof : s.heap.get? f = some (PySem.W.kla_obj "<lambda>" q params body scope [] pm c' ctv)) (hcd : s.heap.CodeRec (.ref c') q) (hb : bindArgs (PySem.W.kla_fn "<lambda>" q params body scope [] pm (.ref c') ctv) ⟨us, []⟩ = pure (ps.zip us)) (hr : Room (k + 1) A)
    (e0 : Env0 P w K mg base A outer s H) (rv : Vals vs us) (hl : vs.length = ps.length)
    (hbody : Room k (A.deeper (envOfC q scope s.heap.objs.size f (.ref c'))) → ∃ tb, PE (cxOf CX0 P w K mg base N q scope f (.ref c') A outer s H E0) body tb ∧ tb (L2.start N vs) H Q) :
    codeAny (model P w) A (.call (.ref f) ⟨us, []⟩) (CR CX0 outer P w H s Q E0) s := by
  have up : ∀ b o, base.get? b = some o → s.heap.get? b = some o := fun b o e => (e0.bs b o e).1
  have kinds : ∀ y ∈ ps.zip us, scope.names.lookup y.1 = some .local ∨ (scope.names.lookup y.1 = some .cell ∧ ((cellsFrom (s.heap.objs.size + 1) scope.names []).lookup y.1).isSome = true) := fun y hy =>
    (S.par y.1 (List.of_mem_zip hy).1).elim .inl fun z => .inr ⟨z, PySem.W.cellsFrom_some _ _ _ (.inl z)⟩
  refine PySem.W.kla_callFunE hr.depth hof rfl S.co S.gen rfl hcd ?_
  rw [hb]
  refine wpAny_pure (wpAny_newFunctionEnv_cells S.kind kinds fun env he s1 x => ?_)
  subst he
  refine ⟨(e0.mod.nolimit.keeps up).keeps x.toInCall.keep, PySem.W.kla_codeExpr ?_⟩
  obtain ⟨tb, ht, hq⟩ := hbody (hr.deeper _)
  have I := inv_start (CX := CX0) (P := P) (w := w) (K := K) (mg := mg) (base := base) (qual := q) (f := f) (cd := .ref c') (E := E0) S hr.hd e0 hl rv x
  refine wpAny_mono (ht.run [] s1 _ H _ I hq) (fun v s' hs => ?_) fun e s' z => z
  obtain ⟨v', H', J, r', q⟩ := hs
  exact ⟨v', H', J.os, J.bare, J.base, J.hok, r', q⟩
end Lp
namespace Lp
open PySem PySem.Spec PySem.Calls PyProof.Rows L2 LamX
/-! ### the order of tuples of ints: shorter ones first -/
def TupAt (H : Hp) (k : List Int) (b : Addr) : Prop := H b = some (.tup (k.map V.int))
theorem lexLt_asym : ∀ x y : List Int, HT.lexLt x y = true → HT.lexLt y x = false
  | [], [], h => by cases h
  | [], _ :: _, _ => rfl
  | _ :: _, [], h => by cases h
  | a :: x, b :: y, h => by
    rw [HT.lexLt_cons] at h ⊢
    by_cases e : a = b
    · rw [if_pos e] at h
      rw [if_pos e.symm]
      exact lexLt_asym x y h
    · rw [if_neg e] at h
      rw [if_neg (Ne.symm e)]
      have := of_decide_eq_true h
      exact decide_eq_false (by omega)
theorem lexLt_tr : ∀ x y z : List Int, HT.lexLt y x = false → HT.lexLt z y = false → HT.lexLt z x = false
  | [], _, [], _, _ => rfl
  | [], _, _ :: _, _, _ => rfl
  | _ :: _, [], _, h, _ => by cases h
  | _ :: _, _ :: _, [], _, h => by cases h
  | a :: x, b :: y, c :: z, h1, h2 => by
    rw [HT.lexLt_cons] at h1 h2 ⊢
    by_cases e1 : b = a
    · rw [if_pos e1] at h1
      by_cases e2 : c = b
      · rw [if_pos e2] at h2
        rw [if_pos (e2.trans e1)]
        exact lexLt_tr x y z h1 h2
      · rw [if_neg e2] at h2
        have := of_decide_eq_false h2
        rw [if_neg (fun q => e2 (q.trans e1.symm))]
        exact decide_eq_false (by omega)
    · rw [if_neg e1] at h1
      have := of_decide_eq_false h1
      by_cases e2 : c = b
      · rw [if_neg (fun q => e1 (e2.symm.trans q))]
        exact decide_eq_false (by omega)
      · rw [if_neg e2] at h2
        have := of_decide_eq_false h2
        rw [if_neg (by omega)]
        exact decide_eq_false (by omega)
theorem lexLt_same : ∀ x : List Int, HT.lexLt x x = false
  | [] => rfl
  | a :: x => by rw [HT.lexLt_cons, if_pos rfl]; exact lexLt_same x
def ltK (x y : List Int) : Bool := if x.length = y.length then HT.lexLt x y else decide (x.length < y.length)
theorem swoK {α : Type} (k : α → List Int) : SrtO.Swo fun u v => ltK (k u) (k v) := by
  refine ⟨fun x y h => ?_, fun x y z h1 h2 => ?_⟩
  · simp only [ltK] at h ⊢
    by_cases e : (k x).length = (k y).length
    · rw [if_pos e] at h
      rw [if_pos e.symm]
      exact lexLt_asym _ _ h
    · rw [if_neg e] at h
      rw [if_neg (Ne.symm e)]
      have := of_decide_eq_true h
      exact decide_eq_false (by omega)
  · simp only [ltK] at h1 h2 ⊢
    by_cases e1 : (k y).length = (k x).length
    · rw [if_pos e1] at h1
      by_cases e2 : (k z).length = (k y).length
      · rw [if_pos e2] at h2
        rw [if_pos (e2.trans e1)]
        exact lexLt_tr _ _ _ h1 h2
      · rw [if_neg e2] at h2
        have := of_decide_eq_false h2
        rw [if_neg (by omega)]
        exact decide_eq_false (by omega)
    · rw [if_neg e1] at h1
      have := of_decide_eq_false h1
      by_cases e2 : (k z).length = (k y).length
      · rw [if_neg (by omega)]
        exact decide_eq_false (by omega)
      · rw [if_neg e2] at h2
        have := of_decide_eq_false h2
        rw [if_neg (by omega)]
        exact decide_eq_false (by omega)
theorem eqv_ints : ∀ x y : List Int, PyData.eqvAll (x.map PyData.int) (y.map PyData.int) = decide (x = y)
  | [], [] => by simp [PyData.eqvAll]
  | [], _ :: _ => by simp [PyData.eqvAll]
  | _ :: _, [] => by simp [PyData.eqvAll]
  | a :: x, b :: y => by
    rw [List.map_cons, List.map_cons, PyData.eqvAll, eqv_ints x y, PyData.eqv]
    by_cases e : a = b <;> by_cases e2 : x = y <;> simp [e, e2]
/-- a key: (how many, the tuple) -/
structure IsKey (h : Heap) (v : Value) (k : List Int) : Prop where
  ex : ∃ a o t u n its, v = .ref a ∧ h.get? a = some o ∧ o.cls = .type "tuple" ∧ o.data = .seq #[.int k.length t, .ref u] n ∧ IsTup h u its ∧ IntsAre its.toList k
theorem reads_tupInts {h : Heap} {u : Addr} {its : Array Value} {k : List Int} (p : IsTup h u its) (i : IntsAre its.toList k) : ∃ as, Reads h (.ref u) (.tuple (k.map PyData.int)) as := by
  obtain ⟨o, ho, hc, n, hd⟩ := p
  have all : ∀ {us : List Value} {k : List Int}, IntsAre us k → ∃ as, ReadsAll h us (k.map PyData.int) as := by
    intro us k i
    induction i with
    | nil => exact ⟨_, .nil⟩
    | cons a t _ ih =>
      obtain ⟨as, r⟩ := ih
      exact ⟨_, .cons (.int a t) r⟩
  obtain ⟨as, r⟩ := all i
  exact ⟨_, .tuple ho hc hd r⟩
section
variable {prog : Program} {w : World} {A : Around} {E : Value → Shared → Prop} {s : Shared}
theorem key_lt {v u : Value} {x y : List Int} (hu : A.units + 64 < cLine) (hv : IsKey s.heap v x) (hw : IsKey s.heap u y) :
    wpAny (model prog w) A (keyLt' (tuples' true) v u) (fun r s' => s' = s ∧ r = ltK x y) (fun _ _ => False) s := by
  obtain ⟨a, o, t, b, n, its, rfl, ho, hc, hd, p, i⟩ := hv
  obtain ⟨a', o', t', b', n', its', rfl, ho', hc', hd', p', i'⟩ := hw
  refine PySem.W.kat_lt ho hd ho' hd' ?_
  show PySem.W.KatLex prog w A true (decide (2 < 2)) _ [(.int x.length t, .int y.length t'), (.ref b, .ref b')] 0 s
  refine PySem.W.kat_cons (SeqAt.EqAt.int_int x.length t y.length t' prog w _ _ ?_)
  refine PySem.W.kat_go (fun e1 => ?_) fun e1 => ?_
  · have ex : x.length = y.length := by
      have : (x.length : Int) = y.length := by simpa using e1
      omega
    obtain ⟨as, r⟩ := reads_tupInts p i
    obtain ⟨bs, r'⟩ := reads_tupInts p' i'
    have ea := SeqAt.eqAt_reads _ _ A s _ _ _ _ r r' (by simp [PyData.canLay0, canInts]) (by simp [PyData.canLay0, canInts]) (by
      have : (PyData.tuple (x.map PyData.int)).depth ≤ 1 := by simp [PyData.depth, depInts]
      omega)
    refine PySem.W.kat_yes (PySem.W.kat_cons (ea prog w _ _ ?_))
    have ev : PyData.eqv (.tuple (x.map PyData.int)) (.tuple (y.map PyData.int)) = decide (x = y) := by rw [PyData.eqv, eqv_ints]
    rw [ev]
    refine PySem.W.kat_go (fun e2 => ?_) fun e2 => ?_
    · have exy := of_decide_eq_true e2
      refine PySem.W.kat_yes (PySem.W.kat_nil ⟨rfl, ?_⟩)
      subst exy
      unfold ltK
      rw [if_pos rfl, lexLt_same]
      rfl
    · refine PySem.W.kat_no (PySem.W.kat_one _ _ (HT.lt_tupInts p p' i i' (by omega) ?_))
      show s = s ∧ HT.lexLt x y = ltK x y
      unfold ltK
      rw [if_pos ex]
      exact ⟨rfl, rfl⟩
  · have ex : ¬ x.length = y.length := fun z => by
      rw [z] at e1
      simp at e1
    refine PySem.W.kat_no (oneLt_int ⟨rfl, ?_⟩)
    unfold ltK
    rw [if_neg ex]
    by_cases l : x.length < y.length
    · rw [decide_eq_true l, decide_eq_true (by omega)]
    · rw [decide_eq_false l, decide_eq_false (by omega)]
theorem firstsK {h : Heap} : ∀ {ks : List Value} {xs : List (List Int)}, Paired (IsKey h) ks xs → ∃ fs : List Value, PySem.W.KatTups h ks fs ∧ fs.length = ks.length ∧ ∀ f ∈ fs, ∃ x t, f = Value.int x t
  | _, _, .nil => ⟨[], PySem.W.KatTups.nil, rfl, fun _ hm => nomatch hm⟩
  | _, _, .cons r p => by
    obtain ⟨fs, h1, h2, h3⟩ := firstsK p
    obtain ⟨a, o, t, b, n, its, rfl, ho, hc, hd, _⟩ := r
    exact ⟨.int _ t :: fs, PySem.W.KatTups.cons ho hc hd rfl h1, congrArg (· + 1) h2, fun f hm => (List.mem_cons.mp hm).elim (fun z => ⟨_, t, z⟩) (h3 f)⟩
theorem kindK {ks : List Value} {xs : List (List Int)} {Q : SortKind → Shared → Prop} (p : Paired (IsKey s.heap) ks xs) (h0 : 0 < ks.length) (h : Q (tuples' true) s) : wpAny (model prog w) A (keyKind' ks.toArray) Q E s := by
  obtain ⟨fs, h1, h2, h3⟩ := firstsK p
  refine PySem.W.kat_kind (T := .type "int") h1 (by omega) (fun f hm => ?_) (by rfl) ?_
  · obtain ⟨x, t, rfl⟩ := h3 f hm
    exact PySem.W.Looks.now
  · have e : (Value.type "int" != Value.type "tuple") = true := by decide +kernel
    rw [e]
    exact h
end
end Lp
namespace Lp
open PySem PySem.Spec PySem.Calls PyProof.Rows L2 LamX
def intsOf (xs : List V) : List Int := xs.map fun | .int i => i | _ => 0
theorem intsOf_map (k : List Int) : intsOf (k.map V.int) = k := by
  unfold intsOf
  rw [List.map_map]
  exact List.map_id _
/-- what stands at an address, as a tuple of ints -/
def tOf (H : Hp) (b : Addr) : List Int := match H b with
  | some (.tup xs) => intsOf xs
  | _ => []
theorem TupAt.tOf {H : Hp} {k : List Int} {b : Addr} (h : TupAt H k b) : Lp.tOf H b = k := by
  unfold Lp.tOf
  rw [show H b = _ from h]
  exact intsOf_map k
theorem paired_of {α β : Type} {R : α → β → Prop} : ∀ {xs : List α} {ys : List β}, xs.length = ys.length → (∀ (i : Nat) (a : α) (b : β), xs[i]? = some a → ys[i]? = some b → R a b) → Paired R xs ys
  | [], [], _, _ => .nil
  | [], _ :: _, h, _ => by cases h
  | _ :: _, [], h, _ => by cases h
  | a :: xs, b :: ys, h, k => .cons (k 0 a b rfl rfl) (paired_of (Nat.succ.inj h) fun i c d e f => k (i + 1) c d e f)
section
variable {X : Cx} {pins : List (Addr × Obj)} {σ : L2.St} {H : Hp} {s : Shared}
theorem fp_stack (I : Inv X pins σ H s) {b : Addr} (f : FpOk X pins H b) : b ∉ frs X.stack := fun m => (List.mem_cons.mp (I.stkSub _ m)).elim f.2.1 f.2.2.1
theorem turned_upd {a : Addr} {g : Obj → Obj} {t' : Nat} (I : Inv X pins σ H s) (f : FpOk X pins H a) : Inv X pins σ H { s with heap := s.heap.update a g, toks := t' } :=
  I.turned (it := a) (fun b o n e => (Heap.get?_update_ne _ _ _ _ n).trans e) f.1 f.2.1 f.2.2.2.1 f.2.2.2.2.1 f.2.2.2.2.2
/-- the keys made so far -/
def KeysAt (H : Hp) (xs : List (List Int)) (as : List Addr) (keys : List Value) : Prop := ∀ (i : Nat) (v : Value), keys[i]? = some v → ∃ r x b, v = .ref r ∧ H r = some (.tup [.int x.length, .ref b]) ∧ xs[i]? = some x ∧ as[i]? = some b
theorem KeysAt.isKey {H0 : Hp} {xs : List (List Int)} {as : List Addr} {keys : List Value} (K : KeysAt H xs as keys) (hok : HOk X.prog X.w H s.heap) (hx : Paired (TupAt H0) xs as) (sm : Same H0 H) {i : Nat} {v : Value} {b : Addr} (e : keys[i]? = some v) (e2 : as[i]? = some b) : IsKey s.heap v (tOf H0 b) := by
  obtain ⟨r, x, b', rfl, hr, ex, eb⟩ := K i v e
  rw [e2] at eb
  cases eb
  obtain ⟨x', ex', ht⟩ := Paired.nth hx e2
  rw [ex] at ex'
  cases ex'
  rw [ht.tOf]
  obtain ⟨_, its, rv, o, ho, hc, n, hd⟩ := (show ObjOk X.prog X.w H s.heap r (.tup _) from hok r _ hr)
  obtain ⟨u1, u2, rfl, ri, rj⟩ := vals2 rv
  obtain ⟨t, rfl⟩ := ri
  cases rj
  obtain ⟨_, its2, rv2, p2⟩ := (show ObjOk X.prog X.w H s.heap b (.tup _) from hok b _ (sm _ _ ht))
  exact ⟨r, o, t, b, n, its2.toArray, rfl, ho, hc, hd, p2, intsAre_of rv2⟩
theorem ksk_ord {A' : Around} {a f : Addr} {n : Nat} {as : List Addr} {xs : List (List Int)} {R : PySem.Fin → Shared → Prop} {E : Value → Shared → Prop} (I : Inv X pins σ H s) (ho : s.heap.get? a = some (seqObj "list" (as.map Value.ref).toArray n)) (na : FpOk X pins H a) (hz : as.length ≤ 1000) (hx : Paired (TupAt H) xs as) (hu : A'.units + 64 < cLine)
    (kc : ∀ (s' : Shared) (H' : Hp) (t : Addr) (k : List Int), Inv X pins σ H' s' → Same H H' → TupAt H k t → wpAny (model X.prog X.w) A' (call (.ref f) [.ref t]) (fun u s2 => CE X.stack X.prog X.w H' s' (fun v H2 => ∃ r, v = .ref r ∧ H' r = none ∧ H2 = upd H' r (.tup [.int k.length, .ref t])) u s2) (fun _ _ => False) s')
    (h : ∀ (as' : List Addr) (n' : Nat) (H' : Hp) (s' : Shared), as'.Perm as → as'.Pairwise (fun b c => ltK (tOf H c) (tOf H b) = false) → Inv X pins σ H' s' → Same H H' → FpOk X pins H' a → s'.heap.get? a = some (seqObj "list" (as'.map Value.ref).toArray n') → R (.done (.ret .none)) s') :
    wpAny (model X.prog X.w) A' (ksk_tree a (.ref f) false) R E s := by
  have hsz : (as.map Value.ref).toArray.size ≤ sizeLine := by rw [List.size_toArray, List.length_map, sizeLine_eq]; omega
  unfold ksk_tree
  refine wpAny_bind (listItems_at ho rfl ?_)
  refine wpAny_bind (listUpdate_at ho rfl ?_ hsz (Nat.zero_le _))
  obtain ⟨e1, ho1⟩ : ∃ e1, (s.heap.update a (Obj.mapSeq fun _ => (#[] : Array Value))).get? a = some (seqObj "list" #[] e1) := ⟨_, get?_update_seq ho (fun _ => #[])⟩
  have I1 := turned_upd (g := Obj.mapSeq fun _ => (#[] : Array Value)) (t' := s.toks) I na
  refine wpAny_bind (seqEpoch_at ho1 rfl ?_)
  refine wpAny_bind (wpAny_newTuple ?_ (by show (as.map Value.ref).length ≤ _; rw [List.length_map, sizeLine_eq]; omega))
  refine wpAny_bind (wpAny_newList ?_ (Nat.zero_le _))
  refine wpAny_holding ?_
  generalize ekS : ((s.heap.update a (Obj.mapSeq fun _ => (#[] : Array Value))).push (seqObj "tuple" (as.map Value.ref).toArray 0)).objs.size = kS
  have I2 : Inv X pins σ H { s with heap := (s.heap.update a (Obj.mapSeq fun _ => (#[] : Array Value))).push (seqObj "tuple" (as.map Value.ref).toArray 0), toks := s.toks } := I1.kept fun b u e => Heap.get?_push_of_some _ e
  have I3 := I2.kept (h' := ((s.heap.update a (Obj.mapSeq fun _ => (#[] : Array Value))).push (seqObj "tuple" (as.map Value.ref).toArray 0)).push (seqObj "list" #[] 0)) (t' := s.toks) fun b u e => Heap.get?_push_of_some _ e
  have fS : ∀ H' : Hp, H' kS = none → FpOk X pins H' kS := fun H' n => I2.fpOk (by rw [← ekS]; exact Nat.le_refl _) n
  have fA : ∀ H' : Hp, H' a = none → FpOk X pins H' a := fun H' n => ⟨n, na.2⟩
  have nS : H kS = none := I2.hok.fresh (by rw [← ekS]; exact Nat.le_refl _)
  have ho3 : (((s.heap.update a (Obj.mapSeq fun _ => (#[] : Array Value))).push (seqObj "tuple" (as.map Value.ref).toArray 0)).push (seqObj "list" #[] 0)).get? a = some (seqObj "list" #[] e1) := Heap.get?_push_of_some _ (Heap.get?_push_of_some _ ho1)
  have hk3 : (((s.heap.update a (Obj.mapSeq fun _ => (#[] : Array Value))).push (seqObj "tuple" (as.map Value.ref).toArray 0)).push (seqObj "list" #[] 0)).get? kS = some (seqObj "list" #[] 0) := by
    rw [← ekS]; exact Heap.get?_push_size _ rfl
  have naS : a ≠ kS := by
    rw [← ekS]
    exact Nat.ne_of_lt (Heap.lt_size (Heap.get?_push_of_some (seqObj "tuple" (as.map Value.ref).toArray 0) ho1))
  unfold ksk_rest
  refine wpAny_bind (wpAny_rule ?_)
  rw [← Array.forIn_toList]
  simp only [List.toList_toArray]
  refine wpAny_bind (ksk_fold (fun j s' => ∃ H' keys e, Inv X pins σ H' s' ∧ Same H H' ∧ H' a = none ∧ H' kS = none ∧ s'.heap.get? kS = some (seqObj "list" (List.toArray keys) e) ∧ s'.heap.get? a = some (seqObj "list" #[] e1) ∧ List.length keys = j ∧ KeysAt H' xs as keys)
    (as.map Value.ref) 0 _ ⟨H, [], 0, I3, Same.refl H, na.1, nS, hk3, ho3, rfl, fun i v e => nomatch e⟩ (fun j x s' hj hI => ?_) fun s' hI => ?_)
  · rw [Nat.zero_add] at hI ⊢
    obtain ⟨H', keys, e, J, sm, n1, n2, g1, g2, lk, KA⟩ := hI
    rw [List.getElem?_map] at hj
    obtain ⟨t, et, rfl⟩ := Option.map_eq_some_iff.mp hj
    have lj : j < as.length := (List.getElem?_eq_some_iff.mp et).1
    obtain ⟨k, ek, ht⟩ := Paired.nth hx et
    refine wpAny_bind (wpAny_attempt (wpAny_mono (kc s' H' t k J sm ht) (fun u s2 hq => ?_) fun _ _ z => z.elim))
    obtain ⟨v, H2, os, ab, un, hok2, rv, r, rfl, nr, rfl⟩ := hq
    have kS2 := un.keep _ _ g1 n2 (fp_stack J (fS _ n2)) (by simp)
    have a2 := un.keep _ _ g2 n1 (fp_stack J (fA _ n1)) (by simp)
    have n12 := un.free _ _ g2 n1 (by simp)
    have n22 := un.free _ _ g1 n2 (by simp)
    obtain ⟨w, H3, J3, rw3, ew, eH⟩ := J.after (Q := fun v H3 => v = .ref r ∧ H3 = upd H' r (.tup [.int k.length, .ref t])) ⟨_, _, os, ab, un, hok2, rv, rfl, rfl⟩
    subst ew eH
    cases rv
    have ea : (List.toArray keys).push (Value.ref r) = List.toArray (keys ++ [Value.ref r]) := by simp
    obtain ⟨c2, hc2⟩ : ∃ c2, (s2.heap.update kS (Obj.mapSeq (·.push (Value.ref r)))).get? kS = some (seqObj "list" (List.toArray (keys ++ [Value.ref r])) c2) := ⟨_, by rw [← ea]; exact get?_update_seq kS2 (·.push (Value.ref r))⟩
    refine wpAny_bind (listUpdate_at kS2 rfl ?_ (by rw [List.size_toArray, sizeLine_eq]; omega) (Nat.le_trans (Nat.le_of_eq (Array.size_push ..)) (by rw [List.size_toArray, sizeLine_eq]; omega)))
    refine wpAny_pure ⟨rfl, _, keys ++ [Value.ref r], c2, turned_upd (t' := s2.toks) J3 (fS _ n22), sm.trans (same_new nr), n12, n22, hc2, (Heap.get?_update_ne _ _ _ _ naS).trans a2, by rw [List.length_append, lk]; rfl, fun i v hi => ?_⟩
    rcases at_snoc hi with hi | ⟨ei, rfl⟩
    · obtain ⟨r', x', b', q1, q2, q3, q4⟩ := KA i v hi
      exact ⟨r', x', b', q1, same_new nr _ _ q2, q3, q4⟩
    · rw [lk] at ei
      subst ei
      exact ⟨r, k, t, rfl, upd_same, ek, et⟩
  · rw [Nat.zero_add, List.length_map] at hI
    obtain ⟨H', keys, e, J, sm, n1, n2, g1, g2, lk, KA⟩ := hI
    refine wpAny_bind (listItems_at g1 rfl ?_)
    have zip_eq : ((List.toArray keys).zip (as.map Value.ref).toArray).toList = keys.zip (as.map Value.ref) := by
      rw [ksk_zip]
    have tail : ∀ st : SortSt, SrtO.Srtd (fun p q : Keyed => ltK (tOf H (adV p.2)) (tOf H (adV q.2))) (arrOf st).toList → (arrOf st).toList.Perm (keys.zip (as.map Value.ref)) → failedOf st = none → wpAny (model X.prog X.w) A' (ksk_tail a false e1 (.ref kS) st) R E s' := by
      intro st hs hp hf
      have pm : ((arrOf st).toList.map (·.2)).Perm (as.map Value.ref) := by
        have := hp.map (·.2)
        rwa [List.map_snd_zip (by rw [List.length_map]; omega)] at this
      have eo : ((arrOf st).map (·.2)).toList = ((arrOf st).toList.map fun p => adV p.2).map Value.ref := by
        rw [Array.toList_map, List.map_map]
        refine List.map_congr_left fun p m => ?_
        have := pm.mem_iff.mp (List.mem_map.mpr ⟨p, m, rfl⟩)
        obtain ⟨b, _, eb⟩ := List.mem_map.mp this
        show p.2 = Value.ref (adV p.2)
        rw [← eb]
        rfl
      have eo2 : (arrOf st).map (·.2) = List.toArray (((arrOf st).toList.map fun p => adV p.2).map Value.ref) := by rw [← eo, Array.toArray_toList]
      have lo : ((arrOf st).toList.map fun p => adV p.2).length = as.length := by
        have := pm.length_eq
        rw [List.length_map, List.length_map] at this
        rw [List.length_map, this]
      have pa : ((arrOf st).toList.map fun p => adV p.2).Perm as := by
        have := pm.map adV
        rw [List.map_map, List.map_map] at this
        have e2 : (adV ∘ Value.ref) = id := rfl
        rw [e2, List.map_id] at this
        exact this
      have ps : ((arrOf st).toList.map fun p => adV p.2).Pairwise fun b c => ltK (tOf H c) (tOf H b) = false := List.pairwise_map.mpr hs
      generalize (arrOf st).toList.map (fun p => adV p.2) = as' at eo2 lo pa ps
      unfold ksk_tail
      dsimp only
      rw [eo2]
      refine wpAny_bind (listUpdate_at g1 rfl ?_ (by rw [List.size_toArray, sizeLine_eq]; omega) (Nat.zero_le _))
      have J2 := turned_upd (g := Obj.mapSeq fun _ => (#[] : Array Value)) (t' := s'.toks) J (fS _ n2)
      have g3 : (s'.heap.update kS (Obj.mapSeq fun _ => (#[] : Array Value))).get? a = some (seqObj "list" #[] e1) := (Heap.get?_update_ne _ _ _ _ naS).trans g2
      refine wpAny_bind (wpAny_letGo ?_)
      refine wpAny_bind (seqEpoch_at g3 rfl ?_)
      have hsz3 : (List.toArray (as'.map Value.ref)).size ≤ sizeLine + 1 := by rw [List.size_toArray, List.length_map, sizeLine_eq]; omega
      refine wpAny_bind (listUpdate_at g3 rfl ?_ (Nat.zero_le _) (by simpa using hsz3))
      obtain ⟨c3, hc3⟩ : ∃ c3, ((s'.heap.update kS (Obj.mapSeq fun _ => (#[] : Array Value))).update a (Obj.mapSeq fun _ => List.toArray (as'.map Value.ref))).get? a = some (seqObj "list" (List.toArray (as'.map Value.ref)) c3) := ⟨_, get?_update_seq g3 fun _ => List.toArray (as'.map Value.ref)⟩
      rw [hf]
      simp only [bne_self_eq_false, Bool.false_eq_true, if_false]
      exact wpAny_pure (h as' c3 H' _ pa ps (turned_upd (t' := s'.toks) J2 (fA _ n1)) sm (fA _ n1) hc3)
    unfold ksk_end
    simp only [Bool.false_eq_true, if_false]
    have szv : (as.map Value.ref).toArray.size = as.length := by rw [List.size_toArray, List.length_map]
    by_cases h2 : (as.map Value.ref).toArray.size < 2
    · rw [if_pos h2, if_pos h2]
      refine wpAny_bind (wpAny_pure ?_)
      rw [StateT.run_pure]
      refine wpAny_bind (wpAny_pure ?_)
      refine tail (SortSt.mk' general' ((List.toArray keys).zip (as.map Value.ref).toArray) #[] 7 none) ?_ ?_ rfl
      · show SrtO.Srtd _ ((List.toArray keys).zip (as.map Value.ref).toArray).toList
        rw [zip_eq]
        have : (keys.zip (as.map Value.ref)).length < 2 := by
          rw [List.length_zip, List.length_map]
          omega
        match h3 : keys.zip (as.map Value.ref), this with
        | [], _ => exact List.Pairwise.nil
        | [v], _ => exact List.pairwise_singleton _ _
      · show (((List.toArray keys).zip (as.map Value.ref).toArray).toList).Perm _
        rw [zip_eq]
    · rw [if_neg h2, if_neg h2]
      have kp : Paired (IsKey s'.heap) keys xs := by
        refine paired_of (by rw [lk]; exact (Paired.length hx).symm) fun i v x ev ex => ?_
        obtain ⟨r, x', b, _, _, ex', eb⟩ := KA i v ev
        rw [ex] at ex'
        cases ex'
        obtain ⟨x2, ex2, ht⟩ := Paired.nth hx eb
        rw [ex] at ex2
        cases ex2
        have := KA.isKey J.hok hx sm ev eb
        rw [ht.tOf] at this
        exact this
      refine wpAny_bind (kindK kp (by omega) ?_)
      have O : SrtO.Swo (fun p q : Keyed => ltK (tOf H (adV p.2)) (tOf H (adV q.2))) := swoK fun p : Keyed => tOf H (adV p.2)
      have C : SrtO.Cmp X.prog X.w A' s' (tuples' true) (fun p => p ∈ keys.zip (as.map Value.ref)) (fun p q : Keyed => ltK (tOf H (adV p.2)) (tOf H (adV q.2))) := by
        have key : ∀ p ∈ keys.zip (as.map Value.ref), IsKey s'.heap p.1 (tOf H (adV p.2)) := fun p m => by
          obtain ⟨i, hi⟩ := List.mem_iff_getElem?.mp m
          rw [List.getElem?_zip_eq_some] at hi
          obtain ⟨e1', e2'⟩ := hi
          rw [List.getElem?_map] at e2'
          obtain ⟨b, eb, e3⟩ := Option.map_eq_some_iff.mp e2'
          rw [← e3]
          exact KA.isKey J.hok hx sm e1' eb
        exact fun p q hp hq => key_lt hu (key p hp) (key q hq)
      refine wpAny_bind (wpAny_mono (SrtO.wpS_sortO (st0 := SortSt.mk' (tuples' true) ((List.toArray keys).zip (as.map Value.ref).toArray) #[] 7 none)
        (Q := fun _ st' => SrtO.Srtd (fun p q : Keyed => ltK (tOf H (adV p.2)) (tOf H (adV q.2))) (arrOf st').toList ∧ (arrOf st').toList.Perm (keys.zip (as.map Value.ref)) ∧ failedOf st' = none) O C rfl (fun p hp => by rw [← zip_eq]; exact hp) rfl rfl fun st' a1 a2 a3 => ⟨a1, by rw [← zip_eq]; exact a2.perm, a3⟩) ?_ fun _ _ e => e)
      rintro ⟨⟨⟩, st'⟩ s2 ⟨rfl, hp1, hp2, hf⟩
      exact tail st' hp1 hp2 hf
end
end Lp
namespace Lp
open PySem PySem.Spec PySem.Calls PyProof.Rows L2 LamX
/-- lambda name: (len(name), name) -/
structure KeyLam (params : Arguments) (body : Expr) (scope : Scope) : Prop where
  sc : FnScope ["name"] ["name"] scope
  bd : ∀ (q : Str) (pm : Value) (c' : Addr) (ctv u : Value), bindArgs (PySem.W.kla_fn "<lambda>" q params body scope [] pm (.ref c') ctv) ⟨[u], []⟩ = pure ((["name"] : List Str).zip [u])
  pe : ∀ (P : Program) (w : World) (K : PySem.W.Frag) (mg : Str → Option Value) (base : Heap) (q : Str) (f : Addr) (cd : Value) (A : Around) (outer : List Env) (s : Shared) (H : Hp), mg "len" = none →
    ∃ t, PE (cxOf CX0 P w K mg base ["name"] q scope f cd A outer s H E0) body t ∧ ∀ (b : Addr) (k : List Int) (Q : VK), SqT K H b (k.map V.int) → (∀ r, H r = none → Q (.ref r) (upd H r (.tup [.int k.length, .ref b]))) → t (L2.start ["name"] [.ref b]) H Q
def rSortK : List V → List V → Hp → VK → Prop := fun xs zs H Q => ∃ (l f c' : Addr) (as : List Addr) (ks : List (List Int)) (q : Str) (params : Arguments) (body : Expr) (scope : Scope), xs = [.ref l] ∧ zs = [.ref f] ∧ KeyLam params body scope ∧ H f = some (LamO q params body scope [] c' f) ∧ H c' = some (CodeO c' q) ∧
  H l = some (.lst (as.map V.ref)) ∧ Paired (TupAt H) ks as ∧ as.length ≤ 1000 ∧ ∀ (H' : Hp) (p : Addr) (as' : List Addr), Same H H' → H p = none → H' p = some (.lst (as'.map V.ref)) → as'.Perm as → as'.Pairwise (fun b c => ltK (tOf H c) (tOf H b) = false) → Q (.ref p) H'
theorem vals_refs_of {as : List Addr} {us : List Value} (r : Vals (as.map V.ref) us) : us = as.map Value.ref := refs_are r
theorem call_sortK {X : Cx} (hr : Room 3 X.A) (mLen : X.mg "len" = none) (hcalm : X.calm = true) : CallRK X (.builtin "sorted") ["key"] rSortK := by
  intro pins s σ H xs zs us ws Q I r1 r2 h
  obtain ⟨l, f, c', as, ks, q, params, body, scope, rfl, rfl, L, hf, hc, hl, hk, hz, fin⟩ := h
  rw [Vals.ref1 r1, Vals.ref1 r2]
  obtain ⟨z0, its, n0, rv, hol⟩ := (show ObjOk X.prog X.w H s.heap l (.lst (as.map V.ref)) from I.hok l _ hl)
  have ei := vals_refs_of rv
  subst ei
  have lz : (as.map Value.ref).length ≤ sizeLine := by rw [List.length_map, sizeLine_eq]; omega
  refine call_function_entry_kw kind_sorted plain_sorted entry_sorted (ksk_s1 _ _) ?_
  unfold Builtin.«sorted»
  refine wpAny_bind (m := checkCount "sorted" 1 1 _) (wpAny_pure ?_)
  refine wpAny_bind (collect_list (l := l) (vs := as.map Value.ref) ⟨_, hol, rfl, n0, rfl⟩ ?_ lz)
  refine wpAny_bind (wpAny_newList ?_ lz)
  have kp : ∀ b o, s.heap.get? b = some o → ((s.heap.push (seqObj "list" #[] 0)).update s.heap.objs.size (Obj.mapSeq (· ++ (as.map Value.ref).toArray))).get? b = some o := fun b o e =>
    (Heap.get?_update_ne _ _ _ _ (Nat.ne_of_lt (Heap.lt_size e))).trans (Heap.get?_push_of_some _ e)
  generalize hG : (s.heap.push (seqObj "list" #[] 0)).update s.heap.objs.size (Obj.mapSeq (· ++ (as.map Value.ref).toArray)) = G at kp
  have gsz : s.heap.objs.size ≤ G.objs.size := by
    rw [← hG, Heap.size_update, size_push']
    exact Nat.le_succ _
  have I1 : Inv X pins σ H { s with heap := G, toks := s.toks } := I.kept kp
  have I2 := I1.kept (h' := G.push (seqObj "list" (as.map Value.ref).toArray 0)) (t' := s.toks) fun b u e => Heap.get?_push_of_some _ e
  have nA : H G.objs.size = none := I.hok.fresh gsz
  have fA : FpOk X pins H G.objs.size := I1.fpOk (Nat.le_refl _) nA
  have hoA : (G.push (seqObj "list" (as.map Value.ref).toArray 0)).get? G.objs.size = some (seqObj "list" (as.map Value.ref).toArray 0) := Heap.get?_push_size _ rfl
  refine wpAny_bind (wpAny_holding (wpAny_call_entry_kw slot_list_sort ⟨_, hoA, rfl⟩ entry_list_sort ?_ (ksk_l1 _ _)))
  show wpAny (model X.prog X.w) X.A.in1.in1 (Builtin.«list.sort» ⟨[.ref G.objs.size], [(Str.ofString "key", .ref f)]⟩) _ _ _
  rw [ksk_t1]
  have hr1 : Room 1 X.A.in1.in1 := Room.in1 (Room.in1 hr)
  refine ksk_ord (s := { s with heap := G.push (seqObj "list" (as.map Value.ref).toArray 0), toks := s.toks }) I2 hoA fA hz hk hr1.units (fun s' H' t k J sm ht => ?_) fun as' n' H' s' pm ps J sm fp g => ?_
  · obtain ⟨⟨pm, ctv, hof⟩, _, _⟩ := (show ObjOk X.prog X.w H' s'.heap f (LamO q params body scope [] c' f) from J.hok f _ (sm _ _ hf))
    obtain ⟨⟨oc, vs, tq, hoc, hdc, hvc⟩, _, _⟩ := (show ObjOk X.prog X.w H' s'.heap c' (CodeO c' q) from J.hok c' _ (sm _ _ hc))
    have e0 : Env0 X.prog X.w X.K X.mg X.base X.A.in1.in1 X.stack s' H' := ⟨J.env0.frames, J.env0.mod, J.env0.bs, J.env0.bsz, J.env0.funs, J.env0.frf, J.env0.hok, J.env0.bare⟩
    have rc := run_lam (us := [.ref t]) (vs := [.ref t]) (Q := fun v H2 => ∃ r, v = .ref r ∧ H' r = none ∧ H2 = upd H' r (.tup [.int k.length, .ref t])) L.sc hof ⟨c', oc, vs, tq, rfl, hoc, hdc, hvc⟩ (L.bd _ _ _ _ _) hr1 e0 (.cons rfl .nil) rfl fun _ => by
      obtain ⟨tb, p1, p2⟩ := L.pe X.prog X.w X.K X.mg X.base q f (.ref c') X.A.in1.in1 X.stack s' H' mLen
      exact ⟨tb, p1, p2 t k _ (SqT.of (sm _ _ ht)) fun r nr => ⟨r, rfl, nr, rfl⟩⟩
    refine wpAny_call (codeAny_mono rc fun r s2 hq => ?_)
    cases r with
    | error e => exact (show False from hq)
    | ok fl =>
      cases fl with
      | ret u => exact hq
      | next => exact False.elim hq
      | brk => exact False.elim hq
      | cont => exact False.elim hq
  · refine ⟨_, rfl, wpAny_pure ⟨_, rfl, ?_⟩⟩
    have la : (as'.map V.ref).length ≤ sizeLine := by rw [List.length_map, pm.length_eq, sizeLine_eq]; omega
    have J2 := J.take (o := .lst (as'.map V.ref)) (h' := s'.heap) (t' := s'.toks) (fun b o _ e => e) fp ⟨la, as'.map Value.ref, n', vals_refs as', g⟩
    exact ⟨.ref G.objs.size, _, J2, rfl, fin _ _ as' (same_upd sm nA) nA upd_same pm ps⟩
end Lp
namespace Lp
open PySem L2 LamX
local macro_rules | `(tactic| walk_at "rd") => `(tactic| simp only [tSeq, tAsg, tYes, tTest, tOp, tCB, tCons, tNil, tVar, tC, rI0, rI, gName, wipe, tDisp, tTru, TruV, tB, tNext, tDGet2, tLock, tDIn, tDNotIn, tOr, tNot, tChain, tAnd, tCont, tUn, rU, tPairs, tRet, tIf, tIfS, tPar, tLst, tTup, tDrop, tDGet, tCall, sDPut, L2.start,
  List.map_cons, List.map_nil, List.foldl_cons, List.foldl_nil, List.length_cons, List.length_nil, List.replicate_succ, List.replicate_zero, List.append_nil, List.cons_append, List.nil_append, List.set_cons_zero, List.set_cons_succ, List.getElem?_cons_zero, List.getElem?_cons_succ,
  Option.some.injEq, List.cons.injEq, V.int.injEq, V.bl.injEq, V.ref.injEq, V.str.injEq, exists_eq_left', exists_eq_left, exists_eq_right, and_true, true_and, exists_and_left, Nat.add_zero, Nat.reduceAdd, Nat.reduceSub, Nat.sub_zero, if_true, if_false])
section
variable {P : Program} {w : World} {K : PySem.W.Frag} {mg : Str → Option Value} {base : Heap}
/-- as Fun.ok, the code object by its name -/
theorem okC {x qual : Str} {st : Stmt} {f : Addr} {fd : FuncData} {N ps : List Str} {k : Nat} {sp : Sp} (F : Fun K x qual st f fd) (S : FnScope N ps (defScope st)) (len : ∀ vs H Q E, sp vs H Q E → vs.length = ps.length)
    (hbody : ∀ (A : Around) (outer : List Env) (s : Shared) (H : Hp) (vs : List V) (Q : VK) (E : XK), Room k (A.deeper (PyProof.Rows.envOfC qual (defScope st) s.heap.objs.size f fd.code)) → sp vs H Q E →
      ∃ t, PSs (cxOf CX0 P w K mg base N qual (defScope st) f fd.code A outer s H E).nox (defBody st) t ∧ t { nx := fun _ H' => Q .non H', rt := Q } (L2.start N vs) H) : FnOk P w K mg base CX0 (k + 1) f fd ps sp := by
  obtain ⟨oc, od, kV, doc, pm, an, cdv, ct, osl, rfl, lk, hcd⟩ := F.ex
  refine fn_of lk hcd S len fun A outer s H vs Q E hr hsp => ?_
  obtain ⟨t, h, q⟩ := hbody A outer s H vs Q E hr hsp
  exact ⟨t, h.nox, q⟩
end
theorem noFree {ns : List (Str × NameKind)} (h : (ns.all fun y => !decide (y.2 = .free)) = true) {C : Prop} (y : Str × NameKind) (m : y ∈ ns) (e : y.2 = .free) : C := by
  have := List.all_eq_true.mp h y m
  rw [decide_eq_true e] at this
  cases this
theorem pe_lam0 {X : Cx} {T : List (Addr × Str)} {c P : Addr} {params : Arguments} {body : Expr} {scope : Scope} {pos : Pos} (TB : TabB X.base X.mg c P) (hcode : X.env.code = .ref c) (hm : (P, lamQ X.env.qual) ∈ T) (hu : ∀ p ∈ T, p.1 = P → p.2 = lamQ X.env.qual)
    (hdef : defaultsOf params X.env = ([], [])) (hfree : (scope.names.all fun y => !decide (y.2 = .free)) = true) : PE X (.Lambda params body scope pos) (tLamV T (lamQ X.env.qual) params body scope (cloFrom X.env.cells scope.names [])) := pe_lam TB hcode hm hu hdef fun y m e => noFree hfree y m e
/-- nothing stands there, or a table of code objects -/
def New0 (H : Hp) (p : Addr) : Prop := ∀ o, H p = some o → ∃ ps, o = .tbl ps
theorem New0.of {H : Hp} {p : Addr} (h : H p = none) : New0 H p := fun o e => by rw [h] at e; cases e
theorem New0.ne {H : Hp} {p b : Addr} {o : HO} (n : New0 H p) (h : H b = some o) (t : ∀ ps, o ≠ .tbl ps) : b ≠ p := fun z => by
  obtain ⟨ps, e⟩ := n o (z ▸ h)
  exact t ps e
theorem New0.back {H H' : Hp} {p : Addr} (e : ExtN H H') (n : New0 H' p) : New0 H p := fun o h => by
  by_cases ht : ∃ ps, o = .tbl ps
  · exact ht
  · exact n o (e _ _ h fun ps z => ht ⟨ps, z⟩)
theorem ExtN.put {H H' : Hp} {p : Addr} {o : HO} (e : ExtN H H') (n : New0 H p) : ExtN H (upd H' p o) := fun b u h t => by
  rw [upd_ne (n.ne h t)]
  exact e b u h t
/-- the lambda that a def returns by a key -/
def keyParts (st : Stmt) : Arguments × Expr × Scope := match (defBody st).getD 0 (.Pass ⟨0, 0, 0, 0⟩) with
  | .Return (some (.Call _ _ [⟨_, .Lambda p b sc _, _⟩] _)) _ => (p, b, sc)
  | _ => ({ posonlyargs := [], args := [], vararg := none, kwonlyargs := [], kw_defaults := [], kwarg := none, defaults := [] }, .Constant .none 0 ⟨0, 0, 0, 0⟩, defScope st)
abbrev sShorter : Stmt := top 34
theorem scKey : FnScope ["name"] ["name"] (keyParts sShorter).2.2 := ⟨rfl, rfl, rfl, by decide +kernel, rfl, by decide +kernel, by decide +kernel⟩
theorem keyLam : KeyLam (keyParts sShorter).1 (keyParts sShorter).2.1 (keyParts sShorter).2.2 where
  sc := scKey
  bd := fun q pm c' ctv u => rfl
  pe := fun P w K mg base q f cd A outer s H mLen => by
    refine ⟨_, pe_tup (pa_cons (pe_callB call_len_seq (by rfl) mLen PySem.boot_len (pa_cons (pv 0) pa_nil)) (pa_cons (pv 0) pa_nil)), fun b k Q hb hq => ?_⟩
    refine ⟨_, rfl, b, _, rfl, .inr hb, ?_⟩
    rw [List.length_map]
    exact ⟨_, rfl, by show 2 ≤ sizeLine; decide, fun r nr => hq r nr⟩
abbrev qShorter : Str := lamQ ("_shorter_first" ++ ".<locals>.")
def spShorter (T : List (Addr × Str)) : Sp := fun vs H Q _ => ∃ (l : Addr) (as : List Addr) (ks : List (List Int)), vs = [.ref l] ∧ H l = some (.lst (as.map V.ref)) ∧ Paired (TupAt H) ks as ∧ as.length ≤ 1000 ∧ Tabs T H ∧
  ∀ (H' : Hp) (p : Addr) (as' : List Addr), ExtN H H' → Tabs T H' → New0 H p → H' p = some (.lst (as'.map V.ref)) → as'.Perm as → as'.Pairwise (fun b c => ltK (tOf H c) (tOf H b) = false) → Q (.ref p) H'
theorem pairedTup_ext {H H' : Hp} (e : ExtN H H') : ∀ {ks : List (List Int)} {as : List Addr}, Paired (TupAt H) ks as → Paired (TupAt H') ks as
  | _, _, .nil => .nil
  | _, _, .cons r t => .cons (e _ _ r (fun _ z => nomatch z)) (pairedTup_ext e t)
theorem tOf_paired {H H' : Hp} {ks : List (List Int)} {as : List Addr} (h : Paired (TupAt H) ks as) (h' : Paired (TupAt H') ks as) {b : Addr} (m : b ∈ as) : tOf H' b = tOf H b := by
  obtain ⟨i, hi⟩ := List.mem_iff_getElem?.mp m
  obtain ⟨x, ex, hx⟩ := Paired.nth h hi
  obtain ⟨y, ey, hy⟩ := Paired.nth h' hi
  rw [ex] at ey
  cases ey
  rw [hx.tOf, hy.tOf]
theorem ExtN.same {H H' : Hp} (s : Same H H') : ExtN H H' := fun b o h _ => s b o h
section
variable {P : Program} {w : World} {K : PySem.W.Frag} {mg : Str → Option Value} {base : Heap}
theorem scShorter : FnScope ["names"] ["names"] (defScope sShorter) := ⟨rfl, rfl, rfl, by decide +kernel, rfl, by decide +kernel, by decide +kernel⟩
theorem ok_shorter {T : List (Addr × Str)} {f c Pt : Addr} {fd : FuncData} (F : Fun K "_shorter_first" "_shorter_first" sShorter f fd) (hc : fd.code = .ref c) (TB : TabB base mg c Pt) (hm : (Pt, qShorter) ∈ T) (hu : ∀ p ∈ T, p.1 = Pt → p.2 = qShorter)
    (mLen : mg "len" = none) (mSorted : mg "sorted" = none) : FnOk P w K mg base CX0 4 f fd ["names"] (spShorter T) := by
  refine okC F scShorter (fun vs H Q E h => ?_) (fun A outer s H vs Q E hr h => ?_)
  · obtain ⟨l, as, ks, rfl, _⟩ := h
    rfl
  · obtain ⟨l, as, ks, rfl, hl, hk, hz, hT, k⟩ := h
    refine ⟨_, pss_one (ps_ret (pe_callBK (call_sortK hr mLen rfl) (by rfl) mSorted (by decide +kernel) (pa_cons (pv 0) pa_nil) (pk_cons (pe_lam0 (T := T) TB hc hm hu rfl (by decide +kernel)) pk_nil))), ?_⟩
    refine ⟨_, rfl, hT, fun f c' H1 e1 T1 n1 n2 hc' => ?_⟩
    generalize eU : upd H1 f _ = U
    have sU : Same H1 U := by rw [← eU]; exact same_new n1
    have hU : U f = some (LamO qShorter (keyParts sShorter).1 (keyParts sShorter).2.1 (keyParts sShorter).2.2 [] c' f) := by rw [← eU]; exact upd_same
    have hl1 := e1 _ _ hl (fun _ z => nomatch z)
    have hk1 := pairedTup_ext e1 hk
    refine ⟨l, f, c', as, ks, _, _, _, _, rfl, rfl, keyLam, hU, sU _ _ hc', sU _ _ hl1, pairedTup_ext (ExtN.same sU) hk1, hz, fun H' p as' sm np hp pm ps => ?_⟩
    have eH : ExtN H H' := e1.trans (ExtN.same (sU.trans sm))
    refine k H' p as' eH (T1.ext fun b o h => sm _ _ (sU _ _ h)) (New0.back (e1.trans (ExtN.same sU)) (New0.of np)) hp pm (ps.imp_of_mem fun {b d} mb md q => ?_)
    have hk2 := pairedTup_ext (ExtN.same sU) hk1
    rw [tOf_paired hk hk2 (pm.mem_iff.mp md), tOf_paired hk hk2 (pm.mem_iff.mp mb)] at q
    exact q
end
end Lp
namespace Lp
open PySem L2 LamX
local macro_rules | `(tactic| walk_at "rd") => `(tactic| simp only [tSeq, tAsg, tYes, tTest, tOp, tCB, tCons, tNil, tVar, tC, rI0, rI, gName, wipe, tDisp, tTru, TruV, tB, tNext, tDGet2, tLock, tDIn, tDNotIn, tOr, tNot, tChain, tAnd, tCont, tUn, rU, tPairs, tRet, tIf, tIfS, tPar, tLst, tTup, tDrop, tDGet, tCall, sDPut, L2.start,
  List.map_cons, List.map_nil, List.foldl_cons, List.foldl_nil, List.length_cons, List.length_nil, List.replicate_succ, List.replicate_zero, List.append_nil, List.cons_append, List.nil_append, List.set_cons_zero, List.set_cons_succ, List.getElem?_cons_zero, List.getElem?_cons_succ,
  Option.some.injEq, List.cons.injEq, V.int.injEq, V.bl.injEq, V.ref.injEq, V.str.injEq, exists_eq_left', exists_eq_left, exists_eq_right, and_true, true_and, exists_and_left, Nat.add_zero, Nat.reduceAdd, Nat.reduceSub, Nat.sub_zero, if_true, if_false])
/-! ### lots of letters -/
def subsG : Nat → List (List Int)
  | 0 => [[]]
  | k + 1 => subsG k ++ (subsG k).map fun x => x ++ [(k : Int)]
theorem subsG_len : ∀ k, (subsG k).length = 2 ^ k
  | 0 => rfl
  | k + 1 => by
    show (subsG k ++ (subsG k).map fun x => x ++ [(k : Int)]).length = _
    rw [List.length_append, List.length_map, subsG_len k, Nat.pow_succ]
    omega
theorem subsG_short : ∀ k, ∀ x ∈ subsG k, x.length ≤ k
  | 0, x, m => by rw [List.mem_singleton.mp m]; exact Nat.le_refl _
  | k + 1, x, m => by
    rcases List.mem_append.mp m with m | m
    · exact Nat.le_succ_of_le (subsG_short k x m)
    · obtain ⟨y, my, rfl⟩ := List.mem_map.mp m
      have := subsG_short k y my
      rw [List.length_append]
      simp only [List.length_singleton]
      omega
def lineG (n : Nat) : Nat → List (List Int)
  | 0 => [[]]
  | k + 1 => (lineG n k).flatMap fun lot => ((List.range n).filter fun (i : Nat) => decide (lot = []) || decide ((i : Int) > lot.getLastD 0)).map fun (i : Nat) => lot ++ [(i : Int)]
def lotsTo (n : Nat) : Nat → List (List Int)
  | 0 => [[]]
  | k + 1 => lotsTo n k ++ lineG n (k + 1)
/-- those of fewer letters first, then ascending -/
def lotsN (n : Nat) : List (List Int) := lotsTo n n
theorem lots_perm : ∀ n, n ≤ 5 → (lotsN n).Perm (subsG n)
  | 0, _ => by decide +kernel
  | 1, _ => by decide +kernel
  | 2, _ => by decide +kernel
  | 3, _ => by decide +kernel
  | 4, _ => by decide +kernel
  | 5, _ => by decide +kernel
  | n + 6, h => absurd h (by omega)
theorem lots_asc : ∀ n, n ≤ 5 → (lotsN n).Pairwise fun x y => ltK y x = false
  | 0, _ => by decide +kernel
  | 1, _ => by decide +kernel
  | 2, _ => by decide +kernel
  | 3, _ => by decide +kernel
  | 4, _ => by decide +kernel
  | 5, _ => by decide +kernel
  | n + 6, h => absurd h (by omega)
theorem lexLt_eq : ∀ x y : List Int, HT.lexLt x y = false → HT.lexLt y x = false → x = y
  | [], [], _, _ => rfl
  | [], _ :: _, h, _ => by cases h
  | _ :: _, [], _, h => by cases h
  | a :: x, b :: y, h, h' => by
    rw [HT.lexLt_cons] at h h'
    by_cases e : a = b
    · subst e
      rw [if_pos rfl] at h h'
      rw [lexLt_eq x y h h']
    · rw [if_neg e] at h
      rw [if_neg (Ne.symm e)] at h'
      have := of_decide_eq_false h
      have := of_decide_eq_false h'
      omega
theorem ltK_eq {x y : List Int} (h : ltK x y = false) (h' : ltK y x = false) : x = y := by
  unfold ltK at h h'
  by_cases e : x.length = y.length
  · rw [if_pos e] at h
    rw [if_pos e.symm] at h'
    exact lexLt_eq x y h h'
  · rw [if_neg e] at h
    rw [if_neg (Ne.symm e)] at h'
    have := of_decide_eq_false h
    have := of_decide_eq_false h'
    omega
theorem sorted_one {α : Type} {le : α → α → Prop} (anti : ∀ a b, le a b → le b a → a = b) : ∀ {l m : List α}, l.Perm m → l.Pairwise le → m.Pairwise le → l = m
  | [], m, p, _, _ => (List.nil_perm.mp p).symm
  | a :: l, [], p, _, _ => (List.perm_nil.mp p)
  | a :: l, b :: m, p, h1, h2 => by
    have c1 := List.pairwise_cons.mp h1
    have c2 := List.pairwise_cons.mp h2
    have e : a = b := by
      by_cases e : a = b
      · exact e
      · have m1 : a ∈ m := by
          rcases List.mem_cons.mp (p.mem_iff.mp List.mem_cons_self) with z | z
          · exact absurd z e
          · exact z
        have m2 : b ∈ l := by
          rcases List.mem_cons.mp (p.mem_iff.mpr List.mem_cons_self) with z | z
          · exact absurd z.symm e
          · exact z
        exact anti a b (c1.1 b m2) (c2.1 a m1)
    subst e
    rw [sorted_one anti (List.perm_cons a |>.mp p) c1.2 c2.2]
theorem paired_tOf {H : Hp} : ∀ {ks : List (List Int)} {as : List Addr}, Paired (TupAt H) ks as → ks = as.map (tOf H)
  | _, _, .nil => rfl
  | _, _, .cons r t => by rw [List.map_cons, ← paired_tOf t, r.tOf]
theorem tOf_paired' {H : Hp} : ∀ {as : List Addr}, (∀ b ∈ as, TupAt H (tOf H b) b) → Paired (TupAt H) (as.map (tOf H)) as
  | [], _ => .nil
  | b :: as, h => .cons (h b List.mem_cons_self) (tOf_paired' fun c m => h c (List.mem_cons_of_mem _ m))
theorem paired_mem {α β : Type} {R : α → β → Prop} {xs : List α} {ys : List β} (p : Paired R xs ys) {y : β} (m : y ∈ ys) : ∃ x ∈ xs, R x y := pairedMem p y m
theorem rCatK {K : PySem.W.Frag} {H : Hp} {a b : Addr} {x y : List Int} {Q : VK} (ha : TupAt H x a) (hb : TupAt H y b) (z : x.length + y.length ≤ 1000) (k : ∀ H' r, Same H H' → TupAt H' (x ++ y) r → Q (.ref r) H') : rCatA K (.ref a) (.ref b) H Q := by
  refine ⟨a, b, _, _, rfl, rfl, SqT.of ha, SqT.of hb, ?_, fun e => ?_, fun _ e => ?_, fun _ _ p np => ?_⟩
  · rw [List.length_map, List.length_map]
    exact Nat.le_of_lt (small1000 z)
  · have e' : x = [] := List.map_eq_nil_iff.mp e
    subst e'
    exact k H b (Same.refl H) hb
  · have e' : y = [] := List.map_eq_nil_iff.mp e
    subst e'
    rw [List.append_nil] at k
    exact k H a (Same.refl H) ha
  · rw [← List.map_append]
    exact k _ p (same_new np) upd_same
abbrev sLots : Stmt := top 37
def spLots (T : List (Addr × Str)) : Sp := fun vs H Q _ => ∃ n : Nat, vs = [.int n] ∧ n ≤ 5 ∧ Tabs T H ∧ ∀ (H' : Hp) (p : Addr) (as : List Addr), ExtN H H' → Tabs T H' → New0 H p → H' p = some (.lst (as.map V.ref)) → Paired (TupAt H') (lotsN n) as → Q (.ref p) H'
theorem pairedTup_same {H H' : Hp} (s : Same H H') {ks : List (List Int)} {as : List Addr} (p : Paired (TupAt H) ks as) : Paired (TupAt H') ks as := pairedTup_ext (ExtN.same s) p
section
variable {P : Program} {w : World} {K : PySem.W.Frag} {mg : Str → Option Value} {base : Heap}
theorem scLots : FnScope ["letters", "lots", "letter", "lot"] ["letters"] (defScope sLots) := ⟨rfl, rfl, rfl, by decide +kernel, rfl, by decide +kernel, by decide +kernel⟩
theorem ok_lots {T : List (Addr × Str)} {f : Addr} {fd : FuncData} (F : Fun K "_lots" "_lots" sLots f fd) (SF : Df P w K mg base CX0 4 "_shorter_first" ["names"] (spShorter T)) (mRange : mg "range" = none) : FnOk P w K mg base CX0 5 f fd ["letters"] (spLots T) := by
  refine F.ok scLots (fun vs H Q E h => ?_) (fun cdv A outer s H vs Q E hr h => ?_)
  · obtain ⟨n, rfl, _⟩ := h
    rfl
  · obtain ⟨n, rfl, hn, hT, k⟩ := h
    refine ⟨_, pss_cons (ps_set (i := 1) scLots.nd rfl (Or.inl rfl) (pe_lst (pa_cons (pe_tup pa_nil) pa_nil)))
      (pss_cons (ps_for PassesOwn.never rfl (pi_range1 (by rfl) mRange (pa_cons (pv 0) pa_nil)) (pg_name (i := 2) scLots.nd rfl (Or.inr rfl))
        (pss_one (ps_set (i := 1) scLots.nd rfl (Or.inl rfl) (pe_op op_cat (pv 1) (pe_lc (own := [("lot", 3)]) (g := gName 3) (tt := tYes) rfl scLots.nd (pi_list (pv 1)) (blkOk_by (N := ["letters", "lots", "letter", "lot"]) (sc := defScope sLots) (by decide +kernel))
          (fun _ _ _ _ _ => pg_name (i := 3) scLots.nd rfl (Or.inl rfl)) (fun _ _ _ _ _ => pts_nil) (fun _ _ _ _ _ => pe_op (r := rCatA K) op_catA (pv 3) (pe_tup (pa_cons (pv 2) pa_nil))))))))
      (pss_one (ps_ret (pe_df SF hr (by rfl) pass0 (pa_cons (pv 1) pa_nil))))), ?_⟩
    refine ⟨by show 0 ≤ sizeLine; decide, fun t0 nt0 => ⟨by show 1 ≤ sizeLine; decide, fun l0 nl0 => ?_⟩⟩
    have s0 : Same H (upd (upd H t0 (.tup [])) l0 (.lst [.ref t0])) := same_upd (same_new nt0) (none_upd nl0)
    refine ⟨_, rfl, n, rfl, by omega, by omega, ?_⟩
    refine for_it (walk_range (lo := 0) (n := n)) (fun i σ H' => ∃ v2 v3 L as, σ = [some (.int n), some (.ref L), v2, v3] ∧ Same H H' ∧ H' L = some (.lst (as.map V.ref)) ∧ Paired (TupAt H') (subsG i) as) ?_ (fun _ _ _ _ _ => trivial) ?_ ?_
    · refine ⟨none, none, l0, [t0], rfl, s0, upd_same, .cons ?_ .nil⟩
      show _ = _
      rw [upd_ne (fun e => by rw [← e] at nl0; rw [upd_same] at nl0; cases nl0)]
      exact upd_same
    · rintro i x σ H' H1 hi ⟨v2, v3, L, as, rfl, s1, hL, hP⟩ ⟨rfl, rfl⟩
      show gName 2 (.int (0 + (i : Int))) _ _ _
      rw [Int.zero_add]
      have la : as.length = 2 ^ i := by rw [← Paired.length hP, subsG_len]
      have lb : 2 ^ i ≤ 2 ^ 5 := Nat.pow_le_pow_right (by decide) (by omega)
      refine ⟨_, rfl, ?_⟩
      refine ⟨_, rfl, L, rfl, ⟨_, SqL.of hL⟩, fun D hD => ?_⟩
      refine lc_it walk_list (fun j H2 => Same H1 H2 ∧ ∃ bs, H2 D = some (.lst (bs.map V.ref)) ∧ Paired (TupAt H2) (((subsG i).take j).map fun x => x ++ [(i : Int)]) bs) ⟨same_new hD, [], upd_same, .nil⟩ (fun j H2 _ h => SqL.of (h.1 _ _ hL)) ?_ ?_
      · rintro j y H2 H3 hj ⟨s2, bs, hB, hPb⟩ ⟨rfl, hy⟩
        rw [List.getElem?_map] at hy
        cases ey : as[j]? with
        | none => rw [ey] at hy; cases hy
        | some b =>
          rw [ey] at hy
          cases hy
          obtain ⟨x, ex, hx⟩ := Paired.nth hP ey
          have sx := subsG_short i x (List.mem_of_getElem? ex)
          have lbs : bs.length ≤ 32 := by
            have := Paired.length hPb
            rw [List.length_map, List.length_take, subsG_len] at this
            omega
          show gName 3 (.ref b) _ _ _
          walk_at "rd"
          refine ⟨by show 1 ≤ sizeLine; decide, fun t nt => ?_⟩
          have st : Same H3 (upd H3 t (.tup [.int i])) := same_new nt
          refine rCatK (y := [(i : Int)]) (st _ _ (s2 _ _ hx)) upd_same (by simp only [List.length_singleton]; omega) fun H4 r s4 hr4 => ?_
          have hB4 := s4 _ _ (st _ _ hB)
          refine ⟨_, hB4, by rw [List.length_map]; exact small1000 (by omega), same_upd ((s2.trans st).trans s4) hD, bs ++ [r], ?_, ?_⟩
          · rw [upd_same, List.map_append]; rfl
          · rw [take_snoc ex, List.map_append]
            have keep : ∀ a b, TupAt H4 a b → TupAt (upd H4 D (.lst (bs.map V.ref ++ [.ref r]))) a b := fun a b h => by
              unfold TupAt
              rw [upd_ne (ne_of (show H4 b = some _ from h) hB4 (fun z => nomatch z))]
              exact h
            exact Paired.imp2 keep (Paired.app (pairedTup_same (st.trans s4) hPb) (.cons hr4 .nil))
      · rintro H2 ⟨s2, bs, hB, hPb⟩
        have lz : as.length = (subsG i).length := by rw [la, subsG_len]
        rw [List.length_map, lz, List.take_length] at hPb
        have lbs : bs.length = 2 ^ i := by
          have := Paired.length hPb
          rw [List.length_map, subsG_len] at this
          omega
        refine ⟨L, D, _, _, rfl, rfl, s2 _ _ hL, hB, by rw [List.length_map, List.length_map, sizeLine_eq]; omega, fun p np => ?_⟩
        refine ⟨_, _, p, as ++ bs, rfl, (s1.trans s2).trans (same_new np), ?_, ?_⟩
        · rw [upd_same, List.map_append]
        · show Paired _ (subsG i ++ _) _
          exact pairedTup_same (same_new np) (Paired.app (pairedTup_same s2 hP) hPb)
    · rintro σ H1 ⟨v2, v3, L, as, rfl, s1, hL, hP⟩
      have la : as.length = 2 ^ n := by rw [← Paired.length hP, subsG_len]
      have lb : 2 ^ n ≤ 2 ^ 5 := Nat.pow_le_pow_right (by decide) hn
      refine ⟨_, rfl, L, as, _, rfl, hL, hP, by omega, hT.ext s1, fun H2 p as' e2 T2 np hp pm ps => ?_⟩
      have kp := paired_tOf hP
      have el : as'.map (tOf H1) = lotsN n := by
        refine sorted_one (le := fun x y => ltK y x = false) (fun a b h h' => ltK_eq h' h) ?_ (List.pairwise_map.mpr ps) (lots_asc n hn)
        exact ((pm.map (tOf H1)).trans (List.Perm.of_eq kp.symm)).trans (lots_perm n hn).symm
      refine k H2 p as' ((ExtN.same s1).trans e2) T2 (New0.back (ExtN.same s1) np) hp ?_
      rw [← el]
      have all : ∀ b ∈ as', TupAt H1 (tOf H1 b) b := fun b m => by
        obtain ⟨x, _, hx⟩ := paired_mem hP (pm.mem_iff.mp m)
        rw [hx.tOf]
        exact hx
      exact pairedTup_ext e2 (tOf_paired' all)
end
end Lp
namespace Lp
open PySem L2 LamX
local macro_rules | `(tactic| walk_at "rd") => `(tactic| simp only [tSeq, tAsg, tYes, tTest, tOp, tCB, tCons, tNil, tVar, tC, rI0, rI, gName, wipe, tDisp, tTru, TruV, tB, tNext, tDGet2, tLock, tDIn, tDNotIn, tOr, tNot, tChain, tAnd, tCont, tUn, rU, tPairs, tRet, tIf, tIfS, tPar, tLst, tTup, tDrop, tDGet, tCall, sDPut, L2.start,
  List.map_cons, List.map_nil, List.foldl_cons, List.foldl_nil, List.length_cons, List.length_nil, List.replicate_succ, List.replicate_zero, List.append_nil, List.cons_append, List.nil_append, List.set_cons_zero, List.set_cons_succ, List.getElem?_cons_zero, List.getElem?_cons_succ,
  Option.some.injEq, List.cons.injEq, V.int.injEq, V.bl.injEq, V.ref.injEq, V.str.injEq, exists_eq_left', exists_eq_left, exists_eq_right, and_true, true_and, exists_and_left, Nat.add_zero, Nat.reduceAdd, Nat.reduceSub, Nat.sub_zero, if_true, if_false])
/-! ### places by their names: dicts of tuples of ints -/
def kK (k : List Int) : List Key := k.map Sum.inl
theorem kK_kV (k : List Int) : (kK k).map kV = k.map V.int := by
  unfold kK
  rw [List.map_map]
  rfl
theorem kK_inj {x y : List Int} (h : kK x = kK y) : x = y := by
  unfold kK at h
  exact List.map_inj_right (fun a b e => Sum.inl.inj e) |>.mp h
def atKV (ks : List (List Int)) : List (List Key × V) := ks.mapIdx fun i k => (kK k, V.int i)
theorem atKV_snoc (ks : List (List Int)) (k : List Int) : atKV (ks ++ [k]) = atKV ks ++ [(kK k, V.int ks.length)] := by
  unfold atKV
  rw [List.mapIdx_concat]
theorem atKV_len (ks : List (List Int)) : (atKV ks).length = ks.length := by
  unfold atKV
  rw [List.length_mapIdx]
theorem atKV_none {ks : List (List Int)} {k : List Int} (h : k ∉ ks) : valV (atKV ks) (kK k) = none := by
  unfold valV
  rw [Option.map_eq_none_iff, List.find?_eq_none]
  intro e m z
  unfold atKV at m
  obtain ⟨i, hi, rfl⟩ := List.mem_mapIdx.mp m
  exact h (by rw [← kK_inj (of_decide_eq_true z)]; exact List.getElem_mem hi)
theorem atKV_some : ∀ {ks : List (List Int)} {i : Nat} {k : List Int}, ks.Nodup → ks[i]? = some k → valV (atKV ks) (kK k) = some (.int i) := by
  intro ks
  induction ks using rev_ind with
  | h0 => intro i k _ h; cases h
  | h1 l a ih =>
    intro i k nd h
    rw [List.nodup_append] at nd
    rw [atKV_snoc]
    have app : ∀ (u : List (List Key × V)) (v : List Key × V), valV (u ++ [v]) (kK k) = (valV u (kK k)).or (if v.1 = kK k then some v.2 else none) := fun u v => by
      unfold valV
      rw [List.find?_append]
      cases u.find? (fun kv => decide (kv.1 = kK k)) with
      | some q => rfl
      | none =>
        by_cases e : v.1 = kK k
        · simp [List.find?_cons, e]
        · simp [List.find?_cons, e]
    rw [app]
    rcases at_snoc h with h | ⟨rfl, rfl⟩
    · rw [ih nd.1 h]
      rfl
    · have nm : k ∉ l := fun m => nd.2.2 k m k (List.mem_singleton.mpr rfl) rfl
      rw [atKV_none nm]
      simp
/-- names told as places -/
def NumAt (H : Hp) (d : Addr) (ks : List (List Int)) : Prop := H d = some (.dT (atKV ks))
theorem NumAt.get {H : Hp} {d b : Addr} {ks : List (List Int)} {k : List Int} (h : NumAt H d ks) (hb : TupAt H k b) : DGet H d (.ref b) (valV (atKV ks) (kK k)) :=
  DGet.t (k := kK k) h (by rw [kK_kV]; exact hb)
abbrev sNumbered : Stmt := top 35
def spNumbered : Sp := fun vs H Q _ => ∃ (l : Addr) (as : List Addr) (ks : List (List Int)), vs = [.ref l] ∧ H l = some (.lst (as.map V.ref)) ∧ Paired (TupAt H) ks as ∧ ks.Nodup ∧ ks.length ≤ 1000 ∧ ∀ H' d, Same H H' → H d = none → NumAt H' d ks → Q (.ref d) H'
section
variable {P : Program} {w : World} {K : PySem.W.Frag} {mg : Str → Option Value} {base : Heap}
theorem scNumbered : FnScope ["names", "place", "name"] ["names"] (defScope sNumbered) := ⟨rfl, rfl, rfl, by decide +kernel, rfl, by decide +kernel, by decide +kernel⟩
theorem ok_numbered {f : Addr} {fd : FuncData} (F : Fun K "_numbered" "_numbered" sNumbered f fd) (mEnum : mg "enumerate" = none) : FnOk P w K mg base CX0 1 f fd ["names"] spNumbered := by
  refine F.ok scNumbered (fun vs H Q E h => ?_) (fun cdv A outer s H vs Q E hr h => ?_)
  · obtain ⟨l, as, ks, rfl, _⟩ := h
    rfl
  · obtain ⟨l, as, ks, rfl, hl, hk, nd, hz, k⟩ := h
    have hu := hu_of hr
    refine ⟨_, pss_one (ps_ret (pe_dp (b := true) (own := [("place", 1), ("name", 2)]) (g := gTup K 2 (gCons (gName 1) (gCons (gName 2) gNil))) (tt := tYes) hu rfl scNumbered.nd (pi_enum (by rfl) mEnum (pa_cons (pv 0) pa_nil)) (blkOk_by (N := ["names", "place", "name"]) (sc := defScope sNumbered) (by decide +kernel))
      (fun _ _ _ _ _ => pg_tup rfl (pgs_cons (pg_name (i := 1) scNumbered.nd rfl (Or.inl rfl)) (pgs_cons (pg_name (i := 2) scNumbered.nd rfl (Or.inl rfl)) pgs_nil))) (fun _ _ _ _ _ => pts_nil) (fun _ _ _ _ _ => pv 2) (fun _ _ _ _ _ => pv 1))), ?_⟩
    refine ⟨_, rfl, l, _, rfl, SqL.of hl, fun D hD => ?_⟩
    have lz : as.length = ks.length := (Paired.length hk).symm
    refine dp_it walk_enum (b := true) (fun i H' => Same H H' ∧ H' D = some (.dT (atKV (ks.take i)))) ⟨same_new hD, upd_same⟩ (fun i H' _ h => SqL.of (h.1 _ _ hl)) ?_ ?_
    · rintro i x H1 H' hi ⟨s1, hT⟩ ⟨t, y, z, rfl, nt, rfl, hy, hz'⟩
      cases hy
      replace hz' : (as.map V.ref)[i]? = some z := hz'
      rw [List.getElem?_map] at hz'
      cases ey : as[i]? with
      | none => rw [ey] at hz'; cases hz'
      | some b =>
        rw [ey] at hz'
        cases hz'
        obtain ⟨x, ex, hx⟩ := Paired.nth hk ey
        have li : i < ks.length := (List.getElem?_eq_some_iff.mp ex).1
        have st : Same H1 (upd H1 t (.tup [.int (i : Nat), .ref b])) := same_new nt
        refine ⟨t, _, rfl, SqT.of upd_same, rfl, _, _, rfl, ?_⟩
        show gName 1 (.int (i : Nat)) _ _ _
        refine ⟨_, _, rfl, ?_⟩
        show gName 2 (.ref b) _ _ _
        refine ⟨rfl, rfl, ?_⟩
        walk_at "rd"
        have hD' := st _ _ hT
        have hb : TupAt (upd H1 t (.tup [.int (i : Nat), .ref b])) x b := st _ _ (s1 _ _ hx)
        have nm : x ∉ ks.take i := nodup_take nd ex
        refine ⟨_, .inr ⟨_, kK x, b, hD', rfl, by rw [kK_kV]; exact hb, ?_, rfl⟩, same_upd (s1.trans st) hD, ?_⟩
        · rw [atKV_len, List.length_take]
          exact small1000 (by omega)
        · rw [putK_new _ (atKV_none nm), take_snoc ex, atKV_snoc, List.length_take, Nat.min_eq_left (Nat.le_of_lt li)]
          exact upd_same
    · rintro H' ⟨s1, hT⟩
      rw [List.length_map, lz, List.take_length] at hT
      exact k H' D s1 hD hT
end
end Lp
namespace Lp
open PySem PySem.Spec PySem.Calls PyProof.Rows L2
/-! ### sorted(t), t a tuple of ints -/
section
variable {prog : Program} {w : World} {A : Around} {E : Value → Shared → Prop} {s : Shared}
theorem collect_tup {t : Addr} {vs : List Value} {Q : List Value → Shared → Prop} (hl : IsTup s.heap t vs.toArray) (hz : vs.length ≤ sizeLine) (h : ∀ h' : Heap, (∀ b o, s.heap.get? b = some o → h'.get? b = some o) → s.heap.objs.size ≤ h'.objs.size → Q vs { s with heap := h' }) :
    wpAny (model prog w) A (collect (.ref t)) Q E s := by
  obtain ⟨o, ho, hc, n, hd⟩ := id hl
  have k1 : (s.heap.push (seqObj "list" #[] 0)).get? s.heap.objs.size = some (seqObj "list" #[] 0) := Heap.get?_push_size _ rfl
  have k2 : (s.heap.push (seqObj "list" #[] 0)).get? t = some o := Heap.get?_push_of_some _ ho
  unfold collect
  refine wpAny_bind (wpAny_runValue (codeAny_builtin entry_proto_collect' ?_)); show wpAny _ _ (do again (.builtin "list.__iadd__" ⟨[← newList [], .ref t], []⟩)) _ _ s
  refine wpAny_bind (wpAny_newList (wpAny_pure ⟨Code.quiet_builtin _ (by decide +kernel), codeAny_builtin entry_list_iadd' ?_⟩)); show wpAny _ _ (Builtin.List.listExtendWith (.ref s.heap.objs.size) (.ref t) (.ref s.heap.objs.size)) _ _ { s with heap := s.heap.push (seqObj "list" #[] 0) }
  unfold Builtin.List.listExtendWith
  refine wpAny_bind (wpAny_typeOf (T := "tuple") ⟨o, k2, hc⟩ ?_)
  have e1 : (Value.type "tuple" == Value.type "list") = false := by rfl
  have e2 : (Value.type "tuple" == Value.type "tuple") = true := by rfl
  rw [if_pos (by rw [e1, e2]; simp)]
  refine wpAny_bind (listItems_at k2 hd (wpAny_bind (listItems_at k1 rfl ?_)))
  have ne : t ≠ s.heap.objs.size := fun z => Nat.lt_irrefl _ (z ▸ Heap.lt_size ho)
  rw [if_neg (by simp)]
  refine wpAny_bind (listUpdate_at k1 rfl ?_ (Nat.zero_le _) (by show (#[] ++ vs.toArray).size ≤ sizeLine + 1; simp; omega))
  refine wpAny_pure (wpAny_bind (wpAny_load (get?_update_seq k1 _) ?_))
  show wpAny _ _ (pure ((#[] : Array Value) ++ vs.toArray).toList) Q E _
  rw [show ((#[] : Array Value) ++ vs.toArray).toList = vs by simp]
  refine wpAny_pure (h _ (fun b u e => ?_) ?_)
  · exact (Heap.get?_update_ne _ _ _ _ (Nat.ne_of_lt (Heap.lt_size e))).trans (Heap.get?_push_of_some _ e)
  · rw [Heap.size_update, size_push']; exact Nat.le_succ _
end
def rSortT (K : PySem.W.Frag) : List V → Hp → VK → Prop := fun vs H Q => ∃ (a : Addr) (ns : List Int), vs = [V.ref a] ∧ SqT K H a (ns.map V.int) ∧ ∀ (ns' : List Int) (p : Addr), ns'.Perm ns → ns'.Pairwise (· ≤ ·) → H p = none → Q (.ref p) (upd H p (.lst (ns'.map V.int)))
theorem cr_sortT {X : Cx} : CallR X (.builtin "sorted") (rSortT X.K) := by
  intro pins s σ H vs us Q I r h
  obtain ⟨a, ns, rfl, hs, q⟩ := h
  obtain ⟨its, rv, hl, hz⟩ := I.tuple hs
  rw [Vals.ref1 r]
  have hi := rv.ints
  have li : its.length ≤ sizeLine := by rw [← rv.length]; exact hz
  refine Calls.call_function_entry kind_sorted plain_sorted entry_sorted (args_sorted1 _) ?_
  unfold Builtin.«sorted»
  refine wpAny_bind (m := checkCount "sorted" 1 1 _) (wpAny_pure (wpAny_bind (collect_tup hl li fun G kp gs => ?_)))
  refine wpAny_bind (wpAny_newList ?_ li)
  have hoL : (G.push (seqObj "list" its.toArray 0)).get? G.objs.size = some (seqObj "list" its.toArray 0) := Heap.get?_push_size _ rfl
  have nA : H G.objs.size = none := I.hok.fresh gs
  refine wpAny_bind (wpAny_holding (wpAny_call_entry slot_list_sort ⟨_, hoL, rfl⟩ entry_list_sort
    (SrtO.list_sort_ord (s := { s with heap := G.push (seqObj "list" its.toArray 0) }) SrtO.swo_int hoL li (fun h2 => SrtO.ints_sortable hi h2) fun out h1 h2 => ⟨_, rfl, ?_⟩) (args_list_sort _)))
  obtain ⟨k1, k2, k3⟩ := SrtO.ints_out hi h1 h2
  obtain ⟨ep, he'⟩ := sortedHeap_at (vs := its) (out := out.toArray) hoL
  have hlen : ((out.map SrtO.iv).map V.int).length ≤ sizeLine := by
    rw [List.length_map, k2.length_eq, ← List.length_map (f := V.int)]
    exact hz
  refine wpAny_pure ⟨_, rfl, .ref G.objs.size, upd H G.objs.size (.lst ((out.map SrtO.iv).map V.int)), I.laid (t' := s.toks) (fun b u e => ?_) gs ⟨hlen, out, ep, vals_of_ints k1, he'⟩, rfl, q _ _ k2 k3 nA⟩
  have lt : b < G.objs.size := Nat.lt_of_lt_of_le (Heap.lt_size e) gs
  rw [sortedHeap_old (Nat.ne_of_lt lt) (by rw [size_push']; exact Nat.lt_succ_of_lt lt)]
  exact Heap.get?_push_of_some _ (kp b u e)
end Lp
namespace Lp
open PySem L2 LamX
local macro_rules | `(tactic| walk_at "rd") => `(tactic| simp only [tSeq, tAsg, tYes, tTest, tOp, tCB, tCons, tNil, tVar, tC, rI0, rI, gName, wipe, tDisp, tTru, TruV, tB, tNext, tDGet2, tLock, tDIn, tDNotIn, tOr, tNot, tChain, tAnd, tCont, tUn, rU, tPairs, tRet, tIf, tIfS, tPar, tLst, tTup, tDrop, tDGet, tCall, sDPut, L2.start,
  List.map_cons, List.map_nil, List.foldl_cons, List.foldl_nil, List.length_cons, List.length_nil, List.replicate_succ, List.replicate_zero, List.append_nil, List.cons_append, List.nil_append, List.set_cons_zero, List.set_cons_succ, List.getElem?_cons_zero, List.getElem?_cons_succ,
  Option.some.injEq, List.cons.injEq, V.int.injEq, V.bl.injEq, V.ref.injEq, V.str.injEq, exists_eq_left', exists_eq_left, exists_eq_right, and_true, true_and, exists_and_left, Nat.add_zero, Nat.reduceAdd, Nat.reduceSub, Nat.sub_zero, if_true, if_false])
/-! ### [e for x in xs for y in ys]: by structures of walk -/
def In2 (D : Addr) (g1 : TG) (tt1 : TT) (te : TE) (vs1 : List Nat) (σ2 : L2.St) (N : Hp → Prop) (J1 : It) (H4 : Hp) : Prop := ∃ W1 : Nat → Nat → Hp → Prop, (∃ m, W1 0 m H4) ∧ ∀ j k H, W1 j k H →
  (J1.stop j H ∧ N H) ∨ (J1.go j H ∧ ∃ Nx1 : Hp → Prop, (∀ H', Nx1 H' → ∃ k', k' < k ∧ W1 (j + 1) k' H') ∧ ∀ x H', J1.yld j H x H' → g1 x (wipe σ2 vs1) H' fun σ3 H5 => wipe σ3 vs1 = wipe σ2 vs1 ∧ tt1 σ3 H5 fun b H6 =>
    if b = true then te σ3 H6 fun y H7 => ∃ acc, H7 D = some (.lst acc) ∧ acc.length < sizeLine ∧ Nx1 (upd H7 D (.lst (acc ++ [y]))) else Nx1 H6)
theorem lc2_in {J : It} {n : Nat} {G : Hp → Prop} {Y : Nat → Hp → V → Hp → Prop} (w : Walk J n G Y) {D : Addr} {g1 : TG} {tt1 : TT} {te : TE} {vs1 : List Nat} {σ2 : L2.St} {N : Hp → Prop} {H4 : Hp} (Pv : Nat → Hp → Prop) (h0 : Pv 0 H4) (hG : ∀ i H, i ≤ n → Pv i H → G H)
    (hs : ∀ i x H H', i < n → Pv i H → Y i H x H' → g1 x (wipe σ2 vs1) H' fun σ3 H5 => wipe σ3 vs1 = wipe σ2 vs1 ∧ tt1 σ3 H5 fun b H6 =>
      if b = true then te σ3 H6 fun y H7 => ∃ acc, H7 D = some (.lst acc) ∧ acc.length < sizeLine ∧ Pv (i + 1) (upd H7 D (.lst (acc ++ [y]))) else Pv (i + 1) H6) (hd : ∀ H, Pv n H → N H) : In2 D g1 tt1 te vs1 σ2 N J H4 := by
  refine ⟨fun i m H => m = n - i ∧ i ≤ n ∧ Pv i H, ⟨n, by simp, Nat.zero_le _, h0⟩, ?_⟩
  rintro i m H ⟨rfl, hi, p⟩
  have q := hG i H hi p
  by_cases lt : i < n
  · exact .inr ⟨w.goes i H lt q, Pv (i + 1), fun H' p' => ⟨n - (i + 1), by omega, rfl, lt, p'⟩, fun x H' y => hs i x H H' lt p (w.yields i H x H' lt q y)⟩
  · have e : i = n := by omega
    subst e
    exact .inl ⟨w.stops H q, hd H p⟩
theorem lc2_it {J : It} {n : Nat} {G : Hp → Prop} {Y : Nat → Hp → V → Hp → Prop} (w : Walk J n G Y) {g : TG} {tt : TT} {wi1 : TI} {g1 : TG} {tt1 : TT} {te : TE} {vs vs1 : List Nat} {σ : L2.St} {H1 : Hp} {D : Addr} {Qd : Hp → Prop} (Pv : Nat → Hp → Prop) (h0 : Pv 0 (upd H1 D (.lst []))) (hG : ∀ i H, i ≤ n → Pv i H → G H)
    (hs : ∀ i x H H', i < n → Pv i H → Y i H x H' → g x (wipe σ vs) H' fun σ2 H2 => wipe σ2 vs = wipe σ vs ∧ tt σ2 H2 fun b H3 =>
      if b = true then wi1 σ2 H3 fun J1 H4 => In2 D g1 tt1 te vs1 σ2 (Pv (i + 1)) J1 H4 else Pv (i + 1) H3) (hd : ∀ H, Pv n H → Qd H) :
    ∃ W : Nat → Nat → Hp → Prop, (∃ m, W 0 m (upd H1 D (.lst []))) ∧ ∀ i m H, W i m H →
      (J.stop i H ∧ Qd H) ∨ (J.go i H ∧ ∃ Nx : Hp → Prop, (∀ H', Nx H' → ∃ m', m' < m ∧ W (i + 1) m' H') ∧ ∀ x H', J.yld i H x H' → g x (wipe σ vs) H' fun σ2 H2 => wipe σ2 vs = wipe σ vs ∧ tt σ2 H2 fun b H3 =>
        if b = true then wi1 σ2 H3 fun J1 H4 => In2 D g1 tt1 te vs1 σ2 Nx J1 H4 else Nx H3) := by
  refine ⟨fun i m H => m = n - i ∧ i ≤ n ∧ Pv i H, ⟨n, by simp, Nat.zero_le _, h0⟩, ?_⟩
  rintro i m H ⟨rfl, hi, p⟩
  have q := hG i H hi p
  by_cases lt : i < n
  · exact .inr ⟨w.goes i H lt q, Pv (i + 1), fun H' p' => ⟨n - (i + 1), by omega, rfl, lt, p'⟩, fun x H' y => hs i x H H' lt p (w.yields i H x H' lt q y)⟩
  · have e : i = n := by omega
    subst e
    exact .inl ⟨w.stops H q, hd H p⟩
/-! ### products of lots -/
def insI (a : Int) : List Int → List Int
  | [] => [a]
  | b :: l => if a ≤ b then a :: b :: l else b :: insI a l
def sortI : List Int → List Int
  | [] => []
  | a :: l => insI a (sortI l)
theorem insI_perm (a : Int) : ∀ l, (insI a l).Perm (a :: l)
  | [] => List.Perm.refl _
  | b :: l => by
    unfold insI
    by_cases h : a ≤ b
    · rw [if_pos h]
    · rw [if_neg h]
      exact ((insI_perm a l).cons b).trans (List.Perm.swap a b l)
theorem sortI_perm : ∀ l, (sortI l).Perm l
  | [] => List.Perm.refl _
  | a :: l => (insI_perm a _).trans ((sortI_perm l).cons a)
theorem insI_asc (a : Int) : ∀ {l}, l.Pairwise (· ≤ ·) → (insI a l).Pairwise (· ≤ ·)
  | [], _ => List.pairwise_singleton _ _
  | b :: l, h => by
    unfold insI
    have c := List.pairwise_cons.mp h
    by_cases q : a ≤ b
    · rw [if_pos q]
      exact List.pairwise_cons.mpr ⟨fun x m => (List.mem_cons.mp m).elim (fun z => by rw [z]; exact q) fun z => Int.le_trans q (c.1 x z), h⟩
    · rw [if_neg q]
      refine List.pairwise_cons.mpr ⟨fun x m => ?_, insI_asc a c.2⟩
      rcases List.mem_cons.mp ((insI_perm a l).mem_iff.mp m) with z | z
      · rw [z]; omega
      · exact c.1 x z
theorem sortI_asc : ∀ l, (sortI l).Pairwise (· ≤ ·)
  | [] => List.Pairwise.nil
  | a :: l => insI_asc a (sortI_asc l)
theorem sortI_eq {l ns : List Int} (p : ns.Perm l) (h : ns.Pairwise (· ≤ ·)) : ns = sortI l := sorted_one (le := (· ≤ ·)) (fun a b h h' => Int.le_antisymm h h') (p.trans (sortI_perm l).symm) h (sortI_asc l)
/-- pairs of one of x above one of y -/
def inv (x y : List Int) : Nat := (x.map fun a => (y.filter fun b => decide (a > b)).length).sum
theorem inv_snoc (x y : List Int) (a : Int) : inv (x ++ [a]) y = inv x y + (y.filter fun b => decide (a > b)).length := by
  unfold inv
  rw [List.map_append, List.sum_append]
  simp
/-- the row of a product of the places i and j -/
def rowL (ls : List (List Int)) (k : Int × Int) : Row := match ls[k.1.toNat]?, ls[k.2.toNat]? with
  | some x, some y => if 0 ≤ k.1 ∧ 0 ≤ k.2 ∧ sortI (x ++ y) ∈ ls then [((ls.idxOf (sortI (x ++ y)) : Int), sgn (inv x y))] else []
  | _, _ => []
theorem rowL_at {ls : List (List Int)} {i j : Nat} {x y : List Int} (hx : ls[i]? = some x) (hy : ls[j]? = some y) : rowL ls ((i : Int), (j : Int)) = if sortI (x ++ y) ∈ ls then [((ls.idxOf (sortI (x ++ y)) : Int), sgn (inv x y))] else [] := by
  unfold rowL
  simp only [Int.toNat_natCast, hx, hy]
  have e1 : (0 : Int) ≤ (i : Int) := Int.natCast_nonneg _
  have e2 : (0 : Int) ≤ (j : Int) := Int.natCast_nonneg _
  simp only [e1, e2, true_and]
theorem rowL_ok (ls : List (List Int)) (k : Int × Int) : Nd (rowL ls k) ∧ Bel ls.length (rowL ls k) ∧ (rowL ls k ≠ [] → ∃ i j : Nat, k = ((i : Int), (j : Int)) ∧ i < ls.length ∧ j < ls.length) := by
  unfold rowL
  cases e1 : ls[k.1.toNat]? with
  | none => exact ⟨List.Pairwise.nil, fun q m => (nomatch m), fun z => absurd rfl z⟩
  | some x =>
    cases e2 : ls[k.2.toNat]? with
    | none => exact ⟨List.Pairwise.nil, fun q m => (nomatch m), fun z => absurd rfl z⟩
    | some y =>
      show Nd (if 0 ≤ k.1 ∧ 0 ≤ k.2 ∧ sortI (x ++ y) ∈ ls then _ else _) ∧ Bel _ (if 0 ≤ k.1 ∧ 0 ≤ k.2 ∧ sortI (x ++ y) ∈ ls then _ else _) ∧ ((if 0 ≤ k.1 ∧ 0 ≤ k.2 ∧ sortI (x ++ y) ∈ ls then _ else _) ≠ [] → _)
      by_cases h : 0 ≤ k.1 ∧ 0 ≤ k.2 ∧ sortI (x ++ y) ∈ ls
      · rw [if_pos h]
        refine ⟨by unfold Nd; simp, fun q m => ?_, fun _ => ⟨k.1.toNat, k.2.toNat, Prod.ext (Int.toNat_of_nonneg h.1).symm (Int.toNat_of_nonneg h.2.1).symm, (List.getElem?_eq_some_iff.mp e1).1, (List.getElem?_eq_some_iff.mp e2).1⟩⟩
        rw [List.mem_singleton.mp m]
        have := List.idxOf_lt_length_iff.mpr h.2.2
        exact ⟨Int.natCast_nonneg _, by show ((ls.idxOf _ : Nat) : Int) < _; omega⟩
      · rw [if_neg h]
        exact ⟨List.Pairwise.nil, fun q m => (nomatch m), fun z => absurd rfl z⟩
end Lp
namespace Lp
open PySem L2 LamX
local macro_rules | `(tactic| walk_at "rd") => `(tactic| simp only [tSeq, tAsg, tYes, tTest, tOp, tCB, tCons, tNil, tVar, tC, rI0, rI, gName, wipe, tDisp, tTru, TruV, tB, tNext, tDGet2, tLock, tDIn, tDNotIn, tOr, tNot, tChain, tAnd, tCont, tUn, rU, tPairs, tRet, tIf, tIfS, tPar, tLst, tTup, tDrop, tDGet, tCall, sDPut, L2.start,
  List.map_cons, List.map_nil, List.foldl_cons, List.foldl_nil, List.length_cons, List.length_nil, List.replicate_succ, List.replicate_zero, List.append_nil, List.cons_append, List.nil_append, List.set_cons_zero, List.set_cons_succ, List.getElem?_cons_zero, List.getElem?_cons_succ,
  Option.some.injEq, List.cons.injEq, V.int.injEq, V.bl.injEq, V.ref.injEq, V.str.injEq, exists_eq_left', exists_eq_left, exists_eq_right, and_true, true_and, exists_and_left, Nat.add_zero, Nat.reduceAdd, Nat.reduceSub, Nat.sub_zero, if_true, if_false])
theorem inv_le (x y : List Int) : inv x y ≤ x.length * y.length := by
  unfold inv
  induction x with
  | nil => simp
  | cons a x ih =>
    rw [List.map_cons, List.sum_cons, List.length_cons, Nat.succ_mul]
    have := List.length_filter_le (fun b => decide (a > b)) y
    omega
theorem pi_tupK {X : Cx} {tg l : Expr} {tl : TE} {K : PySem.W.Frag} (hK : X.K = K) (hl : PE X l tl) : PI X tg l (iTup K tl) := by
  subst hK
  exact pi_tup hl
theorem pi_listK {X : Cx} {tg l : Expr} {tl : TE} {K : PySem.W.Frag} (hK : X.K = K) (hl : PE X l tl) : PI X tg l (iList K tl) := by
  subst hK
  exact pi_list hl
/-! ### _lot_products -/
/-- the entries made so far -/
structure LotAt (H : Hp) (P : Addr) (ls : List (List Int)) (i j : Nat) (pt : PTab) : Prop where
  tab : TabAt H P pt
  len : pt.length ≤ i * 32 + j
  nd : (pt.map (·.1)).Nodup
  row : ∀ e ∈ pt, RowAt H e.2 (rowL ls e.1) ∧ e.2 ≠ P ∧ ∃ a b : Nat, e.1 = ((a : Int), (b : Int)) ∧ a < ls.length ∧ b < ls.length ∧ (a < i ∨ a = i ∧ b < j)
  ne : ∀ e ∈ pt, rowL ls e.1 ≠ []
  off : ∀ a b : Nat, a < ls.length → b < ls.length → (a < i ∨ a = i ∧ b < j) → (∀ e ∈ pt, e.1 ≠ ((a : Int), (b : Int))) → rowL ls ((a : Int), (b : Int)) = []
theorem LotAt.but {H H' : Hp} {P : Addr} {ls : List (List Int)} {i j : Nat} {pt : PTab} (L : LotAt H P ls i j pt) (s : Same H H') : LotAt H' P ls i j pt :=
  ⟨s _ _ L.tab, L.len, L.nd, fun e m => ⟨s _ _ (L.row e m).1, (L.row e m).2⟩, L.ne, L.off⟩
theorem LotAt.next {H : Hp} {P : Addr} {ls : List (List Int)} {i : Nat} {pt : PTab} (L : LotAt H P ls i ls.length pt) (z : ls.length ≤ 32) : LotAt H P ls (i + 1) 0 pt := by
  refine ⟨L.tab, ?_, L.nd, fun e m => ⟨(L.row e m).1, (L.row e m).2.1, ?_⟩, L.ne, fun a b ha hb h => L.off a b ha hb (by omega)⟩
  · have := L.len
    omega
  · obtain ⟨a, b, h1, h2, h3, h4⟩ := (L.row e m).2.2
    exact ⟨a, b, h1, h2, h3, by omega⟩
theorem LotAt.skip {H : Hp} {P : Addr} {ls : List (List Int)} {i j : Nat} {pt : PTab} (L : LotAt H P ls i j pt) (h : rowL ls ((i : Int), (j : Int)) = []) : LotAt H P ls i (j + 1) pt := by
  refine ⟨L.tab, ?_, L.nd, fun e m => ⟨(L.row e m).1, (L.row e m).2.1, ?_⟩, L.ne, fun a b ha hb q n => ?_⟩
  · have := L.len
    omega
  · obtain ⟨a, b, h1, h2, h3, h4⟩ := (L.row e m).2.2
    exact ⟨a, b, h1, h2, h3, by omega⟩
  · by_cases e : a = i ∧ b = j
    · obtain ⟨rfl, rfl⟩ := e
      exact h
    · exact L.off a b ha hb (by omega) n
theorem LotAt.put {H : Hp} {P q : Addr} {ls : List (List Int)} {i j : Nat} {pt : PTab} (L : LotAt H P ls i j pt) (hi : i < ls.length) (hj : j < ls.length) (hq : RowAt H q (rowL ls ((i : Int), (j : Int)))) (ne : q ≠ P) (hn : rowL ls ((i : Int), (j : Int)) ≠ []) :
    LotAt (upd H P (.dT (pT (pt ++ [(((i : Int), (j : Int)), q)])))) P ls i (j + 1) (pt ++ [(((i : Int), (j : Int)), q)]) := by
  refine ⟨upd_same, ?_, ?_, fun e m => ?_, fun e m => (List.mem_append.mp m).elim (L.ne e) fun m => by rw [List.mem_singleton.mp m]; exact hn, fun a b ha hb h n => ?_⟩
  · have := L.len
    rw [List.length_append, List.length_singleton]
    omega
  · rw [List.map_append, List.nodup_append]
    refine ⟨L.nd, by simp, fun x hx y hy z => ?_⟩
    obtain ⟨e, m, rfl⟩ := List.mem_map.mp hx
    rw [List.map_singleton, List.mem_singleton] at hy
    obtain ⟨a, b, h1, h2, h3, h4⟩ := (L.row e m).2.2
    rw [z, hy] at h1
    have h5 := (Prod.mk.inj h1).1
    have h6 := (Prod.mk.inj h1).2
    omega
  · rcases List.mem_append.mp m with m | m
    · obtain ⟨h0, h1, a, b, h2, h3, h4, h5⟩ := L.row e m
      exact ⟨(upd_ne h1).trans h0, h1, a, b, h2, h3, h4, by omega⟩
    · rw [List.mem_singleton.mp m]
      exact ⟨(upd_ne ne).trans hq, ne, i, j, rfl, hi, hj, by omega⟩
  · by_cases e : a = i ∧ b = j
    · obtain ⟨rfl, rfl⟩ := e
      exact absurd rfl (n _ (List.mem_append_right _ List.mem_cons_self))
    · exact L.off a b ha hb (by omega) fun e m => n e (List.mem_append_left _ m)
theorem LotAt.notin {H : Hp} {P : Addr} {ls : List (List Int)} {i j : Nat} {pt : PTab} (L : LotAt H P ls i j pt) : ((i : Int), (j : Int)) ∉ pt.map (·.1) := fun m => by
  obtain ⟨e, m, h⟩ := List.mem_map.mp m
  obtain ⟨a, b, h1, h2, h3, h4⟩ := (L.row e m).2.2
  rw [h] at h1
  have h5 := (Prod.mk.inj h1).1
  have h6 := (Prod.mk.inj h1).2
  omega
/-- a table of products of lots -/
structure LotTab (H : Hp) (P : Addr) (ls : List (List Int)) (pt : PTab) : Prop where
  tab : TabIn H P pt (rowL ls) ls.length
  key : ∀ e ∈ pt, ∃ a b : Nat, e.1 = ((a : Int), (b : Int)) ∧ a < ls.length ∧ b < ls.length
  row_ne : ∀ e ∈ pt, rowL ls e.1 ≠ []
theorem LotAt.done {H : Hp} {P : Addr} {ls : List (List Int)} {pt : PTab} (L : LotAt H P ls ls.length 0 pt) (z : ls.length ≤ 32) : LotTab H P ls pt := by
  refine ⟨⟨L.tab, ?_, L.nd, fun e m => ⟨(L.row e m).1, (rowL_ok ls e.1).1, (rowL_ok ls e.1).2.1⟩, fun k h => ?_⟩, fun e m => ?_, L.ne⟩
  · have := L.len
    omega
  · by_cases e : rowL ls k = []
    · exact e
    · obtain ⟨a, b, rfl, ha, hb⟩ := (rowL_ok ls k).2.2 e
      exact L.off a b ha hb (.inl ha) h
  · obtain ⟨a, b, h1, h2, h3, h4⟩ := (L.row e m).2.2
    exact ⟨a, b, h1, h2, h3⟩
abbrev sLotP : Stmt := top 38
def spLotP : Sp := fun vs H Q _ => ∃ (l : Addr) (as : List Addr) (ls : List (List Int)), vs = [.ref l] ∧ H l = some (.lst (as.map V.ref)) ∧ Paired (TupAt H) ls as ∧ ls.Nodup ∧ ls.length ≤ 32 ∧ (∀ x ∈ ls, x.length ≤ 5) ∧
  ∀ H' P pt, Same H H' → H P = none → LotTab H' P ls pt → Q (.ref P) H'
section
variable {P : Program} {w : World} {K : PySem.W.Frag} {mg : Str → Option Value} {base : Heap}
theorem scLotP : FnScope ["lots", "at", "product", "one", "other", "both", "turns", "a", "b"] ["lots"] (defScope sLotP) := ⟨rfl, rfl, rfl, by decide +kernel, rfl, by decide +kernel, by decide +kernel⟩
theorem ok_lotP {f : Addr} {fd : FuncData} (F : Fun K "_lot_products" "_lot_products" sLotP f fd) (NM : Df P w K mg base CX0 1 "_numbered" ["names"] spNumbered) (SG : Df P w K mg base CX0 1 "sign" ["turn"] spSign)
    (mSorted : mg "sorted" = none) (mTup : mg "tuple" = none) (mLen : mg "len" = none) : FnOk P w K mg base CX0 2 f fd ["lots"] spLotP := by
  refine F.ok scLotP (fun vs H Q E h => ?_) (fun cdv A outer s H vs Q E hr h => ?_)
  · obtain ⟨l, as, ls, rfl, _⟩ := h
    rfl
  · obtain ⟨l, as, ls, rfl, hl, hk, nd, z32, z5, k⟩ := h
    have hu := hu_of hr
    refine ⟨_, pss_cons (ps_set (i := 1) scLotP.nd rfl (Or.inl rfl) (pe_df NM hr (by rfl) pass0 (pa_cons (pv 0) pa_nil)))
      (pss_cons (ps_set (i := 2) scLotP.nd rfl (Or.inl rfl) pe_dnewT)
      (pss_cons (ps_for PassesOwn.never rfl (pi_list (pv 0)) (pg_name (i := 3) scLotP.nd rfl (Or.inl rfl))
        (pss_one (ps_for PassesOwn.never rfl (pi_list (pv 0)) (pg_name (i := 4) scLotP.nd rfl (Or.inr rfl))
          (pss_cons (ps_set (i := 5) scLotP.nd rfl (Or.inl rfl) (pe_callTy call_tuple_of (by rfl) mTup (by decide +kernel) (pa_cons (pe_callB cr_sortT (by rfl) mSorted (by decide +kernel) (pa_cons (pe_op (r := rCatA K) op_catA (pv 3) (pv 4)) pa_nil)) pa_nil)))
          (pss_one (ps_if (pt_cmp (pc_din hu (pv 5) (pv 1)))
            (pss_cons (ps_set (i := 6) scLotP.nd rfl (Or.inl rfl) (pe_callB call_len_seq (by rfl) mLen PySem.boot_len (pa_cons (pe_lc2 (own := [("a", 7), ("b", 8)]) (vs1 := [8]) (g := gName 7) (g1 := gName 8) (tt := tYes) rfl scLotP.nd (pi_tup (pv 3)) (blkOk_by (N := ["lots", "at", "product", "one", "other", "both", "turns", "a", "b"]) (sc := defScope sLotP) (by decide +kernel)) (by decide)
              (fun _ _ _ _ _ => pg_name (i := 7) scLotP.nd rfl (Or.inl rfl)) (fun _ _ _ _ _ => pts_nil) (fun _ _ _ _ _ => pi_tupK (K := K) rfl (pv 4)) (fun _ _ _ _ _ => pg_name (i := 8) scLotP.nd rfl (Or.inl rfl)) (fun _ _ _ _ _ => pts_one (pt_cmpR op_gt (pv 7) (pv 8) (nomark _))) (fun _ _ _ _ _ => pe_int)) pa_nil)))
            (pss_one (ps_dput hu (pv 2) (pe_tup (pa_cons (pe_dget hu (pv 1) (pv 3) (fun _ _ => rfl)) (pa_cons (pe_dget hu (pv 1) (pv 4) (fun _ _ => rfl)) pa_nil)))
              (pe_disp (pps_cons (pe_dget hu (pv 1) (pv 5) (fun _ _ => rfl)) (pe_df SG hr (by rfl) pass0 (pa_cons (pv 6) pa_nil)) pps_nil) (by rfl) (by rfl) (by simp) (by decide)) rfl))) pss_nil))))))
      (pss_one (ps_ret (pv 2))))), ?_⟩
    refine ⟨_, rfl, l, as, ls, rfl, hl, hk, nd, by omega, fun H1 A1 s1 nA hA => ?_⟩
    intro Pp nP
    have lz : as.length = ls.length := (Paired.length hk).symm
    have s2 : Same H1 (upd H1 Pp (.dT [])) := same_new nP
    have nHP : H Pp = none := none_of_same s1 nP
    refine ⟨_, rfl, l, rfl, ⟨_, SqL.of (s2 _ _ (s1 _ _ hl))⟩, for_list (K := K) (a := l) (xs := as.map V.ref)
      (fun i σ H' => ∃ v3 v4 v5 v6 pt, σ = [some (.ref l), some (.ref A1), some (.ref Pp), v3, v4, v5, v6, none, none] ∧ SameBut Pp H1 H' ∧ LotAt H' Pp ls i 0 pt) ?_ ?_ ?_ ?_⟩
    · refine ⟨none, none, none, none, [], rfl, (SameBut.refl _ _).next s2, ⟨upd_same, Nat.zero_le _, List.nodup_nil, fun e m => (nomatch m), fun e m => (nomatch m), fun a b _ _ h => absurd h (by omega)⟩⟩
    · rintro i σ H' _ ⟨_, _, _, _, _, _, sb, _⟩
      exact SqL.of (sb _ _ (ne_of_none hl nHP) (s1 _ _ hl))
    · rintro i x σ H2 hi ⟨v3, v4, v5, v6, pt, rfl, sb, L⟩
      rw [List.getElem?_map] at hi
      cases ey : as[i]? with
      | none => rw [ey] at hi; cases hi
      | some b =>
        rw [ey] at hi
        cases hi
        obtain ⟨x, ex, hx⟩ := Paired.nth hk ey
        show gName 3 (.ref b) _ _ _
        refine ⟨_, rfl, l, rfl, ⟨_, SqL.of (sb _ _ (ne_of_none hl nHP) (s1 _ _ hl))⟩, for_list (K := K) (a := l) (xs := as.map V.ref)
          (fun j σ H' => ∃ v4 v5 v6 pt, σ = [some (.ref l), some (.ref A1), some (.ref Pp), some (.ref b), v4, v5, v6, none, none] ∧ SameBut Pp H1 H' ∧ LotAt H' Pp ls i j pt) ⟨v4, v5, v6, pt, rfl, sb, L⟩ (fun j σ H' _ ⟨_, _, _, _, _, sb, _⟩ => SqL.of (sb _ _ (ne_of_none hl nHP) (s1 _ _ hl))) ?_ ?_⟩
        · rintro j z σ H3 hj ⟨v4, v5, v6, pt, rfl, sb, L⟩
          rw [List.getElem?_map] at hj
          cases ez : as[j]? with
          | none => rw [ez] at hj; cases hj
          | some c =>
            rw [ez] at hj
            cases hj
            obtain ⟨y, ey', hy⟩ := Paired.nth hk ez
            show gName 4 (.ref c) _ _ _
            walk_at "rd"
            have hx3 : TupAt H3 x b := sb _ _ (ne_of_none (show H b = some _ from hx) nHP) (s1 _ _ hx)
            have hy3 : TupAt H3 y c := sb _ _ (ne_of_none (show H c = some _ from hy) nHP) (s1 _ _ hy)
            have zx := z5 x (List.mem_of_getElem? ex)
            have zy := z5 y (List.mem_of_getElem? ey')
            have li : i < ls.length := (List.getElem?_eq_some_iff.mp ex).1
            have lj : j < ls.length := (List.getElem?_eq_some_iff.mp ey').1
            refine rCatK hx3 hy3 (by omega) fun H4 r s4 hr4 => ?_
            refine ⟨r, x ++ y, rfl, SqT.of hr4, fun ns p pm asc np => ?_⟩
            have ens : ns = sortI (x ++ y) := sortI_eq pm asc
            subst ens
            refine ⟨p, rfl, _, .inl ⟨SqL.of upd_same, fun t nt => ?_⟩⟩
            generalize eG : upd (upd H4 p _) t _ = G
            have sG : Same H3 G := by rw [← eG]; exact (s4.trans (same_new np)).trans (same_new nt)
            have ht : TupAt G (sortI (x ++ y)) t := by rw [← eG]; exact upd_same
            have hA3 : NumAt H3 A1 ls := sb _ _ (ne_of_none (show H1 A1 = some _ from hA) nP) hA
            refine ⟨_, NumAt.get (sG _ _ hA3) ht, ?_⟩
            have eL := rowL_at ex ey'
            by_cases m : sortI (x ++ y) ∈ ls
            · have l0 := List.idxOf_lt_length_iff.mpr m
              have e0 : ls[ls.idxOf (sortI (x ++ y))]? = some (sortI (x ++ y)) := by
                rw [List.getElem?_eq_getElem l0, List.getElem_idxOf l0]
              rw [if_pos m] at eL
              rw [atKV_some nd e0, if_pos (show (some (V.int _)).isSome = true from rfl)]
              refine ⟨_, rfl, b, rfl, ⟨_, SqT.of (sG _ _ hx3)⟩, fun D nD => ?_⟩
              have hxm : ∀ H', Same G H' → H' b = some (.tup (x.map V.int)) := fun H' s => s _ _ (sG _ _ hx3)
              have hym : ∀ H', Same G H' → H' c = some (.tup (y.map V.int)) := fun H' s => s _ _ (sG _ _ hy3)
              refine lc2_it (walk_tup (xs := x.map V.int)) (fun u H' => Same G H' ∧ H' D = some (.lst (List.replicate (inv (x.take u) y) (V.int 1)))) ⟨same_new nD, upd_same⟩ (fun u H' _ h => SqT.of (hxm _ h.1)) ?_ ?_
              · rintro u v H5 H6 hu5 ⟨s5, hD5⟩ ⟨rfl, hv⟩
                obtain ⟨a, ha, rfl⟩ := int_at hv
                show gName 7 (.int a) _ _ _
                refine ⟨rfl, ?_⟩
                simp only [tYes, if_true]
                refine ⟨_, rfl, c, rfl, ⟨_, SqT.of (hym _ s5)⟩, ?_⟩
                refine lc2_in (walk_tup (xs := y.map V.int)) (fun q H' => Same G H' ∧ H' D = some (.lst (List.replicate (inv (x.take u) y + ((y.take q).filter fun b => decide (a > b)).length) (V.int 1)))) ⟨s5, hD5⟩ (fun q H' _ h => SqT.of (hym _ h.1)) ?_ ?_
                · rintro q v H7 H8 hq7 ⟨s7, hD7⟩ ⟨rfl, hv⟩
                  obtain ⟨d, hd, rfl⟩ := int_at hv
                  show gName 8 (.int d) _ _ _
                  walk_at "rd"
                  have tq := take_snoc hd
                  by_cases ad : d < a
                  · rw [decide_eq_true ad, if_pos rfl]
                    refine ⟨_, hD7, ?_, same_upd s7 nD, ?_⟩
                    · rw [List.length_replicate]
                      have h1 := inv_le (x.take u) y
                      have h2 := List.length_filter_le (fun b => decide (a > b)) (y.take q)
                      have h3 : (x.take u).length ≤ 5 := by rw [List.length_take]; omega
                      have h4 : (y.take q).length ≤ 5 := by rw [List.length_take]; omega
                      have h5 : (x.take u).length * y.length ≤ 5 * 5 := Nat.mul_le_mul h3 zy
                      exact small1000 (by omega)
                    · rw [upd_same, tq, List.filter_append, List.length_append, ← Nat.add_assoc, List.filter_cons, if_pos (decide_eq_true (show a > d from ad)), List.filter_nil, List.length_singleton, List.replicate_succ']
                  · rw [decide_eq_false ad, if_neg (by decide)]
                    refine ⟨s7, ?_⟩
                    rw [tq, List.filter_append, List.filter_cons, if_neg (by rw [decide_eq_false (show ¬ a > d from ad)]; decide), List.filter_nil, List.append_nil]
                    exact hD7
                · rintro H7 ⟨s7, hD7⟩
                  rw [List.length_map, List.take_length] at hD7
                  refine ⟨s7, ?_⟩
                  rw [take_snoc ha, inv_snoc]
                  exact hD7
              · rintro H5 ⟨s5, hD5⟩
                rw [List.length_map, List.take_length] at hD5
                walk_at "rd"
                have s05 : Same H3 H5 := sG.trans s5
                have hAx : ∀ {H' : Hp}, Same H5 H' → NumAt H' A1 ls := fun s => s _ _ (s05 _ _ hA3)
                have hPx := s05 _ _ L.tab
                refine ⟨_, .inl (SqL.of hD5), fun p2 np2 => ?_⟩
                have s52 : ∀ o, Same H5 (upd H5 p2 o) := fun o => same_new np2
                have g1 := NumAt.get (hAx (s52 (.dK []))) (s52 (.dK []) _ _ (s5 _ _ ht))
                rw [atKV_some nd e0] at g1
                rw [List.length_replicate]
                refine ⟨_, g1, _, rfl, upd_same, [(Sum.inl ((ls.idxOf (sortI (x ++ y)) : Nat) : Int), V.int (sgn (inv x y)))], rfl, by show 1 ≤ 15; decide, ?_⟩
                rw [upd_upd]
                generalize eU : upd H5 p2 (HO.dK (mergeK [] _)) = U
                have sU : Same H5 U := by rw [← eU]; exact s52 _
                have hr2 : RowAt U p2 (rowL ls ((i : Int), (j : Int))) := by
                  rw [← eU, eL]
                  exact upd_same
                have g2 := NumAt.get (hAx sU) (sU _ _ (s05 _ _ hx3))
                rw [atKV_some nd ex] at g2
                have g3 := NumAt.get (hAx sU) (sU _ _ (s05 _ _ hy3))
                rw [atKV_some nd ey'] at g3
                refine ⟨_, g2, _, g3, by show 2 ≤ sizeLine; decide, fun p3 np3 => ?_⟩
                have sU3 : Same H3 (upd U p3 (.tup [.int i, .int j])) := (s05.trans sU).trans (same_new np3)
                have L3 := L.but sU3
                have zp := L3.len
                refine ⟨_, DPut.t (k := kP ((i : Int), (j : Int))) L3.tab upd_same ?_, _, _, _, ⟨rfl, rfl, rfl⟩, (sb.next sU3).at, pt ++ [(((i : Int), (j : Int)), p2)], ?_⟩
                · unfold pT
                  rw [List.length_map, sizeLine_eq]
                  omega
                · rw [pT_snoc (lk_notin L.notin)]
                  refine L3.put li lj ((same_new np3) _ _ hr2) (fun e => ?_) (by rw [eL]; simp)
                  rw [e] at hr2
                  have := (show U Pp = _ from hr2).symm.trans (sU _ _ hPx)
                  cases this
            · rw [if_neg m] at eL
              rw [atKV_none m, if_neg (by simp)]
              exact ⟨_, _, _, ⟨rfl, rfl, rfl⟩, sb.next sG, _, (L.but sG).skip eL⟩
        · rintro σ H3 ⟨v4, v5, v6, pt, rfl, sb, L⟩
          rw [List.length_map, lz] at L
          exact ⟨_, _, _, _, _, rfl, sb, L.next z32⟩
    · rintro σ H2 ⟨v3, v4, v5, v6, pt, rfl, sb, L⟩
      rw [List.length_map, lz] at L
      refine ⟨_, rfl, k H2 Pp pt (fun q o e => sb _ _ (ne_of_none e nHP) (s1 _ _ e)) nHP (L.done z32)⟩
end
end Lp
namespace Lp
open PySem PySem.Spec PySem.Calls PyProof.Rows L2
/-! ### for k, v in d.items(), the keys of d tuples -/
/-- the pairs, each a new tuple -/
def Itit (d : Addr) (o : Obj) (kvs : List (List Key × V)) : It :=
  ⟨fun i H => H d = some (.frz o (.dT kvs)) ∧ i < kvs.length, fun i H x H' => ∃ T q k v, kvs[i]? = some (k, v) ∧ x = .ref T ∧ H T = none ∧ H q = some (.tup (k.map kV)) ∧ H' = upd H T (.tup [.ref q, v]), fun i H => H d = some (.frz o (.dT kvs)) ∧ kvs.length ≤ i⟩
theorem frzT2 {X : Cx} {pins : List (Addr × Obj)} {σ : L2.St} {H : Hp} {s : Shared} {d : Addr} {o : Obj} {kvs : List (List Key × V)} (I : Inv X pins σ H s) (h : H d = some (.frz o (.dT kvs))) :
    (d == sysModules) = false ∧ s.heap.get? d = some o ∧ o.ExactDict ∧ ∃ (es : Array DictEntry) (ep : Nat), o.data = .dict es ep ∧ es.size = kvs.length ∧
      ∀ (i : Nat) (k : List Key) (v : V), kvs[i]? = some (k, v) → ∃ (en : DictEntry) (q : Addr), es[i]? = some en ∧ en.key = .ref q ∧ H q = some (.tup (k.map kV)) ∧ RelV v en.val := by
  obtain ⟨hd, z, hs, xs, pr, o', es, ep, ho, hx, hdt, he, _⟩ := I.hok d _ h
  rw [hd] at ho
  cases ho
  refine ⟨hs, hd, hx, es, ep, hdt, ?_, fun i k v e => ?_⟩
  · have l1 : es.size = xs.length := size_of_entries he
    have l2 : kvs.length = xs.length := Paired.length pr
    omega
  · obtain ⟨b, hb, e1, e2, e3⟩ := paired_get pr e
    have q := entry_at he i
    rw [hb] at q
    exact ⟨_, b.2.1, q, rfl, e2, e3⟩
theorem turn_itemsT {P : Program} {w : World} {K : PySem.W.Frag} {d : Addr} {o : Obj} {es : Array DictEntry} {ep : Nat} {kvs : List (List Key × V)} {elts : List Expr} {kk : Nat} {tpos : Pos} (it : Addr) (hod : o.data = .dict es ep) :
    Turn P w K (.Tuple elts kk tpos) (Itit d o kvs) [it] it (fun i h => ∃ ok ov, IsItemIter h it d i kvs.length ep ok ov) where
  mem := by simp
  obj := fun i h st b hb => by
    have e : b = it := by simpa using hb
    subst e
    obtain ⟨ok, ov, e⟩ := st
    exact ⟨_, e, fun v z => nomatch z⟩
  keep := fun i h h' st k => let ⟨ok, ov, e⟩ := st; ⟨ok, ov, k it (by simp) _ e⟩
  item := by
    intro X hP hw hK hc i pins s σ H E I hf st hg
    subst hP hw hK
    obtain ⟨hd, hi⟩ := hg
    obtain ⟨hs, hgd, hx, es', ep', hdt, hsz, ent⟩ := frzT2 I hd
    obtain ⟨rfl, rfl⟩ := dict_ep hod hdt
    obtain ⟨⟨k, v⟩, hkv⟩ : ∃ p, kvs[i]? = some p := ⟨kvs[i], List.getElem?_eq_getElem hi⟩
    obtain ⟨en, q, hen, hkey, hq, ru⟩ := ent i k v hkv
    obtain ⟨ok, ov, he⟩ := st
    rw [← hsz] at he
    have hlt : it < s.heap.objs.size := Heap.lt_size he
    have hi' : i < es'.size := by omega
    have een : es'[i] = en := by
      rw [Array.getElem?_eq_getElem hi'] at hen
      exact Option.some.inj hen
    refine wpAny_pyNext_items_item_raw he (⟨o, hgd, hx, hdt⟩ : s.heap.DictRaw d es' ep') hi' fun h' ho hT hz hk => ?_
    rw [een] at ho hT
    refine ⟨_, rfl, wpAny_letOwnedTupleGo_items (s := { s with heap := h' }) ho fun h'' he' sb => ?_⟩
    have hT2 : h''.get? s.heap.objs.size = some { cls := .type "tuple", data := .seq #[en.key, en.val] } := (sb.2 _ (Nat.ne_of_gt hlt)).trans hT
    have new : ObjOk X.prog X.w (upd H s.heap.objs.size (.tup [.ref q, v])) h'' s.heap.objs.size (.tup [.ref q, v]) :=
      ⟨by show 2 ≤ sizeLine; decide, [en.key, en.val], .cons hkey (.cons ru .nil), ⟨_, hT2, rfl, _, rfl⟩⟩
    have I1 : Inv X pins σ (upd H s.heap.objs.size (.tup [.ref q, v])) { s with heap := h'' } :=
      I.turnedNew (t' := s.toks) (ch := [it]) (fun b ob hb e => (sb.2 b (by simpa using hb)).trans (hk b ob (by simpa using hb) e)) hf (Nat.le_refl _) new
    refine ⟨.ref s.heap.objs.size, _, I1, rfl, ⟨_, q, k, v, hkv, rfl, I.hok.fresh (Nat.le_refl _), hq, rfl⟩, ⟨en.key, en.val, ?_⟩, fun b hb => ?_⟩
    · rw [← hsz]; exact he'
    · have e : b = it := by simpa using hb
      rw [e, upd_ne (Nat.ne_of_lt hlt)]
      exact (hf it (by simp)).1
  done := by
    intro X hP hw hK hc i pins s σ H E I hf st hg
    subst hP hw hK
    obtain ⟨hd, hi⟩ := hg
    obtain ⟨f0, f1, f2, f3, f4, f5⟩ := hf it (by simp)
    obtain ⟨hs, hgd, hx, es', ep', hdt, hsz, ent⟩ := frzT2 I hd
    obtain ⟨rfl, rfl⟩ := dict_ep hod hdt
    obtain ⟨ok, ov, he⟩ := st
    rw [← hsz] at he
    exact wpAny_pyNext_items_end_raw (I.ok.hd hc) he (⟨o, hgd, hx, hdt⟩ : s.heap.DictRaw d es' ep') (by omega) fun h' eb => ⟨rfl, I.turned (t' := s.toks) (fun b ob hb e => eb b ob hb e) f0 f1 f3 f4 f5⟩
  self := fun A i s Q E st h => let ⟨_, _, e⟩ := st; PySem.W.kcp_self e h
def iItemsT (td : TE) : TI := fun σ H R => td σ H fun x H1 => ∃ d o kvs, x = .ref d ∧ H1 d = some (.frz o (.dT kvs)) ∧ R (Itit d o kvs) H1
theorem pi_itemsT {X : Cx} {e : Expr} {td : TE} {apos cpos : Pos} {elts : List Expr} {kk : Nat} {tpos : Pos} (he : PE X e td) (hbase : attributeBase e "items" X.env (eval e X.env) = eval e X.env := by rfl) (hline : (apos.endLine == cpos.line) = true := by rfl) :
    PI X (.Tuple elts kk tpos) (.Call (.Attribute e "items" apos) [] [] cpos) (iItemsT td) := by
  refine ⟨fun pins s σ H R I h => ?_⟩
  refine wpAny_Call_method (T := "dict") (id := "dict.items") hbase rfl hline PySem.F.plainAttrs_dict PySem.F.slot_dict_items PySem.F.type_dict_items (thn (he.run pins s σ H _ I h) fun u s1 ⟨x, H1, I1, rx, d, o, kvs, ex, hd, q⟩ => ?_)
  subst ex
  obtain rfl : u = Value.ref d := rx
  obtain ⟨hs, hgd, hx, es, ep, hdt, hsz, ent⟩ := frzT2 I1 hd
  have raw : s1.heap.DictRaw d es ep := ⟨o, hgd, hx, hdt⟩
  refine ⟨raw.typeIs, fun a e => by cases e; exact ⟨o, hgd, hx.2.1⟩, ?_⟩
  have I2 : Inv X pins σ H1 { s1 with heap := s1.heap.push { cls := .type "dict_items", data := .fields #[.ref d] } } := I1.kept (t' := s1.toks) fun b ob q => Heap.get?_push_of_some _ q
  have fin : wpAny (model X.prog X.w) X.A (pyIter (.ref s1.heap.objs.size)) (PIE X pins σ (.Tuple elts kk tpos) R) X.xe { s1 with heap := s1.heap.push { cls := .type "dict_items", data := .fields #[.ref d] } } := by
    refine wpAny_pyIter_items_raw (d := d) (es := es) (ep := ep) ⟨_, Heap.get?_push_size _ rfl, rfl, rfl⟩ (raw.at fun o q => Heap.get?_push_of_some _ q) (pi_one (tk := s1.toks) I2 _ (turn_itemsT _ hdt) ⟨.none, .none, ?_⟩ q)
    rw [← hsz]
    exact Heap.get?_push_size _ rfl
  show wpAny _ _ (callWith cpos (.builtin "dict.items") [.ref d] [] []) _ X.xe s1
  exact method_meetsIn PySem.F.slot_dict_items PySem.F.entry_dict_items rfl (PySem.evalArgs_none ⟨rfl, raw.typeIs, PySem.F.args_dict_items_1 _, _, meets_dict_items_raw d hs, ⟨es, ep, raw⟩, fin⟩)
theorem walk_itemsT {d : Addr} {o : Obj} {kvs : List (List Key × V)} : Walk (Itit d o kvs) kvs.length (fun H => H d = some (.frz o (.dT kvs))) (fun i H x H' => ∃ T q k v, kvs[i]? = some (k, v) ∧ x = .ref T ∧ H T = none ∧ H q = some (.tup (k.map kV)) ∧ H' = upd H T (.tup [.ref q, v])) where
  goes := fun i H lt g => ⟨g, lt⟩
  stops := fun H g => ⟨g, Nat.le_refl _⟩
  yields := fun i H x H' lt g y => y
end Lp
namespace Lp
open PySem L2 LamX
/-! ### tables of lots: products, steps' terms, as numbers -/
def tS : Nat → Nat
  | 0 => 2
  | 1 => 107839786668602559178668060348078522694548577690162289924414440997378
  | 2 => 156764265941034957982331212844852467344711417043899710759469297620563930964863920638917294851418539960661599566879879790349256034773980484326025316578823888342080430294688723822393299288618845382899761666
  | 3 => 165635408748291599080029182380130009039563069165266451684453424416356623418700853008591715074891012979116520975090735144825158356889679433817871657994769455726775983210119216000660747435261383620691056646425696043231057668237149440947623828185303149185322175062953045749209413380446244280095805301423335261582941082748218577740625284087074948936000735150265564438605488731388909998185402102616229893070544753614563884409223414342815022423453249379491632333841410381806928386
  | 4 => 92456065788258799811008368508194626205177073716735009622400391761894233321295100578896672469319560846583468141667922818558446926727159655357778764335331470912892122189288208347695703019627412034008235273973736251231529964292212833517484267677806564911782960908485042746984185247240955285602999043087986040977693481227945365867786482147900311780856419014167714681713548924442192771044152570875670753817149414252058757942487485455256010653317387684621181824767938300922207955348630863854170811866744816087923250173302231412199865936707674242931292973624875649331435246457613567269525435259171917803897365188949224292246930650882882061219741191182268603980825103637420954955894510827824934790238280364759923887179926347874712115249688434272121012879525651530323505788158610172188910197912940026737254424126506530963625900551226382257237418252135202141309575385784884504167178236190231296213029872476614321765430561952022700853276433970363547916336979471244667011754404749747664609696934939091550520887446155621925378
  | 5 => 14403560616768747117670069406244489364531279832382033634239189760244712711928501546368855918504129383820437962257775199894021511570903861438693449542398236962415558589735949389696363767262750936864010732902549465401018510166635349210839150059676498301403415554966320730753929594969467403449494865249853337890772451449881604171658433696327800766630982292917048232682522094923351479040314351992155919724801851973211132348837695031599376933735512367801046471007410643116985865142579216440390474356842438025625946745539906959900467537291722830968682116448730407742072170238624540143619408130369597931981129169738889746897752005265599595196858909693621974330998025733497115780063595770845919683620555999412510493416072255861037491131003734641241017029037962799406356467892609322020015409301065225497104604997135023016019233501509870056461854273739292982922139323567473932461502623299976155128526199841026377199791837096787253416589813103058648432630074748042337414067406220711078157663238030576034577730902859005610022760044452032764120181559635993268548715386387231855918800551891977788628358630236900293623873997693167841348529176518016122805553014099901227776903444940424652898434970802556259134595958694417401050656611936180472467876593784542268429044029881560318302858818586345364210618404635235721589353642388937842683917966994729977560790236711476225253559168506769671998588294648599628922698698368570433080156776283538771687831591032194051838908118297435818193021158369544587215345768178396503496937684553588240128961696721416293801679193208019177045443574323872110593333301679875939998765996385754818649696707478927633864432843165628868453950746333486280878086319588439579272903722406356958217922547215626996863208088390887441758947332852712432224522128258811552168927763884608647712418795006410960919263659283217300334487543065395211583276617220183918635923127519245867541732582470653361567095034965995508324456883413454333937422048873607846291738415930260170631121067190829960508697097950974721502157534668274419301952411408982292664344094880156003546384959718555095140167438642870059522
  | _ => 0
def tU : Nat → Nat
  | 0 => 0
  | 1 => 0
  | 2 => 49680578953622685924767343630800081768220352547734291556449665216833630485964060362588109082516687294415607382308194342597490579759662988446789285687884958871238085605187110323857479040921865329791424682077391560176995980327606288384
  | 3 => 415451412260307399156647416168760730183384197028451949242003116845800869290130929007702974984049559742285360460098209156609984964974438591556088675235260634738554233117827277661115505251957780832329317864015778215811822652266601613773993527487732027369814362160724378686162714796211600708456712684058475849765082638748136695632498588739933942530550385586921552690590975973246974130537364804561837132967468660496330608762735898436793168901457280605489761385279137619001104175813293769686599331626915288929414484635559383731992684412201309929060184802628029715774374696805171231951373234531387867057528506906801936686236188900867607348293338128262569287023997659006073041972101120
  | 4 => 96127524978839430393489490156889446255254347493674561839082621886629793109758866018496675019323101051568412446218836650951649540456525204495074368258788899314707565246553176799418657375797627112490009675165968876627239029629868414292071960579315356450667757572896284126508724089703887161683020686425201926671009017980096183628685659915208810527190592996536663347701897995271754048550818078814206199458496066740265345810962123288777534273807310742826128509594047709555853337506250572964309898368859708222166463494650582021628867561579279493041082356949361247230057831837405247717231834341248280143895828929963972371591634206024131328313160700533194292632433085271171065105912772279652508151359281288357302803279270419754850949967023403083999538445915745464276766822406044196755799854140653010238991084607833365562130203347451621208525763630822236832074691792817519116644510441498646105198681459103410527327405229544680553240625508297292950605503524403957663040839743393593875129759841204093127234552016373782499366511786818488428341166442315987058058448799437593121628424135147026802079331238863973564576951161589107175149629407929712637009675234389463181903991545376604004783850978348602323969731459131024164357928599243094543945731396703189221459939445301318467134683244563748725556328925568390468040407204635028863863641635710144088201466968298857531978605615714990755068837640425808905670683174575973269805427949281359986575626726534553490009637583669515954190875839901731438976213397411585384061001412136647772338393040573842657542821380096
  | 5 => 17027980362069970616264316916892624080767344516361790123323466587630049947142384547303100554484498004627551092216755618558136199912542990205841516441106078922295993793568454402134826486904005885335341518193173206821345320437036301260055786640263223111457355457475807383333365700843982732872765233088716875703345981415926241731446009003064847392674854013682299492683151347482695236394067182795739148192691017287967532914096784814501956291703971836968173428243112104864446783168425354347875109634630708290937978083800142309671070398423636103382994156855167009820706443215184559687186490151144204036899300141837085157576079973320490916287794651742354105163248631083320155442459653119332540472018147614652143815239059197960911798169701337618309840662437690284398070708573154654859565001039539470076804659642947387528311107033876295218187288005271765697585511522833996169680473407067124949885640403990858600524733527980325723384048311169419571373586639325751042288077964629345734408128537570447407916396596631164667997380731031345271455400873997587228350005096511448871298697422553161846831181153354617011987837316994763468565121422027969709808742301930561260584979760602960258721186647539558973948946089278243968651805773345809521278844637106715167672477924028584938048116700316970129264791176318729593054394888454899736676792436295319619001168524571810553035250136205112243830460310122824974721966988574614416605009387279465893913521941008871169372629064104010273277430099956605949952834263551527106980865289408473636555526544356641886100234720960629805756894753728089863885181806452672402625754834974296351846931653974194287183113195299301233322493043821333803026271799988567946762012333976524598049585101663715888510921307166262525698581330043759580865561604368128667139382944546008129430715565994219368622832930851189543044948534725144116526299340438161457576807525721367791500271730539102753442685841836636404415504689061356462199371922155893121251865994794614158885176120791965429838348287612608196037752740853752410665290344264175764803933952056173325358062399760674362327691403169408919653222821327300731599003435771895058790741061348183565267957787894336322299809781655976301882489509070869063582767649242558916764223037145540321602549117667311655384291495309601469688992746465904442689131362866000632645821019449498574041236148762129595028285245506500783438084649673458410037166298717538885116206639354925443196587227702310989338682450608365738993624756255335612360855360190828623881032659813813322316429038315680708143597688883178667647182986504439952590043003767064309850889297452822232399312208238182054392366318826369044197512351861294239963950562484264032442878201081331922599211282260714609400996397206122915775335121174183258600605359567457138214741697765182002291379747065971141297604998614752452733727368307859971815226440285663547966984792251251938124629269095457397504919014366040829988082239451111702591196709546113199536474131536747413161891509825379242298199797936530266208735889125778624785743898622909427697339951150878406327819658081316771578410126859595484328891922200755637281424819666947948262294211494060636431078994728834919612853947596963799126484149014706127842426659513875334889789954835897762910906597634826559697132191744
  | _ => 0
def tH : Nat → Nat
  | 0 => 0
  | 1 => 8
  | 2 => 1096
  | 3 => 6890056
  | 4 => 155815277826632
  | 5 => 55176712860797637233750872648
  | _ => 0
def lotsL : Nat → List (List Int)
  | 0 => [[]]
  | 1 => [[], [0]]
  | 2 => [[], [0], [1], [0, 1]]
  | 3 => [[], [0], [1], [2], [0, 1], [0, 2], [1, 2], [0, 1, 2]]
  | 4 => [[], [0], [1], [2], [3], [0, 1], [0, 2], [0, 3], [1, 2], [1, 3], [2, 3], [0, 1, 2], [0, 1, 3], [0, 2, 3], [1, 2, 3], [0, 1, 2, 3]]
  | 5 => [[], [0], [1], [2], [3], [4], [0, 1], [0, 2], [0, 3], [0, 4], [1, 2], [1, 3], [1, 4], [2, 3], [2, 4], [3, 4], [0, 1, 2], [0, 1, 3], [0, 1, 4], [0, 2, 3], [0, 2, 4], [0, 3, 4], [1, 2, 3], [1, 2, 4], [1, 3, 4], [2, 3, 4], [0, 1, 2, 3], [0, 1, 2, 4], [0, 1, 3, 4], [0, 2, 3, 4], [1, 2, 3, 4], [0, 1, 2, 3, 4]]
  | _ => []
def pairsN : Nat → List (Int × Int)
  | 0 => []
  | 1 => []
  | 2 => [(0, 1)]
  | 3 => [(0, 1), (0, 2), (1, 2)]
  | 4 => [(0, 1), (0, 2), (0, 3), (1, 2), (1, 3), (2, 3)]
  | 5 => [(0, 1), (0, 2), (0, 3), (0, 4), (1, 2), (1, 3), (1, 4), (2, 3), (2, 4), (3, 4)]
  | _ => []
theorem lotsN_L : ∀ n, n ≤ 5 → lotsN n = lotsL n
  | 0, _ => by decide +kernel
  | 1, _ => by decide +kernel
  | 2, _ => by decide +kernel
  | 3, _ => by decide +kernel
  | 4, _ => by decide +kernel
  | 5, _ => by decide +kernel
  | n + 6, h => absurd h (by omega)
def sc (n i j : Nat) : Nat := (tS n >>> (7 * (i * 32 + j))) % 128
def uc (n i c k : Nat) : Nat := (tU n >>> (7 * ((i * 5 + c) * 10 + k))) % 128
def hc (n i : Nat) : Nat := (tH n >>> (3 * i)) % 8
/-- the row of a code -/
def rowC (k : Nat) : Row := if k < 2 then [] else [(((k / 2 - 1 : Nat) : Int), if k % 2 = 1 then -1 else 1)]
def putL (x y : List Int) : Option (Int × List Int) := if (x.any fun a => decide (a ∈ y)) = true then none else some (sgn (inv x y), sortI (x ++ y))
/-- what stands in the place of the letter at k, if it is led to the pair pr -/
def termO (w : List Int) (k : Nat) (pr : Int × Int) : Option (Int × List Int) := match putL (w.take k) [pr.1, pr.2] with
  | none => none
  | some a => match putL a.2 (w.drop (k + 1)) with
    | none => none
    | some b => some (sgn k * a.1 * b.1, b.2)
def termL (ls : List (List Int)) (w : List Int) (k : Nat) (pr : Int × Int) : Row := match termO w k pr with
  | none => []
  | some b => [((ls.idxOf b.2 : Nat), b.1)]
def Urow (ls : List (List Int)) (d : Nat) (c : Int) (pr : Int × Int) : Row := match ls[d]? with
  | none => []
  | some w => if c ∈ w then termL ls w (w.idxOf c) pr else []
def chkS (n : Nat) : Bool := (List.range (2 ^ n)).all fun i => (List.range (2 ^ n)).all fun j => decide (rowL (lotsL n) ((i : Int), (j : Int)) = rowC (sc n i j))
def chkU (n : Nat) : Bool := (List.range (2 ^ n)).all fun i => (List.range n).all fun c => (pairsN n).zipIdx.all fun q => decide (Urow (lotsL n) i (c : Int) q.1 = rowC (uc n i c q.2))
/-- what the steps lead to stands among the lots -/
def chkT (n : Nat) : Bool := (lotsL n).all fun w => (List.range w.length).all fun k => (pairsN n).all fun pr => match termO w k pr with
  | none => true
  | some b => decide (b.2 ∈ lotsL n)
def cMul (x y : Nat) : Nat := if x < 2 then 0 else if y < 2 then 0 else y / 2 * 2 + (x + y) % 2
def cNeg (x b : Nat) : Nat := if x < 2 then 0 else x / 2 * 2 + (x + b) % 2
def brC (n a b c : Nat) : Bool := cMul (sc n a b) (sc n (sc n a b / 2 - 1) c) == cMul (sc n b c) (sc n a (sc n b c / 2 - 1))
def ruT (t1 t2 t3 : Nat) : Bool := (t1 == 0 && t2 == 0 && t3 == 0) || (t1 == 0 && t3 == cNeg t2 1) || (t2 == 0 && t1 == t3) || (t3 == 0 && t1 == t2)
def ruC (n a b c k : Nat) : Bool := ruT (cMul (sc n a b) (uc n (sc n a b / 2 - 1) c k)) (cMul (uc n a c k) (sc n (uc n a c k / 2 - 1) b)) (cNeg (cMul (uc n b c k) (sc n a (uc n b c k / 2 - 1))) (hc n a))
def chkB (n : Nat) : Bool := (List.range (2 ^ n)).all fun a => (List.range (2 ^ n)).all fun b => (List.range (2 ^ n)).all fun c => brC n a b c
def chkR (n : Nat) : Bool := (List.range (2 ^ n)).all fun a => (List.range (2 ^ n)).all fun b => (List.range n).all fun c => (List.range (pairsN n).length).all fun k => ruC n a b c k
def chkH (n : Nat) : Bool := (List.range (2 ^ n)).all fun i => decide ((((lotsL n)[i]?).map List.length) = some (hc n i))
/-- the places that codes tell -/
def chkP (n : Nat) : Bool := (List.range (2 ^ n)).all fun i => (List.range (2 ^ n)).all (fun j => decide (sc n i j / 2 - 1 < 2 ^ n)) && (List.range n).all fun c => (List.range (pairsN n).length).all fun k => decide (uc n i c k / 2 - 1 < 2 ^ n)
/-- the heights that codes tell -/
def chkG (n : Nat) : Bool := (List.range (2 ^ n)).all fun i => (List.range (2 ^ n)).all (fun j => decide (sc n i j < 2) || decide (hc n (sc n i j / 2 - 1) = hc n i + hc n j)) && (List.range n).all fun c => (List.range (pairsN n).length).all fun k => decide (uc n i c k < 2) || decide (hc n (uc n i c k / 2 - 1) = hc n i + 1)
/-- a lot of two letters and more, made of its first and its rest -/
def chkF (n : Nat) : Bool := (lotsL n).all fun w => match w with
  | a :: b :: r => decide ([a] ∈ lotsL n) && decide ((b :: r) ∈ lotsL n) && decide (rowL (lotsL n) (((lotsL n).idxOf [a] : Nat), ((lotsL n).idxOf (b :: r) : Nat)) = [((((lotsL n).idxOf w : Nat) : Int), 1)])
  | _ => true
/-- the terms of one letter alone, a pair's place -/
def chk1 (n : Nat) : Bool := (List.range n).all fun c => (pairsN n).all fun pr => decide ([pr.1, pr.2] ∈ lotsL n) && decide (Urow (lotsL n) ((lotsL n).idxOf [(c : Int)]) (c : Int) pr = [((((lotsL n).idxOf [pr.1, pr.2] : Nat) : Int), 1)])
/-- lots are strictly ascending numbers of letters -/
def chkA (n : Nat) : Bool := decide ((lotsL n).length = 2 ^ n) && decide (lotsL n).Nodup && (lotsL n).all fun w => decide (w.Pairwise (· < ·)) && w.all fun c => decide (0 ≤ c) && decide (c < (n : Int))
/-- lots put together stand among the lots exactly if they share no letter -/
def chkO (n : Nat) : Bool := (lotsL n).all fun x => (lotsL n).all fun y => (x.any fun a => decide (a ∈ y)) == !decide (sortI (x ++ y) ∈ lotsL n)
def chkAll (n : Nat) : Bool := chkS n && (chkU n && (chkT n && (chkB n && (chkR n && (chkH n && (chkP n && (chkG n && (chkF n && (chk1 n && (chkO n && chkA n))))))))))
theorem chk_all : ∀ n, n ≤ 5 → chkAll n = true
  | 0, _ => by decide +kernel
  | 1, _ => by decide +kernel
  | 2, _ => by decide +kernel
  | 3, _ => by decide +kernel
  | 4, _ => by decide +kernel
  | 5, _ => by decide +kernel
  | n + 6, h => absurd h (by omega)
end Lp
namespace Lp
open PySem L2 LamX
/-! ### sums that are linear in the steps told -/
abbrev PRow := List ((Int × Int) × Int)
def sumD (d : PRow) (g : Int × Int → Int) : Int := (d.map fun e => e.2 * g e.1).sum
theorem sumD_cons (e : (Int × Int) × Int) (d : PRow) (g : Int × Int → Int) : sumD (e :: d) g = e.2 * g e.1 + sumD d g := by simp [sumD]
theorem sumD_snoc (d : PRow) (e : (Int × Int) × Int) (g : Int × Int → Int) : sumD (d ++ [e]) g = sumD d g + e.2 * g e.1 := by simp [sumD]
theorem sumD_add (d : PRow) (f g : Int × Int → Int) : sumD d (fun k => f k + g k) = sumD d f + sumD d g := by
  induction d with
  | nil => rfl
  | cons e d ih => rw [sumD_cons, sumD_cons, sumD_cons, ih, Int.mul_add]; omega
theorem sumD_mul (d : PRow) (a : Int) (g : Int × Int → Int) : sumD d (fun k => a * g k) = a * sumD d g := by
  induction d with
  | nil => simp [sumD]
  | cons e d ih => rw [sumD_cons, sumD_cons, ih, Int.mul_add, Int.mul_left_comm]
theorem sumD_congr {d : PRow} {f g : Int × Int → Int} (h : ∀ e ∈ d, f e.1 = g e.1) : sumD d f = sumD d g := by
  unfold sumD
  rw [List.map_congr_left fun e m => by rw [h e m]]
def lin (n : Nat) (F : Nat → PRow) (g : Nat → Int × Int → Int) : Int := ((List.range n).map fun c => sumD (F c) (g c)).sum
theorem lin_succ (n : Nat) (F : Nat → PRow) (g : Nat → Int × Int → Int) : lin (n + 1) F g = lin n F g + sumD (F n) (g n) := by simp [lin, List.range_succ]
theorem lin_add (n : Nat) (F : Nat → PRow) (f g : Nat → Int × Int → Int) : lin n F (fun c k => f c k + g c k) = lin n F f + lin n F g := by
  induction n with
  | zero => rfl
  | succ n ih => rw [lin_succ, lin_succ, lin_succ, ih, sumD_add]; omega
theorem lin_mul (n : Nat) (F : Nat → PRow) (a : Int) (g : Nat → Int × Int → Int) : lin n F (fun c k => a * g c k) = a * lin n F g := by
  induction n with
  | zero => simp [lin]
  | succ n ih => rw [lin_succ, lin_succ, ih, sumD_mul, Int.mul_add]
theorem lin_congr {n : Nat} {F : Nat → PRow} {f g : Nat → Int × Int → Int} (h : ∀ c, c < n → ∀ e ∈ F c, f c e.1 = g c e.1) : lin n F f = lin n F g := by
  induction n with
  | zero => rfl
  | succ n ih => rw [lin_succ, lin_succ, ih fun c hc => h c (by omega), sumD_congr (h n (by omega))]
theorem lin_zero (n : Nat) (F : Nat → PRow) : lin n F (fun _ _ => 0) = 0 := by
  have := lin_mul n F 0 (fun _ _ => 0)
  simpa using this
def sumTo (n : Nat) (g : Int → Int) : Int := ((List.range n).map fun (i : Nat) => g (i : Int)).sum
theorem sumTo_succ (n : Nat) (g : Int → Int) : sumTo (n + 1) g = sumTo n g + g n := by simp [sumTo, List.range_succ]
theorem sumTo_congr {n : Nat} {f g : Int → Int} (h : ∀ i : Nat, i < n → f i = g i) : sumTo n f = sumTo n g := by
  induction n with
  | zero => rfl
  | succ n ih => rw [sumTo_succ, sumTo_succ, ih fun i hi => h i (by omega), h n (by omega)]
theorem sumTo_add (n : Nat) (f g : Int → Int) : sumTo n (fun x => f x + g x) = sumTo n f + sumTo n g := by
  induction n with
  | zero => rfl
  | succ n ih => rw [sumTo_succ, sumTo_succ, sumTo_succ, ih]; omega
theorem sumTo_one {n : Nat} {k : Int} (hk : 0 ≤ k ∧ k < n) (v : Int) : sumTo n (fun x => if k = x then v else 0) = v := by
  induction n with
  | zero => omega
  | succ n ih =>
    rw [sumTo_succ]
    by_cases e : k = n
    · have z : sumTo n (fun x => if k = x then v else 0) = sumTo n fun _ => 0 := sumTo_congr fun i hi => if_neg (by omega)
      have z2 : ∀ n, sumTo n (fun _ => 0) = 0 := fun n => by
        induction n with
        | zero => rfl
        | succ n ih => rw [sumTo_succ, ih]; rfl
      rw [z, z2, if_pos e]
      omega
    · rw [ih (by omega), if_neg e]
      omega
theorem sumW_cons (q : Int × Int) (r : Row) (f : Int → Int) : sumW (q :: r) f = q.2 * f q.1 + sumW r f := by simp [sumW]
/-- a row's sum, place by place -/
theorem sumW_to {n : Nat} : ∀ {r : Row}, Nd r → Bel n r → ∀ f : Int → Int, sumW r f = sumTo n fun x => co r x * f x
  | [], _, _, f => by
    have z2 : ∀ n, sumTo n (fun x => co [] x * f x) = 0 := fun n => by
      induction n with
      | zero => rfl
      | succ n ih => rw [sumTo_succ, ih]; simp [co]
    rw [z2]
    rfl
  | q :: r, nd, b, f => by
    have nd' := nd
    unfold Nd at nd'
    rw [List.map_cons, List.nodup_cons] at nd'
    rw [sumW_cons, sumW_to nd'.2 (fun p m => b p (List.mem_cons_of_mem _ m)) f, ← sumTo_one (b q List.mem_cons_self) (q.2 * f q.1), ← sumTo_add]
    refine sumTo_congr fun i _ => ?_
    rw [co_cons]
    by_cases e : q.1 = i
    · have z : co r i = 0 := co_none fun m => nd'.1 (by rw [e]; exact has_mem.mp m)
      rw [if_pos e, if_pos e, z, e]
      omega
    · rw [if_neg e, if_neg e]
      omega
theorem lin_sumTo (n N : Nat) (F : Nat → PRow) (G : Int → Nat → Int × Int → Int) (f : Int → Int) : sumTo N (fun x => lin n F (G x) * f x) = lin n F fun c k => sumTo N fun x => G x c k * f x := by
  induction N with
  | zero => exact (lin_zero n F).symm
  | succ N ih =>
    rw [sumTo_succ, ih]
    have e : (fun c k => sumTo (N + 1) fun x => G x c k * f x) = fun c k => (sumTo N fun x => G x c k * f x) + f N * G N c k := by
      funext c k
      rw [sumTo_succ, Int.mul_comm (f N)]
    rw [e, lin_add, lin_mul, Int.mul_comm (f N)]
theorem lin_sumW (n : Nat) (F : Nat → PRow) (G : Int → Nat → Int × Int → Int) (r : Row) : sumW r (fun d => lin n F (G d)) = lin n F fun c k => sumW r fun d => G d c k := by
  induction r with
  | nil => exact (lin_zero n F).symm
  | cons q r ih =>
    rw [sumW_cons, ih]
    have e : (fun c k => sumW (q :: r) fun d => G d c k) = fun c k => q.2 * G q.1 c k + sumW r fun d => G d c k := by
      funext c k
      rw [sumW_cons]
    rw [e, lin_add, lin_mul]
/-! ### rows of codes -/
theorem rowC_nd (k : Nat) : Nd (rowC k) := by
  unfold rowC Nd
  by_cases h : k < 2
  · rw [if_pos h]; exact List.nodup_nil
  · rw [if_neg h]; simp
def sg (k : Nat) : Int := if k % 2 = 1 then -1 else 1
theorem rowC_two {k : Nat} (h : 2 ≤ k) : rowC k = [(((k / 2 - 1 : Nat) : Int), sg k)] := by
  unfold rowC sg
  rw [if_neg (by omega)]
theorem rowC_nil {k : Nat} (h : ¬ 2 ≤ k) : rowC k = [] := by
  unfold rowC
  rw [if_pos (by omega)]
theorem co_rowC (k : Nat) (x : Int) : co (rowC k) x = if 2 ≤ k ∧ ((k / 2 - 1 : Nat) : Int) = x then sg k else 0 := by
  by_cases h : 2 ≤ k
  · rw [rowC_two h, co_cons]
    by_cases e : ((k / 2 - 1 : Nat) : Int) = x
    · rw [if_pos e, if_pos ⟨h, e⟩]
    · rw [if_neg e, if_neg fun z => e z.2]; rfl
  · rw [rowC_nil h, if_neg fun z => h z.1]; rfl
theorem sumW_rowC (k : Nat) (f : Int → Int) : sumW (rowC k) f = if 2 ≤ k then sg k * f ((k / 2 - 1 : Nat) : Int) else 0 := by
  by_cases h : 2 ≤ k
  · rw [rowC_two h, if_pos h, sumW_cons]
    show sg k * f ((k / 2 - 1 : Nat) : Int) + 0 = _
    omega
  · rw [rowC_nil h, if_neg h]; rfl
theorem co_lo {k : Nat} (h : ¬ 2 ≤ k) (x : Int) : co (rowC k) x = 0 := by rw [rowC_nil h]; rfl
theorem cMul_lo {x y : Nat} (h : ¬ (2 ≤ x ∧ 2 ≤ y)) : ¬ 2 ≤ cMul x y := by
  unfold cMul
  by_cases hx : x < 2
  · rw [if_pos hx]; omega
  · rw [if_neg hx]
    by_cases hy : y < 2
    · rw [if_pos hy]; omega
    · omega
theorem cMul_hi {x y : Nat} (hx : 2 ≤ x) (hy : 2 ≤ y) : cMul x y = y / 2 * 2 + (x + y) % 2 := by
  unfold cMul
  rw [if_neg (by omega), if_neg (by omega)]
theorem co_hi {k : Nat} (h : 2 ≤ k) (x : Int) : co (rowC k) x = if ((k / 2 - 1 : Nat) : Int) = x then sg k else 0 := by
  rw [rowC_two h, co_cons]
  rfl
theorem sg_par {a b : Nat} (h : a % 2 = b % 2) : sg a = sg b := by unfold sg; rw [h]
theorem sg_mul (x y : Nat) : sg (x + y) = sg x * sg y := by
  unfold sg
  rcases Nat.mod_two_eq_zero_or_one x with h | h <;> rcases Nat.mod_two_eq_zero_or_one y with g | g <;> simp [Nat.add_mod, h, g]
theorem comp_rowC (s t : Nat) (f : Int → Int) (x : Int) (h : 2 ≤ s → f ((s / 2 - 1 : Nat) : Int) = co (rowC t) x) : sumW (rowC s) f = co (rowC (cMul s t)) x := by
  rw [sumW_rowC]
  by_cases hs : 2 ≤ s
  · rw [if_pos hs, h hs]
    by_cases ht : 2 ≤ t
    · have e0 := cMul_hi hs ht
      have h2 : 2 ≤ cMul s t := by omega
      have e1 : cMul s t / 2 - 1 = t / 2 - 1 := by omega
      rw [co_hi ht, co_hi h2, e1]
      by_cases e : ((t / 2 - 1 : Nat) : Int) = x
      · rw [if_pos e, if_pos e, ← sg_mul]
        exact sg_par (by omega)
      · rw [if_neg e, if_neg e]; simp
    · rw [co_lo ht, co_lo (cMul_lo fun z => ht z.2)]; simp
  · rw [if_neg hs, co_lo (cMul_lo fun z => hs z.1)]
theorem sgn_sg (h : Nat) : sgn (h : Int) = sg h := by
  unfold sgn sg
  rw [Int.fmod_eq_emod_of_nonneg _ (by omega)]
  rcases Nat.mod_two_eq_zero_or_one h with e | e
  · rw [if_pos (by omega), if_neg (by omega)]
  · rw [if_neg (by omega), if_pos e]
theorem neg_rowC (t h : Nat) (x : Int) : sgn (h : Int) * co (rowC t) x = co (rowC (cNeg t h)) x := by
  rw [sgn_sg]
  by_cases ht : 2 ≤ t
  · have e0 : cNeg t h = t / 2 * 2 + (t + h) % 2 := by
      unfold cNeg
      rw [if_neg (by omega)]
    have h2 : 2 ≤ cNeg t h := by omega
    have e1 : cNeg t h / 2 - 1 = t / 2 - 1 := by omega
    rw [co_hi ht, co_hi h2, e1]
    by_cases e : ((t / 2 - 1 : Nat) : Int) = x
    · rw [if_pos e, if_pos e, ← sg_mul]
      exact sg_par (by omega)
    · rw [if_neg e, if_neg e]; simp
  · have e0 : ¬ 2 ≤ cNeg t h := by
      unfold cNeg
      rw [if_pos (by omega)]
      omega
    rw [co_lo ht, co_lo e0]; simp
theorem ruT_zero {t1 t2 t3 : Nat} (h : ruT t1 t2 t3 = true) (x : Int) : co (rowC t1) x - co (rowC t2) x - co (rowC t3) x = 0 := by
  have z : co (rowC 0) x = 0 := by rw [co_rowC, if_neg (by omega)]
  have ng : co (rowC (cNeg t2 1)) x = - co (rowC t2) x := by
    rw [← neg_rowC]
    have : sgn ((1 : Nat) : Int) = -1 := by decide
    rw [this]
    omega
  unfold ruT at h
  simp only [Bool.or_eq_true, Bool.and_eq_true, beq_iff_eq] at h
  rcases h with ((⟨⟨rfl, rfl⟩, rfl⟩ | ⟨rfl, rfl⟩) | ⟨rfl, rfl⟩) | ⟨rfl, rfl⟩
  · omega
  · rw [ng]; omega
  · omega
  · omega
end Lp
namespace Lp
open PySem L2 LamX
/-! ### what the tables say -/
theorem all_range {n : Nat} {f : Nat → Bool} (h : (List.range n).all f = true) {i : Nat} (hi : i < n) : f i = true := List.all_eq_true.mp h i (List.mem_range.mpr hi)
structure Lots (n : Nat) : Prop where
  s : ∀ i j : Nat, i < 2 ^ n → j < 2 ^ n → rowL (lotsN n) ((i : Int), (j : Int)) = rowC (sc n i j)
  u : ∀ i c k : Nat, ∀ pr, i < 2 ^ n → c < n → (pairsN n)[k]? = some pr → Urow (lotsN n) i (c : Int) pr = rowC (uc n i c k)
  t : ∀ w ∈ lotsN n, ∀ k, k < w.length → ∀ pr ∈ pairsN n, ∀ b, termO w k pr = some b → b.2 ∈ lotsN n
  b : ∀ i j k : Nat, i < 2 ^ n → j < 2 ^ n → k < 2 ^ n → brC n i j k = true
  r : ∀ i j c k : Nat, i < 2 ^ n → j < 2 ^ n → c < n → k < (pairsN n).length → ruC n i j c k = true
  h : ∀ i, i < 2 ^ n → ((lotsN n)[i]?).map List.length = some (hc n i)
  ps : ∀ i j : Nat, i < 2 ^ n → j < 2 ^ n → sc n i j / 2 - 1 < 2 ^ n
  pu : ∀ i c k : Nat, i < 2 ^ n → c < n → k < (pairsN n).length → uc n i c k / 2 - 1 < 2 ^ n
  gs : ∀ i j : Nat, i < 2 ^ n → j < 2 ^ n → sc n i j < 2 ∨ hc n (sc n i j / 2 - 1) = hc n i + hc n j
  gu : ∀ i c k : Nat, i < 2 ^ n → c < n → k < (pairsN n).length → uc n i c k < 2 ∨ hc n (uc n i c k / 2 - 1) = hc n i + 1
  f : ∀ a c r, (a :: c :: r) ∈ lotsN n → [a] ∈ lotsN n ∧ (c :: r) ∈ lotsN n ∧ rowL (lotsN n) (((lotsN n).idxOf [a] : Nat), ((lotsN n).idxOf (c :: r) : Nat)) = [((((lotsN n).idxOf (a :: c :: r) : Nat) : Int), 1)]
  o : ∀ c : Nat, c < n → ∀ pr ∈ pairsN n, [pr.1, pr.2] ∈ lotsN n ∧ Urow (lotsN n) ((lotsN n).idxOf [(c : Int)]) (c : Int) pr = [((((lotsN n).idxOf [pr.1, pr.2] : Nat) : Int), 1)]
  put : ∀ x ∈ lotsN n, ∀ y ∈ lotsN n, (x.any fun a => decide (a ∈ y)) = !decide (sortI (x ++ y) ∈ lotsN n)
  len : (lotsN n).length = 2 ^ n
  nd : (lotsN n).Nodup
  asc : ∀ w ∈ lotsN n, w.Pairwise (· < ·) ∧ ∀ c ∈ w, 0 ≤ c ∧ c < (n : Int)
theorem lots_ok {n : Nat} (hn : n ≤ 5) : Lots n := by
  have h := chk_all n hn
  have el := lotsN_L n hn
  unfold chkAll at h
  simp only [Bool.and_eq_true] at h
  obtain ⟨hS, hU, hT, hB, hR, hH, hP, hG, hF, h1, hO, hA⟩ := h
  unfold chkA at hA
  simp only [Bool.and_eq_true] at hA
  obtain ⟨⟨hL, hN⟩, hAsc⟩ := hA
  constructor
  · intro i j hi hj
    rw [el]
    exact of_decide_eq_true (all_range (all_range hS hi) hj)
  · intro i c k pr hi hc hk
    rw [el]
    have q := List.all_eq_true.mp (all_range (all_range hU hi) hc) (pr, k) (by
      rw [List.mem_iff_getElem?]
      exact ⟨k, by rw [List.getElem?_zipIdx, hk]; simp⟩)
    exact of_decide_eq_true q
  · intro w hw k hk pr hpr b hb
    rw [el] at hw ⊢
    have q := List.all_eq_true.mp (all_range (List.all_eq_true.mp hT w hw) hk) pr hpr
    rw [hb] at q
    exact of_decide_eq_true q
  · intro i j k hi hj hk
    exact all_range (all_range (all_range hB hi) hj) hk
  · intro i j c k hi hj hc hk
    exact all_range (all_range (all_range (all_range hR hi) hj) hc) hk
  · intro i hi
    rw [el]
    exact of_decide_eq_true (all_range hH hi)
  · intro i j hi hj
    have q := all_range hP hi
    rw [Bool.and_eq_true] at q
    exact of_decide_eq_true (all_range q.1 hj)
  · intro i c k hi hc hk
    have q := all_range hP hi
    rw [Bool.and_eq_true] at q
    exact of_decide_eq_true (all_range (all_range q.2 hc) hk)
  · intro i j hi hj
    have q := all_range hG hi
    rw [Bool.and_eq_true] at q
    exact (Bool.or_eq_true_iff.mp (all_range q.1 hj)).imp of_decide_eq_true of_decide_eq_true
  · intro i c k hi hc hk
    have q := all_range hG hi
    rw [Bool.and_eq_true] at q
    exact (Bool.or_eq_true_iff.mp (all_range (all_range q.2 hc) hk)).imp of_decide_eq_true of_decide_eq_true
  · intro a c r hw
    rw [el] at hw ⊢
    have q := List.all_eq_true.mp hF _ hw
    simp only [Bool.and_eq_true, decide_eq_true_eq] at q
    exact ⟨q.1.1, q.1.2, q.2⟩
  · intro c hc pr hpr
    rw [el]
    have q := List.all_eq_true.mp (all_range h1 hc) pr hpr
    simp only [Bool.and_eq_true, decide_eq_true_eq] at q
    exact q
  · intro x hx y hy
    rw [el] at hx hy ⊢
    exact beq_iff_eq.mp (List.all_eq_true.mp (List.all_eq_true.mp hO x hx) y hy)
  · rw [el]; exact of_decide_eq_true hL
  · rw [el]; exact of_decide_eq_true hN
  · intro w hw
    rw [el] at hw
    have q := List.all_eq_true.mp hAsc w hw
    rw [Bool.and_eq_true] at q
    refine ⟨of_decide_eq_true q.1, fun c hc => ?_⟩
    have q2 := List.all_eq_true.mp q.2 c hc
    simp only [Bool.and_eq_true, decide_eq_true_eq] at q2
    exact q2
/-! ### the step that is told by letters -/
def dl (n : Nat) (F : Nat → PRow) (d : Nat) (x : Int) : Int := lin n F fun c pr => co (Urow (lotsN n) d (c : Int) pr) x
/-- sums of pairs of letters -/
def PairsIn (n : Nat) (F : Nat → PRow) : Prop := ∀ c, c < n → ∀ e ∈ F c, e.1 ∈ pairsN n
structure DOk (n : Nat) (F : Nat → PRow) (D : Int → Row) : Prop where
  nd : ∀ a : Nat, a < 2 ^ n → Nd (D a) ∧ Bel (2 ^ n : Nat) (D a)
  val : ∀ a : Nat, a < 2 ^ n → ∀ x, co (D a) x = dl n F a x
def hlN (n : Nat) : List Int := (lotsN n).map fun w => (w.length : Int)
theorem hlN_at {n : Nat} (L : Lots n) {i : Nat} (hi : i < 2 ^ n) : hAt (hlN n) (i : Int) = (hc n i : Int) := by
  have h := L.h i hi
  unfold hAt hlN
  rw [Int.toNat_natCast, List.getD_eq_getElem?_getD, List.getElem?_map]
  cases e : (lotsN n)[i]? with
  | none => rw [e] at h; cases h
  | some w =>
    rw [e] at h
    have := Option.some.inj h
    show ((w.length : Nat) : Int) = _
    rw [this]
theorem bel_rowC {k N : Nat} (h : k / 2 - 1 < N) : Bel (N : Nat) (rowC k) := fun q m => by
  by_cases h2 : 2 ≤ k
  · rw [rowC_two h2] at m
    rw [List.mem_singleton.mp m]
    exact ⟨Int.natCast_nonneg _, by show ((k / 2 - 1 : Nat) : Int) < _; omega⟩
  · rw [rowC_nil h2] at m
    cases m
/-- sums of a step, letter by letter -/
theorem sumW_D {n : Nat} {F : Nat → PRow} {D : Int → Row} (L : Lots n) (P : PairsIn n F) (O : DOk n F D) {a : Nat} (ha : a < 2 ^ n) (f : Int → Int) : sumW (D a) f = lin n F fun c pr => sumW (Urow (lotsN n) a (c : Int) pr) f := by
  rw [sumW_to (O.nd a ha).1 (O.nd a ha).2 f]
  have e : (sumTo (2 ^ n) fun x => co (D a) x * f x) = sumTo (2 ^ n) fun x => lin n F (fun c pr => co (Urow (lotsN n) a (c : Int) pr) x) * f x := sumTo_congr fun i _ => by rw [O.val a ha]; rfl
  rw [e, lin_sumTo]
  refine lin_congr fun c hc e me => ?_
  obtain ⟨k, hk⟩ := List.mem_iff_getElem?.mp (P c hc e me)
  have lk := (List.getElem?_eq_some_iff.mp hk).1
  rw [L.u a c k e.1 ha hc hk, sumW_to (rowC_nd _) (bel_rowC (L.pu a c k ha hc lk)) f]
theorem ru_zero {n : Nat} {F : Nat → PRow} {D : Int → Row} (L : Lots n) (P : PairsIn n F) (O : DOk n F D) {a b : Nat} (ha : a < 2 ^ n) (hb : b < 2 ^ n) (x : Int) : ruX (rowL (lotsN n)) D (hlN n) a b x = 0 := by
  unfold ruX
  rw [hlN_at L ha, sumW_D L P O ha, sumW_D L P O hb]
  have e1 : (sumW (rowL (lotsN n) ((a : Int), (b : Int))) fun d => co (D d) x) = lin n F fun c pr => sumW (rowL (lotsN n) ((a : Int), (b : Int))) fun d => co (Urow (lotsN n) d.toNat (c : Int) pr) x := by
    rw [← lin_sumW n F (fun d c pr => co (Urow (lotsN n) d.toNat (c : Int) pr) x), L.s a b ha hb, sumW_rowC, sumW_rowC]
    by_cases h2 : 2 ≤ sc n a b
    · rw [if_pos h2, if_pos h2, O.val _ (L.ps a b ha hb)]
      rfl
    · rw [if_neg h2, if_neg h2]
  rw [e1, ← lin_mul]
  have sub : ∀ f g : Nat → Int × Int → Int, lin n F f - lin n F g = lin n F fun c k => f c k - g c k := fun f g => by
    have e : (fun c k => f c k - g c k) = fun c k => f c k + (-1) * g c k := by
      funext c k
      omega
    rw [e, lin_add, lin_mul]
    omega
  rw [sub, sub]
  refine (lin_congr fun c hc e me => ?_).trans (lin_zero n F)
  obtain ⟨k, hk⟩ := List.mem_iff_getElem?.mp (P c hc e me)
  have lk := (List.getElem?_eq_some_iff.mp hk).1
  rw [L.s a b ha hb, L.u a c k e.1 ha hc hk, L.u b c k e.1 hb hc hk]
  rw [comp_rowC (sc n a b) (uc n (sc n a b / 2 - 1) c k) _ x fun _ => by rw [Int.toNat_natCast, L.u _ c k e.1 (L.ps a b ha hb) hc hk],
    comp_rowC (uc n a c k) (sc n (uc n a c k / 2 - 1) b) _ x fun _ => by rw [L.s _ b (L.pu a c k ha hc lk) hb],
    comp_rowC (uc n b c k) (sc n a (uc n b c k / 2 - 1)) _ x fun _ => by rw [L.s a _ ha (L.pu b c k hb hc lk)], neg_rowC]
  exact ruT_zero (L.r a b c k ha hb hc lk) x
theorem br_zero {n : Nat} (L : Lots n) {a b c : Nat} (ha : a < 2 ^ n) (hb : b < 2 ^ n) (hc : c < 2 ^ n) (x : Int) :
    (sumW (rowL (lotsN n) ((a : Int), (b : Int))) fun d => co (rowL (lotsN n) (d, (c : Int))) x) = sumW (rowL (lotsN n) ((b : Int), (c : Int))) fun d => co (rowL (lotsN n) ((a : Int), d)) x := by
  have q : cMul (sc n a b) (sc n (sc n a b / 2 - 1) c) = cMul (sc n b c) (sc n a (sc n b c / 2 - 1)) := by
    have := L.b a b c ha hb hc
    unfold brC at this
    exact beq_iff_eq.mp this
  rw [L.s a b ha hb, L.s b c hb hc, comp_rowC _ (sc n (sc n a b / 2 - 1) c) _ x fun _ => by rw [L.s _ c (L.ps a b ha hb) hc],
    comp_rowC _ (sc n a (sc n b c / 2 - 1)) _ x fun _ => by rw [L.s a _ ha (L.ps b c hb hc)], q]
end Lp
namespace Lp
open PySem L2 LamX
/-! ### modulo the prime -/
theorem fmod_zero {p x : Int} (hp : 0 < p) : x.fmod p = 0 ↔ p ∣ x := by
  rw [Int.fmod_eq_emod_of_nonneg _ (Int.le_of_lt hp)]
  exact ⟨Int.dvd_of_emod_eq_zero, Int.emod_eq_zero_of_dvd⟩
theorem dvd_fmod {p x : Int} (hp : 0 < p) : p ∣ x.fmod p - x := by
  rw [Int.fmod_eq_emod_of_nonneg _ (Int.le_of_lt hp)]
  refine ⟨-(x / p), ?_⟩
  have := Int.mul_ediv_add_emod x p
  rw [Int.mul_neg]
  omega
theorem dvd_nfR {p : Int} {r : Row} (hp : 0 < p) (nd : Nd r) (k : Int) : p ∣ co (nfR p r) k - co r k := by
  rw [(nfR_spec hp nd).2]
  exact dvd_fmod hp
theorem dvd_mul2 {p a b c d : Int} (h1 : p ∣ a - c) (h2 : p ∣ b - d) : p ∣ a * b - c * d := by
  obtain ⟨x, hx⟩ := h1
  obtain ⟨y, hy⟩ := h2
  have e1 : a = c + p * x := by omega
  have e2 : b = d + p * y := by omega
  subst e1 e2
  refine ⟨x * d + c * y + x * (p * y), ?_⟩
  rw [Int.add_mul, Int.mul_add, Int.mul_add, Int.mul_add, Int.mul_add, Int.mul_assoc p x d, Int.mul_assoc p x (p * y), Int.mul_left_comm c p y]
  omega
theorem dvd_sumTo {p : Int} {N : Nat} {f g : Int → Int} (h : ∀ i : Nat, i < N → p ∣ f i - g i) : p ∣ sumTo N f - sumTo N g := by
  induction N with
  | zero => exact ⟨0, by rw [Int.mul_zero]; rfl⟩
  | succ N ih =>
    rw [sumTo_succ, sumTo_succ]
    have e : sumTo N f + f N - (sumTo N g + g N) = (sumTo N f - sumTo N g) + (f N - g N) := by omega
    rw [e]
    exact Int.dvd_add (ih fun i hi => h i (by omega)) (h N (by omega))
theorem bel_nfR' {p : Int} {n : Nat} {r : Row} (hp : 0 < p) (nd : Nd r) (b : Bel n r) : Nd (nfR p r) ∧ Bel n (nfR p r) := by
  obtain ⟨c1, c2⟩ := nfR_spec hp nd
  exact ⟨c1.nd, bel_of c1 c2 b⟩
theorem dvd_sumW {p : Int} {N : Nat} {r : Row} {f g : Int → Int} (hp : 0 < p) (nd : Nd r) (b : Bel N r) (h : ∀ i : Nat, i < N → p ∣ f i - g i) : p ∣ sumW (nfR p r) f - sumW r g := by
  obtain ⟨n1, b1⟩ := bel_nfR' hp nd b
  rw [sumW_to n1 b1, sumW_to nd b]
  exact dvd_sumTo fun i hi => dvd_mul2 (dvd_nfR hp nd _) (h i hi)
theorem dvd_swap {p a b : Int} (h1 : p ∣ a - b) (h2 : p ∣ b) : p ∣ a := by
  have := Int.dvd_add h1 h2
  rwa [Int.sub_add_cancel] at this
section
variable {n : Nat} {F : Nat → PRow} {D : Int → Row} {p : Int}
theorem rowN (L : Lots n) (k : Int × Int) : Nd (rowL (lotsN n) k) ∧ Bel (2 ^ n : Nat) (rowL (lotsN n) k) := by
  have h := rowL_ok (lotsN n) k
  rw [L.len] at h
  exact ⟨h.1, h.2.1⟩
theorem hlN_len (L : Lots n) : (hlN n).length = 2 ^ n := by
  unfold hlN
  rw [List.length_map, L.len]
theorem br_ok (L : Lots n) (hp : 0 < p) : BrOk (fun k => nfR p (rowL (lotsN n) k)) p (2 ^ n) := by
  intro a b c ha hb hc j
  rw [fmod_zero hp]
  have h1 := dvd_sumW (p := p) (f := fun d => co (nfR p (rowL (lotsN n) (d, (c : Int)))) j) (g := fun d => co (rowL (lotsN n) (d, (c : Int))) j) hp (rowN L ((a : Int), (b : Int))).1 (rowN L _).2 fun i _ => dvd_nfR hp (rowN L _).1 _
  have h2 := dvd_sumW (p := p) (f := fun d => co (nfR p (rowL (lotsN n) ((a : Int), d))) j) (g := fun d => co (rowL (lotsN n) ((a : Int), d)) j) hp (rowN L ((b : Int), (c : Int))).1 (rowN L _).2 fun i _ => dvd_nfR hp (rowN L _).1 _
  have h3 := br_zero L ha hb hc j
  have h4 := Int.dvd_sub h1 h2
  rw [← h3] at h4
  have e : ∀ x y z : Int, x - z - (y - z) = x - y := fun x y z => by omega
  rw [e] at h4
  exact h4
theorem ru_ok (L : Lots n) (P : PairsIn n F) (O : DOk n F D) (hp : 0 < p) : RuOk (fun k => nfR p (rowL (lotsN n) k)) (fun k => nfR p (D k)) (hlN n) p := by
  intro a b ha hb x
  rw [hlN_len L] at ha hb
  rw [fmod_zero hp]
  have hz := ru_zero L P O ha hb x
  unfold ruX at hz ⊢
  have h1 := dvd_sumW (p := p) (f := fun d => co (nfR p (D d)) x) (g := fun d => co (D d) x) hp (rowN L ((a : Int), (b : Int))).1 (rowN L _).2 fun i hi => dvd_nfR hp (O.nd i hi).1 _
  have h2 := dvd_sumW (p := p) (f := fun d => co (nfR p (rowL (lotsN n) (d, (b : Int)))) x) (g := fun d => co (rowL (lotsN n) (d, (b : Int))) x) hp (O.nd a ha).1 (O.nd a ha).2 fun i _ => dvd_nfR hp (rowN L _).1 _
  have h3 := dvd_sumW (p := p) (f := fun d => co (nfR p (rowL (lotsN n) ((a : Int), d))) x) (g := fun d => co (rowL (lotsN n) ((a : Int), d)) x) hp (O.nd b hb).1 (O.nd b hb).2 fun i _ => dvd_nfR hp (rowN L _).1 _
  have h4 := Int.dvd_mul_of_dvd_right (b := sgn (hAt (hlN n) (a : Int))) h3
  have h5 := Int.dvd_sub (Int.dvd_sub h1 h2) h4
  rw [Int.mul_sub] at h5
  have e : ∀ x y z u v w : Int, u - v - w = 0 → x - u - (y - v) - (z - w) = x - y - z := fun x y z u v w h => by omega
  rw [e _ _ _ _ _ _ hz] at h5
  exact h5
theorem lin_ne {g : Nat → Int × Int → Int} (h : lin n F g ≠ 0) : ∃ c, c < n ∧ ∃ e ∈ F c, g c e.1 ≠ 0 := by
  refine Classical.byContradiction fun no => h ?_
  refine (lin_congr fun c hc e me => ?_).trans (lin_zero n F)
  refine Classical.byContradiction fun z => no ⟨c, hc, e, me, z⟩
theorem dl_ne (L : Lots n) (P : PairsIn n F) {a : Nat} (ha : a < 2 ^ n) {x : Int} (h : dl n F a x ≠ 0) : ∃ i : Nat, x = (i : Int) ∧ i < 2 ^ n ∧ hc n i = hc n a + 1 := by
  obtain ⟨c, hc, e, me, z⟩ := lin_ne h
  obtain ⟨k, hk⟩ := List.mem_iff_getElem?.mp (P c hc e me)
  have lk := (List.getElem?_eq_some_iff.mp hk).1
  rw [L.u a c k e.1 ha hc hk, co_rowC] at z
  by_cases q : 2 ≤ uc n a c k ∧ ((uc n a c k / 2 - 1 : Nat) : Int) = x
  · refine ⟨_, q.2.symm, L.pu a c k ha hc lk, ?_⟩
    rcases L.gu a c k ha hc lk with g | g
    · omega
    · exact g
  · rw [if_neg q] at z
    exact absurd rfl z
theorem mem_nfR {r : Row} (hp : 0 < p) (nd : Nd r) {q : Int × Int} (m : q ∈ nfR p r) : co r q.1 ≠ 0 := fun z => by
  obtain ⟨c1, c2⟩ := nfR_spec hp nd
  have h := c2 q.1
  rw [co_mem c1.nd m, z, Int.zero_fmod] at h
  have := (c1.num q m).1
  omega
theorem rowB_of {r : Row} {N : Nat} (b : Bel N r) : rowB r N = true := by
  unfold rowB
  refine List.all_eq_true.mpr fun q m => ?_
  have := b q m
  rw [Bool.and_eq_true, decide_eq_true_eq, decide_eq_true_eq]
  omega
theorem pair_ok (L : Lots n) (hp : 0 < p) {i j : Nat} (hi : i < 2 ^ n) (hj : j < 2 ^ n) : pairB (rowL (lotsN n)) (hlN n) p ((i : Int), (j : Int)) = true := by
  unfold pairB rowAtB inB
  rw [hlN_len L]
  simp only [Bool.and_eq_true, decide_eq_true_eq]
  refine ⟨⟨⟨by omega, by omega⟩, by omega, by omega⟩, rowB_of (rowN L _).2, List.all_eq_true.mpr fun q m => ?_⟩
  have z := mem_nfR hp (rowN L _).1 m
  rw [L.s i j hi hj, co_rowC] at z
  by_cases g : 2 ≤ sc n i j ∧ ((sc n i j / 2 - 1 : Nat) : Int) = q.1
  · rw [decide_eq_true_eq, ← g.2, hlN_at L (L.ps i j hi hj), hlN_at L hi, hlN_at L hj]
    rcases L.gs i j hi hj with w | w
    · omega
    · rw [w]; omega
  · rw [if_neg g] at z
    exact absurd rfl z
theorem step_ok (L : Lots n) (P : PairsIn n F) (O : DOk n F D) (hp : 0 < p) {i : Nat} (hi : i < 2 ^ n) : stepB D (hlN n) p (i : Int) = true := by
  unfold stepB rowAtB inB
  rw [hlN_len L]
  simp only [Bool.and_eq_true, decide_eq_true_eq]
  refine ⟨⟨by omega, by omega⟩, rowB_of (O.nd i hi).2, List.all_eq_true.mpr fun q m => ?_⟩
  have z := mem_nfR hp (O.nd i hi).1 m
  rw [O.val i hi] at z
  obtain ⟨k, e, hk, g⟩ := dl_ne L P hi z
  rw [decide_eq_true_eq, e, hlN_at L hk, hlN_at L hi, g]
  omega
/-- some step with those sums -/
def D0 (n : Nat) (F : Nat → PRow) (d : Int) : Row := (List.range (2 ^ n)).map fun (i : Nat) => ((i : Int), dl n F d.toNat i)
theorem co_enum (f : Nat → Int) : ∀ (N : Nat) (x : Int), co ((List.range N).map fun (i : Nat) => ((i : Int), f i)) x = if 0 ≤ x ∧ x < N then f x.toNat else 0
  | 0, x => by rw [if_neg (by omega)]; rfl
  | N + 1, x => by
    have app : ∀ (r : Row) (q : Int × Int), ¬ has r q.1 → co (r ++ [q]) x = if q.1 = x then q.2 else co r x := fun r q h => by
      have := co_put r q.1 q.2 x
      unfold putR at this
      rw [if_neg h] at this
      exact this
    rw [List.range_succ, List.map_append, List.map_singleton, app _ ((N : Int), f N) fun h => by
      obtain ⟨q, m, e⟩ := h
      obtain ⟨i, mi, rfl⟩ := List.mem_map.mp m
      have := List.mem_range.mp mi
      simp only at e
      omega]
    rw [co_enum f N x]
    by_cases e : (N : Int) = x
    · rw [if_pos e, if_pos (by omega), ← e]
      rfl
    · rw [if_neg e]
      by_cases g : 0 ≤ x ∧ x < N
      · rw [if_pos g, if_pos (by omega)]
      · rw [if_neg g, if_neg (by omega)]
theorem D0_ok (L : Lots n) (P : PairsIn n F) : DOk n F (D0 n F) := by
  refine ⟨fun a ha => ⟨?_, fun q m => ?_⟩, fun a ha x => ?_⟩
  · unfold Nd D0
    rw [List.map_map]
    refine List.Pairwise.map _ (fun a b (h : a ≠ b) => ?_) List.nodup_range
    show ¬ ((a : Int) = (b : Int))
    omega
  · unfold D0 at m
    obtain ⟨i, mi, rfl⟩ := List.mem_map.mp m
    have := List.mem_range.mp mi
    exact ⟨Int.natCast_nonneg _, by show ((i : Nat) : Int) < _; omega⟩
  · unfold D0
    rw [co_enum (fun i => dl n F ((a : Int)).toNat i)]
    by_cases g : 0 ≤ x ∧ x < (2 ^ n : Nat)
    · rw [if_pos g, Int.toNat_natCast, Int.toNat_of_nonneg g.1]
    · rw [if_neg g]
      refine Classical.byContradiction fun z => g ?_
      obtain ⟨i, rfl, hi, _⟩ := dl_ne L P ha (Ne.symm z)
      omega
theorem idx_lt (L : Lots n) {w : List Int} (m : w ∈ lotsN n) : (lotsN n).idxOf w < 2 ^ n := by
  have := List.idxOf_lt_length_iff.mpr m
  rwa [L.len] at this
theorem idx_at {ls : List (List Int)} {w : List Int} (m : w ∈ ls) : ls[ls.idxOf w]? = some w := by
  have l0 := List.idxOf_lt_length_iff.mpr m
  rw [List.getElem?_eq_getElem l0, List.getElem_idxOf l0]
/-- a lot's step by those of its first letter and its rest -/
theorem dl_rec (L : Lots n) (P : PairsIn n F) {a c : Int} {r : List Int} (m : (a :: c :: r) ∈ lotsN n) {R1 R2 : Row} (n1 : Nd R1 ∧ Bel (2 ^ n : Nat) R1) (n2 : Nd R2 ∧ Bel (2 ^ n : Nat) R2)
    (e1 : ∀ x, co R1 x = dl n F ((lotsN n).idxOf [a]) x) (e2 : ∀ x, co R2 x = dl n F ((lotsN n).idxOf (c :: r)) x) (x : Int) :
    (sumW R1 fun y => co (rowL (lotsN n) (y, ((lotsN n).idxOf (c :: r) : Nat))) x) + sgn 1 * (sumW R2 fun y => co (rowL (lotsN n) (((lotsN n).idxOf [a] : Nat), y)) x) = dl n F ((lotsN n).idxOf (a :: c :: r)) x := by
  obtain ⟨ma, mr, hrow⟩ := L.f a c r m
  have la := idx_lt L ma
  have lr := idx_lt L mr
  have lw := idx_lt L m
  have O := D0_ok L P
  have z := ru_zero L P O la lr x
  unfold ruX at z
  have same : ∀ {R : Row} {d : Nat}, d < 2 ^ n → Nd R ∧ Bel (2 ^ n : Nat) R → (∀ x, co R x = dl n F d x) → ∀ f : Int → Int, sumW R f = sumW (D0 n F d) f := fun {R d} hd hR e f => by
    rw [sumW_to hR.1 hR.2, sumW_to (O.nd d hd).1 (O.nd d hd).2]
    exact sumTo_congr fun i _ => by rw [e, O.val d hd]
  rw [same la n1 e1, same lr n2 e2]
  have h1 : hAt (hlN n) ((lotsN n).idxOf [a] : Nat) = 1 := by
    rw [hlN_at L la]
    have := L.h _ la
    rw [idx_at ma] at this
    have := Option.some.inj this
    rw [← this]
    rfl
  rw [hrow, sumW_cons, h1] at z
  have v : co (D0 n F ((lotsN n).idxOf (a :: c :: r) : Nat)) x = dl n F ((lotsN n).idxOf (a :: c :: r)) x := O.val _ lw x
  have zz : sumW [] (fun d => co (D0 n F d) x) = 0 := rfl
  rw [zz] at z
  simp only at z
  rw [v] at z
  omega
theorem lin_one {g : Nat → Int × Int → Int} {c : Nat} (hc : c < n) (h : ∀ b, b < n → b ≠ c → ∀ e ∈ F b, g b e.1 = 0) : lin n F g = sumD (F c) (g c) := by
  have zero : ∀ (k : Nat), (∀ b, b < k → ∀ e ∈ F b, g b e.1 = 0) → lin k F g = 0 := fun k hk => (lin_congr hk).trans (lin_zero k F)
  have key : ∀ k : Nat, c < k → (∀ b, b < k → b ≠ c → ∀ e ∈ F b, g b e.1 = 0) → lin k F g = sumD (F c) (g c) := by
    intro k
    induction k with
    | zero => intro hck; omega
    | succ k ih =>
      intro hck hk
      rw [lin_succ]
      by_cases e : c = k
      · subst e
        rw [zero c fun b hb => hk b (by omega) (by omega)]
        omega
      · rw [ih (by omega) fun b hb => hk b (by omega)]
        have z : sumD (F k) (g k) = 0 := by
          have : sumD (F k) (g k) = sumD (F k) fun _ => 0 * 0 := sumD_congr fun e' m => hk k (by omega) (by omega) e' m
          rw [this, sumD_mul]
          simp
        rw [z]
        omega
  exact key n hc h
/-- a letter's own step -/
theorem dl_one (L : Lots n) (P : PairsIn n F) {c : Nat} (hc : c < n) (x : Int) : dl n F ((lotsN n).idxOf [(c : Int)]) x = sumD (F c) fun pr => if (((lotsN n).idxOf [pr.1, pr.2] : Nat) : Int) = x then 1 else 0 := by
  unfold dl
  have mc : ∀ pr ∈ pairsN n, Urow (lotsN n) ((lotsN n).idxOf [(c : Int)]) (c : Int) pr = [((((lotsN n).idxOf [pr.1, pr.2] : Nat) : Int), 1)] := fun pr m => (L.o c hc pr m).2
  rw [lin_one hc fun b hb ne e me => ?_]
  · refine sumD_congr fun e me => ?_
    rw [mc _ (P c hc e me), co_cons]
    rfl
  · have m1 := mc _ (P b hb e me)
    unfold Urow at m1 ⊢
    cases eg : (lotsN n)[(lotsN n).idxOf [(c : Int)]]? with
    | none => rfl
    | some w =>
      have l1 := List.getElem?_eq_some_iff.mp eg
      obtain ⟨l1, l2⟩ := l1
      rw [List.getElem_idxOf l1] at l2
      subst l2
      show co (if (b : Int) ∈ [(c : Int)] then _ else []) x = 0
      rw [if_neg fun z => ne (by have := List.mem_singleton.mp z; omega)]
      rfl
theorem dl_nil (L : Lots n) (x : Int) : dl n F ((lotsN n).idxOf []) x = 0 := by
  unfold dl
  refine (lin_congr fun c hc e me => ?_).trans (lin_zero n F)
  unfold Urow
  cases eg : (lotsN n)[(lotsN n).idxOf []]? with
  | none => rfl
  | some w =>
    obtain ⟨l1, l2⟩ := List.getElem?_eq_some_iff.mp eg
    rw [List.getElem_idxOf l1] at l2
    subst l2
    rfl
theorem sumTo_mem (n : Nat) (g : Int → Int) : ∀ {w : List Int}, w.Nodup → (∀ c ∈ w, 0 ≤ c ∧ c < (n : Int)) → (sumTo n fun c => if c ∈ w then g c else 0) = (w.map g).sum
  | [], _, _ => by
    have z2 : ∀ k, sumTo k (fun _ => 0) = 0 := fun k => by
      induction k with
      | zero => rfl
      | succ k ih => rw [sumTo_succ, ih]; rfl
    exact (sumTo_congr fun i _ => if_neg (by simp)).trans (z2 n)
  | a :: w, nd, h => by
    obtain ⟨na, nd'⟩ := List.nodup_cons.mp nd
    rw [List.map_cons, List.sum_cons, ← sumTo_mem n g nd' fun c m => h c (List.mem_cons_of_mem _ m), ← sumTo_one (h a List.mem_cons_self) (g a), ← sumTo_add]
    refine sumTo_congr fun i _ => ?_
    by_cases e : a = (i : Int)
    · rw [if_pos (by rw [e]; exact List.mem_cons_self), if_pos e, if_neg (by rw [← e]; exact na), e]
      omega
    · by_cases m : (i : Int) ∈ w
      · rw [if_pos (List.mem_cons_of_mem _ m), if_neg e, if_pos m]
        omega
      · rw [if_neg fun z => (List.mem_cons.mp z).elim (fun q => e q.symm) m, if_neg e, if_neg m]
        omega
/-- a lot's step, spot by spot -/
theorem dl_spots (L : Lots n) {w : List Int} (m : w ∈ lotsN n) (x : Int) :
    ((List.range w.length).map fun s => sumD (F (w.getD s 0).toNat) fun pr => co (termL (lotsN n) w s pr) x).sum = dl n F ((lotsN n).idxOf w) x := by
  obtain ⟨asc, rng⟩ := L.asc w m
  have nd : w.Nodup := asc.imp fun {a b} h e => by omega
  have e1 : dl n F ((lotsN n).idxOf w) x = sumTo n fun c => if c ∈ w then (sumD (F c.toNat) fun pr => co (termL (lotsN n) w (w.idxOf c) pr) x) else 0 := by
    unfold dl lin sumTo
    refine congrArg List.sum (List.map_congr_left fun c mc => ?_)
    unfold Urow
    rw [idx_at m]
    show (sumD (F c) fun pr => co (if (c : Int) ∈ w then termL (lotsN n) w (w.idxOf (c : Int)) pr else []) x) = if (c : Int) ∈ w then (sumD (F (c : Int).toNat) fun pr => co (termL (lotsN n) w (w.idxOf (c : Int)) pr) x) else 0
    by_cases h : (c : Int) ∈ w
    · rw [if_pos h, Int.toNat_natCast]
      refine sumD_congr fun e _ => ?_
      show co (if (c : Int) ∈ w then _ else []) x = _
      rw [if_pos h]
    · rw [if_neg h]
      have : (sumD (F c) fun pr => co (if (c : Int) ∈ w then termL (lotsN n) w (w.idxOf (c : Int)) pr else []) x) = sumD (F c) fun _ => 0 * 0 := sumD_congr fun e _ => by rw [if_neg h]; rfl
      rw [this, sumD_mul]
      simp
  rw [e1, sumTo_mem n _ nd rng]
  refine congrArg List.sum ?_
  refine List.ext_getElem? fun s => ?_
  rw [List.getElem?_map, List.getElem?_map]
  by_cases h : s < w.length
  · rw [List.getElem?_range h, List.getElem?_eq_getElem h]
    show some (sumD (F (w.getD s 0).toNat) fun pr => co (termL (lotsN n) w s pr) x) = some (sumD (F w[s].toNat) fun pr => co (termL (lotsN n) w (w.idxOf w[s]) pr) x)
    have e2 : w.getD s 0 = w[s] := by rw [List.getD_eq_getElem?_getD, List.getElem?_eq_getElem h]; rfl
    rw [e2, nd.idxOf_getElem s h]
  · rw [List.getElem?_eq_none (by rw [List.length_range]; omega), List.getElem?_eq_none (by omega)]
    rfl
end
end Lp
namespace Lp
open PySem PySem.Spec PySem.Calls PyProof.Rows L2
/-! ### a dict of one tuple (True, 1) -/
def RawD (a : Addr) (o : Obj) : HO := .ext fun h => h.get? a = some o
structure RawOk (a b : Addr) (o : Obj) : Prop where
  hs : (a == sysModules) = false
  ex : o.ExactDict
  en : ∃ (es : Array DictEntry) (ep : Nat), o.data = .dict es ep ∧ es.size = 1 ∧ ∃ e, es[0]? = some e ∧ e.key = .ref b
theorem raw_get {P : Program} {w : World} {H : Hp} {h : Heap} {a : Addr} {o : Obj} (ok : HOk P w H h) (e : H a = some (RawD a o)) : h.get? a = some o := (ok a _ e).1
/-- {k: v}, the k such a tuple -/
def tDispR (tk tv : TE) : TE := fun σ H Q => ∀ p, H p = none → tPairs [(tk, tv)] σ (upd H p (.dT [])) fun ps H2 => ∃ b v, ps = [(.ref b, v)] ∧ H2 b = some (.tup [.bl true, .int 1]) ∧ H2 p = some (.dT []) ∧ ∀ o, RawOk p b o → Q (.ref p) (upd H2 p (RawD p o))
theorem pe_dispR {X : Cx} {k v : Expr} {tk tv : TE} {pos : Pos} (hu : X.A.units + 1 < cLine) (hk : PE X k tk) (hv : PE X v tv) : PE X (.Dict [some k] [v] pos) (tDispR tk tv) := by
  refine ⟨fun pins s σ H Q I q => ?_⟩
  have hn := I.hok.fresh (Nat.le_refl s.heap.objs.size)
  have I1 := I.laid (a := s.heap.objs.size) (o := .dT []) (h' := s.heap.push { cls := .type "dict", data := .dict #[] }) (t' := s.toks) (fun _ _ q => Heap.get?_push_of_some _ q) (Nat.le_refl _) (dt_empty s.heap I.big)
  refine wpAny_Dict_any (by rfl) (by rfl) (by simp) (by simp) (thn ((pps_cons hk hv pps_nil).run pins _ σ _ _ I1 (q _ hn)) fun ws s2 ⟨ps, H2, I2, rel, b, y, ep, hb, hp, q2⟩ => ?_)
  subst ep
  cases rel with
  | @cons a c as cs h t =>
    cases t
    obtain ⟨u, v'⟩ := c
    cases (show u = Value.ref b from h.1)
    obtain ⟨z, nd, xs, rel, o, es, ep, ho, hc, hd, he, _, _⟩ := dt_of I2.hok hp
    cases rel
    obtain ⟨_, its, rv, ot, h1, h2, n, h3⟩ := (show ObjOk X.prog X.w H2 s2.heap b (.tup [.bl true, .int 1]) from I2.hok b _ hb)
    have key : (tupleKind (leafKind X.prog X.w)).is s2.heap [Leaf.num 1, Leaf.num 1] b := by
      cases rv with
      | @cons _ u1 _ us r1 rr =>
        cases rr with
        | @cons _ u2 _ us2 r2 rr2 =>
          cases rr2
          cases (show u1 = Value.bool true from r1)
          obtain ⟨tk2, rfl⟩ := (show ∃ t, u2 = Value.int 1 t from r2)
          exact ⟨ot, _, n, h1, h2, h3, .cons rfl (.cons rfl .nil)⟩
    unfold storeAll
    rw [List.forIn_cons]
    refine wpAny_bind (wpAny_bind (wpAny_dictSet_heap (hsz := by simp) (knd := tupleKind (leafKind X.prog X.w)) (xs := []) (show X.A.units < cLine by omega) key ⟨o, es, ep, ho, hc, hd, he, fun x hx => (nomatch hx), List.nodup_nil⟩ fun h' hm' sb => wpAny_pure ?_))
    show wpAny _ _ (forIn _ _ _) _ _ _
    rw [List.forIn_nil]
    obtain ⟨o', es', ep', ho', hc', hd', he', _, _⟩ := hm'
    have hs : (s.heap.objs.size == sysModules) = false := (show ObjOk X.prog X.w H2 s2.heap _ (.dT []) from I2.hok _ _ hp).2.1
    have en : es'.toList = [(⟨(tupleKind (leafKind X.prog X.w)).hash [Leaf.num 1, Leaf.num 1], .ref b, v'⟩ : DictEntry)] := he'
    refine wpAny_pure ⟨.ref _, _, d_write (ob := RawD s.heap.objs.size o') I2 (by rw [hp]; exact True.intro) sb ⟨o', ho'⟩ ⟨ho', ⟨o', ho'⟩, fun _ _ e k => k _ e⟩, rfl, q2 o' ⟨hs, hc', es', ep', hd', ?_, ?_⟩⟩
    · rw [← Array.length_toList, en]; rfl
    · exact ⟨_, by rw [← Array.getElem?_toList, en]; rfl, rfl⟩
/-! ### for k in such a dict -/
def ItR (a b : Addr) (o : Obj) : It := ⟨fun i H => H a = some (RawD a o) ∧ i < 1, fun i H x H' => H' = H ∧ x = .ref b, fun i H => H a = some (RawD a o) ∧ 1 ≤ i⟩
theorem turn_raw {P : Program} {w : World} {K : PySem.W.Frag} {tg : Expr} {a b : Addr} {o : Obj} {es : Array DictEntry} {ep : Nat} (it : Addr) (R : RawOk a b o) (hod : o.data = .dict es ep) : Turn P w K tg (ItR a b o) [it] it (fun i h => h.IsKeyIter it a i 1 ep) where
  mem := by simp
  obj := fun i h st c hc => by
    have e : c = it := by simpa using hc
    subst e
    obtain ⟨oi, e, c, dd⟩ := st
    exact ⟨oi, e, fun v z => by rw [dd] at z; cases z⟩
  keep := fun i h h' st k => st.at fun oi e => k it (by simp) oi e
  item := by
    intro X hP hw hK hc i pins s σ H E I hf st hg
    subst hP hw hK
    obtain ⟨hd, hi⟩ := hg
    obtain ⟨f0, f1, f2, f3, f4, f5⟩ := hf it (by simp)
    obtain ⟨es', ep', hdt, hsz, en, hen, hkey⟩ := R.en
    obtain ⟨rfl, rfl⟩ := dict_ep hod hdt
    obtain rfl : i = 0 := by omega
    refine next_key_item st (raw_get I.hok hd) hdt hsz hen fun h' st' sb => ?_
    have I1 : Inv X pins σ H { s with heap := h' } := I.turned (t' := s.toks) (fun b ob hb e => (sb.2 b hb).trans e) f0 f1 f3 f4 f5
    obtain ⟨oi, e, c, dd⟩ := id st'
    exact ⟨en.key, rfl, go_of (s := { s with heap := h' }) e c dd (by decide) ⟨.ref b, H, I1, hkey, ⟨rfl, rfl⟩, st', fun b hb => (hf b hb).1⟩⟩
  done := by
    intro X hP hw hK hc i pins s σ H E I hf st hg
    subst hP hw hK
    obtain ⟨hd, hi⟩ := hg
    obtain ⟨f0, f1, f2, f3, f4, f5⟩ := hf it (by simp)
    obtain ⟨es', ep', hdt, hsz, _⟩ := R.en
    obtain ⟨rfl, rfl⟩ := dict_ep hod hdt
    exact next_key_end (I.ok.hd hc) st (raw_get I.hok hd) hdt hsz hi fun h' eb => ⟨rfl, I.turned (t' := s.toks) (fun b ob hb e => eb b ob hb e) f0 f1 f3 f4 f5⟩
  self := fun A i s Q E st h => by
    refine wpAny_pyIter_slot st.typeIs F.slot_dict_keyiterator_iter (wpAny_call_entry F.slot_dict_keyiterator_iter st.typeIs F.entry_dict_keyiterator_iter ?_ (F.args_dict_keyiterator_iter_1 _))
    show wpAny _ _ (ret (.ref it)) _ _ s
    exact wpAny_pure ⟨_, rfl, "dict_keyiterator", _, st.typeIs, F.slot_dict_keyiterator_next.lookup, h⟩
/-- .. as pi_keys, or such a dict -/
def iKeysR (td : TE) : TI := fun σ H R => td σ H fun x H1 => ∃ d, x = .ref d ∧ ((∃ o kvs, H1 d = some (.frz o (.dK kvs)) ∧ R (Itk d o kvs) H1) ∨ (∃ o kvs, H1 d = some (.frz o (.dT kvs)) ∧ R (Itkt d o kvs) H1) ∨ ∃ o b, H1 d = some (RawD d o) ∧ RawOk d b o ∧ R (ItR d b o) H1)
section
variable {X : Cx} {tg e : Expr} {td : TE}
theorem pi_keysR (he : PE X e td) : PI X tg e (iKeysR td) := by
  refine ⟨fun pins s σ H R I h => ?_⟩
  refine thn (he.run pins s σ H _ I h) fun u s1 ⟨x, H1, I1, rx, d, ex, q⟩ => ?_
  subst ex
  obtain rfl : u = Value.ref d := rx
  rcases q with ⟨o, kvs, hd, q⟩ | ⟨o, kvs, hd, q⟩ | ⟨o, b, hd, R', q⟩
  · obtain ⟨hs, hgd, hx, es, ep, vs, hdt, hsz, kv, hm⟩ := I1.frzK hd
    refine iter_keys hs hgd hx hdt (pi_one (tk := s1.toks) I1 _ (turn_keys _ hdt) ⟨_, Heap.get?_push_size _ rfl, rfl, ?_⟩ q)
    rw [hsz] <;> rfl
  · obtain ⟨hs, hgd, hx, es, ep, hdt, hsz, ent⟩ := I1.frzT hd
    refine iter_keys hs hgd hx hdt (pi_one (tk := s1.toks) I1 _ (turn_keysT _ hdt) ⟨_, Heap.get?_push_size _ rfl, rfl, ?_⟩ q)
    rw [hsz] <;> rfl
  · obtain ⟨es, ep, hdt, hsz, _⟩ := R'.en
    refine iter_keys R'.hs (raw_get I1.hok hd) R'.ex hdt (pi_one (tk := s1.toks) I1 _ (turn_raw _ R' hdt) ⟨_, Heap.get?_push_size _ rfl, rfl, ?_⟩ q)
    rw [hsz] <;> rfl
/-- isinstance(d, dict), such a dict too -/
def rIsiR (K : PySem.W.Frag) : List V → Hp → VK → Prop := fun xs H Q => rIsi K xs H Q ∨ ∃ a b o, xs = [.ref a, .ty "dict"] ∧ H a = some (RawD a o) ∧ RawOk a b o ∧ PySem.W.kitOne K (.type "dict") (.type "dict") = some true ∧ Q (.bl true) H
theorem call_isiR : CallR X (.builtin "isinstance") (rIsiR X.K) := by
  intro pins s σ H xs us Q I r h
  rcases h with h | ⟨a, b, o, rfl, ha, R', e, q⟩
  · exact call_isi pins s σ H xs us Q I r h
  · obtain ⟨u1, u2, rfl, r1, r2⟩ := vals2 r
    cases (show u1 = Value.ref a from r1)
    cases (show u2 = Value.type "dict" from r2)
    exact PySem.W.kia_one PySem.W.kitx_dict I.kIn ⟨o, raw_get I.hok ha, R'.ex.1⟩ e (fun z => nomatch z) fun tk => ⟨.bl true, H, I.tok tk, rfl, q⟩
end
theorem walk_raw {a b : Addr} {o : Obj} : Walk (ItR a b o) 1 (fun H => H a = some (RawD a o)) (fun i H x H' => H' = H ∧ x = .ref b) :=
  ⟨fun _ _ hi q => ⟨q, hi⟩, fun _ q => ⟨q, Nat.le_refl _⟩, fun _ _ _ _ _ _ y => y⟩
/-- a dict that is locked, or none -/
def tLockEO (t : TE) : TE := fun σ H Q => tLockE t σ H Q ∨ t σ H Q
theorem pe_lockEO {X : Cx} {e : Expr} {t : TE} (h : PE X e t) : PE X e (tLockEO t) := ⟨fun pins s σ H Q I hw => hw.elim ((pe_lock h).run pins s σ H Q I) (h.run pins s σ H Q I)⟩
end Lp
namespace Lp
open PySem L2 LamX
local macro_rules | `(tactic| walk_at "rd") => `(tactic| simp only [tSeq, tAsg, tYes, tTest, tOp, tCB, tCons, tNil, tVar, tC, rI0, rI, gName, wipe, tDisp, tTru, TruV, tB, tNext, tDGet2, tLock, tDIn, tDNotIn, tOr, tNot, tChain, tAnd, tCont, tUn, rU, tPairs, tRet, tIf, tIfS, tPar, tLst, tTup, tDrop, tDGet, tCall, sDPut, L2.start,
  List.map_cons, List.map_nil, List.foldl_cons, List.foldl_nil, List.length_cons, List.length_nil, List.replicate_succ, List.replicate_zero, List.append_nil, List.cons_append, List.nil_append, List.set_cons_zero, List.set_cons_succ, List.getElem?_cons_zero, List.getElem?_cons_succ,
  Option.some.injEq, List.cons.injEq, V.int.injEq, V.bl.injEq, V.ref.injEq, V.str.injEq, exists_eq_left', exists_eq_left, exists_eq_right, and_true, true_and, exists_and_left, Nat.add_zero, Nat.reduceAdd, Nat.reduceSub, Nat.sub_zero, if_true, if_false])
/-! ### _is_sum_of_pairs -/
def isI : V → Bool
  | .int _ => true
  | _ => false
def ltB : List Key → Bool
  | [.inl a, .inl b] => decide (a < b)
  | _ => false
def pairE (n : Int) (e : List Key × V) : Bool := wordB (e.1.map kV) n 2 2 && (ltB e.1 && isI e.2)
theorem isI_kind {K : PySem.W.Frag} {H : Hp} {x : V} {s : String} (k : KindV K H x s) : (s == "int") = isI x := by
  cases e : s == "int" with
  | true =>
    have e : s = "int" := by simpa using e
    subst e
    obtain ⟨i, rfl⟩ := kind_int k
    rfl
  | false =>
    cases x with
    | int i =>
      have kt := k.1
      cases kt with
      | base b =>
        cases b
        exact absurd e (by decide)
    | _ => rfl
theorem KindV.tup {K : PySem.W.Frag} {H : Hp} {a : Addr} {xs : List V} (e : H a = some (.tup xs)) : KindV K H (.ref a) "tuple" := ⟨.base (.tup e), by decide⟩
theorem KindV.key {K : PySem.W.Frag} {H : Hp} (k : Key) : ∃ t, KindV K H (kV k) t ∧ t ≠ "tuple" := by
  cases k with
  | inl i => exact ⟨"int", KindV.int i, by decide⟩
  | inr y => exact ⟨"str", ⟨.base (.str y), by decide⟩, by decide⟩
theorem word2 {ks : List Key} {n : Int} (h : wordB (ks.map kV) n 2 2 = true) : ∃ a b : Int, ks = [.inl a, .inl b] ∧ (0 ≤ a ∧ a < n) ∧ (0 ≤ b ∧ b < n) := by
  unfold wordB at h
  simp only [Bool.and_eq_true, decide_eq_true_eq, List.length_map] at h
  have key : ∀ k : Key, betB (kV k) 0 (n - 1) = true → ∃ a : Int, k = .inl a ∧ 0 ≤ a ∧ a < n := fun k h => by
    cases k with
    | inl a =>
      refine ⟨a, rfl, ?_⟩
      have h : (decide (0 ≤ a) && decide (a ≤ n - 1)) = true := h
      simp only [Bool.and_eq_true, decide_eq_true_eq] at h
      omega
    | inr y => exact absurd (show false = true from h) (by decide)
  match ks, h with
  | [x, y], h =>
    obtain ⟨_, h⟩ := h
    rw [List.all_eq_true] at h
    obtain ⟨a, rfl, ha⟩ := key x (h _ (by simp))
    obtain ⟨b, rfl, hb⟩ := key y (h _ (by simp))
    exact ⟨a, b, rfl, ha, hb⟩
  | [], h => exact absurd h.1.1 (by simp)
  | [x], h => exact absurd h.1.1 (by simp)
  | x :: y :: z :: l, h => exact absurd h.1.2 (by simp; omega)
abbrev sSumP : Stmt := top 39
/-- what _is_sum_of_pairs says of x -/
inductive SumP (K : PySem.W.Frag) (H : Hp) (n : Int) : V → Bool → Prop where
  | no {x : V} {s : String} (k : KindV K H x s) (h : s ≠ "dict") : SumP K H n x false
  | dT {a : Addr} {kvs : List (List Key × V)} (e : H a = some (.dT kvs)) (z : kvs.length ≤ 1000) (z2 : ∀ e ∈ kvs, e.1.length ≤ 1000) (nd : (kvs.map (·.1)).Nodup) (k : ∀ e ∈ kvs, ∃ t, ∀ H' : Hp, KindV K H' e.2 t) : SumP K H n (.ref a) (kvs.all (pairE n))
  | dK {a : Addr} {kvs : List (Key × V)} (e : H a = some (.dK kvs)) (z : kvs.length ≤ 1000) : SumP K H n (.ref a) kvs.isEmpty
  | raw {a b : Addr} {o : Obj} (e : H a = some (RawD a o)) (R : RawOk a b o) (hb : H b = some (.tup [.bl true, .int 1])) : SumP K H n (.ref a) false
def spSumP (K : PySem.W.Frag) : Sp := fun vs H Q _ => ∃ x n b, vs = [x, .int n] ∧ SumP K H n x b ∧ ∀ H', Same H H' → Q (.bl b) H'
theorem valV_mem {κ : Type} [DecidableEq κ] : ∀ {kvs : List (κ × V)} {k : κ} {v : V}, (kvs.map (·.1)).Nodup → (k, v) ∈ kvs → valV kvs k = some v
  | [], _, _, _, m => by cases m
  | e :: kvs, k, v, nd, m => by
    rw [List.map_cons, List.nodup_cons] at nd
    by_cases h : e.1 = k
    · rcases List.mem_cons.mp m with z | z
      · rw [← z]
        exact valV_pos rfl
      · exact absurd (List.mem_map.mpr ⟨_, z, h.symm⟩) nd.1
    · rcases List.mem_cons.mp m with z | z
      · rw [← z] at h
        exact absurd rfl h
      · rw [← valV_mem nd.2 z]
        simp only [valV, List.find?_cons, decide_eq_false h]
theorem all_take_map {α : Type} (l : List α) (f : α → Bool) : ((l.map f).all id) = l.all f := by
  rw [List.all_map]
  rfl
section
variable {P : Program} {w : World} {K : PySem.W.Frag} {mg : Str → Option Value} {base : Heap}
theorem scSumP : FnScope ["thing", "letters", "pair"] ["thing", "letters"] (defScope sSumP) := ⟨rfl, rfl, rfl, by decide +kernel, rfl, by decide +kernel, by decide +kernel⟩
theorem ok_sumP {f : Addr} {fd : FuncData} (F : Fun K "_is_sum_of_pairs" "_is_sum_of_pairs" sSumP f fd) (IW : Df P w K mg base CX0 3 "is_word" ["thing", "places", "least", "most"] (spIsWord K)) (IN : Df P w K mg base CX0 1 "is_number" ["thing"] (spIsNum K))
    (mI : mg "isinstance" = none) (mD : mg "dict" = none) (mAll : mg "all" = none) : FnOk P w K mg base CX0 4 f fd ["thing", "letters"] (spSumP K) := by
  refine F.ok scSumP (fun vs H Q E h => ?_) (fun cdv A outer s H vs Q E hr h => ?_)
  · obtain ⟨x, n, b, rfl, _⟩ := h
    rfl
  · obtain ⟨x, n, b, rfl, S, k⟩ := h
    have hu := hu_of hr
    refine ⟨_, pss_cons (ps_if (pt_not (pt_val (pe_callB call_isiR (by rfl) mI (by decide +kernel) (pa_cons (pv 0) (pa_cons (pe_bltn (v := .ty "dict") (by rfl) mD (by decide +kernel) rfl) pa_nil))))) (pss_one (ps_ret pe_bl)) pss_nil)
      (pss_one (ps_ret (pe_lockEO (pe_callB (cr_all rfl) (by rfl) mAll (by decide +kernel) (pa_cons (pe_lc (own := [("pair", 2)]) (g := gName 2) (tt := tYes) rfl scSumP.nd (pi_keysR (pv 0)) (blkOk_by (N := ["thing", "letters", "pair"]) (sc := defScope sSumP) (by decide +kernel))
        (fun _ _ _ _ _ => pg_name (i := 2) scSumP.nd rfl (Or.inl rfl)) (fun _ _ _ _ _ => pts_nil)
        (fun _ _ _ _ _ => pe_and (pe_df IW hr (by rfl) pass0 (pa_cons (pv 2) (pa_cons (pv 1) (pa_cons pe_int (pa_cons pe_int pa_nil)))))
          (pe_and (pe_cmpR op_lt (pe_ix (r := rIxT K) ix_tup (pv 2) pe_int (fun _ _ => rfl)) (pe_ix (r := rIxT K) ix_tup (pv 2) pe_int (fun _ _ => rfl)) (nomark _))
            (pe_one (pe_df IN (hr.mono (by decide)) (by rfl) pass0 (pa_cons (pe_dget hu (pv 0) (pv 2) (fun _ _ => rfl)) pa_nil)))))) pa_nil))))), ?_⟩
    cases S with
    | @no _ t kv h =>
      refine ⟨_, rfl, .inl ⟨x, .ty "dict", .type t, .type "dict", _, rfl, .ty _, kv.1, kit_in kv.2 "dict" (fun s => s == "dict") (by decide +kernel), _, rfl, ?_⟩⟩
      have e : (t == "dict") = false := by simpa using h
      rw [e]
      exact iteT (k _ (Same.refl H))
    | @dT a kvs ea z z2 nd kk =>
      refine ⟨_, rfl, .inl ⟨_, .ty "dict", .type "dict", .type "dict", true, rfl, .ty _, .base (.dT ea), kit_ty (by decide +kernel), _, rfl, iteF ?_⟩⟩
      refine .inl ⟨a, _, ea, trivial, fun od => ?_⟩
      generalize eG : upd H a (.frz od (.dT kvs)) = G
      have gA : G a = some (.frz od (.dT kvs)) := by rw [← eG]; exact upd_same
      have gO : ∀ b o, b ≠ a → H b = some o → G b = some o := fun b o nb e => by
        rw [← eG, upd_ne nb]
        exact e
      have back : ∀ H', Same G H' → Same H (upd H' a (.dT kvs)) := fun H' s b o e => by
        by_cases eb : b = a
        · subst eb
          rw [upd_same, ← e]
          exact ea.symm
        · rw [upd_ne eb]
          exact s _ _ (gO _ _ eb e)
      refine ⟨_, rfl, a, rfl, .inr (.inl ⟨od, _, gA, ?_⟩)⟩
      intro D nD
      refine lc_it walk_keysT (fun i H' => Same G H' ∧ H' D = some (.lst (((kvs.take i).map (pairE n)).map V.bl))) ⟨same_new nD, upd_same⟩ (fun i H' _ h => h.1 _ _ gA) ?_ ?_
      · rintro i x H1 H' hi ⟨s1, hD⟩ ⟨rfl, ks, v, q, hx, rfl, hq⟩
        have tk := take_snoc hx
        have mem := List.mem_of_getElem? hx
        have zk := z2 _ mem
        show gName 2 (.ref q) _ _ _
        walk_at "rd"
        have hq1 : H' q = some (.tup (ks.map kV)) := hq
        have stay : ∀ H2, Same H' H2 → ∀ b : Bool, b = pairE n (ks, v) → ∃ acc, H2 D = some (.lst acc) ∧ acc.length < sizeLine ∧ Same G (upd H2 D (.lst (acc ++ [.bl b]))) ∧ upd H2 D (.lst (acc ++ [.bl b])) D = some (.lst (((kvs.take (i + 1)).map (pairE n)).map V.bl)) := fun H2 s2 b e => by
          refine ⟨_, s2 _ _ hD, ?_, same_upd (s1.trans s2) nD, ?_⟩
          · rw [List.length_map, List.length_map, List.length_take]
            exact small1000 (by omega)
          · rw [upd_same, tk, List.map_append, List.map_append, e]
            rfl
        refine ⟨_, rfl, _, rfl, .ref q, "tuple", _, 2, 2, rfl, KindV.tup hq1, fun z => absurd rfl z, fun _ => ⟨q, _, rfl, hq1, by rw [List.length_map]; exact zk, fun y m => ?_, fun H2 s2 => ⟨_, rfl, ?_⟩⟩⟩
        · obtain ⟨k, _, rfl⟩ := List.mem_map.mp m
          obtain ⟨t, h, _⟩ := KindV.key (K := K) (H := H') k
          exact ⟨t, h⟩
        cases ew : wordB (ks.map kV) n 2 2 with
        | false =>
          refine iteF (stay H2 s2 _ ?_)
          unfold pairE
          rw [ew]
          rfl
        | true =>
          obtain ⟨u1, u2, rfl, b1, b2⟩ := word2 ew
          have hq2 : SqT K H2 q [.int u1, .int u2] := SqT.of (s2 _ _ hq1)
          refine iteT ?_
          refine ⟨_, rfl, q, _, 0, _, rfl, rfl, hq2, rfl, _, rfl, q, _, 1, _, rfl, rfl, hq2, rfl, ?_⟩
          refine ⟨_, _, rfl, rfl, _, rfl, ?_⟩
          have eE : pairE n ([Sum.inl u1, Sum.inl u2], v) = (decide (u1 < u2) && isI v) := by
            unfold pairE
            rw [ew]
            rfl
          by_cases lt : u1 < u2
          · rw [decide_eq_true lt] at eE ⊢
            refine iteT ?_
            have gp : DGet H2 a (.ref q) (some v) := .inr ⟨kvs, [.inl u1, .inl u2], q, .inr ⟨od, s2 _ _ (s1 _ _ gA)⟩, rfl, s2 _ _ hq1, by rw [valV_mem nd mem]⟩
            obtain ⟨t, kt⟩ := kk _ mem
            have kt2 : KindV K H2 v t := kt H2
            refine ⟨_, rfl, _, rfl, a, _, rfl, gp, v, t, rfl, kt2, stay H2 s2 _ ?_⟩
            rw [isI_kind kt2, eE]
            rfl
          · rw [decide_eq_false lt] at eE ⊢
            exact iteF (stay H2 s2 _ eE.symm)
      · rintro H' ⟨s1, hD⟩
        rw [List.take_length] at hD
        refine ⟨D, _, rfl, SqL.of hD, s1 _ _ gA, ?_⟩
        rw [all_take_map]
        exact k _ (back _ s1)
    | @dK a kvs ea z =>
      refine ⟨_, rfl, .inl ⟨_, .ty "dict", .type "dict", .type "dict", true, rfl, .ty _, .base (.dK ea), kit_ty (by decide +kernel), _, rfl, iteF ?_⟩⟩
      refine .inl ⟨a, _, ea, trivial, fun od => ?_⟩
      generalize eG : upd H a (.frz od (.dK kvs)) = G
      have gA : G a = some (.frz od (.dK kvs)) := by rw [← eG]; exact upd_same
      have gO : ∀ b o, b ≠ a → H b = some o → G b = some o := fun b o nb e => by
        rw [← eG, upd_ne nb]
        exact e
      have back : ∀ H', Same G H' → Same H (upd H' a (.dK kvs)) := fun H' s b o e => by
        by_cases eb : b = a
        · subst eb
          rw [upd_same, ← e]
          exact ea.symm
        · rw [upd_ne eb]
          exact s _ _ (gO _ _ eb e)
      refine ⟨_, rfl, a, rfl, .inl ⟨od, _, gA, ?_⟩⟩
      intro D nD
      refine lc_it walk_keys (fun i H' => Same G H' ∧ H' D = some (.lst (((kvs.take i).map fun _ => false).map V.bl))) ⟨same_new nD, upd_same⟩ (fun i H' _ h => h.1 _ _ gA) ?_ ?_
      · rintro i x H1 H' hi ⟨s1, hD⟩ ⟨rfl, ks, v, hx, rfl⟩
        have tk := take_snoc hx
        show gName 2 (kV ks) _ _ _
        walk_at "rd"
        obtain ⟨t, kt, nt⟩ := KindV.key (K := K) (H := H') ks
        refine ⟨_, rfl, _, rfl, kV ks, t, _, 2, 2, rfl, kt, fun _ => ⟨_, rfl, iteF ?_⟩, fun e => absurd e nt⟩
        refine ⟨_, hD, ?_, same_upd s1 nD, ?_⟩
        · rw [List.length_map, List.length_map, List.length_take]
          exact small1000 (by omega)
        · rw [upd_same, tk, List.map_append, List.map_append]
          rfl
      · rintro H' ⟨s1, hD⟩
        rw [List.take_length] at hD
        refine ⟨D, _, rfl, SqL.of hD, s1 _ _ gA, ?_⟩
        have e : ((kvs.map fun _ => false).all id) = kvs.isEmpty := by cases kvs <;> rfl
        rw [e]
        exact k _ (back _ s1)
    | @raw a b o ea R hb =>
      refine ⟨_, rfl, .inr ⟨a, b, o, rfl, ea, R, kit_ty (by decide +kernel), _, rfl, iteF (.inr ?_)⟩⟩
      refine ⟨_, rfl, a, rfl, .inr (.inr ⟨o, b, ea, R, ?_⟩)⟩
      intro D nD
      refine lc_it walk_raw (fun i H' => Same H H' ∧ H' D = some (.lst (((List.replicate i false)).map V.bl))) ⟨same_new nD, upd_same⟩ (fun i H' _ h => h.1 _ _ ea) ?_ ?_
      · rintro i x H1 H' hi ⟨s1, hD⟩ ⟨rfl, rfl⟩
        show gName 2 (.ref b) _ _ _
        walk_at "rd"
        have hb1 := s1 _ _ hb
        refine ⟨_, rfl, _, rfl, .ref b, "tuple", _, 2, 2, rfl, KindV.tup hb1, fun z => absurd rfl z, fun _ => ⟨b, _, rfl, hb1, by show 2 ≤ 1000; decide, fun y m => ?_, fun H2 s2 => ⟨_, rfl, ?_⟩⟩⟩
        · rcases List.mem_cons.mp m with rfl | m
          · exact ⟨"bool", .base (.bl true), by decide⟩
          · rw [List.mem_singleton.mp m]; exact ⟨"int", KindV.int 1⟩
        have ew : wordB [.bl true, .int 1] n 2 2 = false := by
          unfold wordB
          rw [List.all_cons, show betB (.bl true) 0 (n - 1) = false from rfl, Bool.false_and, Bool.and_false]
        rw [ew]
        refine iteF ⟨_, s2 _ _ hD, ?_, same_upd (s1.trans s2) nD, ?_⟩
        · rw [List.length_map, List.length_replicate]
          exact small1000 (by omega)
        · obtain rfl : i = 0 := by omega
          rw [upd_same]
          rfl
      · rintro H' ⟨s1, hD⟩
        exact ⟨D, _, rfl, SqL.of hD, k _ s1⟩
end
end Lp
namespace Lp
open PySem L2 LamX
local macro_rules | `(tactic| walk_at "rd") => `(tactic| simp only [tSeq, tAsg, tYes, tTest, tOp, tCB, tCons, tNil, tVar, tC, rI0, rI, gName, wipe, tDisp, tTru, TruV, tB, tNext, tDGet2, tLock, tDIn, tDNotIn, tOr, tNot, tChain, tAnd, tCont, tUn, rU, tPairs, tRet, tIf, tIfS, tPar, tLst, tTup, tDrop, tDGet, tCall, sDPut, L2.start,
  List.map_cons, List.map_nil, List.foldl_cons, List.foldl_nil, List.length_cons, List.length_nil, List.replicate_succ, List.replicate_zero, List.append_nil, List.cons_append, List.nil_append, List.set_cons_zero, List.set_cons_succ, List.getElem?_cons_zero, List.getElem?_cons_succ,
  Option.some.injEq, List.cons.injEq, V.int.injEq, V.bl.injEq, V.ref.injEq, V.str.injEq, exists_eq_left', exists_eq_left, exists_eq_right, and_true, true_and, exists_and_left, Nat.add_zero, Nat.reduceAdd, Nat.reduceSub, Nat.sub_zero, if_true, if_false])
/-! ### _led_on -/
def pK (d : PRow) : List (List Key × V) := d.map fun e => (kP e.1, V.int e.2)
/-- the steps of the letters, as they are handed in -/
structure FirstsAt (H : Hp) (fs : Addr) (n : Nat) (F : Nat → PRow) : Prop where
  ex : ∃ ds : List Addr, (H fs = some (.lst (ds.map V.ref)) ∨ H fs = some (.tup (ds.map V.ref))) ∧ ds.length = n ∧ ∀ (c : Nat) d, ds[c]? = some d → H d = some (.dT (pK (F c)))
  nd : ∀ c, c < n → ((F c).map (·.1)).Nodup
  mem : PairsIn n F
  sm : ∀ c, c < n → (F c).length ≤ 10 ∧ ∀ e ∈ F c, e.2.natAbs ≤ 100
theorem FirstsAt.but {H H' : Hp} {fs : Addr} {n : Nat} {F : Nat → PRow} (f : FirstsAt H fs n F) {x : Addr} (hx : H x = none) (s : SameBut x H H') : FirstsAt H' fs n F := by
  obtain ⟨ds, h1, h2, h3⟩ := f.ex
  have nx : ∀ {b o}, H b = some o → H' b = some o := fun {b o} e => s _ _ (ne_of_none e hx) e
  exact ⟨⟨ds, h1.imp nx nx, h2, fun c d e => nx (h3 c d e)⟩, f.nd, f.mem, f.sm⟩
theorem natAbs_sumD {d : PRow} {g : Int × Int → Int} (h1 : ∀ e ∈ d, e.2.natAbs ≤ 100) (h2 : ∀ e ∈ d, (g e.1).natAbs ≤ 1) : (sumD d g).natAbs ≤ d.length * 100 := by
  induction d with
  | nil => exact Nat.le_refl _
  | cons e d ih =>
    rw [sumD_cons, List.length_cons]
    have a := ih (fun q m => h1 q (List.mem_cons_of_mem _ m)) fun q m => h2 q (List.mem_cons_of_mem _ m)
    have b := Nat.mul_le_mul (h1 e List.mem_cons_self) (h2 e List.mem_cons_self)
    rw [← Int.natAbs_mul] at b
    have c := Int.natAbs_add_le (e.2 * g e.1) (sumD d g)
    omega
theorem co_one {q : Int × Int} (h : q.2.natAbs ≤ 1) (x : Int) : (co [q] x).natAbs ≤ 1 := by
  rw [co_cons]
  by_cases e : q.1 = x
  · rw [if_pos e]; exact h
  · rw [if_neg e]; exact Nat.zero_le _
theorem natAbs_rowC (k : Nat) (x : Int) : (co (rowC k) x).natAbs ≤ 1 := by
  rw [co_rowC]
  by_cases e : 2 ≤ k ∧ ((k / 2 - 1 : Nat) : Int) = x
  · rw [if_pos e]
    unfold sg
    by_cases h : k % 2 = 1
    · rw [if_pos h]; decide
    · rw [if_neg h]; decide
  · rw [if_neg e]; exact Nat.zero_le _
theorem dl_small {n : Nat} {F : Nat → PRow} (L : Lots n) (hn : n ≤ 5) (P : PairsIn n F) (sm : ∀ c, c < n → (F c).length ≤ 10 ∧ ∀ e ∈ F c, e.2.natAbs ≤ 100) {a : Nat} (ha : a < 2 ^ n) (x : Int) : (dl n F a x).natAbs ≤ 5000 := by
  have key : ∀ k, k ≤ n → (lin k F fun c pr => co (Urow (lotsN n) a (c : Int) pr) x).natAbs ≤ k * 1000 := by
    intro k
    induction k with
    | zero => intro _; exact Nat.le_refl _
    | succ k ih =>
      intro hk
      rw [lin_succ]
      have b := natAbs_sumD (d := F k) (g := fun pr => co (Urow (lotsN n) a (k : Int) pr) x) (sm k (by omega)).2 fun e me => by
        obtain ⟨j, hj⟩ := List.mem_iff_getElem?.mp (P k (by omega) e me)
        rw [L.u a k j e.1 ha (by omega) hj]
        exact natAbs_rowC _ _
      have c := Int.natAbs_add_le (lin k F fun c pr => co (Urow (lotsN n) a (c : Int) pr) x) (sumD (F k) fun pr => co (Urow (lotsN n) a (k : Int) pr) x)
      have d := (sm k (by omega)).1
      have := ih (by omega)
      omega
  have := key n (Nat.le_refl _)
  unfold dl
  omega
theorem DOk.small {n : Nat} {F : Nat → PRow} {r : Row} (L : Lots n) (hn : n ≤ 5) (P : PairsIn n F) (sm : ∀ c, c < n → (F c).length ≤ 10 ∧ ∀ e ∈ F c, e.2.natAbs ≤ 100) {a : Nat} (ha : a < 2 ^ n) (nd : Nd r) (v : ∀ x, co r x = dl n F a x) : Small r := fun q m => by
  have h := dl_small L hn P sm ha q.1
  rw [← v, co_mem nd m] at h
  omega
/-- the steps made so far -/
structure LedAt (H : Hp) (St : Addr) (n : Nat) (F : Nat → PRow) (i : Nat) (it : ITab) (D : Int → Row) : Prop where
  tab : ITabAt H St it
  len : it.length ≤ i
  nd : (it.map (·.1)).Nodup
  row : ∀ e ∈ it, RowAt H e.2 (D e.1) ∧ e.2 ≠ St ∧ ∃ j : Nat, e.1 = (j : Int) ∧ j < i
  has : ∀ (j : Nat) w, j < i → (lotsN n)[j]? = some w → w ≠ [] → ∃ q, lkI it (j : Int) = some q
  off : ∀ k, (∀ e ∈ it, e.1 ≠ k) → D k = []
  good : ∀ j : Nat, j < i → (Nd (D j) ∧ Bel (2 ^ n : Nat) (D j)) ∧ ∀ x, co (D j) x = dl n F j x
theorem LedAt.but {H H' : Hp} {St : Addr} {n : Nat} {F : Nat → PRow} {i : Nat} {it : ITab} {D : Int → Row} (L : LedAt H St n F i it D) (s : Same H H') : LedAt H' St n F i it D :=
  ⟨s _ _ L.tab, L.len, L.nd, fun e m => ⟨s _ _ (L.row e m).1, (L.row e m).2⟩, L.has, L.off, L.good⟩
theorem LedAt.skip {H : Hp} {St : Addr} {n : Nat} {F : Nat → PRow} {i : Nat} {it : ITab} {D : Int → Row} (L : LedAt H St n F i it D) (e : (lotsN n)[i]? = some []) (z : ∀ x, dl n F i x = 0) : LedAt H St n F (i + 1) it D := by
  refine ⟨L.tab, Nat.le_succ_of_le L.len, L.nd, fun q m => ?_, fun j w hj hw nw => ?_, L.off, fun j hj => ?_⟩
  · obtain ⟨h1, h2, j, h3, h4⟩ := L.row q m
    exact ⟨h1, h2, j, h3, by omega⟩
  · by_cases ej : j = i
    · subst ej
      rw [e] at hw
      exact absurd (Option.some.inj hw).symm nw
    · exact L.has j w (by omega) hw nw
  · by_cases ej : j = i
    · subst ej
      have dn : D (j : Int) = [] := L.off _ fun q m e2 => by
        obtain ⟨_, _, k, h3, h4⟩ := L.row q m
        omega
      rw [dn]
      exact ⟨⟨List.nodup_nil, fun q m => (nomatch m)⟩, fun x => (z x).symm⟩
    · exact L.good j (by omega)
theorem LedAt.put {H : Hp} {St q : Addr} {n : Nat} {F : Nat → PRow} {i : Nat} {it : ITab} {D : Int → Row} {r : Row} (L : LedAt H St n F i it D) (hq : RowAt H q r) (ne : q ≠ St) (nb : Nd r ∧ Bel (2 ^ n : Nat) r) (v : ∀ x, co r x = dl n F i x) :
    LedAt (upd H St (.dK (iT (it ++ [((i : Int), q)])))) St n F (i + 1) (it ++ [((i : Int), q)]) (fun k => if k = (i : Int) then r else D k) := by
  have new : ∀ e ∈ it, e.1 ≠ (i : Int) := fun e m z => by
    obtain ⟨_, _, j, h3, h4⟩ := L.row e m
    omega
  refine ⟨upd_same, ?_, ?_, fun e m => ?_, fun j w hj hw nw => ?_, fun k hk => ?_, fun j hj => ?_⟩
  · rw [List.length_append, List.length_singleton]
    have := L.len
    omega
  · rw [List.map_append, List.nodup_append]
    refine ⟨L.nd, by simp, fun x hx y hy z => ?_⟩
    obtain ⟨e, m, rfl⟩ := List.mem_map.mp hx
    rw [List.map_singleton, List.mem_singleton] at hy
    exact new e m (z.trans hy)
  · rcases List.mem_append.mp m with m | m
    · obtain ⟨h1, h2, j, h3, h4⟩ := L.row e m
      refine ⟨?_, h2, j, h3, by omega⟩
      show (upd H St _) e.2 = some (.dK (iK (if e.1 = (i : Int) then r else D e.1)))
      rw [if_neg (new e m), upd_ne h2]
      exact h1
    · rw [List.mem_singleton.mp m]
      refine ⟨?_, ne, i, rfl, by omega⟩
      show (upd H St _) q = some (.dK (iK (if (i : Int) = (i : Int) then r else D i)))
      rw [if_pos rfl, upd_ne ne]
      exact hq
  · have app : lkI (it ++ [((i : Int), q)]) (j : Int) = (lkI it (j : Int)).or (if (i : Int) = (j : Int) then some q else none) := by
      unfold lkI
      rw [List.find?_append]
      cases it.find? (fun e => decide (e.1 = (j : Int))) with
      | some q => rfl
      | none =>
        by_cases e : (i : Int) = (j : Int)
        · simp [List.find?_cons, e]
        · simp [List.find?_cons, e]
    rw [app]
    by_cases e : j = i
    · subst e
      rw [if_pos rfl]
      cases lkI it (j : Int) with
      | none => exact ⟨q, rfl⟩
      | some a => exact ⟨a, rfl⟩
    · obtain ⟨a, ha⟩ := L.has j w (by omega) hw nw
      rw [ha]
      exact ⟨a, rfl⟩
  · have nk : ¬ k = (i : Int) := fun z => hk _ (List.mem_append_right _ List.mem_cons_self) z.symm
    show (if k = (i : Int) then r else D k) = []
    rw [if_neg nk]
    exact L.off k fun e m => hk e (List.mem_append_left _ m)
  · by_cases e : j = i
    · subst e
      simp only [if_true]
      exact ⟨nb, v⟩
    · have e2 : ¬ (j : Int) = (i : Int) := by omega
      simp only [if_neg e2]
      exact L.good j (by omega)
theorem TabIn.rows {H : Hp} {P : Addr} {pt : PTab} {S : Int × Int → Row} {n : Nat} (t : TabIn H P pt S n) (one other : Row) : RowsAt H pt S n one other := fun a _ b _ => by
  cases el : lk pt (a.1, b.1) with
  | none =>
    have z := t.off (a.1, b.1) (lk_none el)
    rw [z]
    exact ⟨List.nodup_nil, fun q m => (nomatch m), fun q e => (nomatch e), fun _ => rfl⟩
  | some q =>
    obtain ⟨h1, h2, h3⟩ := t.row _ (lk_some el)
    exact ⟨h2, h3, fun q' e => by cases e; exact h1, fun e => nomatch e⟩
theorem TabIn.butN {H H' : Hp} {P : Addr} {pt : PTab} {S : Int × Int → Row} {n : Nat} (t : TabIn H P pt S n) {x : Addr} (hx : H x = none) (s : SameBut x H H') : TabIn H' P pt S n :=
  ⟨s _ _ (ne_of_none (show H P = some _ from t.tab) hx) t.tab, t.len, t.nd, fun e m => ⟨s _ _ (ne_of_none (show H e.2 = some _ from (t.row e m).1) hx) (t.row e m).1, (t.row e m).2⟩, t.off⟩
end Lp
namespace Lp
open PySem L2 LamX
local macro_rules | `(tactic| walk_at "rd") => `(tactic| simp only [tSeq, tAsg, tYes, tTest, tOp, tCB, tCons, tNil, tVar, tC, rI0, rI, gName, wipe, tDisp, tTru, TruV, tB, tNext, tDGet2, tLock, tDIn, tDNotIn, tOr, tNot, tChain, tAnd, tCont, tUn, rU, tPairs, tRet, tIf, tIfS, tPar, tLst, tTup, tDrop, tDGet, tCall, sDPut, L2.start,
  List.map_cons, List.map_nil, List.foldl_cons, List.foldl_nil, List.length_cons, List.length_nil, List.replicate_succ, List.replicate_zero, List.append_nil, List.cons_append, List.nil_append, List.set_cons_zero, List.set_cons_succ, List.getElem?_cons_zero, List.getElem?_cons_succ,
  Option.some.injEq, List.cons.injEq, V.int.injEq, V.bl.injEq, V.ref.injEq, V.str.injEq, exists_eq_left', exists_eq_left, exists_eq_right, and_true, true_and, exists_and_left, Nat.add_zero, Nat.reduceAdd, Nat.reduceSub, Nat.sub_zero, if_true, if_false])
theorem refsIx {K : PySem.W.Frag} {H : Hp} {a d : Addr} {ds : List Addr} {c : Nat} {Q : VK} (h : H a = some (.lst (ds.map V.ref)) ∨ H a = some (.tup (ds.map V.ref))) (e : ds[c]? = some d) (q : Q (.ref d) H) : rIx K (.ref a) (.int (c : Int)) H Q := by
  have z : atI (ds.map V.ref) (c : Int) = some (.ref d) := atI_nat (by rw [List.getElem?_map, e]; rfl)
  exact h.elim (fun e => .inl ⟨a, _, _, _, rfl, rfl, SqL.of e, z, q⟩) fun e => .inr (.inl ⟨a, _, _, _, rfl, rfl, SqT.of e, z, q⟩)
theorem sumD_zero {d : PRow} {g : Int × Int → Int} (h : ∀ e ∈ d, g e.1 = 0) : sumD d g = 0 := by
  have : sumD d g = sumD d fun _ => 0 * 0 := sumD_congr fun e m => h e m
  rw [this, sumD_mul]
  simp
theorem idx_inj {ls : List (List Int)} {x y : List Int} (hx : x ∈ ls) (e : ls.idxOf x = ls.idxOf y) : x = y := by
  have l1 := List.idxOf_lt_length_iff.mpr hx
  have e1 := List.getElem_idxOf l1
  have l2 : ls.idxOf y < ls.length := e ▸ l1
  have e2 := List.getElem_idxOf l2
  rw [← e1, ← e2]
  simp only [e]
theorem iK_single (k v : Int) : mergeK [] [((Sum.inl k : Key), V.int v)] = iK [(k, v)] := rfl
theorem cut1 (c d : Int) (r : List Int) : ¬ (HT.sIx (((c :: d :: r).map V.int).length) 0 none = 0 ∧ HT.sIx (((c :: d :: r).map V.int).length) (((c :: d :: r).map V.int).length) (some 1) = ((c :: d :: r).map V.int).length) ∧ cutV ((c :: d :: r).map V.int) none (some 1) = [c].map V.int := by
  have e : ∀ k m, HT.sIx (k + 2) m (some 1) = 1 := fun k m => by
    show (if (1 : Int) < 0 then ((1 : Int) + ((k + 2 : Nat) : Int)).toNat else min (1 : Int).toNat (k + 2)) = 1
    rw [if_neg (by decide)]
    show min 1 (k + 2) = 1
    omega
  have l : ((c :: d :: r).map V.int).length = (r.map V.int).length + 2 := rfl
  refine ⟨fun z => ?_, ?_⟩
  · rw [l, e] at z
    omega
  · unfold cutV
    rw [l, e]
    rfl
theorem cut2 (c d : Int) (r : List Int) : ¬ (HT.sIx (((c :: d :: r).map V.int).length) 0 (some 1) = 0 ∧ HT.sIx (((c :: d :: r).map V.int).length) (((c :: d :: r).map V.int).length) none = ((c :: d :: r).map V.int).length) ∧ cutV ((c :: d :: r).map V.int) (some 1) none = (d :: r).map V.int := by
  have e : ∀ k m, HT.sIx (k + 2) m (some 1) = 1 := fun k m => by
    show (if (1 : Int) < 0 then ((1 : Int) + ((k + 2 : Nat) : Int)).toNat else min (1 : Int).toNat (k + 2)) = 1
    rw [if_neg (by decide)]
    show min 1 (k + 2) = 1
    omega
  have l : ((c :: d :: r).map V.int).length = (r.map V.int).length + 2 := rfl
  refine ⟨fun z => ?_, ?_⟩
  · rw [l, e] at z
    omega
  · unfold cutV
    rw [l, e, HT.sIx_none]
    show ((d :: r).map V.int).take ((r.map V.int).length + 2 - 1) = _
    exact List.take_of_length_le (by simp)
theorem idx_shorter {n : Nat} (hn : n ≤ 5) (L : Lots n) {x w : List Int} (hx : x ∈ lotsN n) (hw : w ∈ lotsN n) (h : x.length < w.length) : (lotsN n).idxOf x < (lotsN n).idxOf w := by
  have l1 := List.idxOf_lt_length_iff.mpr hx
  have l2 := List.idxOf_lt_length_iff.mpr hw
  refine Classical.byContradiction fun no => ?_
  rcases Nat.lt_or_eq_of_le (Nat.le_of_not_lt no) with lt | e
  · have := List.pairwise_iff_getElem.mp (lots_asc n hn) _ _ l2 l1 lt
    rw [List.getElem_idxOf l1, List.getElem_idxOf l2] at this
    unfold ltK at this
    rw [if_neg (by omega), decide_eq_true h] at this
    cases this
  · have := idx_inj hw e
    rw [this] at h
    exact Nat.lt_irrefl _ h
abbrev sLedOn : Stmt := top 36
def spLedOn : Sp := fun vs H Q _ => ∃ (l h Pd fs : Addr) (as : List Addr) (pt : PTab) (n : Nat) (F : Nat → PRow), vs = [.ref l, .ref h, .ref Pd, .ref fs] ∧ n ≤ 5 ∧ H l = some (.lst (as.map V.ref)) ∧ Paired (TupAt H) (lotsN n) as ∧ HsAt H h (hlN n) ∧ LotTab H Pd (lotsN n) pt ∧ FirstsAt H fs n F ∧
  ∀ H' St it D, Same H H' → H St = none → LedAt H' St n F (2 ^ n) it D → Q (.ref St) H'
section
variable {P : Program} {w : World} {K : PySem.W.Frag} {mg : Str → Option Value} {base : Heap}
theorem scLedOn : FnScope ["names", "heights", "product", "firsts", "at", "steps", "name", "first", "rest", "total", "other", "number"] ["names", "heights", "product", "firsts"] (defScope sLedOn) := ⟨rfl, rfl, rfl, by decide +kernel, rfl, by decide +kernel, by decide +kernel⟩
theorem ok_ledOn {f : Addr} {fd : FuncData} (F0 : Fun K "_led_on" "_led_on" sLedOn f fd) (NM : Df P w K mg base CX0 1 "_numbered" ["names"] spNumbered) (SG : Df P w K mg base CX0 1 "sign" ["turn"] spSign) (PS' : Df P w K mg base CX0 2 "product_sum" ["product", "one", "other"] spProd)
    (AT : Df P w K mg base CX0 1 "add_to" ["total", "row", "times"] spAddTo) (mLen : mg "len" = none) : FnOk P w K mg base CX0 3 f fd ["names", "heights", "product", "firsts"] spLedOn := by
  refine F0.ok scLedOn (fun vs H Q E h => ?_) (fun cdv A outer s H vs Q E hr h => ?_)
  · obtain ⟨l, h', Pd, fs, as, pt, n, F, rfl, _⟩ := h
    rfl
  · obtain ⟨l, h', Pd, fs, as, pt, n, F, rfl, hn, hl, hk, hH, LT, FA, k⟩ := h
    have hu := hu_of hr
    refine ⟨_, pss_cons (ps_set (i := 4) scLedOn.nd rfl (Or.inr rfl) (pe_df NM (hr.mono (by decide)) (by rfl) pass0 (pa_cons (pv 0) pa_nil)))
      (pss_cons (ps_set (i := 5) scLedOn.nd rfl (Or.inl rfl) pe_dnewK)
      (pss_cons (ps_for PassesOwn.never rfl (pi_list (pv 0)) (pg_name (i := 6) scLedOn.nd rfl (Or.inl rfl))
        (pss_cons (ps_if (pt_cmpR op_eq (pe_callB call_len_seq (by rfl) mLen PySem.boot_len (pa_cons (pv 6) pa_nil)) pe_int (nomark _))
          (pss_one (ps_dput hu (pv 5) (pe_dget hu (pv 4) (pv 6) (fun _ _ => rfl))
            (pe_lock (pe_dp (b := false) (own := [("other", 10), ("number", 11)]) (g := gTup K 2 (gCons (gName 10) (gCons (gName 11) gNil))) (tt := tYes) hu rfl scLedOn.nd (pi_itemsT (pe_ix (r := rIx K) ix_seq (pv 3) (pe_ix (r := rIxT K) ix_tup (pv 6) pe_int (fun _ _ => rfl)) (fun _ _ => rfl)))
              (blkOk_by (N := ["names", "heights", "product", "firsts", "at", "steps", "name", "first", "rest", "total", "other", "number"]) (sc := defScope sLedOn) (by decide +kernel))
              (fun _ _ _ _ _ => pg_tup rfl (pgs_cons (pg_name (i := 10) scLedOn.nd rfl (Or.inl rfl)) (pgs_cons (pg_name (i := 11) scLedOn.nd rfl (Or.inl rfl)) pgs_nil))) (fun _ _ _ _ _ => pts_nil) (fun _ _ _ _ _ => pe_dget hu (pv 4) (pv 10) (fun _ _ => rfl)) (fun _ _ _ _ _ => pv 11))) rfl)) pss_nil)
        (pss_one (ps_if (pt_cmpR op_gt (pe_callB call_len_seq (by rfl) mLen PySem.boot_len (pa_cons (pv 6) pa_nil)) pe_int (nomark _))
          (pss_cons (ps_par (i := 7) (j := 8) (by rfl) scLedOn.nd rfl rfl (by decide) rfl rfl (pa_cons (pe_dget hu (pv 4) (pe_slice (r := rSlA K) sl_tupA (pv 6) po_none (po_some pe_int)) (fun _ _ => rfl)) (pa_cons (pe_dget hu (pv 4) (pe_slice (r := rSlA K) sl_tupA (pv 6) (po_some pe_int) po_none) (fun _ _ => rfl)) pa_nil)) (by rfl))
          (pss_cons (ps_set (i := 9) scLedOn.nd rfl (Or.inl rfl) (pe_df PS' hr (by rfl) pass0 (pa_cons (pv 2) (pa_cons (pe_dget hu (pv 5) (pv 7) (fun _ _ => rfl)) (pa_cons (pe_disp (pps_cons (pv 8) pe_int pps_nil) (by rfl) (by rfl) (by simp) (by decide)) pa_nil)))))
          (pss_cons (ps_expr (pe_df AT (hr.mono (by decide)) (by rfl) pass0 (pa_cons (pv 9) (pa_cons (pe_df PS' hr (by rfl) pass0 (pa_cons (pv 2) (pa_cons (pe_disp (pps_cons (pv 7) pe_int pps_nil) (by rfl) (by rfl) (by simp) (by decide)) (pa_cons (pe_dget hu (pv 5) (pv 8) (fun _ _ => rfl)) pa_nil))))
            (pa_cons (pe_df SG (hr.mono (by decide)) (by rfl) pass0 (pa_cons (pe_ix (r := rIx K) ix_seq (pv 1) (pv 7) (fun _ _ => rfl)) pa_nil)) pa_nil)))))
          (pss_one (ps_dput hu (pv 5) (pe_dget hu (pv 4) (pv 6) (fun _ _ => rfl)) (pv 9) rfl))))) pss_nil))))
      (pss_one (ps_ret (pv 5))))), ?_⟩
    have L := lots_ok hn
    have L2n : 2 ^ n ≤ 2 ^ 5 := Nat.pow_le_pow_right (by decide) hn
    refine ⟨_, rfl, l, as, _, rfl, hl, hk, L.nd, by rw [L.len]; omega, fun H1 A1 s1 nA hA => ?_⟩
    intro St nS
    have lz : as.length = 2 ^ n := by rw [← L.len]; exact (Paired.length hk).symm
    have nHS : H St = none := none_of_same s1 nS
    have nl : l ≠ St := ne_of_none hl nHS
    refine ⟨_, rfl, l, rfl, ⟨_, SqL.of ((same_new nS) _ _ (s1 _ _ hl))⟩, for_list (K := K) (a := l) (xs := as.map V.ref)
      (fun i σ H' => ∃ v6 v7 v8 v9 it D, σ = [some (.ref l), some (.ref h'), some (.ref Pd), some (.ref fs), some (.ref A1), some (.ref St), v6, v7, v8, v9, none, none] ∧ SameBut St H1 H' ∧ LedAt H' St n F i it D) ?_ ?_ ?_ ?_⟩
    · exact ⟨none, none, none, none, [], fun _ => [], rfl, (SameBut.refl _ _).next (same_new nS), ⟨upd_same, Nat.zero_le _, List.nodup_nil, fun e m => (nomatch m), fun j w h => absurd h (by omega), fun _ _ => rfl, fun j h => absurd h (by omega)⟩⟩
    · rintro i σ H' _ ⟨_, _, _, _, _, _, _, sb, _⟩
      exact SqL.of (sb _ _ nl (s1 _ _ hl))
    · rintro i x σ H2 hi ⟨v6, v7, v8, v9, it, D, rfl, sb, LA⟩
      rw [List.getElem?_map] at hi
      cases ey : as[i]? with
      | none => rw [ey] at hi; cases hi
      | some b =>
        rw [ey] at hi
        cases hi
        obtain ⟨x, ex, hx⟩ := Paired.nth hk ey
        have mx : x ∈ lotsN n := List.mem_of_getElem? ex
        have li : i < 2 ^ n := by
          have := (List.getElem?_eq_some_iff.mp ex).1
          rwa [L.len] at this
        have eix : (lotsN n).idxOf x = i := by
          obtain ⟨l1, l2⟩ := List.getElem?_eq_some_iff.mp ex
          rw [← l2]
          exact L.nd.idxOf_getElem i l1
        have up : ∀ {b o}, H b = some o → H2 b = some o := fun {b o} e => sb _ _ (ne_of_none e nHS) (s1 _ _ e)
        have hx2 : TupAt H2 x b := up hx
        have hA2 : NumAt H2 A1 (lotsN n) := sb _ _ (ne_of_none (show H1 A1 = some _ from hA) nS) hA
        show gName 6 (.ref b) _ _ _
        refine ⟨_, rfl, b, _, rfl, .inr (SqT.of hx2), ?_⟩
        rw [List.length_map]
        match x, ex, hx2, mx, eix with
        | [], ex, hx2, mx, eix =>
          refine ⟨rfl, _, rfl, ?_⟩
          rw [show decide (V.int (([] : List Int).length : Int) = V.int 1) = false from by decide]
          refine iteF ?_
          refine ⟨_, rfl, b, _, rfl, .inr (SqT.of hx2), _, _, rfl, rfl, _, rfl, ?_⟩
          rw [show decide ((1 : Int) < (((([] : List Int).map V.int).length : Nat) : Int)) = false from by decide]
          refine iteF ?_
          refine ⟨_, _, _, _, _, _, rfl, sb, LA.skip ex fun x => ?_⟩
          rw [← eix]
          exact dl_nil L x
        | [c], ex, hx2, mx, eix =>
          refine ⟨rfl, _, rfl, ?_⟩
          rw [show decide (V.int (([c] : List Int).length : Int) = V.int 1) = true from decide_eq_true rfl]
          refine iteT ?_
          walk_at "rd"
          obtain ⟨c0, c1⟩ := (L.asc _ mx).2 c List.mem_cons_self
          obtain ⟨cn, rfl⟩ : ∃ cn : Nat, c = (cn : Int) := ⟨c.toNat, by omega⟩
          have lc : cn < n := by omega
          obtain ⟨ds, hf0, ld, hd0⟩ := FA.ex
          obtain ⟨d, hdc⟩ : ∃ d, ds[cn]? = some d := ⟨_, List.getElem?_eq_getElem (by omega)⟩
          have hdd0 := hd0 cn d hdc
          have hdd := up hdd0
          have nA1 : A1 ≠ d := Ne.symm (ne_of_none hdd0 nA)
          have nSd : St ≠ d := Ne.symm (ne_of_none hdd0 nHS)
          refine ⟨d, _, hdd, trivial, fun od => ?_⟩
          generalize eG : upd H2 d (.frz od (.dT (pK (F cn)))) = G
          have gd : G d = some (.frz od (.dT (pK (F cn)))) := by rw [← eG]; exact upd_same
          have gO : ∀ b o, b ≠ d → H2 b = some o → G b = some o := fun b o nb e => by
            rw [← eG, upd_ne nb]
            exact e
          have hfG : G fs = some (.lst (ds.map V.ref)) ∨ G fs = some (.tup (ds.map V.ref)) := by
            rcases hf0 with e | e
            · exact .inl (gO _ _ (ne_of (up e) hdd (fun z => nomatch z)) (up e))
            · exact .inr (gO _ _ (ne_of (up e) hdd (fun z => nomatch z)) (up e))
          have hxG : G b = some (.tup ([(cn : Int)].map V.int)) := gO _ _ (ne_of (show H2 b = some _ from hx2) hdd (fun z => nomatch z)) hx2
          have hAG : NumAt G A1 (lotsN n) := gO _ _ nA1 hA2
          refine ⟨_, rfl, _, rfl, b, _, 0, _, rfl, rfl, SqT.of hxG, rfl, refsIx hfG hdc ?_⟩
          refine ⟨d, od, _, rfl, gd, fun D1 nD => ?_⟩
          refine dp_it walk_itemsT (b := false) (fun i H' => Same G H' ∧ ∃ r : Row, H' D1 = some (.dK (iK r)) ∧ (Nd r ∧ Bel (2 ^ n : Nat) r) ∧ r.length ≤ i ∧ ∀ x, co r x = sumD ((F cn).take i) fun pr => if (((lotsN n).idxOf [pr.1, pr.2] : Nat) : Int) = x then 1 else 0) ?_ (fun i H' _ h => h.1 _ _ gd) ?_ ?_
          · exact ⟨same_new nD, [], upd_same, ⟨List.nodup_nil, fun q m => (nomatch m)⟩, Nat.le_refl _, fun x => rfl⟩
          · rintro i x H3 H4 hi ⟨s3, r, hD, ndr, zr, vr⟩ ⟨T, q, k, v, hkv, rfl, nT, hq, rfl⟩
            unfold pK at hkv
            rw [List.getElem?_map] at hkv
            cases ee : (F cn)[i]? with
            | none => rw [ee] at hkv; cases hkv
            | some e =>
              rw [ee] at hkv
              cases hkv
              have me : e ∈ F cn := List.mem_of_getElem? ee
              have mpr := (L.o cn lc e.1 (FA.mem cn lc e me)).1
              have sT : Same H3 (upd H3 T (.tup [.ref q, .int e.2])) := same_new nT
              refine ⟨T, _, rfl, SqT.of upd_same, rfl, _, _, rfl, ?_⟩
              show gName 10 (.ref q) _ _ _
              refine ⟨_, _, rfl, ?_⟩
              show gName 11 (.int e.2) _ _ _
              refine ⟨rfl, rfl, ?_⟩
              walk_at "rd"
              have s3T : Same G (upd H3 T (.tup [.ref q, .int e.2])) := s3.trans sT
              have hqT : TupAt (upd H3 T (.tup [.ref q, .int e.2])) [e.1.1, e.1.2] q := sT _ _ hq
              have g1 := NumAt.get (s3T _ _ hAG) hqT
              rw [atKV_some L.nd (idx_at mpr)] at g1
              refine ⟨_, g1, _, put_row (sT _ _ hD) (small1000 (by have := (FA.sm cn lc).1; have := (List.getElem?_eq_some_iff.mp ee).1; omega)), same_upd s3T nD, _, upd_same, ⟨nd_put ndr.1 _ _, bel_put ndr.2 ⟨by omega, by have := idx_lt L mpr; omega⟩⟩, ?_, fun x => ?_⟩
              · have := len_putR r ((lotsN n).idxOf [e.1.1, e.1.2] : Nat) e.2
                omega
              · rw [take_snoc ee, sumD_snoc, co_put]
                by_cases ek : (((lotsN n).idxOf [e.1.1, e.1.2] : Nat) : Int) = x
                · rw [if_pos ek, if_pos ek]
                  have z : (sumD ((F cn).take i) fun pr => if (((lotsN n).idxOf [pr.1, pr.2] : Nat) : Int) = x then 1 else 0) = 0 := sumD_zero fun e' m' => by
                    rw [if_neg]
                    intro z
                    have me' := List.mem_of_mem_take m'
                    have h1 := idx_inj (L.o cn lc e'.1 (FA.mem cn lc e' me')).1 (by omega : (lotsN n).idxOf [e'.1.1, e'.1.2] = (lotsN n).idxOf [e.1.1, e.1.2])
                    have h2 : e'.1 = e.1 := by
                      have h3 := (List.cons.inj h1).1
                      have h4 := (List.cons.inj (List.cons.inj h1).2).1
                      exact Prod.ext h3 h4
                    have h5 : ((F cn).map (·.1))[i]? = some e.1 := by rw [List.getElem?_map, ee]; rfl
                    have h6 := nodup_take (FA.nd cn lc) h5
                    rw [← List.map_take] at h6
                    exact h6 (List.mem_map.mpr ⟨e', m', h2⟩)
                  rw [z]
                  omega
                · rw [if_neg ek, if_neg ek, vr]
                  omega
          · rintro H4 ⟨s4, r, hD, ndr, zr, vr⟩
            have zl : (pK (F cn)).length = (F cn).length := by unfold pK; rw [List.length_map]
            rw [zl, List.take_length] at vr
            refine ⟨s4 _ _ gd, ?_⟩
            have back : Same H2 (upd H4 d (.dT (pK (F cn)))) := fun b o e => by
              by_cases eb : b = d
              · subst eb
                rw [upd_same, ← e]
                exact hdd.symm
              · rw [upd_ne eb]
                exact s4 _ _ (gO _ _ eb e)
            have nDd : D1 ≠ d := Ne.symm (ne_of_none gd nD)
            have hDU : RowAt (upd H4 d (.dT (pK (F cn)))) D1 r := by
              unfold RowAt
              rw [upd_ne nDd]
              exact hD
            generalize upd H4 d (.dT (pK (F cn))) = U at back hDU
            have nDS : D1 ≠ St := fun e => by
              rw [e] at nD
              have := gO _ _ nSd LA.tab
              rw [nD] at this
              cases this
            have LU := LA.but back
            have g1 := NumAt.get (back _ _ hA2) (back _ _ hx2)
            rw [atKV_some L.nd ex] at g1
            have nin : (i : Int) ∉ it.map (·.1) := fun m => by
              obtain ⟨e, m, h⟩ := List.mem_map.mp m
              obtain ⟨_, _, j, h3, h4⟩ := LA.row e m
              omega
            have put := LU.put hDU nDS ndr fun x => by
              rw [vr, ← eix, dl_one L FA.mem lc]
            have p1 : DPut U St (.int (i : Int)) (.ref D1) (upd U St (.dK (iT (it ++ [((i : Int), D1)])))) := by
              rw [← iT_snoc (lkI_notin nin)]
              exact DPut.k (k := Sum.inl (i : Int)) LU.tab (by
                unfold iT
                rw [List.length_map]
                have := LA.len
                exact small1000 (by omega))
            have hxU : upd U St (.dK (iT (it ++ [((i : Int), D1)]))) b = some (.tup ([(cn : Int)].map V.int)) := by
              rw [upd_ne (ne_of (show U b = some _ from back _ _ hx2) LU.tab (fun z => nomatch z))]
              exact back _ _ hx2
            refine ⟨_, g1, _, p1, _, .inr (SqT.of hxU), ?_⟩
            · rw [show decide ((1 : Int) < ((([(cn : Int)].map V.int).length : Nat) : Int)) = false from rfl]
              exact iteF ⟨_, _, _, _, ⟨rfl, rfl, rfl, rfl⟩, (sb.next back).at, _, _, put⟩
        | c :: d :: r, ex, hx2, mx, eix =>
          refine ⟨rfl, _, rfl, ?_⟩
          rw [show decide (V.int ((c :: d :: r : List Int).length : Int) = V.int 1) = false from decide_eq_false fun z => by
            have := V.int.inj z
            simp only [List.length_cons] at this
            omega]
          refine iteF ?_
          refine ⟨_, rfl, b, _, rfl, .inr (SqT.of hx2), _, _, rfl, rfl, _, rfl, ?_⟩
          rw [show decide ((1 : Int) < ((((c :: d :: r : List Int).map V.int).length : Nat) : Int)) = true from decide_eq_true (by simp only [List.length_map, List.length_cons]; omega)]
          refine iteT ?_
          walk_at "rd"
          obtain ⟨ma, mr, hrow⟩ := L.f c d r mx
          have la := idx_lt L ma
          have lr := idx_lt L mr
          have sa : (lotsN n).idxOf [c] < i := by rw [← eix]; exact idx_shorter hn L ma mx (by simp)
          have sr : (lotsN n).idxOf (d :: r) < i := by rw [← eix]; exact idx_shorter hn L mr mx (by simp)
          obtain ⟨q1, hq1⟩ := LA.has _ _ sa (idx_at ma) (fun z => nomatch z)
          obtain ⟨q2, hq2⟩ := LA.has _ _ sr (idx_at mr) (fun z => nomatch z)
          have r1 := LA.row _ (lkI_some hq1)
          have r2 := LA.row _ (lkI_some hq2)
          obtain ⟨g1n, g1v⟩ := LA.good _ sa
          obtain ⟨g2n, g2v⟩ := LA.good _ sr
          have up' : ∀ {q : Addr} {o : HO}, H q = some o → H2 q = some o := up
          have TI : TabIn H2 Pd pt (rowL (lotsN n)) (lotsN n).length := ⟨up LT.tab.tab, LT.tab.len, LT.tab.nd, fun e m => ⟨up (LT.tab.row e m).1, (LT.tab.row e m).2⟩, LT.tab.off⟩
          refine ⟨_, rfl, 1, rfl, b, _, rfl, SqT.of hx2, fun z => absurd z (cut1 c d r).1, fun _ p1 np1 => ?_⟩
          rw [(cut1 c d r).2]
          generalize eA : upd H2 p1 (.tup ([c].map V.int)) = Ha
          have sA : Same H2 Ha := by rw [← eA]; exact same_new np1
          have ga := NumAt.get (sA _ _ hA2) (show TupAt Ha [c] p1 by rw [← eA]; exact upd_same)
          rw [atKV_some L.nd (idx_at ma)] at ga
          refine ⟨_, ga, _, rfl, 1, rfl, b, _, rfl, SqT.of (sA _ _ hx2), fun z => absurd z (cut2 c d r).1, fun _ p2 np2 => ?_⟩
          rw [(cut2 c d r).2]
          generalize eB : upd Ha p2 (.tup ((d :: r).map V.int)) = Hb
          have sB : Same H2 Hb := by rw [← eB]; exact sA.trans (same_new np2)
          have gb := NumAt.get (sB _ _ hA2) (show TupAt Hb (d :: r) p2 by rw [← eB]; exact upd_same)
          rw [atKV_some L.nd (idx_at mr)] at gb
          have gs := get_itab (a := (((lotsN n).idxOf [c] : Nat) : Int)) (sB _ _ LA.tab)
          rw [hq1] at gs
          refine ⟨_, gb, _, _, ⟨rfl, rfl⟩, _, gs, fun p3 np3 => ⟨upd_same, [(Sum.inl (((lotsN n).idxOf (d :: r) : Nat) : Int), V.int 1)], rfl, by show 1 ≤ 15; decide, ?_⟩⟩
          rw [upd_upd, iK_single]
          generalize eC : upd Hb p3 _ = Hc
          have sC : Same H2 Hc := by rw [← eC]; exact sB.trans (same_new np3)
          have h3 : RowAt Hc p3 [((((lotsN n).idxOf (d :: r) : Nat) : Int), 1)] := by rw [← eC]; exact upd_same
          have n3 : H2 p3 = none := none_of_same sB np3
          have nd1 : ∀ k v : Int, Nd [(k, v)] := fun k v => by unfold Nd; simp
          have sm1 : ∀ k : Int, Small [(k, 1)] := fun k q m => by rw [List.mem_singleton.mp m]; exact ⟨by show -(2 ^ 31) < (1 : Int); decide, by show (1 : Int) < 2 ^ 31; decide⟩
          refine ⟨Pd, q1, p3, pt, rowL (lotsN n), D ((lotsN n).idxOf [c] : Nat), _, (lotsN n).length, rfl, (TI.inn sC).tab, sC _ _ r1.1, h3, ne_of_none (show H2 q1 = some _ from r1.1) n3, g1n.1, nd1 _ _, DOk.small L hn FA.mem FA.sm la g1n.1 g1v, sm1 _, by rw [L.len]; omega, (TI.inn sC).rows _ _, fun Hd T t sD nT hT ndT blT vT => ?_⟩
          have sD2 := sC.trans sD
          intro p4 np4
          refine ⟨upd_same, [(Sum.inl (((lotsN n).idxOf [c] : Nat) : Int), V.int 1)], rfl, by show 1 ≤ 15; decide, ?_⟩
          rw [upd_upd, iK_single]
          generalize eE : upd Hd p4 _ = He
          have sE : Same Hd He := by rw [← eE]; exact same_new np4
          have sE2 := sD2.trans sE
          have h4 : RowAt He p4 [((((lotsN n).idxOf [c] : Nat) : Int), 1)] := by rw [← eE]; exact upd_same
          have n4 : H2 p4 = none := none_of_same sD2 np4
          have gs2 := get_itab (a := (((lotsN n).idxOf (d :: r) : Nat) : Int)) (sE2 _ _ LA.tab)
          rw [hq2] at gs2
          refine ⟨_, gs2, Pd, p4, q2, pt, rowL (lotsN n), _, D ((lotsN n).idxOf (d :: r) : Nat), (lotsN n).length, rfl, (TI.inn sE2).tab, h4, sE2 _ _ r2.1, Ne.symm (ne_of_none (show H2 q2 = some _ from r2.1) n4), nd1 _ _, g2n.1, sm1 _, DOk.small L hn FA.mem FA.sm lr g2n.1 g2v, by rw [L.len]; omega, (TI.inn sE2).rows _ _, fun Hf T2 t2 sF nT2 hT2 ndT2 blT2 vT2 => ?_⟩
          have sF2 := sE2.trans sF
          have hHf : HsAt Hf h' (hlN n) := hH.imp (fun e => sF2 _ _ (up e)) fun e => sF2 _ _ (up e)
          refine hHf.ix ⟨by omega, by rw [hlN_len L]; omega⟩ ?_
          rw [hlN_at L la]
          have hc1 : hc n ((lotsN n).idxOf [c]) = 1 := by
            have := L.h _ la
            rw [idx_at ma] at this
            exact (Option.some.inj this).symm
          rw [hc1]
          have hTf : RowAt Hf T t := sF _ _ (sE _ _ hT)
          have neT : T ≠ T2 := ne_of_none (show He T = some _ from sE _ _ hT) nT2
          have zT := row_len ndT blT
          have zT2 := row_len ndT2 blT2
          have L32 := L.len
          refine ⟨_, rfl, T, T2, t, t2, _, rfl, hTf, RowR.of hT2, neT, ndT2, by decide, by omega, ?_⟩
          have nT2' : H2 T = none := none_of_same sC nT
          have sU : Same H2 (upd Hf T (.dK (iK (addR t t2 (sgn ((1 : Nat) : Int)))))) := same_upd sF2 nT2'
          have hTU : RowAt (upd Hf T (.dK (iK (addR t t2 (sgn ((1 : Nat) : Int)))))) T (addR t t2 (sgn ((1 : Nat) : Int))) := upd_same
          generalize upd Hf T (.dK (iK (addR t t2 (sgn ((1 : Nat) : Int))))) = U at sU hTU
          have LU := LA.but sU
          have g1 := NumAt.get (sU _ _ hA2) (sU _ _ hx2)
          rw [atKV_some L.nd ex] at g1
          have nin : (i : Int) ∉ it.map (·.1) := fun m => by
            obtain ⟨e, m, h⟩ := List.mem_map.mp m
            obtain ⟨_, _, j, h3, h4⟩ := LA.row e m
            omega
          have nTS : T ≠ St := Ne.symm (ne_of_none (show H2 St = some _ from LA.tab) nT2')
          rw [L.len] at blT blT2
          have put := LU.put hTU nTS ⟨nd_addR ndT, bel_addR blT blT2⟩ fun x => by
            have e := dl_rec L FA.mem mx g1n g2n g1v g2v x
            rw [co_addR ndT2, vT, vT2, sumW_one, ← eix, ← e]
            have e2 : (fun a => sumW [((((lotsN n).idxOf (d :: r) : Nat) : Int), 1)] fun b => co (rowL (lotsN n) (a, b)) x) = fun a => co (rowL (lotsN n) (a, (((lotsN n).idxOf (d :: r) : Nat) : Int))) x := by
              funext a
              exact sumW_one _ _
            rw [e2]
            rfl
          have p1 : DPut U St (.int (i : Int)) (.ref T) (upd U St (.dK (iT (it ++ [((i : Int), T)])))) := by
            rw [← iT_snoc (lkI_notin nin)]
            exact DPut.k (k := Sum.inl (i : Int)) LU.tab (by
              unfold iT
              rw [List.length_map]
              have := LA.len
              exact small1000 (by omega))
          exact ⟨_, g1, _, p1, _, _, _, _, ⟨rfl, rfl, rfl, rfl⟩, (sb.next sU).at, _, _, put⟩
    · rintro σ H2 ⟨v6, v7, v8, v9, it, D, rfl, sb, LA⟩
      rw [List.length_map, lz] at LA
      exact ⟨_, rfl, k H2 St it D (fun q o e => sb _ _ (ne_of_none e nHS) (s1 _ _ e)) nHS LA⟩
end
end Lp
namespace Lp
open PySem L2 LamX
local macro_rules | `(tactic| walk_at "rd") => `(tactic| simp only [tSeq, tAsg, tYes, tTest, tOp, tCB, tCons, tNil, tVar, tC, rI0, rI, gName, wipe, tDisp, tTru, TruV, tB, tNext, tDGet2, tLock, tDIn, tDNotIn, tOr, tNot, tChain, tAnd, tCont, tUn, rU, tPairs, tRet, tIf, tIfS, tPar, tLst, tTup, tDrop, tDGet, tCall, sDPut, L2.start,
  List.map_cons, List.map_nil, List.foldl_cons, List.foldl_nil, List.length_cons, List.length_nil, List.replicate_succ, List.replicate_zero, List.append_nil, List.cons_append, List.nil_append, List.set_cons_zero, List.set_cons_succ, List.getElem?_cons_zero, List.getElem?_cons_succ,
  Option.some.injEq, List.cons.injEq, V.int.injEq, V.bl.injEq, V.ref.injEq, V.str.injEq, exists_eq_left', exists_eq_left, exists_eq_right, and_true, true_and, exists_and_left, Nat.add_zero, Nat.reduceAdd, Nat.reduceSub, Nat.sub_zero, if_true, if_false])
/-! ### turning_frame -/
/-- a list or a tuple, walked -/
theorem or_walk {K : PySem.W.Frag} {σ : L2.St} {i : Nat} {a : Addr} {xs : List V} {H : Hp} {R : It → Hp → Prop} (hσ : σ[i]? = some (some (V.ref a))) (he : H a = some (.lst xs) ∨ H a = some (.tup xs)) (k : ∀ (J : It) (G : Hp → Prop), Walk J xs.length G (YAt xs) → (∀ H', Same H H' → G H') → R J H) :
    tiOr (iList K (tVar i)) (iTup K (tVar i)) σ H R := by
  rcases he with e | e
  · exact .inl ⟨_, hσ, a, rfl, ⟨_, SqL.of e⟩, k _ _ (walk_list (K := K) (a := a)) fun H' s => SqL.of (s _ _ e)⟩
  · exact .inr ⟨_, hσ, a, rfl, ⟨_, SqT.of e⟩, k _ _ (walk_tup (K := K) (a := a)) fun H' s => SqT.of (s _ _ e)⟩
def rLenK (K : PySem.W.Frag) : List V → Hp → VK → Prop := fun xs H Q => ∃ p ys, xs = [V.ref p] ∧ (SqL K H p ys ∨ SqT K H p ys) ∧ Q (.int (ys.length : Nat)) H
theorem call_lenK {X : Cx} {K : PySem.W.Frag} (hK : X.K = K) : CallR X (.builtin "len") (rLenK K) := by
  subst hK
  exact call_len_seq
theorem SumP.same {K : PySem.W.Frag} {H H' : Hp} {n : Int} {x : V} {b : Bool} (h : SumP K H n x b) (s : Same H H') : SumP K H' n x b := by
  cases h with
  | no k h => exact .no (KindV.same s k) h
  | dT e z z2 nd k => exact .dT (s _ _ e) z z2 nd k
  | dK e z => exact .dK (s _ _ e) z
  | raw e R hb => exact .raw (s _ _ e) R (s _ _ hb)
/-- what is no list of sums of pairs -/
inductive StBad (K : PySem.W.Frag) (H : Hp) (n : Nat) : V → String → Prop where
  | kind {x : V} {s : String} (h : (s == "list" || s == "tuple") = false) : StBad K H n x s
  | len {a : Addr} {xs : List V} {s : String} (hs : (s == "list" || s == "tuple") = true) (e : H a = some (.lst xs) ∨ H a = some (.tup xs)) (h : xs.length ≠ n) : StBad K H n (.ref a) s
  | elt {a : Addr} {xs : List V} {bs : List Bool} {s : String} (hs : (s == "list" || s == "tuple") = true) (e : H a = some (.lst xs) ∨ H a = some (.tup xs)) (h : xs.length = n) (p : Paired (SumP K H n) xs bs) (no : bs.all id = false) : StBad K H n (.ref a) s
def Tw (p : Int) (n : Nat) (F : Nat → PRow) : Prop := TwOk (fun k => nfR p (D0 n F k)) p (2 ^ n)
structure TurnC where
  CP : Addr
  CB : Addr
  CN : Addr
  CF : Addr
  C : Addr
def spTurn (K : PySem.W.Frag) (T : List (Addr × Str)) (c : TurnC) : Sp := fun vs H Q E => ∃ vp s1 vl s2 vst s3, vs = [vp, vl, vst] ∧ KindV K H vp s1 ∧ KindV K H vl s2 ∧ KindV K H vst s3 ∧ Tabs T H ∧
  ((primeB vp = false ∧ E (.ref c.CP) none H) ∨
   (primeB vp = true ∧ betB vl 0 5 = false ∧ Raised c.CN "part" (.str "letters") H E) ∨
   (∃ n : Nat, primeB vp = true ∧ vl = .int n ∧ n ≤ 5 ∧ StBad K H n vst s3 ∧ ∀ H', Same H H' → E (.ref c.CB) none H') ∨
   (∃ (p : Int) (n : Nat) (F : Nat → PRow) (fs : Addr), vp = .int p ∧ primeB (.int p) = true ∧ vl = .int n ∧ n ≤ 5 ∧ vst = .ref fs ∧ (s3 == "list" || s3 == "tuple") = true ∧ FirstsAt H fs n F ∧
     (Tw p n F → ∀ H' x D, ExtN H H' → Tabs T H' → New0 H x → DOk n F D → (∀ k : Int, ¬ (0 ≤ k ∧ k < (2 ^ n : Nat)) → D k = []) → FrameAt c.C H' x p (hlN n) (fun k => nfR p (rowL (lotsN n) k)) (fun k => nfR p (D k)) → Q (.ref x) H') ∧
     (¬ Tw p n F → ∀ d H', ExtN H H' → Tabs T H' → New0 H d → H' d = some (.xd [("part", .str "twice")]) → E (.ref c.CF) (some d) H')))
abbrev sTurn : Stmt := top 40
theorem firsts_pairs {K : PySem.W.Frag} {H : Hp} {n : Nat} {F : Nat → PRow} {ds : List Addr} (ld : ds.length = n) (hd : ∀ (c : Nat) d, ds[c]? = some d → H d = some (.dT (pK (F c)))) (nd : ∀ c, c < n → ((F c).map (·.1)).Nodup) (mem : PairsIn n F) (sm : ∀ c, c < n → (F c).length ≤ 10 ∧ ∀ e ∈ F c, e.2.natAbs ≤ 100)
    (rng : ∀ pr ∈ pairsN n, 0 ≤ pr.1 ∧ pr.1 < pr.2 ∧ pr.2 < (n : Int)) : Paired (SumP K H n) (ds.map V.ref) (ds.map fun _ => true) := by
  refine paired_of (by rw [List.length_map, List.length_map]) fun i x b ex eb => ?_
  rw [List.getElem?_map] at ex eb
  cases e : ds[i]? with
  | none => rw [e] at ex; cases ex
  | some d =>
    rw [e] at ex eb
    cases ex
    cases eb
    have li : i < n := by rw [← ld]; exact (List.getElem?_eq_some_iff.mp e).1
    have h := SumP.dT (K := K) (n := (n : Int)) (hd i d e) (by unfold pK; rw [List.length_map]; have := (sm i li).1; omega)
      (fun e m => by
        obtain ⟨q, _, rfl⟩ := List.mem_map.mp m
        show (2 : Nat) ≤ 1000
        decide) (by
        unfold pK
        rw [List.map_map]
        have e2 : ((fun x : List Key × V => x.1) ∘ fun e : (Int × Int) × Int => (kP e.1, V.int e.2)) = kP ∘ (·.1) := rfl
        rw [e2, ← List.map_map]
        exact List.Pairwise.map _ (fun a b (h : a ≠ b) z => h (kP_inj z)) (nd i li)) (fun e m => by
        obtain ⟨q, _, rfl⟩ := List.mem_map.mp m
        exact ⟨"int", fun H' => KindV.int _⟩)
    have et : (pK (F i)).all (pairE n) = true := by
      rw [List.all_eq_true]
      intro e m
      obtain ⟨q, mq, rfl⟩ := List.mem_map.mp m
      obtain ⟨h1, h2, h3⟩ := rng q.1 (mem i li q mq)
      show ((decide ((2 : Int) ≤ ((2 : Nat) : Int)) && decide (((2 : Nat) : Int) ≤ 2)) && ((decide (0 ≤ q.1.1) && decide (q.1.1 ≤ (n : Int) - 1)) && ((decide (0 ≤ q.1.2) && decide (q.1.2 ≤ (n : Int) - 1)) && true)) && (decide (q.1.1 < q.1.2) && true)) = true
      rw [decide_eq_true (by omega : (0 : Int) ≤ q.1.1), decide_eq_true (by omega : q.1.1 ≤ (n : Int) - 1), decide_eq_true (by omega : (0 : Int) ≤ q.1.2), decide_eq_true (by omega : q.1.2 ≤ (n : Int) - 1), decide_eq_true h2]
      rfl
    rw [et] at h
    exact h
theorem pairs_rng : ∀ n, n ≤ 5 → ∀ pr ∈ pairsN n, 0 ≤ pr.1 ∧ pr.1 < pr.2 ∧ pr.2 < (n : Int)
  | 0, _ => by decide
  | 1, _ => by decide
  | 2, _ => by decide
  | 3, _ => by decide
  | 4, _ => by decide
  | 5, _ => by decide
  | n + 6, h => absurd h (by omega)
theorem nfR_congr {p : Int} {r s : Row} (hp : 0 < p) (n1 : Nd r) (n2 : Nd s) (e : ∀ k, co r k = co s k) : nfR p r = nfR p s :=
  nfR_eq hp n2 (nfR_spec hp n1).1 fun k => by rw [(nfR_spec hp n1).2, e]
theorem tw_iff {p : Int} {n : Nat} {F : Nat → PRow} {D : Int → Row} (hp : 0 < p) (L : Lots n) (P : PairsIn n F) (O : DOk n F D) : TwOk (fun k => nfR p (D k)) p (2 ^ n) ↔ Tw p n F := by
  have O2 := D0_ok L P
  have e : ∀ a : Nat, a < 2 ^ n → nfR p (D a) = nfR p (D0 n F a) := fun a ha => nfR_congr hp (O.nd a ha).1 (O2.nd a ha).1 fun k => by rw [O.val a ha, O2.val a ha]
  have key : ∀ a : Nat, a < 2 ^ n → ∀ j, (sumW (nfR p (D a)) fun k => co (nfR p (D k)) j) = sumW (nfR p (D0 n F a)) fun k => co (nfR p (D0 n F k)) j := fun a ha j => by
    rw [e a ha]
    unfold sumW
    refine congrArg List.sum (List.map_congr_left fun q m => ?_)
    obtain ⟨n1, b1⟩ := bel_nfR' hp (O2.nd a ha).1 (O2.nd a ha).2
    have h := b1 q m
    have e3 := e q.1.toNat (by omega)
    rw [Int.toNat_of_nonneg h.1] at e3
    show q.2 * co (nfR p (D q.1)) j = q.2 * co (nfR p (D0 n F q.1)) j
    rw [e3]
  exact ⟨fun h a ha j => by rw [← key a ha j]; exact h a ha j, fun h a ha j => by rw [key a ha j]; exact h a ha j⟩
theorem heightsN : ∀ n, n ≤ 5 → heightsB ((hlN n).map V.int) (-8) 16 = true
  | 0, _ => by decide +kernel
  | 1, _ => by decide +kernel
  | 2, _ => by decide +kernel
  | 3, _ => by decide +kernel
  | 4, _ => by decide +kernel
  | 5, _ => by decide +kernel
  | n + 6, h => absurd h (by omega)
section
variable {P : Program} {w : World} {K : PySem.W.Frag} {mg : Str → Option Value} {base : Heap}
theorem scTurn : FnScope ["prime", "letters", "steps", "lots", "heights", "product", "told", "lot"] ["prime", "letters", "steps"] (defScope sTurn) := ⟨rfl, rfl, rfl, by decide +kernel, rfl, by decide +kernel, by decide +kernel⟩
theorem ok_turn {T : List (Addr × Str)} {c : TurnC} {f fI : Addr} {fd dI : FuncData} (F0 : Fun K "turning_frame" "turning_frame" sTurn f fd)
    (NP : Df P w K mg base (L2.CX P w) 3 "need_prime" ["prime"] (spNeedP K c.CP)) (NN : Df P w K mg base (L2.CX P w) 5 "need_number" ["number", "least", "most", "part"] (spNeedN K c.CN)) (IL : Df P w K mg base CX0 1 "is_list" ["thing"] (spIsList K))
    (SP : Df P w K mg base CX0 4 "_is_sum_of_pairs" ["thing", "letters"] (spSumP K)) (LO : Df P w K mg base CX0 5 "_lots" ["letters"] (spLots T)) (LP : Df P w K mg base CX0 2 "_lot_products" ["lots"] spLotP)
    (LE : Df P w K mg base CX0 3 "_led_on" ["names", "heights", "product", "firsts"] spLedOn) (BT : ErrP K mg "BadTable" c.CB)
    (MF : Mk K c.C fI) (FI : FnOk P w K mg base (L2.CX P w) 6 fI dI ["self", "prime", "heights", "product", "step"] (spFrameInit c.C c.CF)) (mF : mg "Frame" = some (.ref c.C)) (bF : Binds K dI ["self", "prime", "heights", "product", "step"] [])
    (mLen : mg "len" = none) (mAll : mg "all" = none) : FnOk P w K mg base (L2.CX P w) 8 f fd ["prime", "letters", "steps"] (spTurn K T c) := by
  refine F0.okX scTurn (fun vs H Q E h => ?_) (fun cdv A outer s H vs Q E hr h => ?_)
  · obtain ⟨vp, s1, vl, s2, vst, s3, rfl, _⟩ := h
    rfl
  · obtain ⟨vp, s1, vl, s2, vst, s3, rfl, k1, k2, k3, hT, h⟩ := h
    have hu := hu_of hr
    refine ⟨_, pss_cons (ps_expr (pe_df NP (hr.mono (by decide)) (by rfl) (passX (takes_of rfl rfl rfl rfl)) (pa_cons (pv 0) pa_nil)))
      (pss_cons (ps_expr (pe_df NN (hr.mono (by decide)) (by rfl) (passX (takes_of rfl rfl rfl rfl)) (pa_cons (pv 1) (pa_cons pe_int (pa_cons pe_int (pa_cons pe_str pa_nil))))))
      (pss_cons (ps_if (PW.pt (pw_or (pt_not (pt_val (pe_df IL (hr.mono (by decide)) (by rfl) pass0 (pa_cons (pv 2) pa_nil)))) (pw_or1 (pt_cmpR op_ne (pe_callB call_len_seq (by rfl) mLen PySem.boot_len (pa_cons (pv 2) pa_nil)) (pv 1) (nomark _)))))
        (pss_one (ps_raise rfl (takes_of rfl rfl rfl rfl) (pmk_own PySem.F.excBase_ValueError BT.x BT.g BT.k (raises_own BT.b BT.t) rfl))) pss_nil)
      (pss_cons (ps_if (pt_not (pt_val (pe_callB (cr_all rfl) (by rfl) mAll (by decide +kernel) (pa_cons (pe_lc (own := [("told", 6)]) (g := gName 6) (tt := tYes) rfl scTurn.nd (pi_or (pi_list (pv 2)) (pi_tup (pv 2))) (blkOk_by (N := ["prime", "letters", "steps", "lots", "heights", "product", "told", "lot"]) (sc := defScope sTurn) (by decide +kernel))
          (fun _ _ _ _ _ => pg_name (i := 6) scTurn.nd rfl (Or.inl rfl)) (fun _ _ _ _ _ => pts_nil) (fun _ _ _ _ _ => pe_df SP (hr.mono (by decide)) (by rfl) pass0 (pa_cons (pv 6) (pa_cons (pv 1) pa_nil)))) pa_nil))))
        (pss_one (ps_raise rfl (takes_of rfl rfl rfl rfl) (pmk_own PySem.F.excBase_ValueError BT.x BT.g BT.k (raises_own BT.b BT.t) rfl))) pss_nil)
      (pss_cons (ps_set (i := 3) scTurn.nd rfl (Or.inl rfl) (pe_df LO (hr.mono (by decide)) (by rfl) pass0 (pa_cons (pv 1) pa_nil)))
      (pss_cons (ps_setLc (i := 4) (own := [("lot", 7)]) (g := gName 7) rfl scTurn.nd rfl rfl (sw_true rfl rfl rfl (by decide +kernel)) (pi_list (pv 3)) (blkOk_by (N := ["prime", "letters", "steps", "lots", "heights", "product", "told", "lot"]) (sc := defScope sTurn) (by decide +kernel))
          (fun _ _ _ _ _ => pg_name (i := 7) scTurn.nd rfl (Or.inl rfl)) (fun _ _ _ _ _ => pts_nil) (fun _ _ _ _ _ => pe_callB (call_lenK (K := K) rfl) (by rfl) mLen PySem.boot_len (pa_cons (pv 7) pa_nil)))
      (pss_cons (ps_set (i := 5) scTurn.nd rfl (Or.inl rfl) (pe_df LP (hr.mono (by decide)) (by rfl) pass0 (pa_cons (pv 3) pa_nil)))
      (pss_one (ps_ret (pe_make MF FI hr (by rfl) mF bF .nil (passX (takes_of rfl rfl rfl rfl)) (pa_cons (pv 0) (pa_cons (pv 4) (pa_cons (pv 5) (pa_cons (pe_df LE (hr.mono (by decide)) (by rfl) pass0 (pa_cons (pv 3) (pa_cons (pv 4) (pa_cons (pv 5) (pa_cons (pv 2) pa_nil))))) pa_nil))))))))))))), ?_⟩
    rcases h with ⟨b1, e1⟩ | h
    · refine ⟨_, rfl, vp, s1, rfl, k1, ?_, ?_⟩
      · intro z
        rw [b1] at z
        cases z
      · intro _
        exact e1
    have bp : primeB vp = true := by
      rcases h with ⟨b, _⟩ | ⟨n, b, _⟩ | ⟨p, n, F, fs, rfl, b, _⟩ <;> exact b
    refine ⟨_, rfl, vp, s1, rfl, k1, ?zz_a, ?zz_b⟩
    case zz_b =>
      intro z
      rw [bp] at z
      cases z
    intro _
    rcases h with ⟨_, b2, e2⟩ | h
    · refine ⟨_, rfl, vl, s2, 0, 5, _, rfl, k2, by decide, ?_, ?_⟩
      · intro z
        rw [b2] at z
        cases z
      · intro _
        exact e2
    obtain ⟨n, rfl, hn⟩ : ∃ n : Nat, vl = .int n ∧ n ≤ 5 := by
      rcases h with ⟨n, _, e, hn, _⟩ | ⟨p, n, F, fs, _, _, e, hn, _⟩ <;> exact ⟨n, e, hn⟩
    have bl : betB (.int (n : Int)) 0 5 = true := by
      show (decide (0 ≤ (n : Int)) && decide ((n : Int) ≤ 5)) = true
      rw [decide_eq_true (by omega), decide_eq_true (by omega)]
      rfl
    refine ⟨_, rfl, .int n, s2, 0, 5, _, rfl, k2, by decide, ?zz_c, ?zz_d⟩
    case zz_d =>
      intro z
      rw [bl] at z
      cases z
    intro _
    refine ⟨_, rfl, vst, s3, rfl, k3, fun H1 t1 => ⟨_, rfl, ?_⟩⟩
    have data : (s3 == "list" || s3 == "tuple") = true → ∃ (a : Addr) (xs : List V), vst = .ref a ∧ (H a = some (.lst xs) ∨ H a = some (.tup xs)) ∧ ((xs.length ≠ n ∧ ∀ H', Same H H' → E (.ref c.CB) none H') ∨ (xs.length = n ∧ ∃ bs, Paired (SumP K H n) xs bs ∧ (bs.all id = false → ∀ H', Same H H' → E (.ref c.CB) none H') ∧
        (bs.all id = true → ∃ (p : Int) (F : Nat → PRow), vp = .int p ∧ primeB (.int p) = true ∧ FirstsAt H a n F ∧
     (Tw p n F → ∀ H' x D, ExtN H H' → Tabs T H' → New0 H x → DOk n F D → (∀ k : Int, ¬ (0 ≤ k ∧ k < (2 ^ n : Nat)) → D k = []) → FrameAt c.C H' x p (hlN n) (fun k => nfR p (rowL (lotsN n) k)) (fun k => nfR p (D k)) → Q (.ref x) H') ∧
     (¬ Tw p n F → ∀ d H', ExtN H H' → Tabs T H' → New0 H d → H' d = some (.xd [("part", .str "twice")]) → E (.ref c.CF) (some d) H')))) := by
      intro hs
      rcases h with ⟨n', _, e, hn', bad, out⟩ | ⟨p, n', F, fs, e1, e2, e, hn', rfl, _, FA, g1, g2⟩
      · have en : n' = n := by have := V.int.inj e; omega
        subst en
        cases bad with
        | kind h => rw [hs] at h; cases h
        | @len a xs _ _ he hx => exact ⟨a, xs, rfl, he, .inl ⟨hx, out⟩⟩
        | @elt a xs bs _ _ he hx p no => exact ⟨a, xs, rfl, he, .inr ⟨hx, bs, p, fun _ => out, fun z => by rw [no] at z; cases z⟩⟩
      · have en : n' = n := by have := V.int.inj e; omega
        subst en
        obtain ⟨ds, hf, ld, hd⟩ := FA.ex
        refine ⟨fs, ds.map V.ref, rfl, hf, .inr ⟨by rw [List.length_map, ld], _, firsts_pairs ld hd FA.nd FA.mem FA.sm (pairs_rng n' hn'), fun z => ?_, fun _ => ⟨p, F, e1, e2, FA, g1, g2⟩⟩⟩
        have : (ds.map fun _ => true).all id = true := by
          rw [List.all_map, List.all_eq_true]
          intro _ _
          rfl
        rw [this] at z
        cases z
    cases hs : (s3 == "list" || s3 == "tuple") with
    | false =>
      refine iteT (iteT ?_)
      rcases h with ⟨n', _, e, hn', bad, out⟩ | ⟨p, n', F, fs, e1, e2, e, hn', rfl, hs', _⟩
      · exact out _ t1
      · rw [hs] at hs'
        cases hs'
    | true =>
    obtain ⟨a, xs, rfl, he, hx⟩ := data hs
    have he1 : H1 a = some (.lst xs) ∨ H1 a = some (.tup xs) := he.imp (t1 _ _) (t1 _ _)
    refine iteF ⟨_, rfl, a, xs, rfl, he1.imp SqL.of SqT.of, ?_⟩
    rcases hx with ⟨nx, out⟩ | ⟨ex, bs, hp, bad, good⟩
    · refine ⟨_, rfl, rfl, _, rfl, ?_⟩
      rw [show (!decide (V.int ((xs.length : Nat) : Int) = V.int (n : Int))) = true from by
        rw [decide_eq_false fun z => nx (by have := V.int.inj z; omega)]
        rfl]
      exact iteT (out _ t1)
    · refine ⟨_, rfl, rfl, _, rfl, ?_⟩
      rw [show (!decide (V.int ((xs.length : Nat) : Int) = V.int (n : Int))) = false from by
        rw [decide_eq_true (by rw [ex])]
        rfl]
      refine iteF ?_
      refine or_walk rfl he1 fun J G w hG => ?_
      intro D1 nD1
      refine lc_it w (fun i H' => Same H1 H' ∧ H' D1 = some (.lst ((bs.take i).map V.bl))) ⟨same_new nD1, upd_same⟩ (fun i H' _ h => hG _ h.1) ?_ ?_
      · rintro i x H2 H3 hi ⟨s2, hD2⟩ ⟨rfl, hxi⟩
        obtain ⟨b, hb, hS⟩ := Paired.fst hp hxi
        show gName 6 x _ _ _
        refine ⟨rfl, ?_⟩
        simp only [tYes, if_true]
        refine ⟨_, rfl, _, rfl, x, _, b, rfl, hS.same (t1.trans s2), fun H4 s4 => ?_⟩
        refine ⟨_, s4 _ _ hD2, ?_, same_upd (s2.trans s4) nD1, ?_⟩
        · rw [List.length_map, List.length_take]
          exact small1000 (by omega)
        · rw [upd_same, take_snoc hb, List.map_append]
          rfl
      · rintro H2 ⟨s2, hD2⟩
        have lb : xs.length = bs.length := Paired.length hp
        rw [lb, List.take_length] at hD2
        refine ⟨D1, _, rfl, SqL.of hD2, _, rfl, ?_⟩
        cases eb : bs.all id with
        | false => exact iteT (bad eb _ (t1.trans s2))
        | true =>
        refine iteF ?_
        obtain ⟨p, F, rfl, hpr, FA, g1, g2⟩ := good eb
        have s12 := t1.trans s2
        refine ⟨_, rfl, n, rfl, hn, hT.ext s12, fun H3 l as e3 T3 nl hl hk => ?_⟩
        have L := lots_ok hn
        have L2n : 2 ^ n ≤ 2 ^ 5 := Nat.pow_le_pow_right (by decide) hn
        obtain ⟨hp0, hp31⟩ := prime_bd hpr
        have lz : as.length = 2 ^ n := by rw [← L.len]; exact (Paired.length hk).symm
        show gName 3 (.ref l) _ _ _
        refine ⟨_, rfl, l, rfl, ⟨_, SqL.of hl⟩, fun D2 nD2 => ?_⟩
        refine lc_it (walk_list (xs := as.map V.ref)) (fun i H' => Same H3 H' ∧ H' D2 = some (.lst (((hlN n).take i).map V.int))) ⟨same_new nD2, upd_same⟩ (fun i H' _ h => SqL.of (h.1 _ _ hl)) ?_ ?_
        · rintro i x H4 H5 hi ⟨s4, hD⟩ ⟨rfl, hxi⟩
          rw [List.getElem?_map] at hxi
          cases ey : as[i]? with
          | none => rw [ey] at hxi; cases hxi
          | some b =>
            rw [ey] at hxi
            cases hxi
            obtain ⟨y, eyy, hy⟩ := Paired.nth hk ey
            have eh : (hlN n)[i]? = some (y.length : Int) := by
              unfold hlN
              rw [List.getElem?_map, eyy]
              rfl
            show gName 7 (.ref b) _ _ _
            refine ⟨rfl, ?_⟩
            simp only [tYes, if_true]
            refine ⟨_, rfl, b, _, rfl, .inr (SqT.of (s4 _ _ hy)), _, hD, ?_, same_upd s4 nD2, ?_⟩
            · rw [List.length_map, List.length_take, hlN_len L]
              exact small1000 (by omega)
            · rw [upd_same, take_snoc eh, List.map_append, List.length_map]
              rfl
        · rintro H4 ⟨s4, hD2'⟩
          rw [List.length_map, lz, ← hlN_len L, List.take_length] at hD2'
          show gName 4 (.ref D2) _ _ _
          have hl4 := s4 _ _ hl
          have hk4 := pairedTup_same s4 hk
          refine ⟨_, rfl, l, as, _, rfl, hl4, hk4, L.nd, by rw [L.len]; omega, fun x m => ?_, fun H5 Pd pt s5 nP LT => ?_⟩
          · have := subsG_short n x ((lots_perm n hn).mem_iff.mp m)
            omega
          · show gName 5 (.ref Pd) _ _ _
            have e5 : ExtN H H5 := (ExtN.same s12).trans (e3.trans (ExtN.same (s4.trans s5)))
            have FA5 : FirstsAt H5 a n F := by
              obtain ⟨ds, h1, h2, h3⟩ := FA.ex
              exact ⟨⟨ds, h1.imp (fun e => e5 _ _ e (fun _ z => nomatch z)) fun e => e5 _ _ e (fun _ z => nomatch z), h2, fun c d e => e5 _ _ (h3 c d e) (fun _ z => nomatch z)⟩, FA.nd, FA.mem, FA.sm⟩
            refine ⟨_, rfl, _, rfl, _, rfl, _, rfl, _, rfl, _, rfl, _, rfl, l, D2, Pd, a, as, pt, n, F, rfl, hn, s5 _ _ hl4, pairedTup_same s5 hk4, .inl (s5 _ _ hD2'), LT, FA5, fun H6 St it D s6 nSt LA => ?_⟩
            intro x dx nx ndx nex
            have e6 := e5.trans (ExtN.same s6)
            have sm : Same H6 (upd (upd H6 dx (.own x)) x (.ins c.C dx [])) := same_upd (same_new ndx) nx
            have O : DOk n F D := ⟨fun j hj => (LA.good j hj).1, fun j hj => (LA.good j hj).2⟩
            have off : ∀ k : Int, ¬ (0 ≤ k ∧ k < (2 ^ n : Nat)) → D k = [] := fun k hk => LA.off k fun e m z => by
              obtain ⟨_, _, j, h3, h4⟩ := LA.row e m
              omega
            have el : (lotsN n).length = (hlN n).length := by rw [L.len, hlN_len L]
            have LTm : TabIn (upd (upd H6 dx (.own x)) x (.ins c.C dx [])) Pd pt (rowL (lotsN n)) (hlN n).length := by
              rw [← el]
              exact (LT.tab.inn s6).inn sm
            have sX : ∀ {H'}, SameBut x (upd (upd H6 dx (.own x)) x (.ins c.C dx [])) H' → Same H6 H' := fun sb b o e => sb b o (ne_of_none e nx) (sm b o e)
            have nD2x : HsAt (upd (upd H6 dx (.own x)) x (.ins c.C dx [])) D2 (hlN n) := .inl (sm _ _ (s6 _ _ (s5 _ _ hD2')))
            have T6 : ∀ {H'}, Same H6 H' → Tabs T H' := fun sx => T3.ext (((s4.trans s5).trans s6).trans sx)
            have nx0 : New0 H x := New0.back e6 (New0.of nx)
            refine ⟨x, dx, D2, Pd, St, hlN n, pt, rowL (lotsN n), it, D, p, rfl, upd_same, hpr, nD2x, by rw [hlN_len L]; omega, heightsN n hn, LTm, List.all_eq_true.mpr fun e m => ?_, ⟨sm _ _ LA.tab, by have := LA.len; omega, LA.nd, fun e m => ?_, LA.off⟩, fun e m => (LA.row e m).2.1, List.all_eq_true.mpr fun e m => ?_, fun _ htw _ H' sb FR => ?_, fun nb => ?_, fun _ nt => ?_, fun _ _ nr => ?_⟩
            · obtain ⟨i, j, e1, h2, h3⟩ := LT.key e m
              rw [e1]
              exact pair_ok L hp0 (by rw [← L.len]; exact h2) (by rw [← L.len]; exact h3)
            · obtain ⟨h1, _, j, h3, h4⟩ := LA.row e m
              refine ⟨sm _ _ h1, ?_⟩
              rw [h3, hlN_len L]
              exact (LA.good j h4).1
            · obtain ⟨_, _, j, h3, h4⟩ := LA.row e m
              rw [h3]
              exact step_ok L FA.mem O hp0 h4
            · rw [hlN_len L] at htw
              exact ⟨rfl, g1 ((tw_iff hp0 L FA.mem O).mp htw) H' x D (e6.trans (ExtN.same (sX sb))) (T6 (sX sb)) nx0 O off FR⟩
            · rw [hlN_len L] at nb
              exact absurd (br_ok L hp0) nb
            · rw [hlN_len L] at nt
              intro d H' sb nd hd
              refine g2 (fun z => nt ((tw_iff hp0 L FA.mem O).mpr z)) d H' (e6.trans (ExtN.same (sX sb))) (T6 (sX sb)) (New0.back e6 (New0.of ?_)) hd
              exact none_of_same sm nd
            · exact absurd (ru_ok L FA.mem O hp0) nr
end
end Lp
namespace Lp
open PySem L2 LamX
local macro_rules | `(tactic| walk_at "rd") => `(tactic| simp only [tSeq, tAsg, tYes, tTest, tOp, tCB, tCons, tNil, tVar, tC, rI0, rI, gName, wipe, tDisp, tTru, TruV, tB, tNext, tDGet2, tLock, tDIn, tDNotIn, tOr, tNot, tChain, tAnd, tCont, tUn, rU, tPairs, tRet, tIf, tIfS, tPar, tLst, tTup, tDrop, tDGet, tCall, sDPut, L2.start,
  List.map_cons, List.map_nil, List.foldl_cons, List.foldl_nil, List.length_cons, List.length_nil, List.replicate_succ, List.replicate_zero, List.append_nil, List.cons_append, List.nil_append, List.set_cons_zero, List.set_cons_succ, List.getElem?_cons_zero, List.getElem?_cons_succ,
  Option.some.injEq, List.cons.injEq, V.int.injEq, V.bl.injEq, V.ref.injEq, V.str.injEq, exists_eq_left', exists_eq_left, exists_eq_right, and_true, true_and, exists_and_left, Nat.add_zero, Nat.reduceAdd, Nat.reduceSub, Nat.sub_zero, if_true, if_false])
/-! ### the law's own: _law_field, _law_sign, _law_trim -/
abbrev sField : Stmt := top 47
def spField : Sp := fun vs H Q _ => ∃ (d l c : Addr), vs = [.ref d] ∧ DrawIn H d l c ∧ ∀ H' p, primeB (.int p) = true → DrawIn H' d l c → But d l H H' → Q (.int p) H'
abbrev sLSign : Stmt := top 48
abbrev sTrim : Stmt := top 49
def spTrim : Sp := fun vs H Q _ => ∃ (a : Addr) (r : Row) (p : Int), vs = [.int p, .ref a] ∧ RowAt H a r ∧ Nd r ∧ r.length < 64 ∧ 0 < p ∧
  ∀ H' q, Same H H' → H q = none → RowAt H' q (nfR p r) → Q (.ref q) H'
theorem merge_iK {r : Row} : Nd r → mergeK [] (iK r) = iK r := by
  induction r using rev_ind with
  | h0 => exact fun _ => rfl
  | h1 r q ih =>
    intro nd
    unfold Nd at nd
    rw [List.map_append, List.nodup_append] at nd
    have nh : ¬ has r q.1 := fun h => nd.2.2 _ (has_mem.mp h) q.1 (by simp) rfl
    have e : iK (r ++ [q]) = iK r ++ [(Sum.inl q.1, V.int q.2)] := by
      unfold iK
      rw [List.map_append]
      rfl
    have e2 : mergeK [] (iK r ++ [(Sum.inl q.1, V.int q.2)]) = putK (mergeK [] (iK r)) (Sum.inl q.1) (.int q.2) := by
      unfold mergeK
      rw [List.foldl_append]
      rfl
    rw [e, e2, ih nd.1, putK_iK, ← e]
    congr 1
    unfold putR
    rw [if_neg nh]
theorem paired_iK {K : PySem.W.Frag} {H : Hp} : ∀ {ts : List Addr} {r : Row}, Paired (fun t (q : Int × Int) => H t = some (.tup [.int q.1, .int q.2])) ts r → Paired (fun p (kv : Key × V) => SqT K H p [kV kv.1, kv.2]) ts (iK r)
  | _, _, .nil => .nil
  | _, _, .cons h t => .cons (SqT.of h) (paired_iK t)
section
variable {P : Program} {w : World} {K : PySem.W.Frag} {mg : Str → Option Value} {base : Heap}
theorem scField : FnScope ["draw"] ["draw"] (defScope sField) := ⟨rfl, rfl, rfl, by decide +kernel, rfl, by decide +kernel, by decide +kernel⟩
theorem ok_field {f : Addr} {fd : FuncData} (F : Fun K "_law_field" "_law_field" sField f fd) (PI' : Df P w K mg base CX0 3 "_law_pick" ["draw", "some"] spPick) : FnOk P w K mg base CX0 4 f fd ["draw"] spField := by
  refine F.ok scField (fun vs H Q E h => ?_) (fun cdv A outer s H vs Q E hr h => ?_)
  · obtain ⟨d, l, c, rfl, _⟩ := h
    rfl
  · obtain ⟨d, l, c, rfl, D, k⟩ := h
    refine ⟨_, pss_one (ps_ret (pe_df PI' hr (by rfl) pass0 (pa_cons (pv 0) (pa_cons (pe_lst (pa_cons pe_int (pa_cons pe_int (pa_cons pe_int (pa_cons pe_int (pa_cons pe_int (pa_cons pe_int (pa_cons pe_int pa_nil)))))))) pa_nil)))), ?_⟩
    refine ⟨_, rfl, by show 7 ≤ sizeLine; decide, fun p np => ?_⟩
    obtain ⟨ns, hl, _⟩ := D.ll
    refine ⟨d, l, c, p, _, rfl, D.same (same_new np), upd_same, Ne.symm (ne_of_none hl np), ⟨by decide, by decide⟩, fun H' x m D' b' => ?_⟩
    have key : ∀ y ∈ ([.int 2, .int 3, .int 5, .int 2, .int 3, .int 7, .int 31] : List V), ∃ q, y = .int q ∧ primeB (.int q) = true := by
      intro y m
      simp only [List.mem_cons, List.not_mem_nil, or_false] at m
      rcases m with rfl | rfl | rfl | rfl | rfl | rfl | rfl <;> exact ⟨_, rfl, by decide⟩
    obtain ⟨q, rfl, hq⟩ := key x m
    exact k H' q hq D' fun b o e n1 n2 => b' b o (by rw [upd_ne (ne_of_none e np)]; exact e) n1 n2
theorem scLSign : FnScope ["number"] ["number"] (defScope sLSign) := ⟨rfl, rfl, rfl, by decide +kernel, rfl, by decide +kernel, by decide +kernel⟩
theorem ok_lsign {f : Addr} {fd : FuncData} (F : Fun K "_law_sign" "_law_sign" sLSign f fd) : FnOk P w K mg base CX0 1 f fd ["number"] spSign := by
  refine F.ok scLSign (fun vs H Q E h => ?_) (fun cdv A outer s H vs Q E hr h => ?_)
  · obtain ⟨t, rfl, _⟩ := h
    rfl
  · obtain ⟨t, rfl, k⟩ := h
    refine ⟨_, pss_one (ps_ret (pe_ifExp (pt_cmpR op_eq (pe_op op_modN (pv 0) pe_int) pe_int (nomark _)) pe_int (pe_un un_neg pe_int))), ?_⟩
    refine ⟨_, rfl, t, 2, rfl, rfl, by show (2 : Int) ≠ 0; decide, rfl, _, rfl, ?_⟩
    unfold sgn at k
    by_cases e : t.fmod 2 = 0
    · rw [if_pos e] at k
      rw [show decide (V.int (t.fmod 2) = V.int 0) = true from decide_eq_true (by rw [e])]
      exact iteT k
    · rw [if_neg e] at k
      rw [show decide (V.int (t.fmod 2) = V.int 0) = false from decide_eq_false fun z => e (V.int.inj z)]
      exact iteF ⟨1, rfl, k⟩
theorem scTrim : FnScope ["field", "row", "key"] ["field", "row"] (defScope sTrim) := ⟨rfl, rfl, rfl, by decide +kernel, rfl, by decide +kernel, by decide +kernel⟩
theorem ok_trim {f : Addr} {fd : FuncData} (F : Fun K "_law_trim" "_law_trim" sTrim f fd) (mSorted : mg "sorted" = none) (mDict : mg "dict" = none) : FnOk P w K mg base CX0 1 f fd ["field", "row"] spTrim := by
  refine F.ok scTrim (fun vs H Q E h => ?_) (fun cdv A outer s H vs Q E hr h => ?_)
  · obtain ⟨a, r, p, rfl, _⟩ := h
    rfl
  · obtain ⟨a, r, p, rfl, hR, nd, z64, hp, k⟩ := h
    have hu := hu_of hr
    refine ⟨_, pss_one (ps_ret (pe_callTy (call_dictP rfl) (by rfl) mDict (by decide +kernel) (pa_cons (pe_lc (own := [("key", 2)]) (g := gName 2) rfl scTrim.nd (pi_list (pe_callB (call_sortedDI rfl) (by rfl) mSorted (by decide +kernel) (pa_cons (pv 1) pa_nil))) (blkOk_by (N := ["field", "row", "key"]) (sc := defScope sTrim) (by decide +kernel))
      (fun _ _ _ _ _ => pg_name (i := 2) scTrim.nd rfl (Or.inl rfl)) (fun _ _ _ _ _ => pts_one (pt_cmpR op_ne (pe_op op_modN (pe_dget hu (pv 1) (pv 2) (fun _ _ => rfl)) (pv 0)) pe_int (nomark _)))
      (fun _ _ _ _ _ => pe_tup (pa_cons (pv 2) (pa_cons (pe_op op_modN (pe_dget hu (pv 1) (pv 2) (fun _ _ => rfl)) (pv 0)) pa_nil)))) pa_nil))), ?_⟩
    refine ⟨_, rfl, a, iK r, r.map (·.1), rfl, .inl hR, by unfold iK; rw [List.map_map, List.map_map]; rfl, by rw [List.length_map]; exact z64, fun ys l perm asc hl => ?_⟩
    have ny : ys.Nodup := perm.nodup_iff.mpr nd
    have s1 : Same H (upd H l (.lst (ys.map V.int))) := same_new hl
    refine ⟨l, rfl, ⟨_, SqL.of upd_same⟩, fun D hD => ?_⟩
    have hDH : H D = none := none_upd hD
    have zy : ys.length < 64 := by rw [perm.length_eq, List.length_map]; exact z64
    refine lc_it walk_list (fun i H' => Same (upd H l (.lst (ys.map V.int))) H' ∧ ∃ ts : List Addr, H' D = some (.lst (ts.map V.ref)) ∧ Paired (fun t (q : Int × Int) => H' t = some (.tup [.int q.1, .int q.2])) ts (tidyL p r (ys.take i))) ⟨same_new hD, [], upd_same, .nil⟩ (fun i H' _ h => SqL.of (h.1 _ _ upd_same)) ?_ ?_
    · rintro i x H1 H' hi ⟨s2, ts, hT, hP⟩ ⟨rfl, hx⟩
      obtain ⟨y, hy, rfl⟩ := int_at hx
      have il : i < ys.length := (List.getElem?_eq_some_iff.mp hy).1
      have my : has r y := has_mem.mpr (perm.mem_iff.mp (List.mem_of_getElem? hy))
      have hR' : RowAt H' a r := s2 _ _ (s1 _ _ hR)
      show gName 2 (.int y) _ _ _
      walk_at "rd"
      refine ⟨_, get_row hR' my, _, rfl, by omega, ?_⟩
      refine ⟨rfl, _, rfl, ?_⟩
      have tk := take_snoc hy
      by_cases e : (co r y).fmod p = 0
      · rw [show (!decide (V.int ((co r y).fmod p) = V.int 0)) = false from by rw [decide_eq_true (by rw [e])]; rfl]
        rw [if_neg (by decide)]
        refine ⟨s2, ts, hT, ?_⟩
        rw [tk, tidyL_snoc, if_neg (fun z => z e)]
        exact hP
      · rw [show (!decide (V.int ((co r y).fmod p) = V.int 0)) = true from by rw [decide_eq_false fun z => e (V.int.inj z)]; rfl]
        rw [if_pos rfl]
        refine ⟨_, get_row hR' my, _, rfl, by omega, by show 2 ≤ sizeLine; decide, fun t nt => ?_⟩
        have st : Same H' (upd H' t (.tup [.int y, .int ((co r y).fmod p)])) := same_new nt
        have zt : ts.length ≤ ys.length := by
          have h1 := Paired.length hP
          have h2 := List.length_filter_le (fun y => decide ((co r y).fmod p ≠ 0)) (ys.take i)
          unfold tidyL at h1
          rw [List.length_map] at h1
          rw [List.length_take] at h2
          omega
        refine ⟨_, st _ _ hT, ?_, same_upd (s2.trans st) hD, ts ++ [t], ?_, ?_⟩
        · rw [List.length_map]
          exact small1000 (by omega)
        · rw [upd_same, List.map_append]
          rfl
        · rw [tk, tidyL_snoc, if_pos e]
          have keep : ∀ u (q : Int × Int), (upd H' t (.tup [.int y, .int ((co r y).fmod p)])) u = some (.tup [.int q.1, .int q.2]) → (upd (upd H' t (.tup [.int y, .int ((co r y).fmod p)])) D (.lst (ts.map V.ref ++ [.ref t]))) u = some (.tup [.int q.1, .int q.2]) := fun u q h => by
            rw [upd_ne (ne_of h (st _ _ hT) (fun z => nomatch z))]
            exact h
          exact Paired.imp2 keep (Paired.app (Paired.imp2 (fun u q h => st _ _ h) hP) (.cons upd_same .nil))
    · rintro H' ⟨s2, ts, hT, hP⟩
      rw [List.length_map, List.take_length] at hP
      obtain ⟨c1, c2⟩ := tidyL_spec hp perm asc nd
      have e := nfR_eq hp nd c1 c2
      rw [e] at hP c1
      refine ⟨D, ts, iK (nfR p r), rfl, SqL.of hT, ?_, fun q nq => ?_⟩
      · exact paired_iK hP
      · rw [merge_iK c1.nd]
        exact k _ q (same_upd (s1.trans s2) (none_of_same (s1.trans s2) nq)) (none_of_same (s1.trans s2) nq) upd_same
end
end Lp
namespace Lp
open PySem L2 LamX
local macro_rules | `(tactic| walk_at "rd") => `(tactic| simp only [tSeq, tAsg, tYes, tTest, tOp, tCB, tCons, tNil, tVar, tC, rI0, rI, gName, wipe, tDisp, tTru, TruV, tB, tNext, tDGet2, tLock, tDIn, tDNotIn, tOr, tNot, tChain, tAnd, tCont, tUn, rU, tPairs, tRet, tIf, tIfS, tPar, tLst, tTup, tDrop, tDGet, tCall, sDPut, L2.start,
  List.map_cons, List.map_nil, List.foldl_cons, List.foldl_nil, List.length_cons, List.length_nil, List.replicate_succ, List.replicate_zero, List.append_nil, List.cons_append, List.nil_append, List.set_cons_zero, List.set_cons_succ, List.getElem?_cons_zero, List.getElem?_cons_succ,
  Option.some.injEq, List.cons.injEq, V.int.injEq, V.bl.injEq, V.ref.injEq, V.str.injEq, exists_eq_left', exists_eq_left, exists_eq_right, and_true, true_and, exists_and_left, Nat.add_zero, Nat.reduceAdd, Nat.reduceSub, Nat.sub_zero, if_true, if_false])
/-! ### _law_sum -/
/-- numbers and rows, as pairs -/
def partsS (ps : List (Int × Row)) (j : Int) : Int := (ps.map fun e => e.1 * co e.2 j).sum
theorem partsS_snoc (ps : List (Int × Row)) (e : Int × Row) (j : Int) : partsS (ps ++ [e]) j = partsS ps j + e.1 * co e.2 j := by simp [partsS]
def partsR (ps : List (Int × Row)) : Row := ps.foldl (fun t e => addR t e.2 e.1) []
theorem partsR_snoc (ps : List (Int × Row)) (e : Int × Row) : partsR (ps ++ [e]) = addR (partsR ps) e.2 e.1 := by
  unfold partsR
  rw [List.foldl_append]
  rfl
theorem partsR_ok {N : Int} : ∀ {ps : List (Int × Row)}, (∀ e ∈ ps, Nd e.2 ∧ Bel N e.2) → Nd (partsR ps) ∧ Bel N (partsR ps) ∧ ∀ j, co (partsR ps) j = partsS ps j := by
  intro ps
  induction ps using rev_ind with
  | h0 => exact fun _ => ⟨List.nodup_nil, fun q m => (nomatch m), fun j => rfl⟩
  | h1 ps e ih =>
    intro h
    obtain ⟨h1, h2, h3⟩ := ih fun q m => h q (List.mem_append_left _ m)
    obtain ⟨g1, g2⟩ := h e (List.mem_append_right _ List.mem_cons_self)
    rw [partsR_snoc]
    exact ⟨nd_addR h1, bel_addR h2 g2, fun j => by rw [co_addR g1, h3, partsS_snoc]⟩
def PartAt (H : Hp) (N : Nat) (t : Addr) (e : Int × Row) : Prop := ∃ a, H t = some (.tup [.int e.1, .ref a]) ∧ RowAt H a e.2 ∧ Nd e.2 ∧ Bel N e.2 ∧ (-(2 ^ 64) < e.1 ∧ e.1 < 2 ^ 64)
theorem PartAt.same {H H' : Hp} {N : Nat} {t : Addr} {e : Int × Row} (h : PartAt H N t e) (s : Same H H') : PartAt H' N t e := by
  obtain ⟨a, h1, h2, h3⟩ := h
  exact ⟨a, s _ _ h1, s _ _ h2, h3⟩
abbrev sLSum : Stmt := top 50
def spLSum : Sp := fun vs H Q _ => ∃ (l : Addr) (p : Int) (N : Nat) (ts : List Addr) (ps : List (Int × Row)), vs = [.int p, .ref l] ∧ H l = some (.lst (ts.map V.ref)) ∧ Paired (PartAt H N) ts ps ∧ N ≤ 60 ∧ 0 < p ∧
  ∀ H' q r', Same H H' → H q = none → RowAt H' q r' → Canon p r' → (∀ j, co r' j = (partsS ps j).fmod p) → Q (.ref q) H'
section
variable {P : Program} {w : World} {K : PySem.W.Frag} {mg : Str → Option Value} {base : Heap}
theorem scLSum : FnScope ["field", "parts", "found", "number", "row", "key"] ["field", "parts"] (defScope sLSum) := ⟨rfl, rfl, rfl, by decide +kernel, rfl, by decide +kernel, by decide +kernel⟩
theorem ok_lsum {f : Addr} {fd : FuncData} (F : Fun K "_law_sum" "_law_sum" sLSum f fd) (TR : Df P w K mg base CX0 1 "_law_trim" ["field", "row"] spTrim) : FnOk P w K mg base CX0 2 f fd ["field", "parts"] spLSum := by
  refine F.ok scLSum (fun vs H Q E h => ?_) (fun cdv A outer s H vs Q E hr h => ?_)
  · obtain ⟨l, p, N, ts, ps, rfl, _⟩ := h
    rfl
  · obtain ⟨l, p, N, ts, ps, rfl, hl, hP, hN, hp, k⟩ := h
    have hu := hu_of hr
    refine ⟨_, pss_cons (ps_set (i := 2) scLSum.nd rfl (Or.inl rfl) pe_dnewK)
      (pss_cons (ps_for PassesOwn.never rfl (pi_list (pv 1)) (pg_tup rfl (pgs_cons (pg_name (i := 3) scLSum.nd rfl (Or.inl rfl)) (pgs_cons (pg_name (i := 4) scLSum.nd rfl (Or.inl rfl)) pgs_nil)))
        (pss_one (ps_lock (ps_for PassesOwn.never rfl (pi_keys (pv 4)) (pg_name (i := 5) scLSum.nd rfl (Or.inl rfl))
          (pss_one (ps_dput hu (pv 2) (pv 5) (pe_op op_add (pe_dget2 hu (pv 2) (pv 5) pe_int ⟨rfl, rfl, rfl, rfl⟩) (pe_op op_mul (pv 3) (pe_dget hu (pv 4) (pv 5) (fun _ _ => rfl)))) rfl))))))
      (pss_one (ps_ret (pe_df TR hr (by rfl) pass0 (pa_cons (pv 0) (pa_cons (pv 2) pa_nil)))))), ?_⟩
    intro T hT
    have up0 : ∀ b o, H b = some o → upd H T (.dK []) b = some o := fun b o e => by
      rw [upd_ne (ne_of_none e hT)]
      exact e
    have nlT : l ≠ T := ne_of_none hl hT
    have okp : ∀ i, ∀ e ∈ ps.take i, Nd e.2 ∧ Bel (N : Int) e.2 := fun i e m => by
      obtain ⟨j, hj⟩ := List.mem_iff_getElem?.mp (List.mem_of_mem_take m)
      have : ∃ t, PartAt H N t e := by
        have lz := Paired.length hP
        have lj := (List.getElem?_eq_some_iff.mp hj).1
        obtain ⟨x, hx⟩ : ∃ x, ts[j]? = some x := ⟨_, List.getElem?_eq_getElem (by omega)⟩
        obtain ⟨e', he', h⟩ := Paired.fst hP hx
        rw [hj] at he'
        cases he'
        exact ⟨x, h⟩
      obtain ⟨t, a, _, _, h3, h4, _⟩ := this
      exact ⟨h3, h4⟩
    refine ⟨_, rfl, l, rfl, ⟨_, SqL.of (up0 _ _ hl)⟩, for_list (K := K) (a := l) (xs := ts.map V.ref) (fun i σ H' => ∃ v3 v4 v5, σ = [some (.int p), some (.ref l), some (.ref T), v3, v4, v5] ∧ SameBut T H H' ∧ RowAt H' T (partsR (ps.take i))) ?_ ?_ ?_ ?_⟩
    · exact ⟨none, none, none, rfl, (SameBut.refl _ _).at, upd_same⟩
    · rintro i σ H' _ ⟨_, _, _, _, sb, _⟩
      exact SqL.of (sb _ _ nlT hl)
    · rintro i x σ H1 hi ⟨v3, v4, v5, rfl, sb, hT1⟩
      rw [List.getElem?_map] at hi
      cases ey : ts[i]? with
      | none => rw [ey] at hi; cases hi
      | some t =>
        rw [ey] at hi
        cases hi
        obtain ⟨e, ee, R, ht, hR, ndR, blR, hc⟩ := Paired.fst hP ey
        have up1 : ∀ {b o}, H b = some o → H1 b = some o := fun {b o} h => sb _ _ (ne_of_none h hT) h
        refine ⟨t, _, rfl, SqT.of (up1 ht), rfl, _, _, rfl, ?_⟩
        show gName 3 (.int e.1) _ _ _
        refine ⟨_, _, rfl, ?_⟩
        show gName 4 (.ref R) _ _ _
        refine ⟨rfl, ?_⟩
        have hR1 : RowAt H1 R e.2 := up1 hR
        have nRT : R ≠ T := ne_of_none (show H R = some _ from hR) hT
        refine ⟨R, _, hR1, trivial, fun od => ⟨_, rfl, R, od, rfl, .inl ⟨_, upd_same, ?_⟩⟩⟩
        refine for_it walk_keys (fun j σ H' => ∃ v5, σ = [some (.int p), some (.ref l), some (.ref T), some (.int e.1), some (.ref R), v5] ∧ (∀ b, b ≠ T → H' b = upd H1 R (.frz od (.dK (iK e.2))) b) ∧ RowAt H' T (addR (partsR (ps.take i)) (e.2.take j) e.1)) ?_ ?_ ?_ ?_
        · exact ⟨v5, rfl, fun _ _ => rfl, by unfold RowAt; rw [upd_ne (Ne.symm nRT)]; exact hT1⟩
        · rintro j σ H' _ ⟨v5, rfl, hb, hT'⟩
          rw [hb R nRT]
          exact upd_same
        · rintro j x σ H' H3 hj ⟨v5, rfl, hb, hT'⟩ ⟨rfl, kk, vv, hx, rfl⟩
          obtain ⟨q, hq, rfl, rfl⟩ := iK_at hx
          have hF : RowF H3 R od e.2 := by
            unfold RowF
            rw [hb R nRT]
            exact upd_same
          have mq : q ∈ e.2 := List.mem_of_getElem? hq
          have gq := get_rowF hF ⟨q, mq, rfl⟩
          rw [co_mem ndR mq] at gq
          have tk := take_snoc hq
          obtain ⟨p1, p2, _⟩ := partsR_ok (okp i)
          have blq : Bel (N : Int) (e.2.take j) := fun y m => blR y (List.mem_of_mem_take m)
          have za := row_len (nd_addR (r := e.2.take j) (c := e.1) p1) (bel_addR p2 blq)
          have e0 : (if has (addR (partsR (ps.take i)) (e.2.take j) e.1) q.1 then some (V.int (co (addR (partsR (ps.take i)) (e.2.take j) e.1) q.1)) else none).getD (.int 0) = .int (co (addR (partsR (ps.take i)) (e.2.take j) e.1) q.1) := by
            by_cases m : has (addR (partsR (ps.take i)) (e.2.take j) e.1) q.1
            · rw [if_pos m]; rfl
            · rw [if_neg m, co_none m]; rfl
          show gName 5 (.int q.1) _ _ _
          walk_at "rd"
          refine ⟨.inl ⟨_, .inl hT'⟩, _, look_row hT', _, gq, ?_⟩
          rw [e0]
          refine ⟨_, rfl, .inl hc, _, rfl, _, put_row hT' (small1000 (by omega)), fun b hn => ?_, ?_⟩
          · rw [upd_ne hn]
            exact hb b hn
          · rw [tk, addR_snoc]
            exact upd_same
        · rintro σ H' ⟨v5, rfl, hb, hT'⟩
          have zl : (iK e.2).length = e.2.length := by unfold iK; rw [List.length_map]
          rw [zl, List.take_length] at hT'
          refine ⟨by rw [hb R nRT]; exact upd_same, _, _, _, rfl, fun b o n h => ?_, ?_⟩
          · by_cases eb : b = R
            · subst eb
              rw [upd_same, ← h]
              exact (show H b = _ from hR).symm
            · rw [upd_ne eb, hb b n, upd_ne eb]
              exact up1 h
          · unfold RowAt
            rw [upd_ne (Ne.symm nRT), take_snoc ee, partsR_snoc]
            exact hT'
    · rintro σ H' ⟨v3, v4, v5, rfl, sb, hT'⟩
      rw [List.length_map, Paired.length hP, List.take_length] at hT'
      obtain ⟨p1, p2, p3⟩ := partsR_ok (ps := ps) (N := N) (by have := okp ps.length; rwa [List.take_length] at this)
      have z := row_len p1 p2
      refine ⟨_, rfl, _, rfl, T, _, p, rfl, hT', p1, by omega, hp, fun H2 q s2 nq hq => ?_⟩
      obtain ⟨c1, c2⟩ := nfR_spec hp p1
      have nqT : q ≠ T := Ne.symm (ne_of_none (show H' T = some _ from hT') nq)
      refine k H2 q _ (fun b o e => s2 _ _ (sb b o (ne_of_none e hT) e)) (sb.none nqT nq) hq c1 fun j => by rw [c2, p3]
end
end Lp
namespace Lp
open PySem L2 LamX
local macro_rules | `(tactic| walk_at "rd") => `(tactic| simp only [tSeq, tAsg, tYes, tTest, tOp, tCB, tCons, tNil, tVar, tC, rI0, rI, gName, wipe, tDisp, tTru, TruV, tB, tNext, tDGet2, tLock, tDIn, tDNotIn, tOr, tNot, tChain, tAnd, tCont, tUn, rU, tPairs, tRet, tIf, tIfS, tPar, tLst, tTup, tDrop, tDGet, tCall, sDPut, L2.start,
  List.map_cons, List.map_nil, List.foldl_cons, List.foldl_nil, List.length_cons, List.length_nil, List.replicate_succ, List.replicate_zero, List.append_nil, List.cons_append, List.nil_append, List.set_cons_zero, List.set_cons_succ, List.getElem?_cons_zero, List.getElem?_cons_succ,
  Option.some.injEq, List.cons.injEq, V.int.injEq, V.bl.injEq, V.ref.injEq, V.str.injEq, exists_eq_left', exists_eq_left, exists_eq_right, and_true, true_and, exists_and_left, Nat.add_zero, Nat.reduceAdd, Nat.reduceSub, Nat.sub_zero, if_true, if_false])
/-! ### d != {} -/
def rNeE : R2 := fun x y H Q => ∃ a b ks, x = .ref a ∧ y = .ref b ∧ H a = some (.dK ks) ∧ H b = some (.dK []) ∧ Q (.bl (!ks.isEmpty)) H
theorem op_neE {X : Cx} (hu : X.A.units < cLine) : OpR X (compareOp .NotEq) rNeE := by
  intro pins s σ H x y v u Q I rx ry h
  obtain ⟨a, b, ks, rfl, rfl, ea, eb, q⟩ := h
  obtain rfl : v = Value.ref a := rx
  obtain rfl : u = Value.ref b := ry
  obtain ⟨_, ya, va, ra, da⟩ := (show ObjOk X.prog X.w H s.heap a (.dK ks) from I.hok a _ ea)
  obtain ⟨_, yb, vb, rb, db⟩ := (show ObjOk X.prog X.w H s.heap b (.dK []) from I.hok b _ eb)
  have la : ks.length = va.length := ra.length
  have lb : vb.length = 0 := by rw [← rb.length]; rfl
  have hvb : vb = [] := List.length_eq_zero_iff.mp lb
  subst hvb
  refine PySem.W.keq_ne (knd := mixKind X.prog X.w) (r := true) ya yb da db hu (fun e => ?_) (fin_bl I q ?_)
  · have : va = [] := List.length_eq_zero_iff.mp e
    subst this
    exact .nil
  · cases ks with
    | nil =>
      have : va = [] := List.length_eq_zero_iff.mp la.symm
      subst this
      rfl
    | cons k ks =>
      cases va with
      | nil => cases la
      | cons v va => rfl
/-! ### sketches: _law_step -/
def skKv (p : Int) (h P S : Addr) : List (Key × V) := [(.inr "prime", .int p), (.inr "heights", .ref h), (.inr "product", .ref P), (.inr "step", .ref S)]
theorem sk_prime {H : Hp} {k h P S : Addr} {p : Int} (e : H k = some (.dK (skKv p h P S))) : DGet H k (.str "prime") (some (.int p)) := DGet.k (k := .inr "prime") e
theorem sk_heights {H : Hp} {k h P S : Addr} {p : Int} (e : H k = some (.dK (skKv p h P S))) : DGet H k (.str "heights") (some (.ref h)) := DGet.k (k := .inr "heights") e
theorem sk_product {H : Hp} {k h P S : Addr} {p : Int} (e : H k = some (.dK (skKv p h P S))) : DGet H k (.str "product") (some (.ref P)) := DGet.k (k := .inr "product") e
theorem sk_step {H : Hp} {k h P S : Addr} {p : Int} (e : H k = some (.dK (skKv p h P S))) : DGet H k (.str "step") (some (.ref S)) := DGet.k (k := .inr "step") e
/-- a sketch's steps, walked just now or not -/
structure StAt (H : Hp) (St : Addr) (it : ITab) (D : Int → Row) (p : Int) (N : Nat) : Prop where
  tab : Rd H St (.dK (iT it))
  row : ∀ e ∈ it, RowAt H e.2 (D e.1)
  can : ∀ k, Canon p (D k) ∧ Bel N (D k)
  off : ∀ k, (∀ e ∈ it, e.1 ≠ k) → D k = []
theorem StAt.same {H H' : Hp} {St : Addr} {it : ITab} {D : Int → Row} {p : Int} {N : Nat} (t : StAt H St it D p N) (s : Same H H') : StAt H' St it D p N :=
  ⟨t.tab.imp (s _ _) fun ⟨o, h⟩ => ⟨o, s _ _ h⟩, fun e m => s _ _ (t.row e m), t.can, t.off⟩
theorem StAt.get {H : Hp} {St : Addr} {it : ITab} {D : Int → Row} {p : Int} {N : Nat} (t : StAt H St it D p N) (a : Int) : DGet H St (.int a) ((lkI it a).map V.ref) :=
  .inl ⟨iT it, Sum.inl a, t.tab, rfl, by rw [valV_iT]⟩
abbrev sLStep : Stmt := top 51
def spLStep : Sp := fun vs H Q _ => ∃ (sk rw h P' St : Addr) (it : ITab) (D : Int → Row) (r : Row) (p : Int) (N : Nat), vs = [.ref sk, .ref rw] ∧ H sk = some (.dK (skKv p h P' St)) ∧ StAt H St it D p N ∧ N ≤ 60 ∧ (0 < p ∧ p ≤ 31) ∧ RowAt H rw r ∧ Canon p r ∧ Bel N r ∧
  ∀ H' q r', Same H H' → H q = none → RowAt H' q r' → Canon p r' → (∀ j, co r' j = (sumW r fun k => co (D k) j).fmod p) → Q (.ref q) H'
theorem sumW_parts (r : Row) (D : Int → Row) (j : Int) : partsS (r.map fun q => (q.2, D q.1)) j = sumW r fun k => co (D k) j := by
  unfold partsS sumW
  rw [List.map_map]
  rfl
theorem back_same {H G H' : Hp} {d : Addr} {u : HO} (hd : H d = some u) (gO : ∀ b o, b ≠ d → H b = some o → G b = some o) (s : Same G H') : Same H (upd H' d u) := fun b o e => by
  by_cases eb : b = d
  · subst eb
    rw [upd_same, ← e]
    exact hd.symm
  · rw [upd_ne eb]
    exact s _ _ (gO _ _ eb e)
section
variable {P : Program} {w : World} {K : PySem.W.Frag} {mg : Str → Option Value} {base : Heap}
theorem scLStep : FnScope ["sketch", "row", "a"] ["sketch", "row"] (defScope sLStep) := ⟨rfl, rfl, rfl, by decide +kernel, rfl, by decide +kernel, by decide +kernel⟩
theorem ok_lstep {f : Addr} {fd : FuncData} (F : Fun K "_law_step" "_law_step" sLStep f fd) (SU : Df P w K mg base CX0 2 "_law_sum" ["field", "parts"] spLSum) : FnOk P w K mg base CX0 3 f fd ["sketch", "row"] spLStep := by
  refine F.ok scLStep (fun vs H Q E h => ?_) (fun cdv A outer s H vs Q E hr h => ?_)
  · obtain ⟨sk, rw', h', P', St, it, D, r, p, N, rfl, _⟩ := h
    rfl
  · obtain ⟨sk, rw', h', P', St, it, D, r, p, N, rfl, hsk, T, hN, ⟨hp, hp31⟩, hR, cR, bR, k⟩ := h
    have hu := hu_of hr
    refine ⟨_, pss_one (ps_ret (pe_df SU hr (by rfl) pass0 (pa_cons (pe_dget hu (pv 0) pe_str (fun _ _ => rfl)) (pa_cons (pe_lock (pe_lc (own := [("a", 2)]) (g := gName 2) (tt := tYes) rfl scLStep.nd (pi_keys (pv 1)) (blkOk_by (N := ["sketch", "row", "a"]) (sc := defScope sLStep) (by decide +kernel))
      (fun _ _ _ _ _ => pg_name (i := 2) scLStep.nd rfl (Or.inl rfl)) (fun _ _ _ _ _ => pts_nil)
      (fun _ _ _ _ _ => pe_tup (pa_cons (pe_dget hu (pv 1) (pv 2) (fun _ _ => rfl)) (pa_cons (pe_dget2 hu (pe_dget hu (pv 0) pe_str (fun _ _ => rfl)) (pv 2) pe_dnewK ⟨rfl, rfl, rfl, rfl⟩) pa_nil))))) pa_nil)))), ?_⟩
    have nsr : sk ≠ rw' := fun e => by
      have := hsk.symm.trans (e ▸ (show H rw' = _ from hR))
      have h2 := HO.dK.inj (Option.some.inj this)
      cases r with
      | nil => cases h2
      | cons q r =>
        have h3 := congrArg (fun l : List (Key × V) => l.head?.map (·.1)) h2
        cases h3
    refine ⟨_, rfl, sk, _, rfl, sk_prime hsk, rw', _, hR, trivial, fun od => ?_⟩
    generalize eG : upd H rw' (.frz od (.dK (iK r))) = G
    have gR : G rw' = some (.frz od (.dK (iK r))) := by rw [← eG]; exact upd_same
    have gO : ∀ b o, b ≠ rw' → H b = some o → G b = some o := fun b o nb e => by
      rw [← eG, upd_ne nb]
      exact e
    refine ⟨_, rfl, rw', od, rfl, .inl ⟨_, gR, fun L hL => ?_⟩⟩
    have hskG := gO _ _ nsr hsk
    -- the steps' dict may be the row's own place only if it is walked: it is not, the row is plain
    have getG : ∀ {H'}, Same G H' → ∀ a, DGet H' St (.int a) ((lkI it a).map V.ref) := fun {H'} s a => by
      by_cases e : St = rw'
      · have e2 : iT it = iK r := by
          rcases T.tab with z | ⟨o, z⟩
          · rw [e, show H rw' = _ from hR] at z
            exact (HO.dK.inj (Option.some.inj z)).symm
          · rw [e, show H rw' = _ from hR] at z
            cases z
        exact .inl ⟨iT it, Sum.inl a, .inr ⟨od, by rw [e, e2]; exact s _ _ gR⟩, rfl, by rw [valV_iT]⟩
      · rcases T.tab with z | ⟨o, z⟩
        · exact .inl ⟨iT it, Sum.inl a, .inl (s _ _ (gO _ _ e z)), rfl, by rw [valV_iT]⟩
        · exact .inl ⟨iT it, Sum.inl a, .inr ⟨o, s _ _ (gO _ _ e z)⟩, rfl, by rw [valV_iT]⟩
    have isG : ∀ {H'}, Same G H' → IsD H' St := fun {H'} s => by
      rcases getG s 0 with ⟨kvs, _, h, _⟩ | ⟨kvs, _, _, h, _⟩
      · exact .inl ⟨_, h⟩
      · exact .inr ⟨_, h⟩
    refine lc_it walk_keys (fun i H' => Same G H' ∧ ∃ ts : List Addr, H' L = some (.lst (ts.map V.ref)) ∧ Paired (fun t (q : Int × Int) => ∃ b, H' t = some (.tup [.int q.2, .ref b]) ∧ (lkI it q.1 = some b ∨ (lkI it q.1 = none ∧ H' b = some (.dK [])))) ts (r.take i)) ⟨same_new hL, [], upd_same, .nil⟩ (fun i H' _ h => h.1 _ _ gR) ?_ ?_
    · rintro i x H1 H' hi ⟨s1, ts, hT, hP⟩ ⟨rfl, kk, vv, hx, rfl⟩
      obtain ⟨q, hq, rfl, rfl⟩ := iK_at hx
      have mq : q ∈ r := List.mem_of_getElem? hq
      have gq := get_rowF (show RowF H' rw' od r from s1 _ _ gR) ⟨q, mq, rfl⟩
      rw [co_mem cR.nd mq] at gq
      show gName 2 (.int q.1) _ _ _
      walk_at "rd"
      refine ⟨_, gq, _, sk_step (s1 _ _ hskG), St, rfl, isG s1, fun e ne => ?_⟩
      have se : Same H' (upd H' e (.dK [])) := same_new ne
      generalize eE : upd H' e (.dK []) = He at se
      have hee : He e = some (.dK []) := by rw [← eE]; exact upd_same
      refine ⟨_, getG (s1.trans se) q.1, by show 2 ≤ sizeLine; decide, fun t nt => ?_⟩
      obtain ⟨b, eb, hb⟩ : ∃ b, ((lkI it q.1).map V.ref).getD (.ref e) = .ref b ∧ (lkI it q.1 = some b ∨ (lkI it q.1 = none ∧ He b = some (.dK []))) := by
        cases lkI it q.1 with
        | some b => exact ⟨b, rfl, .inl rfl⟩
        | none => exact ⟨e, rfl, .inr ⟨rfl, hee⟩⟩
      rw [eb]
      have st : Same He (upd He t (.tup [.int q.2, .ref b])) := same_new nt
      have s3 := (s1.trans se).trans st
      have hL3 := st _ _ (se _ _ hT)
      have zt : ts.length ≤ N := by
        have h1 := Paired.length hP
        rw [List.length_take] at h1
        have := row_len cR.nd bR
        omega
      have keep : ∀ {v : Addr} {o : HO}, (upd He t (.tup [.int q.2, .ref b])) v = some o → (∀ xs, o ≠ .lst xs) → upd (upd He t (.tup [.int q.2, .ref b])) L (.lst (ts.map V.ref ++ [.ref t])) v = some o := fun {v o} h n => by
        rw [upd_ne (ne_of h hL3 (fun z => n _ z))]
        exact h
      refine ⟨_, hL3, ?_, same_upd s3 hL, ts ++ [t], ?_, ?_⟩
      · rw [List.length_map]
        exact small1000 (by omega)
      · rw [upd_same, List.map_append]
        rfl
      · rw [take_snoc hq]
        refine Paired.app (Paired.imp2 (fun u q' h => ?_) hP) (.cons ⟨b, keep upd_same (fun _ z => nomatch z), hb.imp id fun h => ⟨h.1, keep (st _ _ h.2) (fun _ z => nomatch z)⟩⟩ .nil)
        obtain ⟨b', h1, h2⟩ := h
        exact ⟨b', keep (st _ _ (se _ _ h1)) (fun _ z => nomatch z), h2.imp id fun h => ⟨h.1, keep (st _ _ (se _ _ h.2)) (fun _ z => nomatch z)⟩⟩
    · rintro H' ⟨s1, ts, hT, hP⟩
      have zl : (iK r).length = r.length := by unfold iK; rw [List.length_map]
      rw [zl, List.take_length] at hP
      refine ⟨s1 _ _ gR, ?_⟩
      have sU : Same H (upd H' rw' (.dK (iK r))) := back_same hR gO s1
      have nLr : L ≠ rw' := Ne.symm (ne_of_none gR hL)
      have hLH : H L = none := by
        cases e : H L with
        | none => rfl
        | some o => rw [gO _ _ nLr e] at hL; cases hL
      have hLU : (upd H' rw' (.dK (iK r))) L = some (.lst (ts.map V.ref)) := by
        rw [upd_ne nLr]
        exact hT
      have keep : ∀ {v : Addr} {o : HO}, H' v = some o → (∀ od u, o ≠ .frz od u) → (upd H' rw' (.dK (iK r))) v = some o := fun {v o} h n => by
        rw [upd_ne (ne_of h (s1 _ _ gR) (fun z => n _ _ z))]
        exact h
      have hP2 : Paired (PartAt (upd H' rw' (.dK (iK r))) N) ts (r.map fun q => (q.2, D q.1)) := by
        have key : ∀ (ts : List Addr) (r' : Row), (∀ q ∈ r', q ∈ r) → Paired (fun t (q : Int × Int) => ∃ b, H' t = some (.tup [.int q.2, .ref b]) ∧ (lkI it q.1 = some b ∨ (lkI it q.1 = none ∧ H' b = some (.dK [])))) ts r' → Paired (PartAt (upd H' rw' (.dK (iK r))) N) ts (r'.map fun q => (q.2, D q.1)) := by
          intro ts r' hm p
          induction p with
          | nil => exact .nil
          | @cons t q ts' r'' h _ ih =>
            refine .cons ?_ (ih fun q' m => hm q' (List.mem_cons_of_mem _ m))
            obtain ⟨b, h1, h2⟩ := h
            have num := cR.num q (hm q List.mem_cons_self)
            refine ⟨b, keep h1 (fun _ _ z => nomatch z), ?_, (T.can q.1).1.nd, (T.can q.1).2, by show -(2 ^ 64) < q.2; omega, by show q.2 < 2 ^ 64; omega⟩
            rcases h2 with h2 | ⟨h2, h3⟩
            · exact sU _ _ (T.row _ (lkI_some h2))
            · show RowAt _ b (D q.1)
              rw [T.off _ (lkI_none h2)]
              exact keep h3 (fun _ _ z => nomatch z)
        exact key ts r (fun _ m => m) hP
      refine ⟨L, p, N, ts, _, rfl, hLU, hP2, hN, hp, fun H2 q r' s2 nq hq c2 v2 => ?_⟩
      exact k H2 q r' (sU.trans s2) (none_of_same sU nq) hq c2 fun j => by rw [v2, sumW_parts]
end
end Lp
namespace Lp
open PySem L2 LamX
local macro_rules | `(tactic| walk_at "rd") => `(tactic| simp only [tSeq, tAsg, tYes, tTest, tOp, tCB, tCons, tNil, tVar, tC, rI0, rI, gName, wipe, tDisp, tTru, TruV, tB, tNext, tDGet2, tLock, tDIn, tDNotIn, tOr, tNot, tChain, tAnd, tCont, tUn, rU, tPairs, tRet, tIf, tIfS, tPar, tLst, tTup, tDrop, tDGet, tCall, sDPut, L2.start,
  List.map_cons, List.map_nil, List.foldl_cons, List.foldl_nil, List.length_cons, List.length_nil, List.replicate_succ, List.replicate_zero, List.append_nil, List.cons_append, List.nil_append, List.set_cons_zero, List.set_cons_succ, List.getElem?_cons_zero, List.getElem?_cons_succ,
  Option.some.injEq, List.cons.injEq, V.int.injEq, V.bl.injEq, V.ref.injEq, V.str.injEq, exists_eq_left', exists_eq_left, exists_eq_right, and_true, true_and, exists_and_left, Nat.add_zero, Nat.reduceAdd, Nat.reduceSub, Nat.sub_zero, if_true, if_false])
abbrev sTwice : Stmt := top 57
def spTwice : Sp := fun vs H Q _ => ∃ (sk h P' St : Addr) (it : ITab) (D : Int → Row) (p : Int) (N : Nat), vs = [.ref sk] ∧ H sk = some (.dK (skKv p h P' St)) ∧ ITabOk H St it D p ∧ (∀ k, Bel N (D k)) ∧ N ≤ 60 ∧ (it.length ≤ 60 ∧ ∀ e ∈ it, 0 ≤ e.1 ∧ e.1 < (N : Int)) ∧ (0 < p ∧ p ≤ 31) ∧
  ∀ H' b, Same H H' → (b = true ↔ TwOk D p N) → Q (.bl b) H'
theorem eqv_nil (ns : List Int) : PyData.eqv (.list (ns.map PyData.int)) (.list []) = ns.isEmpty := by
  rw [PyData.eqv]
  cases ns with
  | nil => rfl
  | cons a ns => rfl
theorem iT_iK {it : ITab} {r : Row} {e : Int × Addr} (m : e ∈ it) : iT it ≠ iK r := fun z => by
  cases it with
  | nil => cases m
  | cons q it =>
    cases r with
    | nil => cases z
    | cons p r =>
      have h := (Prod.mk.inj (List.cons.inj z).1).2
      cases h
theorem iT_at {it : ITab} {i : Nat} {k : Key} {v : V} (h : (iT it)[i]? = some (k, v)) : ∃ e, it[i]? = some e ∧ k = Sum.inl e.1 ∧ v = .ref e.2 := by
  unfold iT at h
  rw [List.getElem?_map] at h
  cases e : it[i]? with
  | none => rw [e] at h; cases h
  | some q => rw [e] at h; cases h; exact ⟨q, rfl, rfl, rfl⟩
section
variable {P : Program} {w : World} {K : PySem.W.Frag} {mg : Str → Option Value} {base : Heap}
theorem scTwice : FnScope ["sketch", "a"] ["sketch"] (defScope sTwice) := ⟨rfl, rfl, rfl, by decide +kernel, rfl, by decide +kernel, by decide +kernel⟩
theorem ok_twice {f : Addr} {fd : FuncData} (F : Fun K "_law_is_twice_nothing" "_law_is_twice_nothing" sTwice f fd) (ST : Df P w K mg base CX0 3 "_law_step" ["sketch", "row"] spLStep) : FnOk P w K mg base CX0 4 f fd ["sketch"] spTwice := by
  refine F.ok scTwice (fun vs H Q E h => ?_) (fun cdv A outer s H vs Q E hr h => ?_)
  · obtain ⟨sk, h', P', St, it, D, p, N, rfl, _⟩ := h
    rfl
  · obtain ⟨sk, h', P', St, it, D, p, N, rfl, hsk, T, bl, hN, ⟨zi, rng⟩, ⟨hp, hp31⟩, k⟩ := h
    have hu := hu_of hr
    have hu2 : (A.deeper (PyProof.Rows.envOfC "_law_is_twice_nothing" (defScope sTwice) s.heap.objs.size f cdv)).units < cLine := by omega
    refine ⟨_, pss_one (ps_ret (pe_cmpR (op_eqD hr.units) (pe_lock (pe_lc (own := [("a", 1)]) (g := gName 1) rfl scTwice.nd (pi_keys (pe_dget hu (pv 0) pe_str (fun _ _ => rfl))) (blkOk_by (N := ["sketch", "a"]) (sc := defScope sTwice) (by decide +kernel))
      (fun _ _ _ _ _ => pg_name (i := 1) scTwice.nd rfl (Or.inl rfl)) (fun _ _ _ _ _ => pts_one (pt_cmpR (op_neE hu2) (pe_df ST hr (by rfl) pass0 (pa_cons (pv 0) (pa_cons (pe_dget hu (pe_dget hu (pv 0) pe_str (fun _ _ => rfl)) (pv 1) (fun _ _ => rfl)) pa_nil))) pe_dnewK (nomark _)))
      (fun _ _ _ _ _ => pe_int))) (pe_lst pa_nil) (nomark _))), ?_⟩
    have nsS : sk ≠ St := fun e => by
      have h2 := HO.dK.inj (Option.some.inj (hsk.symm.trans (e ▸ T.tab)))
      cases it with
      | nil => cases h2
      | cons q it =>
        have h3 := congrArg (fun l : List (Key × V) => l.head?.map (·.1)) h2
        cases h3
    refine ⟨St, _, T.tab, trivial, fun od => ?_⟩
    generalize eG : upd H St (.frz od (.dK (iT it))) = G
    have gS : G St = some (.frz od (.dK (iT it))) := by rw [← eG]; exact upd_same
    have gO : ∀ b o, b ≠ St → H b = some o → G b = some o := fun b o nb e => by
      rw [← eG, upd_ne nb]
      exact e
    have hskG := gO _ _ nsS hsk
    have TG : ∀ {H'}, Same G H' → StAt H' St it D p N := fun {H'} s => ⟨.inr ⟨od, s _ _ gS⟩, fun e m => s _ _ (gO _ _ (fun z => iT_iK m (HO.dK.inj (Option.some.inj ((show H St = _ from T.tab).symm.trans (z ▸ (T.row e m).1))))) (T.row e m).1), fun k => ⟨T.can k, bl k⟩, T.off⟩
    refine ⟨_, rfl, sk, _, rfl, sk_step hskG, St, od, rfl, .inl ⟨_, gS, fun L hL => ?_⟩⟩
    refine lc_it walk_keys (fun i H' => Same G H' ∧ ∃ u : Nat, u ≤ i ∧ H' L = some (.lst ((List.replicate u (1 : Int)).map V.int)) ∧ (u = 0 ↔ ∀ e ∈ it.take i, ∀ j, (sumW (D e.1) fun k => co (D k) j).fmod p = 0)) ⟨same_new hL, 0, Nat.le_refl _, upd_same, ⟨fun _ e m => (nomatch m), fun _ => rfl⟩⟩ (fun i H' _ h => h.1 _ _ gS) ?_ ?_
    · rintro i x H1 H' hi ⟨s1, u, zu, hT, hu0⟩ ⟨rfl, kk, vv, hx, rfl⟩
      obtain ⟨e, he, rfl, rfl⟩ := iT_at hx
      have me : e ∈ it := List.mem_of_getElem? he
      have TH := TG s1
      show gName 1 (.int e.1) _ _ _
      have ge := TH.get e.1
      rw [lkI_mem T.nd me] at ge
      refine ⟨rfl, ?_⟩
      refine ⟨_, rfl, _, rfl, sk, _, rfl, sk_step (s1 _ _ hskG), _, rfl, St, _, rfl, ge, ?_⟩
      refine ⟨sk, e.2, _, _, St, it, D, D e.1, p, N, rfl, s1 _ _ hskG, TH, hN, ⟨hp, hp31⟩, TH.row e me, T.can _, bl _, fun H2 q r' s2 nq hq c2 v2 => ?_⟩
      intro e' ne'
      have s3 : Same H2 (upd H2 e' (.dK [])) := same_new ne'
      refine ⟨q, e', iK r', rfl, rfl, s3 _ _ hq, upd_same, _, rfl, ?_⟩
      have sA := (s1.trans s2).trans s3
      have hT3 := s3 _ _ (s2 _ _ hT)
      have nil_iff : (iK r').isEmpty = true ↔ ∀ j, (sumW (D e.1) fun k => co (D k) j).fmod p = 0 := by
        have h1 : (iK r').isEmpty = true ↔ r' = [] := by cases r' <;> simp [iK]
        rw [h1]
        refine ⟨fun z j => by rw [← v2, z]; rfl, fun z => ?_⟩
        exact Canon.ext c2 ⟨List.Pairwise.nil, fun q m => nomatch m⟩ fun j => by rw [v2, z j]; rfl
      cases eb : (iK r').isEmpty with
      | true =>
        refine iteF ⟨sA, u, by omega, hT3, ?_⟩
        rw [hu0, take_snoc he]
        refine ⟨fun h e2 m => ?_, fun h e2 m => h e2 (List.mem_append_left _ m)⟩
        rcases List.mem_append.mp m with m | m
        · exact h e2 m
        · rw [List.mem_singleton.mp m]
          exact nil_iff.mp eb
      | false =>
        refine iteT ⟨_, hT3, ?_, same_upd sA hL, u + 1, by omega, ?_, ?_⟩
        · rw [List.length_map, List.length_replicate]
          have := (List.getElem?_eq_some_iff.mp he).1
          exact small1000 (by omega)
        · rw [upd_same, List.replicate_succ', List.map_append]
          rfl
        · refine ⟨fun z => by omega, fun z => ?_⟩
          have := nil_iff.mpr (z e (by rw [take_snoc he]; exact List.mem_append_right _ List.mem_cons_self))
          rw [eb] at this
          cases this
    · rintro H' ⟨s1, u, zu, hT, hu0⟩
      have zl : (iT it).length = it.length := by unfold iT; rw [List.length_map]
      rw [zl, List.take_length] at hu0
      refine ⟨s1 _ _ gS, by show 0 ≤ sizeLine; decide, fun p2 np2 => ?_⟩
      have sU : Same H (upd H' St (.dK (iT it))) := back_same T.tab gO s1
      have nLS : L ≠ St := Ne.symm (ne_of_none gS hL)
      have hLU : (upd H' St (.dK (iT it))) L = some (.lst ((List.replicate u (1 : Int)).map V.int)) := by
        rw [upd_ne nLS]
        exact hT
      generalize upd H' St (.dK (iT it)) = U at sU hLU np2
      have s2 : Same U (upd U p2 (.lst [])) := same_new np2
      refine ⟨.list ((List.replicate u (1 : Int)).map PyData.int), .list [], .lst (SqL.of (s2 _ _ hLU)) (dpInts _), .lst (SqL.of upd_same) .nil, shInts _, rfl, ?_⟩
      rw [eqv_nil]
      refine k _ _ (sU.trans s2) ?_
      have e1 : (List.replicate u (1 : Int)).isEmpty = true ↔ u = 0 := by cases u <;> simp [List.replicate_succ]
      rw [e1, hu0]
      refine ⟨fun h a ha j => ?_, fun h e m j => ?_⟩
      · cases el : lkI it (a : Int) with
        | some q => exact h _ (lkI_some el) j
        | none =>
          rw [T.off _ (lkI_none el)]
          rfl
      · have be := rng e m
        have := h e.1.toNat (by omega) j
        rwa [Int.toNat_of_nonneg be.1] at this
end
end Lp
namespace Lp
open PySem L2 LamX
local macro_rules | `(tactic| walk_at "rd") => `(tactic| simp only [tSeq, tAsg, tYes, tTest, tOp, tCB, tCons, tNil, tVar, tC, rI0, rI, gName, wipe, tDisp, tTru, TruV, tB, tNext, tDGet2, tLock, tDIn, tDNotIn, tOr, tNot, tChain, tAnd, tCont, tUn, rU, tPairs, tRet, tIf, tIfS, tPar, tLst, tTup, tDrop, tDGet, tCall, sDPut, L2.start,
  List.map_cons, List.map_nil, List.foldl_cons, List.foldl_nil, List.length_cons, List.length_nil, List.replicate_succ, List.replicate_zero, List.append_nil, List.cons_append, List.nil_append, List.set_cons_zero, List.set_cons_succ, List.getElem?_cons_zero, List.getElem?_cons_succ,
  Option.some.injEq, List.cons.injEq, V.int.injEq, V.bl.injEq, V.ref.injEq, V.str.injEq, exists_eq_left', exists_eq_left, exists_eq_right, and_true, true_and, exists_and_left, Nat.add_zero, Nat.reduceAdd, Nat.reduceSub, Nat.sub_zero, if_true, if_false])
/-! ### _law_filled, keys pairs, and keys places -/
abbrev sFill : Stmt := top 52
def spFillP : Sp := fun vs H Q _ => ∃ (P : Addr) (pt : PTab) (S : Int × Int → Row) (n : Nat) (p : Int), vs = [.int p, .ref P] ∧ TabIn H P pt S n ∧ n ≤ 60 ∧ 0 < p ∧
  ∀ H' P' pt', Same H H' → H P' = none → TabOk H' P' pt' (fun k => nfR p (S k)) p → Q (.ref P') H'
def spFillI : Sp := fun vs H Q _ => ∃ (P : Addr) (it : ITab) (S : Int → Row) (n : Nat) (p : Int), vs = [.int p, .ref P] ∧ ITabIn H P it S n ∧ n ≤ 60 ∧ 0 < p ∧
  ∀ H' P' it', Same H H' → H P' = none → ITabOk H' P' it' (fun k => nfR p (S k)) p → (∀ e ∈ it', ∃ e2 ∈ it, e2.1 = e.1) → Q (.ref P') H'
theorem iK_empty (r : Row) : (iK r).isEmpty = r.isEmpty := by cases r <;> rfl
section
variable {P : Program} {w : World} {K : PySem.W.Frag} {mg : Str → Option Value} {base : Heap}
theorem scFill : FnScope ["field", "table", "found", "key", "row"] ["field", "table"] (defScope sFill) := ⟨rfl, rfl, rfl, by decide +kernel, rfl, by decide +kernel, by decide +kernel⟩
theorem ok_fillP {f : Addr} {fd : FuncData} (F0 : Fun K "_law_filled" "_law_filled" sFill f fd) (TR : Df P w K mg base CX0 1 "_law_trim" ["field", "row"] spTrim) (mSorted : mg "sorted" = none) : FnOk P w K mg base CX0 2 f fd ["field", "table"] spFillP := by
  refine F0.ok scFill (fun vs H Q E h => ?_) (fun cdv A outer s H vs Q E hr h => ?_)
  · obtain ⟨P', pt, S, n, p, rfl, _⟩ := h
    rfl
  · obtain ⟨P', pt, S, n, p, rfl, I, hn, hp, k⟩ := h
    have hu := hu_of hr
    have hu2 : (A.deeper (PyProof.Rows.envOfC "_law_filled" (defScope sFill) s.heap.objs.size f cdv)).units < cLine := by omega
    refine ⟨_, pss_cons (ps_set (i := 2) scFill.nd rfl (Or.inl rfl) pe_dnewT)
      (pss_cons (ps_for PassesOwn.never rfl (pi_list (pe_callB (call_sortedDP rfl) (by rfl) mSorted (by decide +kernel) (pa_cons (pv 1) pa_nil))) (pg_name (i := 3) scFill.nd rfl (Or.inl rfl))
        (pss_cons (ps_set (i := 4) scFill.nd rfl (Or.inl rfl) (pe_df TR hr (by rfl) pass0 (pa_cons (pv 0) (pa_cons (pe_dget hu (pv 1) (pv 3) (fun _ _ => rfl)) pa_nil))))
        (pss_one (ps_if (pt_cmpR (op_neE hu2) (pv 4) pe_dnewK (nomark _)) (pss_one (ps_dput hu (pv 2) (pv 3) (pv 4) rfl)) pss_nil))))
      (pss_one (ps_ret (pv 2)))), ?_⟩
    intro F hF
    have nPF : P' ≠ F := ne_of_none (show H P' = some _ from I.tab) hF
    have s0 : Same H (upd H F (.dT [])) := same_new hF
    refine ⟨_, rfl, P', pT pt, pt.map (·.1), rfl, .inl (s0 _ _ I.tab), by unfold pT; rw [List.map_map, List.map_map]; rfl, fun ys bs l perm asc prd hl => ?_⟩
    have ny : ys.Nodup := perm.nodup_iff.mpr I.nd
    have zy : ys.length = pt.length := by rw [perm.length_eq, List.length_map]
    have zb : bs.length = ys.length := (Paired.length prd).symm
    have lt : ys.Pairwise ltP2 := (asc.and ny).imp fun {a b} h => by
      have h1 := SrtO.lexB_no.mp h.1
      refine SrtO.lexB_iff.mpr ?_
      have h2 : ¬ (a.1 = b.1 ∧ a.2 = b.2) := fun z => h.2 (Prod.ext z.1 z.2)
      omega
    have hFl : F ≠ l := ne_of_none (show (upd H F (.dT [])) F = some _ from upd_same) hl
    have s1 : Same (upd H F (.dT [])) (upd (upd H F (.dT [])) l (.lst (bs.map V.ref))) := same_new hl
    have hlH : H l = none := none_upd hl
    refine ⟨l, rfl, ⟨_, SqL.of upd_same⟩, for_list (K := K) (a := l) (xs := bs.map V.ref) (fun i σ H' => ∃ v3 v4, σ = [some (.int p), some (.ref P'), some (.ref F), v3, v4] ∧ SameBut F (upd (upd H F (.dT [])) l (.lst (bs.map V.ref))) H' ∧
      ∃ qt : PTab, qt.map (·.1) = (ys.take i).filter (fun k => decide (nfR p (S k) ≠ [])) ∧ TabAt H' F qt ∧ ∀ e ∈ qt, e.2 ≠ F ∧ RowAt H' e.2 (nfR p (S e.1))) ?_ ?_ ?_ ?_⟩
    · exact ⟨none, none, rfl, SameBut.refl _ _, [], rfl, s1 _ _ upd_same, fun e m => (nomatch m)⟩
    · rintro i σ H' _ ⟨_, _, _, sb, _⟩
      exact SqL.of (sb _ _ (Ne.symm hFl) upd_same)
    · rintro i x σ H1 hi ⟨v3, v4, rfl, sb, qt, hk, hT, hR⟩
      rw [List.getElem?_map] at hi
      cases eb : bs[i]? with
      | none => rw [eb] at hi; cases hi
      | some b =>
        rw [eb] at hi
        cases hi
        obtain ⟨y, hy, hb⟩ := Paired.nth prd eb
        have my : y ∈ pt.map (·.1) := perm.mem_iff.mp (List.mem_of_getElem? hy)
        obtain ⟨e, me, rfl⟩ := List.mem_map.mp my
        obtain ⟨r1, r2, r3⟩ := I.row e me
        have le := lk_mem I.nd me
        have up : ∀ {b o}, H b = some o → H1 b = some o := fun {b o} h => sb _ _ (ne_of_none h hF) (s1 _ _ (s0 _ _ h))
        have hb0 : PairAt (upd H F (.dT [])) e.1 b := hb
        have hbF : b ≠ F := fun z => by
          unfold PairAt at hb0
          rw [z, upd_same] at hb0
          cases hb0
        have hb1 : H1 b = some (.tup [.int e.1.1, .int e.1.2]) := sb _ _ hbF (s1 _ _ hb0)
        have gp := get_tab (up (show H P' = some _ from I.tab)) hb1
        rw [le] at gp
        have z2 := row_len r2 r3
        have li : i < ys.length := (List.getElem?_eq_some_iff.mp hy).1
        have zq : qt.length ≤ i := by
          have h1 := congrArg List.length hk
          have h2 := List.length_filter_le (fun k => decide (nfR p (S k) ≠ [])) (ys.take i)
          rw [List.length_map] at h1
          rw [List.length_take] at h2
          omega
        have := I.len
        show gName 3 (.ref b) _ _ _
        refine ⟨_, rfl, _, rfl, _, rfl, P', _, rfl, gp, e.2, S e.1, p, rfl, up r1, r2, by omega, hp, fun H2 q s3 nq hq => ?_⟩
        show gName 4 (.ref q) _ _ _
        refine ⟨_, rfl, ?_⟩
        intro e' ne'
        have s4 : Same H2 (upd H2 e' (.dK [])) := same_new ne'
        refine ⟨q, e', _, rfl, rfl, s4 _ _ hq, upd_same, _, rfl, ?_⟩
        rw [iK_empty]
        have s34 := s3.trans s4
        generalize upd H2 e' (.dK []) = U at s34 s4
        have tk := take_snoc hy
        have nqF : q ≠ F := Ne.symm (ne_of_none (show H1 F = some _ from hT) nq)
        cases er : (nfR p (S e.1)).isEmpty with
        | true =>
          have en : nfR p (S e.1) = [] := List.isEmpty_iff.mp er
          refine iteF ⟨_, _, rfl, sb.next s34, qt, ?_, s34 _ _ hT, fun e2 m => ⟨(hR e2 m).1, s34 _ _ (hR e2 m).2⟩⟩
          rw [tk, List.filter_append, hk, List.filter_cons, if_neg (by simp [en])]
          simp
        | false =>
          have en : nfR p (S e.1) ≠ [] := fun z => by rw [z] at er; cases er
          have nin : e.1 ∉ qt.map (·.1) := fun m => by
            rw [hk] at m
            exact nodup_take ny hy (List.mem_filter.mp m).1
          refine iteT ⟨_, rfl, _, rfl, _, rfl, F, _, rfl, DPut.t (k := kP e.1) (s34 _ _ hT) (s34 _ _ hb1) ?_, _, _, rfl, (sb.next s34).at, qt ++ [(e.1, q)], ?_, ?_, fun e2 m => ?_⟩
          · unfold pT
            rw [List.length_map, sizeLine_eq]
            omega
          · rw [tk, List.filter_append, List.map_append, hk, List.filter_cons, if_pos (by simp [en])]
            rfl
          · rw [pT_snoc (lk_notin nin)]
            exact upd_same
          · rcases List.mem_append.mp m with m | m
            · obtain ⟨n1, n2⟩ := hR e2 m
              exact ⟨n1, (upd_ne n1).trans (s34 _ _ n2)⟩
            · rw [List.mem_singleton.mp m]
              exact ⟨nqF, (upd_ne nqF).trans (s4 _ _ hq)⟩
    · rintro σ H1 ⟨v3, v4, rfl, sb, qt, hk, hT, hR⟩
      rw [List.length_map, zb, List.take_length] at hk
      have can : ∀ k, Canon p (nfR p (S k)) := fun k => by
        cases el : lk pt k with
        | some q => exact (nfR_spec hp (I.row _ (lk_some el)).2.1).1
        | none => rw [I.off k (lk_none el), nfR_nil]; exact ⟨List.Pairwise.nil, fun q m => (nomatch m)⟩
      refine ⟨_, rfl, k H1 F qt (fun b o e => sb _ _ (ne_of_none e hF) (s1 _ _ (s0 _ _ e))) hF ⟨hT, ?_, fun e m => ⟨(hR e m).2, ?_⟩, can, fun k hk2 => ?_⟩⟩
      · rw [hk]
        exact lt.filter _
      · have : e.1 ∈ qt.map (·.1) := List.mem_map.mpr ⟨e, m, rfl⟩
        rw [hk] at this
        exact of_decide_eq_true (List.mem_filter.mp this).2
      · by_cases z : nfR p (S k) = []
        · exact z
        · cases el : lk pt k with
          | none => rw [I.off k (lk_none el), nfR_nil]
          | some q =>
            have m1 : k ∈ ys := perm.mem_iff.mpr (List.mem_map.mpr ⟨_, lk_some el, rfl⟩)
            have m2 : k ∈ qt.map (·.1) := by
              rw [hk]
              exact List.mem_filter.mpr ⟨m1, by simp [z]⟩
            obtain ⟨e, me, ee⟩ := List.mem_map.mp m2
            exact absurd ee (hk2 e me)
theorem ok_fillI {f : Addr} {fd : FuncData} (F0 : Fun K "_law_filled" "_law_filled" sFill f fd) (TR : Df P w K mg base CX0 1 "_law_trim" ["field", "row"] spTrim) (mSorted : mg "sorted" = none) : FnOk P w K mg base CX0 2 f fd ["field", "table"] spFillI := by
  refine F0.ok scFill (fun vs H Q E h => ?_) (fun cdv A outer s H vs Q E hr h => ?_)
  · obtain ⟨P', pt, S, n, p, rfl, _⟩ := h
    rfl
  · obtain ⟨P', pt, S, n, p, rfl, I, hn, hp, k⟩ := h
    have hu := hu_of hr
    have hu2 : (A.deeper (PyProof.Rows.envOfC "_law_filled" (defScope sFill) s.heap.objs.size f cdv)).units < cLine := by omega
    refine ⟨_, pss_cons (ps_set (i := 2) scFill.nd rfl (Or.inl rfl) pe_dnewK)
      (pss_cons (ps_for PassesOwn.never rfl (pi_list (pe_callB (call_sortedDI rfl) (by rfl) mSorted (by decide +kernel) (pa_cons (pv 1) pa_nil))) (pg_name (i := 3) scFill.nd rfl (Or.inl rfl))
        (pss_cons (ps_set (i := 4) scFill.nd rfl (Or.inl rfl) (pe_df TR hr (by rfl) pass0 (pa_cons (pv 0) (pa_cons (pe_dget hu (pv 1) (pv 3) (fun _ _ => rfl)) pa_nil))))
        (pss_one (ps_if (pt_cmpR (op_neE hu2) (pv 4) pe_dnewK (nomark _)) (pss_one (ps_dput hu (pv 2) (pv 3) (pv 4) rfl)) pss_nil))))
      (pss_one (ps_ret (pv 2)))), ?_⟩
    intro F hF
    have nPF : P' ≠ F := ne_of_none (show H P' = some _ from I.tab) hF
    have s0 : Same H (upd H F (.dK [])) := same_new hF
    refine ⟨_, rfl, P', iT pt, pt.map (·.1), rfl, .inl (s0 _ _ I.tab), by unfold iT; rw [List.map_map, List.map_map]; rfl, by rw [List.length_map]; exact I.len, fun ys l perm asc hl => ?_⟩
    have ny : ys.Nodup := perm.nodup_iff.mpr I.nd
    have zy : ys.length = pt.length := by rw [perm.length_eq, List.length_map]
    have lt : ys.Pairwise (· < ·) := (asc.and ny).imp fun {a b} h => by omega
    have hFl : F ≠ l := ne_of_none (show (upd H F (.dK [])) F = some _ from upd_same) hl
    have s1 : Same (upd H F (.dK [])) (upd (upd H F (.dK [])) l (.lst (ys.map V.int))) := same_new hl
    have hlH : H l = none := none_upd hl
    refine ⟨l, rfl, ⟨_, SqL.of upd_same⟩, for_list (K := K) (a := l) (xs := ys.map V.int) (fun i σ H' => ∃ v3 v4, σ = [some (.int p), some (.ref P'), some (.ref F), v3, v4] ∧ SameBut F (upd (upd H F (.dK [])) l (.lst (ys.map V.int))) H' ∧
      ∃ qt : ITab, qt.map (·.1) = (ys.take i).filter (fun k => decide (nfR p (S k) ≠ [])) ∧ ITabAt H' F qt ∧ ∀ e ∈ qt, e.2 ≠ F ∧ RowAt H' e.2 (nfR p (S e.1))) ?_ ?_ ?_ ?_⟩
    · exact ⟨none, none, rfl, SameBut.refl _ _, [], rfl, s1 _ _ upd_same, fun e m => (nomatch m)⟩
    · rintro i σ H' _ ⟨_, _, _, sb, _⟩
      exact SqL.of (sb _ _ (Ne.symm hFl) upd_same)
    · rintro i x σ H1 hi ⟨v3, v4, rfl, sb, qt, hk, hT, hR⟩
      obtain ⟨y, hy, rfl⟩ := int_at hi
      · have my : y ∈ pt.map (·.1) := perm.mem_iff.mp (List.mem_of_getElem? hy)
        obtain ⟨e, me, rfl⟩ := List.mem_map.mp my
        obtain ⟨r1, r2, r3⟩ := I.row e me
        have le := lkI_mem I.nd me
        have up : ∀ {b o}, H b = some o → H1 b = some o := fun {b o} h => sb _ _ (ne_of_none h hF) (s1 _ _ (s0 _ _ h))
        have gp := get_itab (a := e.1) (up (show H P' = some _ from I.tab))
        rw [le] at gp
        have z2 := row_len r2 r3
        have li : i < ys.length := (List.getElem?_eq_some_iff.mp hy).1
        have zq : qt.length ≤ i := by
          have h1 := congrArg List.length hk
          have h2 := List.length_filter_le (fun k => decide (nfR p (S k) ≠ [])) (ys.take i)
          rw [List.length_map] at h1
          rw [List.length_take] at h2
          omega
        have := I.len
        show gName 3 (.int e.1) _ _ _
        refine ⟨_, rfl, _, rfl, _, rfl, P', _, rfl, gp, e.2, S e.1, p, rfl, up r1, r2, by omega, hp, fun H2 q s3 nq hq => ?_⟩
        show gName 4 (.ref q) _ _ _
        refine ⟨_, rfl, ?_⟩
        intro e' ne'
        have s4 : Same H2 (upd H2 e' (.dK [])) := same_new ne'
        refine ⟨q, e', _, rfl, rfl, s4 _ _ hq, upd_same, _, rfl, ?_⟩
        rw [iK_empty]
        have s34 := s3.trans s4
        generalize upd H2 e' (.dK []) = U at s34 s4
        have tk := take_snoc hy
        have nqF : q ≠ F := Ne.symm (ne_of_none (show H1 F = some _ from hT) nq)
        cases er : (nfR p (S e.1)).isEmpty with
        | true =>
          have en : nfR p (S e.1) = [] := List.isEmpty_iff.mp er
          refine iteF ⟨_, _, rfl, sb.next s34, qt, ?_, s34 _ _ hT, fun e2 m => ⟨(hR e2 m).1, s34 _ _ (hR e2 m).2⟩⟩
          rw [tk, List.filter_append, hk, List.filter_cons, if_neg (by simp [en])]
          simp
        | false =>
          have en : nfR p (S e.1) ≠ [] := fun z => by rw [z] at er; cases er
          have nin : e.1 ∉ qt.map (·.1) := fun m => by
            rw [hk] at m
            exact nodup_take ny hy (List.mem_filter.mp m).1
          refine iteT ⟨_, rfl, _, rfl, _, rfl, F, _, rfl, DPut.k (k := Sum.inl e.1) (s34 _ _ hT) ?_, _, _, rfl, (sb.next s34).at, qt ++ [(e.1, q)], ?_, ?_, fun e2 m => ?_⟩
          · unfold iT
            rw [List.length_map]
            exact small1000 (by omega)
          · rw [tk, List.filter_append, List.map_append, hk, List.filter_cons, if_pos (by simp [en])]
            rfl
          · rw [iT_snoc (lkI_notin nin)]
            exact upd_same
          · rcases List.mem_append.mp m with m | m
            · obtain ⟨n1, n2⟩ := hR e2 m
              exact ⟨n1, (upd_ne n1).trans (s34 _ _ n2)⟩
            · rw [List.mem_singleton.mp m]
              exact ⟨nqF, (upd_ne nqF).trans (s4 _ _ hq)⟩
    · rintro σ H1 ⟨v3, v4, rfl, sb, qt, hk, hT, hR⟩
      rw [List.length_map, List.take_length] at hk
      have can : ∀ k, Canon p (nfR p (S k)) := fun k => by
        cases el : lkI pt k with
        | some q => exact (nfR_spec hp (I.row _ (lkI_some el)).2.1).1
        | none => rw [I.off k (lkI_none el), nfR_nil]; exact ⟨List.Pairwise.nil, fun q m => (nomatch m)⟩
      refine ⟨_, rfl, k H1 F qt (fun b o e => sb _ _ (ne_of_none e hF) (s1 _ _ (s0 _ _ e))) hF ⟨hT, ?_, fun e m => ⟨(hR e m).2, ?_⟩, can, fun k hk2 => ?_⟩ fun e m => ?_⟩
      · rw [hk]
        exact lt.filter _
      · have : e.1 ∈ qt.map (·.1) := List.mem_map.mpr ⟨e, m, rfl⟩
        rw [hk] at this
        exact of_decide_eq_true (List.mem_filter.mp this).2
      · by_cases z : nfR p (S k) = []
        · exact z
        · cases el : lkI pt k with
          | none => rw [I.off k (lkI_none el), nfR_nil]
          | some q =>
            have m1 : k ∈ ys := perm.mem_iff.mpr (List.mem_map.mpr ⟨_, lkI_some el, rfl⟩)
            have m2 : k ∈ qt.map (·.1) := by
              rw [hk]
              exact List.mem_filter.mpr ⟨m1, by simp [z]⟩
            obtain ⟨e, me, ee⟩ := List.mem_map.mp m2
            exact absurd ee (hk2 e me)
      · have : e.1 ∈ qt.map (·.1) := List.mem_map.mpr ⟨e, m, rfl⟩
        rw [hk] at this
        obtain ⟨e2, m2, h2⟩ := List.mem_map.mp (perm.mem_iff.mp (List.mem_filter.mp this).1)
        exact ⟨e2, m2, h2⟩
end
end Lp
namespace Lp
open PySem L2 LamX
local macro_rules | `(tactic| walk_at "rd") => `(tactic| simp only [tSeq, tAsg, tYes, tTest, tOp, tCB, tCons, tNil, tVar, tC, rI0, rI, gName, wipe, tDisp, tTru, TruV, tB, tNext, tDGet2, tLock, tDIn, tDNotIn, tOr, tNot, tChain, tAnd, tCont, tUn, rU, tPairs, tRet, tIf, tIfS, tPar, tLst, tTup, tDrop, tDGet, tCall, sDPut, L2.start,
  List.map_cons, List.map_nil, List.foldl_cons, List.foldl_nil, List.length_cons, List.length_nil, List.replicate_succ, List.replicate_zero, List.append_nil, List.cons_append, List.nil_append, List.set_cons_zero, List.set_cons_succ, List.getElem?_cons_zero, List.getElem?_cons_succ,
  Option.some.injEq, List.cons.injEq, V.int.injEq, V.bl.injEq, V.ref.injEq, V.str.injEq, exists_eq_left', exists_eq_left, exists_eq_right, and_true, true_and, exists_and_left, Nat.add_zero, Nat.reduceAdd, Nat.reduceSub, Nat.sub_zero, if_true, if_false])
/-! ### _law_framed -/
abbrev sFramed : Stmt := top 53
/-- a sketch -/
structure SkAt (H : Hp) (sk : Addr) (p : Int) (hl : List Int) (S : Int × Int → Row) (D : Int → Row) (it : ITab) : Prop where
  ex : ∃ h P St pt, H sk = some (.dK (skKv p h P St)) ∧ H h = some (.lst (hl.map V.int)) ∧ TabOk H P pt S p ∧ ITabOk H St it D p
theorem SkAt.same {H H' : Hp} {sk : Addr} {p : Int} {hl : List Int} {S : Int × Int → Row} {D : Int → Row} {it : ITab} (k : SkAt H sk p hl S D it) (s : Same H H') : SkAt H' sk p hl S D it := by
  obtain ⟨h, P, St, pt, h1, h2, h3, h4⟩ := k.ex
  exact ⟨h, P, St, pt, s _ _ h1, s _ _ h2, h3.inn s, h4.inn s⟩
def spFramed : Sp := fun vs H Q _ => ∃ (h P St : Addr) (hl : List Int) (pt : PTab) (S : Int × Int → Row) (it : ITab) (D : Int → Row) (n : Nat) (p : Int), vs = [.int p, .ref h, .ref P, .ref St] ∧ H h = some (.lst (hl.map V.int)) ∧ TabIn H P pt S n ∧ ITabIn H St it D n ∧ n ≤ 60 ∧ 0 < p ∧
  ∀ H' sk it', Same H H' → H sk = none → SkAt H' sk p hl (fun k => nfR p (S k)) (fun k => nfR p (D k)) it' → (∀ e ∈ it', ∃ e2 ∈ it, e2.1 = e.1) → Q (.ref sk) H'
section
variable {P : Program} {w : World} {K : PySem.W.Frag} {mg : Str → Option Value} {base : Heap}
theorem scFramed : FnScope ["field", "heights_here", "product_here", "step_here", "some"] ["field", "heights_here", "product_here", "step_here"] (defScope sFramed) := ⟨rfl, rfl, rfl, by decide +kernel, rfl, by decide +kernel, by decide +kernel⟩
theorem ok_framed {f : Addr} {fd : FuncData} (F0 : Fun K "_law_framed" "_law_framed" sFramed f fd) (FP : Df P w K mg base CX0 2 "_law_filled" ["field", "table"] spFillP) (FI : Df P w K mg base CX0 2 "_law_filled" ["field", "table"] spFillI) (mList : mg "list" = none) :
    FnOk P w K mg base CX0 3 f fd ["field", "heights_here", "product_here", "step_here"] spFramed := by
  refine F0.ok scFramed (fun vs H Q E h => ?_) (fun cdv A outer s H vs Q E hr h => ?_)
  · obtain ⟨h', P', St, hl, pt, S, it, D, n, p, rfl, _⟩ := h
    rfl
  · obtain ⟨h', P', St, hl, pt, S, it, D, n, p, rfl, hh, TP, TI, hn, hp, k⟩ := h
    have hu := hu_of hr
    refine ⟨_, pss_cons (ps_set (i := 4) scFramed.nd rfl (Or.inl rfl) (pe_disp (pps_cons pe_str (pv 0) (pps_cons pe_str (pe_callTy call_list_of (by rfl) mList (by decide +kernel) (pa_cons (pv 1) pa_nil)) (pps_cons pe_str (pe_df FP hr (by rfl) pass0 (pa_cons (pv 0) (pa_cons (pv 2) pa_nil))) pps_nil))) (by rfl) (by rfl) (by simp) (by decide)))
      (pss_cons (ps_dput hu (pv 4) pe_str (pe_df FI hr (by rfl) pass0 (pa_cons (pv 0) (pa_cons (pv 3) pa_nil))) rfl)
      (pss_one (ps_ret (pv 4)))), ?_⟩
    intro sk nsk
    have s0 : Same H (upd H sk (.dK [])) := same_new nsk
    refine ⟨_, rfl, _, rfl, h', _, rfl, .inl (SqL.of (s0 _ _ hh)), fun l nl => ?_⟩
    have s1 := s0.trans (same_new (o := .lst (hl.map V.int)) nl)
    have hsk1 : (upd (upd H sk (.dK [])) l (.lst (hl.map V.int))) sk = some (.dK []) := by
      rw [upd_ne (ne_of_none (show (upd H sk (.dK [])) sk = some _ from upd_same) nl)]
      exact upd_same
    refine ⟨_, rfl, _, rfl, P', pt, S, n, p, rfl, TP.inn s1, hn, hp, fun H2 P2 pt2 s2 nP2 T2 => ?_⟩
    have hl2 : H2 l = some (.lst (hl.map V.int)) := s2 _ _ upd_same
    refine ⟨s2 _ _ hsk1, [(.inr "prime", .int p), (.inr "heights", .ref l), (.inr "product", .ref P2)], rfl, by show 3 ≤ 15; decide, ?_⟩
    show gName 4 (.ref sk) _ _ _
    generalize eU : upd H2 sk (.dK (mergeK [] _)) = U
    have hskU : U sk = some (.dK [(.inr "prime", .int p), (.inr "heights", .ref l), (.inr "product", .ref P2)]) := by rw [← eU]; exact upd_same
    have sbU : SameBut sk H2 U := by
      rw [← eU]
      exact (SameBut.refl _ _).at
    have upU : ∀ {b o}, H b = some o → U b = some o := fun {b o} h => sbU _ _ (ne_of_none h nsk) (s2 _ _ (s1 _ _ h))
    have nlsk : l ≠ sk := Ne.symm (ne_of_none (show (upd H sk (.dK [])) sk = some _ from upd_same) nl)
    have TIU : ITabIn U St it D n := ⟨upU TI.tab, TI.len, TI.nd, fun e m => ⟨upU (TI.row e m).1, (TI.row e m).2⟩, TI.off⟩
    have nP2sk : P2 ≠ sk := Ne.symm (ne_of_none hsk1 nP2)
    refine ⟨_, rfl, _, rfl, St, it, D, n, p, rfl, TIU, hn, hp, fun H3 S3 it3 s3 nS3 I3 m3 => ?_⟩
    have hsk3 := s3 _ _ hskU
    have nS3sk : S3 ≠ sk := Ne.symm (ne_of_none hskU nS3)
    refine ⟨_, rfl, sk, _, rfl, DPut.k (k := .inr "step") hsk3 (by show 3 < sizeLine; decide), ?_⟩
    have fin : upd H3 sk (.dK (putK [(.inr "prime", .int p), (.inr "heights", .ref l), (.inr "product", .ref P2)] (.inr "step") (.ref S3))) sk = some (.dK (skKv p l P2 S3)) := upd_same
    generalize eV : upd H3 sk (.dK (putK _ _ _)) = W' at fin
    have sbW : SameBut sk H3 W' := by
      rw [← eV]
      exact (SameBut.refl _ _).at
    have notsk : ∀ {b : Addr} {r : Row}, r ≠ [] → H2 b = some (.dK (iK r)) → b ≠ sk := fun {b r} hr h z => by
      rw [z, s2 _ _ hsk1] at h
      have := HO.dK.inj (Option.some.inj h)
      cases r with
      | nil => exact hr rfl
      | cons q r => cases this
    have notsk3 : ∀ {b : Addr} {r : Row}, H3 b = some (.dK (iK r)) → b ≠ sk := fun {b r} h z => by
      rw [z, hsk3] at h
      have h2 := HO.dK.inj (Option.some.inj h)
      cases r with
      | nil => cases h2
      | cons q r =>
        have h3 := (Prod.mk.inj (List.cons.inj h2).1).1
        cases h3
    refine ⟨_, rfl, k W' sk it3 (fun b o e => sbW _ _ (ne_of_none e nsk) (s3 _ _ (upU e))) nsk ⟨l, P2, S3, pt2, fin, sbW _ _ nlsk (s3 _ _ (sbU _ _ nlsk hl2)), ⟨sbW _ _ nP2sk (s3 _ _ (sbU _ _ nP2sk T2.tab)), T2.asc, fun e m => ?_, T2.can, T2.off⟩, ⟨sbW _ _ nS3sk I3.tab, I3.asc, fun e m => ?_, I3.can, I3.off⟩⟩ m3⟩
    · obtain ⟨h1, h2⟩ := T2.row e m
      have n1 := notsk h2 h1
      exact ⟨sbW _ _ n1 (s3 _ _ (sbU _ _ n1 h1)), h2⟩
    · obtain ⟨h1, h2⟩ := I3.row e m
      exact ⟨sbW _ _ (notsk3 h1) h1, h2⟩
end
end Lp
namespace Lp
open PySem L2 LamX
local macro_rules | `(tactic| walk_at "rd") => `(tactic| simp only [tSeq, tAsg, tYes, tTest, tOp, tCB, tCons, tNil, tVar, tC, rI0, rI, gName, wipe, tDisp, tTru, TruV, tB, tNext, tDGet2, tLock, tDIn, tDNotIn, tOr, tNot, tChain, tAnd, tCont, tUn, rU, tPairs, tRet, tIf, tIfS, tPar, tLst, tTup, tDrop, tDGet, tCall, sDPut, L2.start,
  List.map_cons, List.map_nil, List.foldl_cons, List.foldl_nil, List.length_cons, List.length_nil, List.replicate_succ, List.replicate_zero, List.append_nil, List.cons_append, List.nil_append, List.set_cons_zero, List.set_cons_succ, List.getElem?_cons_zero, List.getElem?_cons_succ,
  Option.some.injEq, List.cons.injEq, V.int.injEq, V.bl.injEq, V.ref.injEq, V.str.injEq, exists_eq_left', exists_eq_left, exists_eq_right, and_true, true_and, exists_and_left, Nat.add_zero, Nat.reduceAdd, Nat.reduceSub, Nat.sub_zero, if_true, if_false])
/-! ### _law_lots -/
def growL (n : Nat) (lot : List Int) : List (List Int) := ((List.range n).filter fun (i : Nat) => decide (lot = []) || decide ((i : Int) > lot.getLastD 0)).map fun (i : Nat) => lot ++ [(i : Int)]
theorem lineG_succ (n k : Nat) : lineG n (k + 1) = (lineG n k).flatMap (growL n) := rfl
def lineChk (n : Nat) : Bool := (List.range 6).all fun k => decide ((lineG n k).length ≤ 32) && decide ((lotsTo n k).length ≤ 32) && (lineG n k).all fun w => decide (w.length ≤ 5)
theorem line_chk : ∀ n, n ≤ 5 → lineChk n = true
  | 0, _ => by decide +kernel
  | 1, _ => by decide +kernel
  | 2, _ => by decide +kernel
  | 3, _ => by decide +kernel
  | 4, _ => by decide +kernel
  | 5, _ => by decide +kernel
  | n + 6, h => absurd h (by omega)
theorem line_ok {n k : Nat} (hn : n ≤ 5) (hk : k ≤ 5) : (lineG n k).length ≤ 32 ∧ (lotsTo n k).length ≤ 32 ∧ ∀ w ∈ lineG n k, w.length ≤ 5 := by
  have h := all_range (line_chk n hn) (i := k) (by omega)
  simp only [Bool.and_eq_true, decide_eq_true_eq, List.all_eq_true] at h
  exact ⟨h.1.1, h.1.2, h.2⟩
def rEqDK (K : PySem.W.Frag) : R2 := rEqD K
theorem op_eqDK {X : Cx} {K : PySem.W.Frag} (hK : X.K = K) (hu : X.A.units + 64 < cLine) : OpR X (compareOp .Eq) (rEqDK K) := by
  subst hK
  exact op_eqD hu
theorem eqv_tup0 (ns : List Int) : PyData.eqv (.tuple (ns.map PyData.int)) (.tuple []) = ns.isEmpty := by
  rw [PyData.eqv]
  cases ns with
  | nil => rfl
  | cons a ns => rfl
theorem shTup (ns : List Int) : SeqAt.shaped (.tuple (ns.map PyData.int)) = true := by
  have h1 := canInts ns
  have h2 := depInts ns
  simp [SeqAt.shaped, PyData.canLay0, PyData.depth, h1, h2]
theorem last_at : ∀ w : List Int, w ≠ [] → atI (w.map V.int) (-1) = some (.int (w.getLastD 0)) := by
  intro w
  induction w using rev_ind with
  | h0 => exact fun h => absurd rfl h
  | h1 l a _ =>
    intro _
    rw [List.map_append, List.map_singleton, atI_last]
    simp
abbrev sLLots : Stmt := top 54
def spLLots : Sp := fun vs H Q _ => ∃ n : Nat, vs = [.int n] ∧ n ≤ 5 ∧ ∀ H' p as, Same H H' → H p = none → H' p = some (.lst (as.map V.ref)) → Paired (TupAt H') (lotsN n) as → Q (.ref p) H'
section
variable {P : Program} {w : World} {K : PySem.W.Frag} {mg : Str → Option Value} {base : Heap}
theorem scLLots : FnScope ["letters_here", "found", "line", "lap", "more", "lot", "item"] ["letters_here"] (defScope sLLots) := ⟨rfl, rfl, rfl, by decide +kernel, rfl, by decide +kernel, by decide +kernel⟩
theorem ok_llots {f : Addr} {fd : FuncData} (F0 : Fun K "_law_lots" "_law_lots" sLLots f fd) (mRange : mg "range" = none) : FnOk P w K mg base CX0 1 f fd ["letters_here"] spLLots := by
  refine F0.ok scLLots (fun vs H Q E h => ?_) (fun cdv A outer s H vs Q E hr h => ?_)
  · obtain ⟨n, rfl, _⟩ := h
    rfl
  · obtain ⟨n, rfl, hn, k⟩ := h
    refine ⟨_, pss_cons (ps_par (i := 1) (j := 2) (by rfl) scLLots.nd rfl rfl (by decide) rfl rfl (pa_cons (pe_lst (pa_cons (pe_tup pa_nil) pa_nil)) (pa_cons (pe_lst (pa_cons (pe_tup pa_nil) pa_nil)) pa_nil)) (by rfl))
      (pss_cons (ps_for PassesOwn.never rfl (pi_range1 (by rfl) mRange (pa_cons (pv 0) pa_nil)) (pg_name (i := 3) scLLots.nd rfl (Or.inl rfl))
        (pss_cons (ps_set (i := 4) scLLots.nd rfl (Or.inl rfl) (pe_lst pa_nil))
        (pss_cons (ps_for PassesOwn.never rfl (pi_list (pv 2)) (pg_name (i := 5) scLLots.nd rfl (Or.inr rfl))
          (pss_one (ps_set (i := 4) scLLots.nd rfl (Or.inl rfl) (pe_op op_cat (pv 4) (pe_lc (own := [("item", 6)]) (g := gName 6) rfl scLLots.nd (pi_range1 (by rfl) mRange (pa_cons (pv 0) pa_nil)) (blkOk_by (N := ["letters_here", "found", "line", "lap", "more", "lot", "item"]) (sc := defScope sLLots) (by decide +kernel))
            (fun _ _ _ _ _ => pg_name (i := 6) scLLots.nd rfl (Or.inl rfl)) (fun _ _ _ _ _ => pts_one (PW.pt (pw_or (pt_cmpR (op_eqDK (K := K) rfl hr.units) (pv 5) (pe_tup pa_nil) (nomark _)) (pw_or1 (pt_cmpR op_gt (pv 6) (pe_ix (r := rIxT K) ix_tup (pv 5) (pe_un un_neg pe_int) (fun _ _ => rfl)) (nomark _))))))
            (fun _ _ _ _ _ => pe_op (r := rCatA K) op_catA (pv 5) (pe_tup (pa_cons (pv 6) pa_nil))))))))
        (pss_cons (ps_set (i := 2) scLLots.nd rfl (Or.inl rfl) (pv 4))
        (pss_one (ps_set (i := 1) scLLots.nd rfl (Or.inl rfl) (pe_op op_cat (pv 1) (pv 2))))))))
      (pss_one (ps_ret (pv 1)))), ?_⟩
    refine ⟨by show 0 ≤ sizeLine; decide, fun t1 nt1 => ⟨by show 1 ≤ sizeLine; decide, fun l1 nl1 => ⟨by show 0 ≤ sizeLine; decide, fun t2 nt2 => ⟨by show 1 ≤ sizeLine; decide, fun l2 nl2 => ?_⟩⟩⟩⟩
    refine ⟨_, _, rfl, ?_⟩
    have sA : Same H (upd (upd H t1 (.tup [])) l1 (.lst [.ref t1])) := same_upd (same_new nt1) (none_upd nl1)
    generalize eA : upd (upd H t1 (.tup [])) l1 (.lst [.ref t1]) = HA at *
    have sB : Same HA (upd (upd HA t2 (.tup [])) l2 (.lst [.ref t2])) := same_upd (same_new nt2) (none_upd nl2)
    have h1A : HA l1 = some (.lst [.ref t1]) := by rw [← eA]; exact upd_same
    have t1A : TupAt HA [] t1 := by
      show HA t1 = _
      rw [← eA, upd_ne (fun e => by rw [← e, upd_same] at nl1; cases nl1)]
      exact upd_same
    have nl1H : H l1 = none := none_upd nl1
    have h2B : (upd (upd HA t2 (.tup [])) l2 (.lst [.ref t2])) l2 = some (.lst [.ref t2]) := upd_same
    have t2B : TupAt (upd (upd HA t2 (.tup [])) l2 (.lst [.ref t2])) [] t2 := by
      show _ = _
      rw [upd_ne (fun e => by rw [← e, upd_same] at nl2; cases nl2)]
      exact upd_same
    generalize upd (upd HA t2 (.tup [])) l2 (.lst [.ref t2]) = HB at *
    refine ⟨_, rfl, n, rfl, by omega, by omega, ?_⟩
    refine for_it (walk_range (lo := 0) (n := n)) (fun k σ H' => ∃ v3 v4 v5 L Ln as bs, σ = [some (.int n), some (.ref L), some (.ref Ln), v3, v4, v5, none] ∧ Same H H' ∧ H L = none ∧ H' L = some (.lst (as.map V.ref)) ∧ Paired (TupAt H') (lotsTo n k) as ∧ H' Ln = some (.lst (bs.map V.ref)) ∧ Paired (TupAt H') (lineG n k) bs) ?_ (fun _ _ _ _ _ => trivial) ?_ ?_
    · exact ⟨none, none, none, l1, l2, [t1], [t2], rfl, sA.trans sB, nl1H, sB _ _ h1A, .cons (sB _ _ t1A) .nil, h2B, .cons t2B .nil⟩
    · rintro k x σ H' H1 hk ⟨v3, v4, v5, L, Ln, as, bs, rfl, s1, nL, hL, hP, hLn, hPn⟩ ⟨rfl, rfl⟩
      show gName 3 (.int (0 + (k : Int))) _ _ _
      rw [Int.zero_add]
      obtain ⟨z1, z2, z3⟩ := line_ok hn (k := k) (by omega)
      obtain ⟨z4, z5, _⟩ := line_ok hn (k := k + 1) (by omega)
      have zb : bs.length = (lineG n k).length := (Paired.length hPn).symm
      refine ⟨by show 0 ≤ sizeLine; decide, fun M nM => ?_⟩
      have sM : Same H1 (upd H1 M (.lst [])) := same_new nM
      show gName 4 (.ref M) _ _ _
      refine ⟨_, rfl, Ln, rfl, ⟨_, SqL.of (sM _ _ hLn)⟩, for_list (K := K) (a := Ln) (xs := bs.map V.ref) (fun j σ H' => ∃ v5 M cs, σ = [some (.int n), some (.ref L), some (.ref Ln), some (.int k), some (.ref M), v5, none] ∧ Same H1 H' ∧ H' M = some (.lst (cs.map V.ref)) ∧ Paired (TupAt H') (((lineG n k).take j).flatMap (growL n)) cs) ?_ ?_ ?_ ?_⟩
      · exact ⟨v5, M, [], rfl, sM, upd_same, .nil⟩
      · rintro j σ H' _ ⟨_, _, _, _, s2, _⟩
        exact SqL.of (s2 _ _ hLn)
      · rintro j x σ H2 hj ⟨v5, M, cs, rfl, s2, hM, hPc⟩
        rw [List.getElem?_map] at hj
        cases eb : bs[j]? with
        | none => rw [eb] at hj; cases hj
        | some b =>
          rw [eb] at hj
          cases hj
          obtain ⟨w', ew, hw⟩ := Paired.nth hPn eb
          have zw := z3 w' (List.mem_of_getElem? ew)
          have hw2 : TupAt H2 w' b := s2 _ _ hw
          show gName 5 (.ref b) _ _ _
          refine ⟨_, rfl, _, rfl, n, rfl, by omega, by omega, fun D nD => ?_⟩
          refine lc_it (walk_range (lo := 0) (n := n)) (fun i H' => Same H2 H' ∧ ∃ ds : List Addr, H' D = some (.lst (ds.map V.ref)) ∧ Paired (TupAt H') ((((List.range n).take i).filter fun (i : Nat) => decide (w' = []) || decide ((i : Int) > w'.getLastD 0)).map fun (i : Nat) => w' ++ [(i : Int)]) ds) ⟨same_new nD, [], upd_same, .nil⟩ (fun _ _ _ _ => trivial) ?_ ?_
          · rintro i x H3 H4 hi ⟨s3, ds, hD, hPd⟩ ⟨rfl, rfl⟩
            show gName 6 (.int (0 + (i : Int))) _ _ _
            rw [Int.zero_add]
            walk_at "rd"
            have ei : (List.range n)[i]? = some i := List.getElem?_range hi
            have tk := take_snoc ei
            have zd : ds.length ≤ 5 := by
              have h1 := Paired.length hPd
              have h2 := List.length_filter_le (fun (i : Nat) => decide (w' = []) || decide ((i : Int) > w'.getLastD 0)) ((List.range n).take i)
              rw [List.length_map] at h1
              rw [List.length_take] at h2
              omega
            have go : ∀ G, Same H4 G → (decide (w' = []) || decide ((i : Int) > w'.getLastD 0)) = true → (1 ≤ sizeLine ∧ ∀ p, G p = none → rCatA K (.ref b) (.ref p) (upd G p (.tup [.int i])) fun y H4' => ∃ acc, H4' D = some (.lst acc) ∧ acc.length < sizeLine ∧ Same H2 (upd H4' D (.lst (acc ++ [y]))) ∧
                ∃ ds : List Addr, upd H4' D (.lst (acc ++ [y])) D = some (.lst (ds.map V.ref)) ∧ Paired (TupAt (upd H4' D (.lst (acc ++ [y])))) ((((List.range n).take (i + 1)).filter fun (i : Nat) => decide (w' = []) || decide ((i : Int) > w'.getLastD 0)).map fun (i : Nat) => w' ++ [(i : Int)]) ds) := by
              intro G sG yes
              refine ⟨by show 1 ≤ sizeLine; decide, fun p np => ?_⟩
              have sp : Same G (upd G p (.tup [.int i])) := same_new np
              refine rCatK (y := [(i : Int)]) (sp _ _ (sG _ _ (s3 _ _ hw2))) upd_same (by simp only [List.length_singleton]; omega) fun H5 r s5 hr5 => ?_
              have up := (sG.trans sp).trans s5
              have hD5 := up _ _ hD
              refine ⟨_, hD5, by rw [List.length_map]; exact small1000 (by omega), same_upd (s3.trans up) nD, ds ++ [r], ?_, ?_⟩
              · rw [upd_same, List.map_append]; rfl
              · rw [tk, List.filter_append, List.map_append, List.filter_cons, if_pos yes]
                have keep : ∀ a b, TupAt H5 a b → TupAt (upd H5 D (.lst (ds.map V.ref ++ [.ref r]))) a b := fun a b h => by
                  unfold TupAt
                  rw [upd_ne (ne_of (show H5 b = some _ from h) hD5 (fun z => nomatch z))]
                  exact h
                exact Paired.imp2 keep (Paired.app (pairedTup_same up hPd) (.cons hr5 .nil))
            have stay : ∀ G, Same H4 G → (decide (w' = []) || decide ((i : Int) > w'.getLastD 0)) = false → Same H2 G ∧ ∃ ds : List Addr, G D = some (.lst (ds.map V.ref)) ∧ Paired (TupAt G) ((((List.range n).take (i + 1)).filter fun (i : Nat) => decide (w' = []) || decide ((i : Int) > w'.getLastD 0)).map fun (i : Nat) => w' ++ [(i : Int)]) ds := by
              intro G sG no
              refine ⟨s3.trans sG, ds, sG _ _ hD, ?_⟩
              rw [tk, List.filter_append, List.filter_cons, if_neg (by rw [no]; decide), List.filter_nil, List.append_nil]
              exact pairedTup_same sG hPd
            refine ⟨by show 0 ≤ sizeLine; decide, fun t nt => ?_⟩
            have st : Same H4 (upd H4 t (.tup [])) := same_new nt
            have hwt : (upd H4 t (.tup [])) b = some (.tup (w'.map V.int)) := st _ _ (s3 _ _ hw2)
            refine ⟨.tuple (w'.map PyData.int), .tuple [], .tup (SqT.of hwt) (dpInts _), .tup (SqT.of upd_same) .nil, shTup _, rfl, _, rfl, ?_⟩
            rw [eqv_tup0]
            cases ew0 : w'.isEmpty with
            | true =>
              rw [if_pos rfl]
              have : w' = [] := List.isEmpty_iff.mp ew0
              exact go _ st (by rw [decide_eq_true this]; rfl)
            | false =>
              rw [if_neg (by decide)]
              have nw : w' ≠ [] := fun z => by rw [z] at ew0; cases ew0
              have ew1 : decide (w' = []) = false := decide_eq_false nw
              have la : atI (w'.map V.int) (-1) = some (.int (w'.getLastD 0)) := last_at w' nw
              refine ⟨b, _, -1, _, rfl, rfl, SqT.of hwt, la, _, rfl, ?_⟩
              by_cases lt : w'.getLastD 0 < (i : Int)
              · rw [decide_eq_true lt, if_pos rfl]
                exact go _ st (by rw [ew1, decide_eq_true (show (i : Int) > w'.getLastD 0 from lt)]; rfl)
              · rw [decide_eq_false lt, if_neg (by decide)]
                exact stay _ st (by rw [ew1, decide_eq_false (show ¬ (i : Int) > w'.getLastD 0 from lt)]; rfl)
          · rintro H3 ⟨s3, ds, hD, hPd⟩
            rw [List.take_of_length_le (by rw [List.length_range]; exact Nat.le_refl _)] at hPd
            have hM3 := s3 _ _ hM
            have lc : (((lineG n k).take j).flatMap (growL n) ++ growL n w').length ≤ 32 := by
              have e : ((lineG n k).take j).flatMap (growL n) ++ growL n w' = ((lineG n k).take (j + 1)).flatMap (growL n) := by
                rw [take_snoc ew, List.flatMap_append]
                simp
              have e2 : lineG n (k + 1) = ((lineG n k).take (j + 1)).flatMap (growL n) ++ ((lineG n k).drop (j + 1)).flatMap (growL n) := by
                rw [← List.flatMap_append, List.take_append_drop, lineG_succ]
              rw [e2, List.length_append] at z4
              rw [e]
              omega
            have hPall : Paired (TupAt H3) (((lineG n k).take j).flatMap (growL n) ++ growL n w') (cs ++ ds) := Paired.app (pairedTup_same s3 hPc) hPd
            have lcd : (cs ++ ds).length ≤ 32 := by rw [← Paired.length hPall]; exact lc
            rw [List.length_append] at lcd
            refine ⟨M, D, _, _, rfl, rfl, hM3, hD, by rw [List.length_map, List.length_map, sizeLine_eq]; omega, fun p np => ?_⟩
            show gName 4 (.ref p) _ _ _
            refine ⟨_, p, cs ++ ds, rfl, (s2.trans s3).trans (same_new np), ?_, ?_⟩
            · rw [upd_same, List.map_append]
            · rw [take_snoc ew, List.flatMap_append]
              have e : [w'].flatMap (growL n) = growL n w' := by simp
              rw [e]
              exact pairedTup_same (same_new np) hPall
      · rintro σ H2 ⟨v5, M, cs, rfl, s2, hM, hPc⟩
        rw [List.length_map, zb, List.take_length, ← lineG_succ] at hPc
        refine ⟨_, rfl, ?_⟩
        show gName 2 (.ref M) _ _ _
        have zc : cs.length ≤ 32 := by rw [← Paired.length hPc]; exact z4
        have za : as.length ≤ 32 := by rw [← Paired.length hP]; exact z2
        refine ⟨_, rfl, _, rfl, L, M, _, _, rfl, rfl, s2 _ _ hL, hM, by rw [List.length_map, List.length_map, sizeLine_eq]; omega, fun p np => ?_⟩
        show gName 1 (.ref p) _ _ _
        have sp : Same H2 (upd H2 p (.lst (as.map V.ref ++ cs.map V.ref))) := same_new np
        refine ⟨_, _, _, p, M, as ++ cs, cs, rfl, (s1.trans s2).trans sp, none_of_same (s1.trans s2) np, ?_, ?_, sp _ _ hM, pairedTup_same sp hPc⟩
        · rw [upd_same, List.map_append]
        · exact pairedTup_same sp (Paired.app (pairedTup_same s2 hP) hPc)
    · rintro σ H1 ⟨v3, v4, v5, L, Ln, as, bs, rfl, s1, nL, hL, hP, hLn, hPn⟩
      exact ⟨_, rfl, k H1 L as s1 nL hL hP⟩
end
end Lp
namespace Lp
open PySem L2 LamX
local macro_rules | `(tactic| walk_at "rd") => `(tactic| simp only [tSeq, tAsg, tYes, tTest, tOp, tCB, tCons, tNil, tVar, tC, rI0, rI, gName, wipe, tDisp, tTru, TruV, tB, tNext, tDGet2, tLock, tDIn, tDNotIn, tOr, tNot, tChain, tAnd, tCont, tUn, rU, tPairs, tRet, tIf, tIfS, tPar, tLst, tTup, tDrop, tDGet, tCall, sDPut, L2.start,
  List.map_cons, List.map_nil, List.foldl_cons, List.foldl_nil, List.length_cons, List.length_nil, List.replicate_succ, List.replicate_zero, List.append_nil, List.cons_append, List.nil_append, List.set_cons_zero, List.set_cons_succ, List.getElem?_cons_zero, List.getElem?_cons_succ,
  Option.some.injEq, List.cons.injEq, V.int.injEq, V.bl.injEq, V.ref.injEq, V.str.injEq, exists_eq_left', exists_eq_left, exists_eq_right, and_true, true_and, exists_and_left, Nat.add_zero, Nat.reduceAdd, Nat.reduceSub, Nat.sub_zero, if_true, if_false])
theorem op_in_seqK {X : Cx} {K : PySem.W.Frag} (hK : X.K = K) : OpR X (compareOp .In) (rIn K false) := by
  subst hK
  exact op_in_seq
/-! ### _law_put_lots -/
abbrev sPut : Stmt := top 55
def spPut : Sp := fun vs H Q _ => ∃ (a b : Addr) (x y : List Int), vs = [.ref a, .ref b] ∧ TupAt H x a ∧ TupAt H y b ∧ x.length ≤ 20 ∧ y.length ≤ 20 ∧
  (∀ H', Same H H' → putL x y = none → Q .non H') ∧ ∀ H' t u s z, Same H H' → putL x y = some (s, z) → H' t = some (.tup [.int s, .ref u]) → TupAt H' z u → Q (.ref t) H'
theorem inV_ints (a : Int) : ∀ y : List Int, inV (.int a) (y.map V.int) = decide (a ∈ y)
  | [] => by simp [inV]
  | b :: y => by
    have e : inV (.int a) ((b :: y).map V.int) = (eqV (.int b) (.int a) || inV (.int a) (y.map V.int)) := rfl
    rw [e, inV_ints a y]
    have e2 : eqV (.int b) (.int a) = decide (a = b) := by
      by_cases h : a = b
      · simp [eqV, h]
      · simp [eqV, h, Ne.symm h]
    rw [e2]
    by_cases h : a = b <;> by_cases g : a ∈ y <;> simp [h, g]
section
variable {P : Program} {w : World} {K : PySem.W.Frag} {mg : Str → Option Value} {base : Heap}
theorem scPut : FnScope ["one", "other", "turns_here", "a", "item", "b"] ["one", "other"] (defScope sPut) := ⟨rfl, rfl, rfl, by decide +kernel, rfl, by decide +kernel, by decide +kernel⟩
theorem ok_put {f : Addr} {fd : FuncData} (F0 : Fun K "_law_put_lots" "_law_put_lots" sPut f fd) (LS : Df P w K mg base CX0 1 "_law_sign" ["number"] spSign) (mSorted : mg "sorted" = none) (mTup : mg "tuple" = none) (mLen : mg "len" = none) : FnOk P w K mg base CX0 2 f fd ["one", "other"] spPut := by
  refine F0.ok scPut (fun vs H Q E h => ?_) (fun cdv A outer s H vs Q E hr h => ?_)
  · obtain ⟨a, b, x, y, rfl, _⟩ := h
    rfl
  · obtain ⟨a, b, x, y, rfl, ha, hb, zx, zy, no, yes⟩ := h
    refine ⟨_, pss_cons (ps_if (pt_cmpR (op_neD hr.units) (pe_lc (own := [("item", 4)]) (g := gName 4) rfl scPut.nd (pi_tup (pv 0)) (blkOk_by (N := ["one", "other", "turns_here", "a", "item", "b"]) (sc := defScope sPut) (by decide +kernel))
        (fun _ _ _ _ _ => pg_name (i := 4) scPut.nd rfl (Or.inl rfl)) (fun _ _ _ _ _ => pts_one (pt_cmpR (op_in_seqK (K := K) rfl) (pv 4) (pv 1) (by rfl))) (fun _ _ _ _ _ => pv 4)) (pe_lst pa_nil) (nomark _)) (pss_one (ps_ret pe_non)) pss_nil)
      (pss_cons (ps_set (i := 2) scPut.nd rfl (Or.inl rfl) pe_int)
      (pss_cons (ps_for PassesOwn.never rfl (pi_tup (pv 0)) (pg_name (i := 3) scPut.nd rfl (Or.inr rfl))
        (pss_one (ps_set (i := 2) scPut.nd rfl (Or.inl rfl) (pe_op op_add (pv 2) (pe_callB call_len_seq (by rfl) mLen PySem.boot_len (pa_cons (pe_lc (own := [("b", 5)]) (g := gName 5) rfl scPut.nd (pi_tup (pv 1)) (blkOk_by (N := ["one", "other", "turns_here", "a", "item", "b"]) (sc := defScope sPut) (by decide +kernel))
          (fun _ _ _ _ _ => pg_name (i := 5) scPut.nd rfl (Or.inl rfl)) (fun _ _ _ _ _ => pts_one (pt_cmpR op_gt (pv 3) (pv 5) (nomark _))) (fun _ _ _ _ _ => pe_int)) pa_nil))))))
      (pss_one (ps_ret (pe_tup (pa_cons (pe_df LS hr (by rfl) pass0 (pa_cons (pv 2) pa_nil)) (pa_cons (pe_callTy call_tuple_of (by rfl) mTup (by decide +kernel) (pa_cons (pe_callB cr_sortT (by rfl) mSorted (by decide +kernel) (pa_cons (pe_op (r := rCatA K) op_catA (pv 0) (pv 1)) pa_nil)) pa_nil)) pa_nil))))))), ?_⟩
    refine ⟨_, rfl, a, rfl, ⟨_, SqT.of ha⟩, fun D nD => ?_⟩
    refine lc_it (walk_tup (xs := x.map V.int)) (fun i H' => Same H H' ∧ H' D = some (.lst (((x.take i).filter fun a => decide (a ∈ y)).map V.int))) ⟨same_new nD, upd_same⟩ (fun i H' _ h => SqT.of (h.1 _ _ ha)) ?_ ?_
    · rintro i v H1 H2 hi ⟨s1, hD⟩ ⟨rfl, hv⟩
      obtain ⟨c, hc, rfl⟩ := int_at hv
      show gName 4 (.int c) _ _ _
      refine ⟨rfl, ?_⟩
      refine ⟨_, rfl, _, rfl, b, _, rfl, .inr (SqT.of (s1 _ _ hb)), rfl, ?_, _, rfl, ?_⟩
      · rw [List.all_map, List.all_eq_true]
        intro _ _
        rfl
      rw [show (if false = true then !inV (V.int c) (y.map V.int) else inV (V.int c) (y.map V.int)) = decide (c ∈ y) from by rw [if_neg (by decide), inV_ints]]
      have tk := take_snoc hc
      by_cases m : c ∈ y
      · rw [decide_eq_true m]
        refine iteT ⟨_, rfl, _, hD, ?_, same_upd s1 nD, ?_⟩
        · rw [List.length_map]
          have h2 := List.length_filter_le (fun a => decide (a ∈ y)) (x.take i)
          rw [List.length_take] at h2
          exact small1000 (by omega)
        · rw [upd_same, tk, List.filter_append, List.filter_cons, if_pos (decide_eq_true m), List.map_append]
          rfl
      · rw [decide_eq_false m]
        refine iteF ⟨s1, ?_⟩
        rw [tk, List.filter_append, List.filter_cons, if_neg (by rw [decide_eq_false m]; decide), List.filter_nil, List.append_nil]
        exact hD
    · rintro H1 ⟨s1, hD⟩
      rw [List.length_map, List.take_length] at hD
      refine ⟨by show 0 ≤ sizeLine; decide, fun p2 np2 => ?_⟩
      have s2 : Same H1 (upd H1 p2 (.lst [])) := same_new np2
      refine ⟨.list ((x.filter fun a => decide (a ∈ y)).map PyData.int), .list [], .lst (SqL.of (s2 _ _ hD)) (dpInts _), .lst (SqL.of upd_same) .nil, shInts _, rfl, _, rfl, ?_⟩
      rw [eqv_nil]
      generalize upd H1 p2 (.lst []) = G at s2
      have sG := s1.trans s2
      have e1 : (x.filter fun a => decide (a ∈ y)).isEmpty = !(x.any fun a => decide (a ∈ y)) := by
        rw [Bool.eq_iff_iff]
        simp [List.isEmpty_iff, List.filter_eq_nil_iff]
      rw [e1, Bool.not_not]
      cases ea : (x.any fun a => decide (a ∈ y)) with
      | true => exact iteT (no G sG (by unfold putL; rw [if_pos ea]))
      | false =>
        have ep : putL x y = some (sgn (inv x y), sortI (x ++ y)) := by
          unfold putL
          rw [if_neg (by rw [ea]; decide)]
        refine iteF ?_
        refine ⟨_, rfl, a, rfl, ⟨_, SqT.of (sG _ _ ha)⟩, for_tup (K := K) (a := a) (xs := x.map V.int) (fun i σ H' => ∃ v3, σ = [some (.ref a), some (.ref b), some (.int (inv (x.take i) y)), v3, none, none] ∧ Same G H') ?_ ?_ ?_ ?_⟩
        · exact ⟨none, rfl, Same.refl _⟩
        · rintro i σ H' _ ⟨_, _, s3⟩
          exact SqT.of ((sG.trans s3) _ _ ha)
        · rintro i v σ H2 hi ⟨v3, rfl, s3⟩
          obtain ⟨c, hc, rfl⟩ := int_at hi
          show gName 3 (.int c) _ _ _
          refine ⟨_, rfl, ?_⟩
          have hb2 := (sG.trans s3) _ _ hb
          refine ⟨_, rfl, b, rfl, ⟨_, SqT.of hb2⟩, fun D2 nD2 => ?_⟩
          refine lc_it (walk_tup (xs := y.map V.int)) (fun j H' => Same H2 H' ∧ ∃ u : Nat, u = ((y.take j).filter fun d => decide (c > d)).length ∧ H' D2 = some (.lst (List.replicate u (V.int 1)))) ⟨same_new nD2, 0, rfl, upd_same⟩ (fun j H' _ h => SqT.of (h.1 _ _ hb2)) ?_ ?_
          · rintro j v H3 H4 hj ⟨s4, u, eu, hD2⟩ ⟨rfl, hv⟩
            obtain ⟨d, hd, rfl⟩ := int_at hv
            show gName 5 (.int d) _ _ _
            walk_at "rd"
            have tk := take_snoc hd
            by_cases ad : d < c
            · rw [decide_eq_true ad, if_pos rfl]
              refine ⟨_, hD2, ?_, same_upd s4 nD2, ?_⟩
              · rw [List.length_replicate, eu]
                have h2 := List.length_filter_le (fun d => decide (c > d)) (y.take j)
                rw [List.length_take] at h2
                exact small1000 (by omega)
              · rw [upd_same, tk, List.filter_append, List.filter_cons, if_pos (decide_eq_true (show c > d from ad)), List.length_append, eu, List.filter_nil, List.length_singleton, List.replicate_succ']
            · rw [decide_eq_false ad, if_neg (by decide)]
              refine ⟨s4, ?_⟩
              rw [tk, List.filter_append, List.filter_cons, if_neg (by rw [decide_eq_false (show ¬ c > d from ad)]; decide), List.filter_nil, List.append_nil, ← eu]
              exact hD2
          · rintro H3 ⟨s4, u, eu, hD2⟩
            rw [List.length_map, List.take_length] at eu
            refine ⟨D2, _, rfl, .inl (SqL.of hD2), _, _, rfl, rfl, ?_⟩
            show gName 2 _ _ _ _
            refine ⟨some (.int c), ?_, s3.trans s4⟩
            rw [take_snoc hc, inv_snoc, List.length_replicate, eu]
            rfl
        · rintro σ H2 ⟨v3, rfl, s3⟩
          rw [List.length_map, List.take_length]
          have s5 := sG.trans s3
          refine ⟨_, rfl, _, rfl, ?_⟩
          refine ⟨_, rfl, _, rfl, rCatK (s5 _ _ ha) (s5 _ _ hb) (by omega) fun H3 r s6 hr => ?_⟩
          refine ⟨r, x ++ y, rfl, SqT.of hr, fun ns p pm asc np => ?_⟩
          have ens : ns = sortI (x ++ y) := sortI_eq pm asc
          subst ens
          refine ⟨p, _, rfl, .inl ⟨SqL.of upd_same, fun t nt => ?_⟩⟩
          refine ⟨by show 2 ≤ sizeLine; decide, fun q nq => ?_⟩
          have sQ : Same H3 (upd (upd (upd H3 p (.lst ((sortI (x ++ y)).map V.int))) t (.tup ((sortI (x ++ y)).map V.int))) q (.tup [.int (sgn (inv x y)), .ref t])) := ((same_new np).trans (same_new nt)).trans (same_new nq)
          exact yes _ q t _ _ ((s5.trans s6).trans sQ) ep upd_same ((same_new nq) _ _ upd_same)
end
end Lp
namespace Lp
open PySem PySem.Spec PySem.Calls PyProof.Rows L2
open AutoSeq1 (wpAny_loadPart')
/-! ### for i, x in enumerate(t), t a tuple -/
theorem meets_enumerate_newT (l : Addr) (items : Array Value) (n : Nat) (dct : Option Addr) (sl : Array (Option Value)) :
    Meets (Builtin.«enumerate.__new__» ⟨[.type "enumerate", .ref l], []⟩) (fun _ R s => s.heap.get? l = some { cls := .type "tuple", dict := dct, data := .seq items n, slots := sl } ∧
      R (.ok (.ret (.ref (s.heap.push { cls := .type "tuple_iterator", data := .fields #[.ref l, .int 0 0] }).objs.size)))
        { s with heap := (s.heap.push { cls := .type "tuple_iterator", data := .fields #[.ref l, .int 0 0] }).push { cls := .type "enumerate", data := .fields #[.none, .bool false, .ref s.heap.objs.size, rawInt 0, .none, .none] } }) :=
  .of_wp fun prog w A R s h => by
    obtain ⟨hp, g, d, tk, os⟩ := s; obtain ⟨hl, h⟩ := h
    have hsub := sub_enumerate
    have hL : Heap.IsTuple (Shared.heap ⟨hp, g, d, tk, os⟩) l items := ⟨_, hl, rfl, n, rfl⟩
    wp_walk using wpAny_loadPart' hl
    refine wpAny_stack_any fun st => wpAny_pure ?_
    split
    · rename_i c _ _ _ _ _
      cases (c == Value.type "enumerate")
      · wp_walk using wpAny_loadPart' hl, wpAny_pyIter_tuple hL
        exact ⟨_, rfl, h⟩
      · wp_walk using wpAny_loadPart' hl, wpAny_pyIter_tuple hL
        exact ⟨_, rfl, h⟩
    · wp_walk using wpAny_loadPart' hl, wpAny_pyIter_tuple hL
      exact ⟨_, rfl, h⟩
theorem call_enumerate_tup {prog : Program} {w : World} {A : Around} {E : Value → Shared → Prop} {s : Shared} {l : Addr} {items : Array Value} {Q : Value → Shared → Prop} (hL : s.heap.IsTuple l items)
    (h : ∀ h', IsEnum h' (s.heap.objs.size + 1) s.heap.objs.size 0 .none → h'.IsTupleIter s.heap.objs.size l 0 → h'.objs.size = s.heap.objs.size + 2 →
      (∀ b o, s.heap.get? b = some o → h'.get? b = some o) → Q (.ref (s.heap.objs.size + 1)) { s with heap := h' }) :
    wpAny (model prog w) A (call (.type "enumerate") [.ref l]) Q E s := by
  obtain ⟨⟨c, dct, dt, sl⟩, hl, hc, n, hd⟩ := hL
  replace hc : c = .type "tuple" := hc
  replace hd : dt = .seq items n := hd
  subst hc hd
  refine callType_new PySem.F.called_enumerate (by decide) (PySem.F.typeCall_enumerate_1 _) (PySem.F.newCall_enumerate_1 _) (fun obj => PySem.F.args_object_init_2 obj _) PySem.F.entry_enumerate_new
    (meets_enumerate_newT l items n dct sl) ⟨hl, ?_⟩
  have hz : (s.heap.push { cls := .type "tuple_iterator", data := .fields #[.ref l, .int 0 0] }).objs.size = s.heap.objs.size + 1 := Heap.size_push ..
  show _ ∧ _
  rw [hz]
  have he : IsEnum ((s.heap.push { cls := .type "tuple_iterator", data := .fields #[.ref l, .int 0 0] }).push
      { cls := .type "enumerate", data := .fields #[.none, .bool false, .ref s.heap.objs.size, rawInt 0, .none, .none] }) (s.heap.objs.size + 1) s.heap.objs.size 0 .none := by
    have := Heap.get?_push_size (s.heap.push { cls := .type "tuple_iterator", data := .fields #[.ref l, .int 0 0] })
      (o := { cls := .type "enumerate", data := .fields #[.none, .bool false, .ref s.heap.objs.size, rawInt 0, .none, .none] }) rfl
    rw [hz] at this; exact this
  refine ⟨⟨_, he, rfl⟩, h _ he ⟨_, Heap.get?_push_of_some _ (Heap.get?_push_size _ rfl), rfl, rfl⟩ (by rw [Heap.size_push, hz]) fun b o x => Heap.get?_push_of_some _ (Heap.get?_push_of_some _ x)⟩
def Itet (K : PySem.W.Frag) (a : Addr) : It :=
  ⟨fun i H => ∃ (xs : List V) (x : V), SqT K H a xs ∧ xs[i]? = some x, fun i H v H' => ∃ T x, v = .ref T ∧ H T = none ∧ H' = upd H T (.tup [.int (i : Nat), x]) ∧ ∀ xs, SqT K H a xs → xs[i]? = some x, fun i H => ∃ xs : List V, SqT K H a xs ∧ xs.length ≤ i⟩
theorem turn_enumT {P : Program} {w : World} {K : PySem.W.Frag} {elts : List Expr} {kk : Nat} {tpos : Pos} (a e it : Addr) :
    Turn P w K (.Tuple elts kk tpos) (Itet K a) [e, it] e (fun i h => (∃ old, IsEnum h e it ((i : Nat) : Int) old) ∧ h.IsTupleIter it a i ∧ e ≠ it ∧ a ≠ it) where
  mem := by simp
  obj := fun i h st b hb => by
    obtain ⟨⟨old, he⟩, ⟨o, ho, hc, hd⟩, _⟩ := st
    have e' : b = e ∨ b = it := by simpa using hb
    rcases e' with z | z
    · rw [z]; exact ⟨_, he, fun v q => nomatch q⟩
    · rw [z]; exact ⟨o, ho, fun v q => by rw [hd] at q; cases q⟩
  keep := fun i h h' st k => let ⟨⟨old, he⟩, hi, hne⟩ := st; ⟨⟨old, k e (by simp) _ he⟩, hi.at fun o q => k it (by simp) o q, hne⟩
  item := by
    intro X hP hw hK hc i pins s σ H E I hf st hg
    subst hP hw hK
    obtain ⟨⟨old, he⟩, hit, hne, hai⟩ := st
    obtain ⟨xs, x, hq, hx⟩ := hg
    obtain ⟨its, rv, p, hz⟩ := I.tuple hq
    obtain ⟨u, hu, ru⟩ := rv.get hx
    have hel : e < s.heap.objs.size := Heap.lt_size he
    have hil : it < s.heap.objs.size := by obtain ⟨_, q, _⟩ := hit; exact Heap.lt_size q
    have hh : X.A.in1.handled = none := I.ok.hd hc
    have p' : s.heap.IsTuple a its.toArray := p
    have li : i < its.toArray.size := by
      rw [List.size_toArray]
      exact (List.getElem?_eq_some_iff.mp hu).1
    have nea : e ≠ a := fun z => by
      obtain ⟨o, ho, hcl, _⟩ := p'
      rw [← z] at ho
      have := he.symm.trans ho
      rw [← Option.some.inj this] at hcl
      exact absurd (show (Value.type "enumerate" == Value.type "tuple") = true by rw [show Value.type "enumerate" = Value.type "tuple" from hcl]; rfl) (by decide)
    refine wpAny_pyNext_enum_itemD (PySem.Draws.tuple hh it a hai its.toArray) he ⟨hit, p'⟩ li hne (by simp [hne, nea]) fun x' h' tk hx' ho hst hT hsz hk => ?_
    have ex : x' = u := by
      have h1 : its.toArray[i]? = some u := by simpa using hu
      rw [h1] at hx'
      exact (Option.some.inj hx').symm
    rw [← ex] at ru
    clear ex hu hx'
    refine ⟨_, rfl, wpAny_letOwnedTupleGo_enum (s := { s with heap := h', toks := tk + 1 }) ho fun h'' he' sb => ?_⟩
    have hT2 := (sb.2 _ (Nat.ne_of_gt hel)).trans hT
    have new : ObjOk X.prog X.w (upd H s.heap.objs.size (.tup [.int (i : Nat), x])) h'' s.heap.objs.size (.tup [.int (i : Nat), x]) :=
      ⟨by show 2 ≤ sizeLine; decide, [_, x'], .cons ⟨_, rfl⟩ (.cons ru .nil), ⟨_, hT2, rfl, _, rfl⟩⟩
    have I1 : Inv X pins σ (upd H s.heap.objs.size (.tup [.int (i : Nat), x])) { s with heap := h'', toks := tk + 1 } :=
      I.turnedNew (ch := [e, it]) (fun b ob hb q => (sb.2 b (fun z => hb (by simp [z]))).trans (hk b ob (fun z => hb (by simp [z])) (fun z => hb (by simp [z])) q)) hf (Nat.le_refl _) new
    refine ⟨.ref s.heap.objs.size, _, I1, rfl, ⟨_, x, rfl, I.hok.fresh (Nat.le_refl _), rfl, fun ys hy => by rw [I.tuple_inj hy hq]; exact hx⟩, ⟨⟨x', ?_⟩, hst.1.at fun o q => (sb.2 it (Ne.symm hne)).trans q, hne, hai⟩, fun b hb => ?_⟩
    · have e1 : ((i + 1 : Nat) : Int) = (i : Int) + 1 := by omega
      rw [e1]; exact he'
    · have hb' : b < s.heap.objs.size := by
        have e' : b = e ∨ b = it := by simpa using hb
        rcases e' with z | z
        · rw [z]; exact hel
        · rw [z]; exact hil
      rw [upd_ne (Nat.ne_of_lt hb')]
      exact (hf b hb).1
  done := by
    intro X hP hw hK hc i pins s σ H E I hf st hg
    subst hP hw hK
    obtain ⟨⟨old, he⟩, hit, hne, hai⟩ := st
    obtain ⟨xs, hq, hx⟩ := hg
    obtain ⟨its, rv, p, hz⟩ := I.tuple hq
    have p' : s.heap.IsTuple a its.toArray := p
    obtain ⟨f0, f1, f2, f3, f4, f5⟩ := hf it (by simp)
    have hl := rv.length
    have hh : X.A.in1.handled = none := I.ok.hd hc
    have hT : s.TypeIs (.ref e) "enumerate" := ⟨_, he, rfl⟩
    unfold pyNext
    refine wpAny_bind (wpAny_attempt (wpAny_callSpecial?_slot (name := Str.ofString "__next__") hT PySem.F.slot_enumerate_next
      (wpAny_call_entry PySem.F.slot_enumerate_next hT PySem.F.entry_enumerate_next ?_ (PySem.F.args_enumerate_next_1 _))))
    show wpAny _ _ (field (.ref e) 2 >>= _) _ _ _
    refine wpAny_bind (wpAny_field he rfl (x := .ref it) rfl ?_)
    refine wpAny_bind (wpAny_nextOf_tuple_end hh hit p' (by simp; omega) fun h' x he' hx' => ?_)
    obtain ⟨o, ho, hcc⟩ := hx'
    refine wpAny_bind (wpAny_isInstance (T := "StopIteration") (b := true) ⟨o, ho, hcc⟩ isSubtype_stop ?_)
    exact wpAny_pure ⟨rfl, I.turned (t' := s.toks) (fun b o hb q => he' b o hb q) f0 f1 f3 f4 f5⟩
  self := fun A i s Q E st h => let ⟨⟨_, he⟩, _⟩ := st; wpAny_pyIter_enum he h
def iEnumT (K : PySem.W.Frag) (ta : TA) : TI := fun σ H R => ta σ H fun vs H1 => ∃ a xs, vs = [.ref a] ∧ SqT K H1 a xs ∧ R (Itet K a) H1
theorem pi_enumT {X : Cx} {e : Expr} {ta : TA} {p pos tpos : Pos} {elts : List Expr} {kk : Nat} (hg : Gl X "enumerate") (hm : X.mg "enumerate" = none) (ha : PA X [e] ta) (hs : starEach [e] X.env = [(false, eval e X.env)] := by rfl) :
    PI X (.Tuple elts kk tpos) (.Call (.Name "enumerate" p) [e] [] pos) (iEnumT X.K ta) := by
  refine ⟨fun pins s σ H R I h => ?_⟩
  refine Call_ (ld_blt I hg hm boot_enumerate (PyProof.Rows.callWith_type1 (thn (ha.run pos pins s σ H _ I h) fun us s1 ⟨vs, H1, I1, r1, q1⟩ => ?_) hs rfl))
  obtain ⟨a, xs, ex, hq, q⟩ := q1
  subst ex
  cases r1 with
  | cons r rr =>
    cases rr
    cases r
    obtain ⟨its, rv, p', hz⟩ := I1.tuple hq
    have la : a < s1.heap.objs.size := by
      obtain ⟨o, ho, _⟩ := p'
      exact Heap.lt_size ho
    refine call_enumerate_tup (show s1.heap.IsTuple a its.toArray from p') fun h' he hit hsz hk => wpAny_pyIter_enum he ?_
    have I2 : Inv X pins σ H1 { s1 with heap := h' } := I1.kept (t' := s1.toks) hk
    refine ⟨s1.heap.objs.size + 1, [s1.heap.objs.size + 1, s1.heap.objs.size], _, _, H1, rfl, I2, turn_enumT a (s1.heap.objs.size + 1) s1.heap.objs.size, ⟨⟨.none, he⟩, hit, Nat.succ_ne_self _, Nat.ne_of_lt la⟩, fun b hb => ?_, q⟩
    have e' : b = s1.heap.objs.size + 1 ∨ b = s1.heap.objs.size := by simpa using hb
    have hle : s1.heap.objs.size ≤ b := by
      rcases e' with z | z
      · rw [z]; exact Nat.le_add_right _ _
      · rw [z]; exact Nat.le_refl _
    exact I1.fpOk hle (I1.hok.fresh hle)
theorem walk_enumT {K : PySem.W.Frag} {a : Addr} {xs : List V} : Walk (Itet K a) xs.length (fun H => SqT K H a xs) (YPair (fun i => some (.int (i : Nat))) (fun i => xs[i]?)) := by
  refine ⟨fun i _ hi q => ⟨xs, xs[i], q, by simp [hi]⟩, fun _ q => ⟨xs, q, Nat.le_refl _⟩, fun i H v H' _ q y => ?_⟩
  obtain ⟨T, x, h1, h2, h3, h4⟩ := y
  exact ⟨T, .int (i : Nat), x, h1, h2, h3, rfl, h4 xs q⟩
end Lp
namespace Lp
open PySem L2 LamX
local macro_rules | `(tactic| walk_at "rd") => `(tactic| simp only [tSeq, tAsg, tYes, tTest, tOp, tCB, tCons, tNil, tVar, tC, rI0, rI, gName, wipe, tDisp, tTru, TruV, tB, tNext, tDGet2, tLock, tDIn, tDNotIn, tOr, tNot, tChain, tAnd, tCont, tUn, rU, tPairs, tRet, tIf, tIfS, tPar, tLst, tTup, tDrop, tDGet, tCall, sDPut, L2.start,
  List.map_cons, List.map_nil, List.foldl_cons, List.foldl_nil, List.length_cons, List.length_nil, List.replicate_succ, List.replicate_zero, List.append_nil, List.cons_append, List.nil_append, List.set_cons_zero, List.set_cons_succ, List.getElem?_cons_zero, List.getElem?_cons_succ,
  Option.some.injEq, List.cons.injEq, V.int.injEq, V.bl.injEq, V.ref.injEq, V.str.injEq, exists_eq_left', exists_eq_left, exists_eq_right, and_true, true_and, exists_and_left, Nat.add_zero, Nat.reduceAdd, Nat.reduceSub, Nat.sub_zero, if_true, if_false])
/-! ### _law_turning_of -/
theorem sliceL {K : PySem.W.Frag} {H : Hp} {b : Addr} {w : List Int} {s : Nat} {Q : VK} (h : TupAt H w b) (hs : s ≤ w.length) (k : ∀ H' p, Same H H' → TupAt H' (w.take s) p → Q (.ref p) H') : rSlA K (.ref b) none (some (s : Int)) H Q := by
  have e1 : HT.sIx (w.map V.int).length (w.map V.int).length (some (s : Int)) = s := by
    rw [HT.sIx_nat, List.length_map, Nat.min_eq_left hs]
  refine ⟨b, _, rfl, SqT.of h, fun z => ?_, fun _ p np => ?_⟩
  · rw [e1, List.length_map] at z
    have e : w.take s = w := by rw [z.2, List.take_length]
    exact k H b (Same.refl H) (by rw [e]; exact h)
  · have e : cutV (w.map V.int) none (some (s : Int)) = (w.take s).map V.int := by
      unfold cutV
      rw [e1, HT.sIx_none]
      show List.take (s - 0) (w.map V.int) = _
      rw [Nat.sub_zero, List.map_take]
    rw [e]
    exact k _ p (same_new np) upd_same
theorem sliceR {K : PySem.W.Frag} {H : Hp} {b : Addr} {w : List Int} {s : Nat} {Q : VK} (h : TupAt H w b) (hs : s ≤ w.length) (k : ∀ H' p, Same H H' → TupAt H' (w.drop s) p → Q (.ref p) H') : rSlA K (.ref b) (some (s : Int)) none H Q := by
  have e1 : HT.sIx (w.map V.int).length 0 (some (s : Int)) = s := by
    rw [HT.sIx_nat, List.length_map, Nat.min_eq_left hs]
  refine ⟨b, _, rfl, SqT.of h, fun z => ?_, fun _ p np => ?_⟩
  · rw [e1] at z
    have e : w.drop s = w := by rw [z.1]; rfl
    exact k H b (Same.refl H) (by rw [e]; exact h)
  · have e : cutV (w.map V.int) (some (s : Int)) none = (w.drop s).map V.int := by
      unfold cutV
      rw [e1, HT.sIx_none, List.map_drop]
      exact List.take_of_length_le (by rw [List.length_drop]; exact Nat.le_refl _)
    rw [e]
    exact k _ p (same_new np) upd_same
theorem putL_some {x y z : List Int} {s : Int} (h : putL x y = some (s, z)) : s.natAbs = 1 ∧ z.length = x.length + y.length := by
  unfold putL at h
  by_cases e : (x.any fun a => decide (a ∈ y)) = true
  · rw [if_pos e] at h; cases h
  · rw [if_neg e] at h
    have h1 := (Prod.mk.inj (Option.some.inj h)).1
    have h2 := (Prod.mk.inj (Option.some.inj h)).2
    refine ⟨?_, ?_⟩
    · rw [← h1]
      rcases sgn_cases ((inv x y : Nat) : Int) with e | e <;> rw [e] <;> rfl
    · rw [← h2, (sortI_perm _).length_eq, List.length_append]
abbrev sTof : Stmt := top 56
def spTof : Sp := fun vs H Q _ => ∃ (fs : Addr) (p : Int) (n : Nat) (F : Nat → PRow), vs = [.int p, .int n, .ref fs] ∧ n ≤ 5 ∧ (0 < p ∧ p ≤ 31) ∧ FirstsAt H fs n F ∧
  ∀ H' sk it D, Same H H' → H sk = none → SkAt H' sk p (hlN n) (fun k => nfR p (rowL (lotsN n) k)) (fun k => nfR p (D k)) it → DOk n F D → (∀ k : Int, ¬ (0 ≤ k ∧ k < (2 ^ n : Nat)) → D k = []) → (∀ e ∈ it, 0 ≤ e.1 ∧ e.1 < (2 ^ n : Nat)) → Q (.ref sk) H'
abbrev nTof : List Str := ["field", "letters_here", "steps_here", "lots", "at", "product_here", "step_here", "k", "lot", "one", "other", "both", "row", "spot", "letter", "pair", "first", "last", "number"]
section
variable {P : Program} {w : World} {K : PySem.W.Frag} {mg : Str → Option Value} {base : Heap}
theorem scTof : FnScope nTof ["field", "letters_here", "steps_here"] (defScope sTof) := ⟨rfl, rfl, rfl, by decide +kernel, rfl, by decide +kernel, by decide +kernel⟩
theorem ok_tof {f : Addr} {fd : FuncData} (F0 : Fun K "_law_turning_of" "_law_turning_of" sTof f fd) (LL : Df P w K mg base CX0 1 "_law_lots" ["letters_here"] spLLots) (PL : Df P w K mg base CX0 2 "_law_put_lots" ["one", "other"] spPut) (LS : Df P w K mg base CX0 1 "_law_sign" ["number"] spSign)
    (FR : Df P w K mg base CX0 3 "_law_framed" ["field", "heights_here", "product_here", "step_here"] spFramed) (mEnum : mg "enumerate" = none) (mLen : mg "len" = none) : FnOk P w K mg base CX0 4 f fd ["field", "letters_here", "steps_here"] spTof := by
  refine F0.ok scTof (fun vs H Q E h => ?_) (fun cdv A outer s H vs Q E hr h => ?_)
  · obtain ⟨fs, p, n, F, rfl, _⟩ := h
    rfl
  · obtain ⟨fs, p, n, F, rfl, hn, ⟨hp, hp31⟩, FA, k⟩ := h
    have hu := hu_of hr
    have t2 : ∀ {i j : Nat}, True := fun {_ _} => trivial
    refine ⟨_, pss_cons (ps_set (i := 3) scTof.nd rfl (Or.inl rfl) (pe_df LL (hr.mono (by decide)) (by rfl) pass0 (pa_cons (pv 1) pa_nil)))
      (pss_cons (ps_par3 (i := 4) (j := 5) (l := 6) (by rfl) scTof.nd rfl rfl rfl (by decide) (by decide) (by decide) rfl rfl rfl (pa_cons pe_dnewT (pa_cons pe_dnewT (pa_cons pe_dnewK pa_nil))) (by rfl))
      (pss_cons (ps_for PassesOwn.never rfl (pi_enum (by rfl) mEnum (pa_cons (pv 3) pa_nil)) (pg_tup rfl (pgs_cons (pg_name (i := 7) scTof.nd rfl (Or.inl rfl)) (pgs_cons (pg_name (i := 8) scTof.nd rfl (Or.inl rfl)) pgs_nil)))
        (pss_one (ps_dput hu (pv 4) (pv 8) (pv 7) rfl)))
      (pss_cons (ps_for PassesOwn.never rfl (pi_list (pv 3)) (pg_name (i := 9) scTof.nd rfl (Or.inl rfl))
        (pss_one (ps_for PassesOwn.never rfl (pi_list (pv 3)) (pg_name (i := 10) scTof.nd rfl (Or.inl rfl))
          (pss_cons (ps_set (i := 11) scTof.nd rfl (Or.inl rfl) (pe_df PL (hr.mono (by decide)) (by rfl) pass0 (pa_cons (pv 9) (pa_cons (pv 10) pa_nil))))
          (pss_one (ps_if (pt_cmpR op_notN (pv 11) pe_non (nomark _))
            (pss_one (ps_dput hu (pv 5) (pe_tup (pa_cons (pe_dget hu (pv 4) (pv 9) (fun _ _ => rfl)) (pa_cons (pe_dget hu (pv 4) (pv 10) (fun _ _ => rfl)) pa_nil)))
              (pe_disp (pps_cons (pe_dget hu (pv 4) (pe_ix (r := rIxT K) ix_tup (pv 11) pe_int (fun _ _ => rfl)) (fun _ _ => rfl)) (pe_ix (r := rIxT K) ix_tup (pv 11) pe_int (fun _ _ => rfl)) pps_nil) (by rfl) (by rfl) (by simp) (by decide)) rfl)) pss_nil))))))
      (pss_cons (ps_for PassesOwn.never rfl (pi_list (pv 3)) (pg_name (i := 8) scTof.nd rfl (Or.inl rfl))
        (pss_cons (ps_set (i := 12) scTof.nd rfl (Or.inl rfl) pe_dnewK)
        (pss_cons (ps_for PassesOwn.never rfl (pi_enumT (by rfl) mEnum (pa_cons (pv 8) pa_nil)) (pg_tup rfl (pgs_cons (pg_name (i := 13) scTof.nd rfl (Or.inl rfl)) (pgs_cons (pg_name (i := 14) scTof.nd rfl (Or.inl rfl)) pgs_nil)))
          (pss_one (ps_lock (ps_for PassesOwn.never rfl (pi_keys (pe_ix (r := rIx K) ix_seq (pv 2) (pv 14) (fun _ _ => rfl))) (pg_name (i := 15) scTof.nd rfl (Or.inl rfl))
            (pss_cons (ps_set (i := 16) scTof.nd rfl (Or.inl rfl) (pe_df PL (hr.mono (by decide)) (by rfl) pass0 (pa_cons (pe_slice (r := rSlA K) sl_tupA (pv 8) po_none (po_some (pv 13))) (pa_cons (pv 15) pa_nil))))
            (pss_cons (ps_set (i := 17) scTof.nd rfl (Or.inl rfl) (pe_ifExp (pt_cmpR op_notN (pv 16) pe_non (nomark _)) (pe_df PL (hr.mono (by decide)) (by rfl) pass0 (pa_cons (pe_ix (r := rIxT K) ix_tup (pv 16) pe_int (fun _ _ => rfl)) (pa_cons (pe_slice (r := rSlA K) sl_tupA (pv 8) (po_some (pe_op op_add (pv 13) pe_int)) po_none) pa_nil))) pe_non))
            (pss_one (ps_if (pt_cmpR op_notN (pv 17) pe_non (nomark _))
              (pss_cons (ps_set (i := 18) scTof.nd rfl (Or.inl rfl) (pe_op op_mul (pe_op op_mul (pe_op op_mul (pe_df LS (hr.mono (by decide)) (by rfl) pass0 (pa_cons (pv 13) pa_nil)) (pe_ix (r := rIxT K) ix_tup (pv 16) pe_int (fun _ _ => rfl))) (pe_ix (r := rIxT K) ix_tup (pv 17) pe_int (fun _ _ => rfl)))
                (pe_dget hu (pe_ix (r := rIx K) ix_seq (pv 2) (pv 14) (fun _ _ => rfl)) (pv 15) (fun _ _ => rfl))))
              (pss_one (ps_dput hu (pv 12) (pe_dget hu (pv 4) (pe_ix (r := rIxT K) ix_tup (pv 17) pe_int (fun _ _ => rfl)) (fun _ _ => rfl))
                (pe_op op_add (pe_dget2 hu (pv 12) (pe_dget hu (pv 4) (pe_ix (r := rIxT K) ix_tup (pv 17) pe_int (fun _ _ => rfl)) (fun _ _ => rfl)) pe_int ⟨rfl, rfl, rfl, rfl⟩) (pv 18)) rfl))) pss_nil))))))))
        (pss_one (ps_dput hu (pv 6) (pe_dget hu (pv 4) (pv 8) (fun _ _ => rfl)) (pv 12) rfl)))))
      (pss_one (ps_ret (pe_df FR hr (by rfl) pass0 (pa_cons (pv 0) (pa_cons (pe_lc (own := [("lot", 8)]) (g := gName 8) (tt := tYes) rfl scTof.nd (pi_list (pv 3)) (blkOk_by (N := nTof) (sc := defScope sTof) (by decide +kernel))
          (fun _ _ _ _ _ => pg_name (i := 8) scTof.nd rfl (Or.inl rfl)) (fun _ _ _ _ _ => pts_nil) (fun _ _ _ _ _ => pe_callB (call_lenK (K := K) rfl) (by rfl) mLen PySem.boot_len (pa_cons (pv 8) pa_nil))) (pa_cons (pv 5) (pa_cons (pv 6) pa_nil))))))))))), ?_⟩
    have L := lots_ok hn
    have L2n : 2 ^ n ≤ 2 ^ 5 := Nat.pow_le_pow_right (by decide) hn
    have z32 : (lotsN n).length ≤ 32 := by rw [L.len]; omega
    have z5 : ∀ x ∈ lotsN n, x.length ≤ 5 := fun x m => by
      have := subsG_short n x ((lots_perm n hn).mem_iff.mp m)
      omega
    refine ⟨_, rfl, n, rfl, hn, fun H1 l as s1 nl hl hk => ?_⟩
    show gName 3 (.ref l) _ _ _
    have lz : as.length = (lotsN n).length := (Paired.length hk).symm
    intro A1 nA P1 nP S1 nS
    refine ⟨_, _, _, rfl, ?_⟩
    -- what stands of the three new dicts
    have hHA : H A1 = none := none_of_same s1 nA
    have hHP : H P1 = none := none_of_same s1 (none_upd nP)
    have hHS : H S1 = none := none_of_same s1 (none_upd (none_upd nS))
    have nPA : P1 ≠ A1 := fun e => by rw [e, upd_same] at nP; cases nP
    have nSP : S1 ≠ P1 := fun e => by rw [e, upd_same] at nS; cases nS
    have nSA : S1 ≠ A1 := fun e => by rw [e, upd_ne (Ne.symm nPA), upd_same] at nS; cases nS
    have s3 : Same H1 (upd (upd (upd H1 A1 (.dT [])) P1 (.dT [])) S1 (.dK [])) := ((same_new nA).trans (same_new nP)).trans (same_new nS)
    have hA3 : (upd (upd (upd H1 A1 (.dT [])) P1 (.dT [])) S1 (.dK [])) A1 = some (.dT []) := by rw [upd_ne (Ne.symm nSA), upd_ne (Ne.symm nPA)]; exact upd_same
    have hP3 : (upd (upd (upd H1 A1 (.dT [])) P1 (.dT [])) S1 (.dK [])) P1 = some (.dT []) := by rw [upd_ne (Ne.symm nSP)]; exact upd_same
    have hS3 : (upd (upd (upd H1 A1 (.dT [])) P1 (.dT [])) S1 (.dK [])) S1 = some (.dK []) := upd_same
    generalize upd (upd (upd H1 A1 (.dT [])) P1 (.dT [])) S1 (.dK []) = HB at s3 hA3 hP3 hS3
    have nlA : l ≠ A1 := ne_of_none hl nA
    have nlP : l ≠ P1 := ne_of_none hl (none_upd nP)
    have nlS : l ≠ S1 := ne_of_none hl (none_upd (none_upd nS))
    have n1P : H1 P1 = none := none_upd nP
    have n1S : H1 S1 = none := none_upd (none_upd nS)
    -- at
    refine ⟨_, rfl, l, _, rfl, SqL.of (s3 _ _ hl), ?_⟩
    refine for_it walk_enum (fun i σ H' => ∃ v7 v8, σ = [some (.int p), some (.int n), some (.ref fs), some (.ref l), some (.ref A1), some (.ref P1), some (.ref S1), v7, v8, none, none, none, none, none, none, none, none, none, none] ∧ SameBut A1 HB H' ∧ H' A1 = some (.dT (atKV ((lotsN n).take i)))) ?_ (fun i σ H' _ ⟨_, _, _, sb, _⟩ => SqL.of (sb _ _ nlA (s3 _ _ hl))) ?_ ?_
    · exact ⟨none, none, rfl, SameBut.refl _ _, hA3⟩
    · rintro i x σ H2 H' hi ⟨v7, v8, rfl, sb, hT⟩ ⟨t, y, z, rfl, nt, rfl, hy, hz'⟩
      cases hy
      replace hz' : (as.map V.ref)[i]? = some z := hz'
      rw [List.getElem?_map] at hz'
      cases ey : as[i]? with
      | none => rw [ey] at hz'; cases hz'
      | some b =>
        rw [ey] at hz'
        cases hz'
        obtain ⟨x, ex, hx⟩ := Paired.nth hk ey
        have li : i < (lotsN n).length := (List.getElem?_eq_some_iff.mp ex).1
        have st : Same H2 (upd H2 t (.tup [.int (i : Nat), .ref b])) := same_new nt
        refine ⟨t, _, rfl, SqT.of upd_same, rfl, _, _, rfl, ?_⟩
        show gName 7 (.int (i : Nat)) _ _ _
        refine ⟨_, _, rfl, ?_⟩
        show gName 8 (.ref b) _ _ _
        refine ⟨rfl, ?_⟩
        have hb : TupAt (upd H2 t (.tup [.int (i : Nat), .ref b])) x b := st _ _ (sb _ _ (ne_of_none (show H1 b = some _ from hx) nA) (s3 _ _ hx))
        have nm : x ∉ (lotsN n).take i := nodup_take L.nd ex
        refine ⟨_, rfl, _, rfl, _, rfl, A1, _, rfl, .inr ⟨_, kK x, b, st _ _ hT, rfl, by rw [kK_kV]; exact hb, ?_, rfl⟩, _, _, rfl, (sb.next st).at, ?_⟩
        · rw [atKV_len, List.length_take]
          exact small1000 (by omega)
        · rw [putK_new _ (atKV_none nm), take_snoc ex, atKV_snoc, List.length_take, Nat.min_eq_left (Nat.le_of_lt li)]
          exact upd_same
    · rintro σ HC ⟨v7, v8, rfl, sbA, hTA⟩
      rw [List.length_map, lz, List.take_length] at hTA
      have hAt : NumAt HC A1 (lotsN n) := hTA
      have upC : ∀ {b o}, H1 b = some o → HC b = some o := fun {b o} e => sbA _ _ (ne_of_none e nA) (s3 _ _ e)
      have hPC := sbA _ _ nPA hP3
      have hSC := sbA _ _ nSA hS3
      -- the products
      refine ⟨_, rfl, l, rfl, ⟨_, SqL.of (upC hl)⟩, for_list (K := K) (a := l) (xs := as.map V.ref)
        (fun i σ H' => ∃ v9 v10 v11 pt, σ = [some (.int p), some (.int n), some (.ref fs), some (.ref l), some (.ref A1), some (.ref P1), some (.ref S1), v7, v8, v9, v10, v11, none, none, none, none, none, none, none] ∧ SameBut P1 HC H' ∧ LotAt H' P1 (lotsN n) i 0 pt) ?_ ?_ ?_ ?_⟩
      · exact ⟨none, none, none, [], rfl, SameBut.refl _ _, ⟨hPC, Nat.zero_le _, List.nodup_nil, fun e m => (nomatch m), fun e m => (nomatch m), fun a b _ _ h => absurd h (by omega)⟩⟩
      · rintro i σ H' _ ⟨_, _, _, _, _, sb, _⟩
        exact SqL.of (sb _ _ nlP (upC hl))
      · rintro i x σ H2 hi ⟨v9, v10, v11, pt, rfl, sb, LT⟩
        rw [List.getElem?_map] at hi
        cases ey : as[i]? with
        | none => rw [ey] at hi; cases hi
        | some b =>
          rw [ey] at hi
          cases hi
          obtain ⟨x, ex, hx⟩ := Paired.nth hk ey
          show gName 9 (.ref b) _ _ _
          refine ⟨_, rfl, l, rfl, ⟨_, SqL.of (sb _ _ nlP (upC hl))⟩, for_list (K := K) (a := l) (xs := as.map V.ref)
            (fun j σ H' => ∃ v10 v11 pt, σ = [some (.int p), some (.int n), some (.ref fs), some (.ref l), some (.ref A1), some (.ref P1), some (.ref S1), v7, v8, some (.ref b), v10, v11, none, none, none, none, none, none, none] ∧ SameBut P1 HC H' ∧ LotAt H' P1 (lotsN n) i j pt) ⟨v10, v11, pt, rfl, sb, LT⟩ (fun j σ H' _ ⟨_, _, _, _, sb, _⟩ => SqL.of (sb _ _ nlP (upC hl))) ?_ ?_⟩
          · rintro j z σ H3 hj ⟨v10, v11, pt, rfl, sb, LT⟩
            rw [List.getElem?_map] at hj
            cases ez : as[j]? with
            | none => rw [ez] at hj; cases hj
            | some c =>
              rw [ez] at hj
              cases hj
              obtain ⟨y, ey', hy⟩ := Paired.nth hk ez
              have up3 : ∀ {b o}, H1 b = some o → H3 b = some o := fun {b o} e => sb _ _ (ne_of_none e n1P) (upC e)
              have zx := z5 x (List.mem_of_getElem? ex)
              have zy := z5 y (List.mem_of_getElem? ey')
              have li : i < (lotsN n).length := (List.getElem?_eq_some_iff.mp ex).1
              have lj : j < (lotsN n).length := (List.getElem?_eq_some_iff.mp ey').1
              have hA3' : NumAt H3 A1 (lotsN n) := sb _ _ (Ne.symm nPA) hAt
              have eL := rowL_at ex ey'
              have eO := L.put x (List.mem_of_getElem? ex) y (List.mem_of_getElem? ey')
              show gName 10 (.ref c) _ _ _
              refine ⟨_, rfl, _, rfl, b, c, x, y, rfl, up3 hx, up3 hy, by omega, by omega, fun H4 s4 en => ?_, fun H4 t u sg z s4 es ht hu' => ?_⟩
              · show gName 11 .non _ _ _
                refine ⟨_, rfl, ?_⟩
                refine ⟨rfl, _, rfl, ?_⟩
                rw [show (!decide (V.non = V.non)) = false from rfl]
                have m : ¬ sortI (x ++ y) ∈ lotsN n := fun m => by
                  rw [decide_eq_true m] at eO
                  unfold putL at en
                  rw [if_neg (by rw [eO]; decide)] at en
                  cases en
                rw [if_neg m] at eL
                exact iteF ⟨_, _, _, rfl, sb.next s4, (LT.but s4).skip eL⟩
              · show gName 11 (.ref t) _ _ _
                refine ⟨_, rfl, ?_⟩
                refine ⟨rfl, _, rfl, ?_⟩
                rw [show (!decide (V.ref t = V.non)) = true from rfl]
                have m : sortI (x ++ y) ∈ lotsN n := by
                  refine Classical.byContradiction fun m => ?_
                  rw [decide_eq_false m] at eO
                  unfold putL at es
                  rw [if_pos (by rw [eO]; rfl)] at es
                  cases es
                have esz : sg = sgn (inv x y) ∧ z = sortI (x ++ y) := by
                  unfold putL at es
                  rw [if_neg (by rw [eO, decide_eq_true m]; decide)] at es
                  have := Option.some.inj es
                  exact ⟨(Prod.mk.inj this).1.symm, (Prod.mk.inj this).2.symm⟩
                obtain ⟨rfl, rfl⟩ := esz
                rw [if_pos m] at eL
                have e0 := idx_at m
                refine iteT ?_
                intro p2 np2
                have s42 : Same H4 (upd H4 p2 (.dK [])) := same_new np2
                have hA42 := s42 _ _ (s4 _ _ hA3')
                have g1 := NumAt.get (show NumAt _ A1 (lotsN n) from hA42) (s42 _ _ hu')
                rw [atKV_some L.nd e0] at g1
                refine ⟨_, rfl, _, rfl, t, _, 1, _, rfl, rfl, SqT.of (s42 _ _ ht), rfl, A1, _, rfl, g1, _, rfl, t, _, 0, _, rfl, rfl, SqT.of (s42 _ _ ht), rfl, upd_same, [(Sum.inl (((lotsN n).idxOf (sortI (x ++ y)) : Nat) : Int), V.int (sgn (inv x y)))], rfl, by show 1 ≤ 15; decide, ?_⟩
                rw [upd_upd]
                generalize eU : upd H4 p2 (HO.dK (mergeK [] _)) = U
                have sU : Same H4 U := by rw [← eU]; exact same_new np2
                have hr2 : RowAt U p2 (rowL (lotsN n) ((i : Int), (j : Int))) := by
                  rw [← eU, eL]
                  exact upd_same
                have s4U := s4.trans sU
                have hAU : NumAt U A1 (lotsN n) := s4U _ _ hA3'
                have g2 := NumAt.get hAU (s4U _ _ (up3 hx))
                rw [atKV_some L.nd ex] at g2
                have g3 := NumAt.get hAU (s4U _ _ (up3 hy))
                rw [atKV_some L.nd ey'] at g3
                refine ⟨_, rfl, _, rfl, _, rfl, A1, _, rfl, g2, _, rfl, _, rfl, A1, _, rfl, g3, by show 2 ≤ sizeLine; decide, fun p3 np3 => ?_⟩
                have sU3 : Same H3 (upd U p3 (.tup [.int i, .int j])) := s4U.trans (same_new np3)
                have L3 := LT.but sU3
                have zp := L3.len
                refine ⟨P1, _, rfl, DPut.t (k := kP ((i : Int), (j : Int))) L3.tab upd_same ?_, _, _, pt ++ [(((i : Int), (j : Int)), p2)], rfl, (sb.next sU3).at, ?_⟩
                · unfold pT
                  rw [List.length_map, sizeLine_eq]
                  omega
                · rw [pT_snoc (lk_notin L3.notin)]
                  refine L3.put li lj ((same_new np3) _ _ hr2) (fun e => ?_) (by rw [eL]; simp)
                  rw [e] at hr2
                  have := (show U P1 = _ from hr2).symm.trans (s4U _ _ LT.tab)
                  cases this
          · rintro σ H3 ⟨v10, v11, pt, rfl, sb, LT⟩
            rw [List.length_map, lz] at LT
            exact ⟨_, _, _, _, rfl, sb, LT.next z32⟩
      · rintro σ HD ⟨v9, v10, v11, pt, rfl, sbP, LT⟩
        rw [List.length_map, lz] at LT
        have LTab := LT.done z32
        have upD : ∀ {b o}, H1 b = some o → HD b = some o := fun {b o} e => sbP _ _ (ne_of_none e n1P) (upC e)
        have hSD : HD S1 = some (.dK []) := sbP _ _ nSP hSC
        have hAD : NumAt HD A1 (lotsN n) := sbP _ _ (Ne.symm nPA) hAt
        obtain ⟨ds, hf0, ld, hd0⟩ := FA.ex
        -- the steps
        refine ⟨_, rfl, l, rfl, ⟨_, SqL.of (upD hl)⟩, for_list (K := K) (a := l) (xs := as.map V.ref)
          (fun i σ H' => ∃ v8 v12 v13 v14 v15 v16 v17 v18 it D, σ = [some (.int p), some (.int n), some (.ref fs), some (.ref l), some (.ref A1), some (.ref P1), some (.ref S1), v7, v8, v9, v10, v11, v12, v13, v14, v15, v16, v17, v18] ∧ SameBut S1 HD H' ∧ LedAt H' S1 n F i it D) ?_ ?_ ?_ ?_⟩
        · exact ⟨v8, none, none, none, none, none, none, none, [], fun _ => [], rfl, SameBut.refl _ _, ⟨hSD, Nat.zero_le _, List.nodup_nil, fun e m => (nomatch m), fun j w h => absurd h (by omega), fun _ _ => rfl, fun j h => absurd h (by omega)⟩⟩
        · rintro i σ H' _ ⟨_, _, _, _, _, _, _, _, _, _, _, sb, _⟩
          exact SqL.of (sb _ _ nlS (upD hl))
        · rintro i z σ H2 hi ⟨v8', v12, v13, v14, v15, v16, v17, v18, it, D, rfl, sbS, LA⟩
          rw [List.getElem?_map] at hi
          cases ey : as[i]? with
          | none => rw [ey] at hi; cases hi
          | some b =>
            rw [ey] at hi
            cases hi
            obtain ⟨w', ex, hx⟩ := Paired.nth hk ey
            have mx : w' ∈ lotsN n := List.mem_of_getElem? ex
            have li : i < 2 ^ n := by
              have := (List.getElem?_eq_some_iff.mp ex).1
              rwa [L.len] at this
            have eix : (lotsN n).idxOf w' = i := by
              obtain ⟨l1, l2⟩ := List.getElem?_eq_some_iff.mp ex
              rw [← l2]
              exact L.nd.idxOf_getElem i l1
            have up2 : ∀ {b o}, H1 b = some o → H2 b = some o := fun {b o} e => sbS _ _ (ne_of_none e n1S) (upD e)
            have zw := z5 w' mx
            show gName 8 (.ref b) _ _ _
            intro R nR
            show gName 12 (.ref R) _ _ _
            have hRr : (upd H2 R (.dK [])) R = some (.dK []) := upd_same
            have sR : SameBut R H2 (upd H2 R (.dK [])) := (SameBut.refl _ _).at
            have hbR : TupAt (upd H2 R (.dK [])) w' b := (same_new nR) _ _ (up2 hx)
            refine ⟨_, rfl, b, _, rfl, SqT.of hbR, ?_⟩
            refine for_it (walk_enumT (xs := w'.map V.int)) (fun s σ H' => ∃ v13 v14 v15 v16 v17 v18, σ = [some (.int p), some (.int n), some (.ref fs), some (.ref l), some (.ref A1), some (.ref P1), some (.ref S1), v7, some (.ref b), v9, v10, v11, some (.ref R), v13, v14, v15, v16, v17, v18] ∧ SameBut R H2 H' ∧
              ∃ r : Row, RowAt H' R r ∧ (Nd r ∧ Bel (2 ^ n : Nat) r) ∧ ∀ x, co r x = ((List.range s).map fun t => sumD (F (w'.getD t 0).toNat) fun pr => co (termL (lotsN n) w' t pr) x).sum) ?_ ?_ ?_ ?_
            · exact ⟨v13, v14, v15, v16, v17, v18, rfl, sR, [], hRr, ⟨List.nodup_nil, fun q m => (nomatch m)⟩, fun x => rfl⟩
            · rintro s σ H' _ ⟨_, _, _, _, _, _, _, sb, _⟩
              exact SqT.of (sb _ _ (ne_of_none (show H2 b = some _ from up2 hx) nR) (up2 hx))
            · rintro s x σ H3 H4 hs ⟨v13, v14, v15, v16, v17, v18, rfl, sb, r, hr', ndr, vr⟩ ⟨T, y, z, rfl, nT, rfl, hy, hz⟩
              cases hy
              obtain ⟨c, hc, rfl⟩ := int_at hz
              have ls : s < w'.length := (List.getElem?_eq_some_iff.mp hc).1
              obtain ⟨c0, c1⟩ := (L.asc _ mx).2 c (List.mem_of_getElem? hc)
              obtain ⟨cn, rfl⟩ : ∃ cn : Nat, c = (cn : Int) := ⟨c.toNat, by omega⟩
              have lc : cn < n := by omega
              have ecn : (w'.getD s 0).toNat = cn := by
                rw [List.getD_eq_getElem?_getD, hc]
                rfl
              have sT : Same H3 (upd H3 T (.tup [.int (s : Nat), .int (cn : Int)])) := same_new nT
              refine ⟨T, _, rfl, SqT.of upd_same, rfl, _, _, rfl, ?_⟩
              show gName 13 (.int (s : Nat)) _ _ _
              refine ⟨_, _, rfl, ?_⟩
              show gName 14 (.int (cn : Int)) _ _ _
              refine ⟨rfl, ?_⟩
              generalize upd H3 T (.tup [.int (s : Nat), .int (cn : Int)]) = HT at sT
              have sbT := sb.next sT
              have hrT := sT _ _ hr'
              have upT : ∀ {b o}, H2 b = some o → HT b = some o := fun {b o} e => sbT _ _ (ne_of_none e nR) e
              obtain ⟨d, hdc⟩ : ∃ d, ds[cn]? = some d := ⟨_, List.getElem?_eq_getElem (by omega)⟩
              have hdd := upT (up2 (s1 _ _ (hd0 cn d hdc)))
              have ndR : d ≠ R := ne_of_none (up2 (s1 _ _ (hd0 cn d hdc))) nR
              have hfT : HT fs = some (.lst (ds.map V.ref)) ∨ HT fs = some (.tup (ds.map V.ref)) := by
                rcases hf0 with e | e
                · exact .inl (upT (up2 (s1 _ _ e)))
                · exact .inr (upT (up2 (s1 _ _ e)))
              refine ⟨d, _, hdd, trivial, fun od => ?_⟩
              generalize eG : upd HT d (.frz od (.dT (pK (F cn)))) = G
              have gd : G d = some (.frz od (.dT (pK (F cn)))) := by rw [← eG]; exact upd_same
              have gO : ∀ b o, b ≠ d → HT b = some o → G b = some o := fun b o nb e => by
                rw [← eG, upd_ne nb]
                exact e
              have hfG : G fs = some (.lst (ds.map V.ref)) ∨ G fs = some (.tup (ds.map V.ref)) := by
                rcases hfT with e | e
                · exact .inl (gO _ _ (ne_of e hdd (fun z => nomatch z)) e)
                · exact .inr (gO _ _ (ne_of e hdd (fun z => nomatch z)) e)
              have hbG : TupAt G w' b := gO _ _ (ne_of (show HT b = some _ from upT (up2 hx)) hdd (fun z => nomatch z)) (upT (up2 hx))
              have nAd : A1 ≠ d := Ne.symm (ne_of_none (hd0 cn d hdc) hHA)
              have hAG : NumAt G A1 (lotsN n) := gO _ _ nAd (upT (sbS _ _ (Ne.symm nSA) hAD))
              refine ⟨_, rfl, _, rfl, refsIx hfG hdc ?_⟩
              refine ⟨d, od, rfl, .inr ⟨_, gd, ?_⟩⟩
              refine for_it walk_keysT (fun j σ H' => ∃ v15 v16 v17 v18, σ = [some (.int p), some (.int n), some (.ref fs), some (.ref l), some (.ref A1), some (.ref P1), some (.ref S1), v7, some (.ref b), v9, v10, v11, some (.ref R), some (.int (s : Nat)), some (.int (cn : Int)), v15, v16, v17, v18] ∧ SameBut R G H' ∧
                ∃ r : Row, RowAt H' R r ∧ (Nd r ∧ Bel (2 ^ n : Nat) r) ∧ ∀ x, co r x = ((List.range s).map fun t => sumD (F (w'.getD t 0).toNat) fun pr => co (termL (lotsN n) w' t pr) x).sum + sumD ((F cn).take j) fun pr => co (termL (lotsN n) w' s pr) x) ?_ (fun j σ H' _ ⟨_, _, _, _, _, sb, _⟩ => sb _ _ ndR gd) ?_ ?_
              · exact ⟨v15, v16, v17, v18, rfl, SameBut.refl _ _, r, gO _ _ (Ne.symm ndR) hrT, ndr, fun x => by rw [vr]; simp [sumD]⟩
              · rintro j x σ H5 H6 hj ⟨v15, v16, v17, v18, rfl, sb5, r, hr5, ndr, vr⟩ ⟨rfl, kk, vv, q, hx5, rfl, hq⟩
                unfold pK at hx5
                rw [List.getElem?_map] at hx5
                cases ee : (F cn)[j]? with
                | none => rw [ee] at hx5; cases hx5
                | some e =>
                rw [ee] at hx5
                cases hx5
                have me : e ∈ F cn := List.mem_of_getElem? ee
                have mpr := FA.mem cn lc e me
                have tk := take_snoc ee
                have ls20 : (w'.take s).length ≤ 20 := by rw [List.length_take]; omega
                have up6 : ∀ {b o}, G b = some o → b ≠ R → H6 b = some o := fun {b o} h nb => sb5 _ _ nb h
                have nbR : b ≠ R := ne_of_none (show H2 b = some _ from up2 hx) nR
                have hb6 : TupAt H6 w' b := up6 hbG nbR
                have nAR : A1 ≠ R := ne_of_none (show H2 A1 = some _ from sbS _ _ (Ne.symm nSA) hAD) nR
                have hA6 : NumAt H6 A1 (lotsN n) := up6 hAG nAR
                have hq6 : TupAt H6 [e.1.1, e.1.2] q := hq
                -- where nothing is led to
                have skip : ∀ H8, Same H6 H8 → termO w' s e.1 = none → SameBut R G H8 ∧ ∃ r : Row, RowAt H8 R r ∧ (Nd r ∧ Bel (2 ^ n : Nat) r) ∧ ∀ x, co r x = ((List.range s).map fun t => sumD (F (w'.getD t 0).toNat) fun pr => co (termL (lotsN n) w' t pr) x).sum + sumD ((F cn).take (j + 1)) fun pr => co (termL (lotsN n) w' s pr) x := by
                  intro H8 s8 no
                  refine ⟨sb5.next s8, r, s8 _ _ hr5, ndr, fun x => ?_⟩
                  rw [vr, tk, sumD_snoc]
                  have : co (termL (lotsN n) w' s e.1) x = 0 := by
                    unfold termL
                    rw [no]
                    rfl
                  rw [this]
                  omega
                show gName 15 (.ref q) _ _ _
                refine ⟨_, rfl, _, rfl, (s : Int), rfl, sliceL hb6 (by omega) fun H7 p7 s7 h7 => ?_⟩
                refine ⟨_, rfl, p7, q, w'.take s, [e.1.1, e.1.2], rfl, h7, s7 _ _ hq6, ls20, by show 2 ≤ 20; decide, fun H8 s8 no => ?_, fun H8 t1 u1 g1 l1 s8 y1 ht1 hu1 => ?_⟩
                · show gName 16 .non _ _ _
                  have tn : termO w' s e.1 = none := by unfold termO; rw [no]
                  refine ⟨_, rfl, rfl, _, rfl, ?_⟩
                  rw [show (!decide (V.non = V.non)) = false from rfl]
                  refine iteF ?_
                  show gName 17 .non _ _ _
                  refine ⟨_, rfl, rfl, _, rfl, ?_⟩
                  rw [show (!decide (V.non = V.non)) = false from rfl]
                  obtain ⟨k1, k2⟩ := skip H8 (s7.trans s8) tn
                  exact iteF ⟨_, _, _, _, rfl, k1, k2⟩
                · show gName 16 (.ref t1) _ _ _
                  have s68 := s7.trans s8
                  obtain ⟨a1, z1⟩ := putL_some y1
                  refine ⟨_, rfl, rfl, _, rfl, ?_⟩
                  rw [show (!decide (V.ref t1 = V.non)) = true from rfl]
                  refine iteT ?_
                  refine ⟨_, rfl, t1, _, 1, _, rfl, rfl, SqT.of ht1, rfl, ?_⟩
                  refine ⟨_, rfl, _, rfl, _, _, rfl, rfl, ((s + 1 : Nat) : Int), congrArg V.int (by omega : (s : Int) + 1 = ((s + 1 : Nat) : Int)), ?_⟩
                  unfold tNoPart
                  dsimp only
                  refine sliceR (w := w') (s := s + 1) (s68 _ _ hb6) (show s + 1 ≤ w'.length from ls) fun H9 p9 s9 h9 => ?_
                  have s69 := s68.trans s9
                  refine ⟨u1, p9, l1, w'.drop (s + 1), rfl, s9 _ _ hu1, h9, by rw [z1]; simp only [List.length_cons, List.length_nil, List.length_take]; omega, by rw [List.length_drop]; omega, fun H10 s10 no => ?_, fun H10 t2' u2 g2 l2 s10 y2 ht2 hu2 => ?_⟩
                  · show gName 17 .non _ _ _
                    have tn : termO w' s e.1 = none := by
                      unfold termO
                      rw [y1]
                      simp only
                      rw [no]
                    refine ⟨_, rfl, rfl, _, rfl, ?_⟩
                    rw [show (!decide (V.non = V.non)) = false from rfl]
                    obtain ⟨k1, k2⟩ := skip H10 (s69.trans s10) tn
                    exact iteF ⟨_, _, _, _, rfl, k1, k2⟩
                  · show gName 17 (.ref t2') _ _ _
                    obtain ⟨a2, z2⟩ := putL_some y2
                    have s610 := s69.trans s10
                    have tn : termO w' s e.1 = some (sgn s * g1 * g2, l2) := by
                      unfold termO
                      rw [y1]
                      simp only
                      rw [y2]
                    have ml2 := L.t w' mx s ls e.1 mpr _ tn
                    refine ⟨_, rfl, rfl, _, rfl, ?_⟩
                    rw [show (!decide (V.ref t2' = V.non)) = true from rfl]
                    refine iteT ?_
                    have ht1' := (s9.trans s10) _ _ ht1
                    have hA10 : NumAt H10 A1 (lotsN n) := s610 _ _ hA6
                    have gA := NumAt.get hA10 hu2
                    rw [atKV_some L.nd (idx_at ml2)] at gA
                    have hf10 : H10 fs = some (.lst (ds.map V.ref)) ∨ H10 fs = some (.tup (ds.map V.ref)) := by
                      rcases hf0 with z | z
                      · have z2 := up2 (s1 _ _ z)
                        exact .inl (s610 _ _ (up6 (gO _ _ (ne_of (upT z2) hdd (fun z => nomatch z)) (upT z2)) (ne_of_none z2 nR)))
                      · have z2 := up2 (s1 _ _ z)
                        exact .inr (s610 _ _ (up6 (gO _ _ (ne_of (upT z2) hdd (fun z => nomatch z)) (upT z2)) (ne_of_none z2 nR)))
                    have gd10 := s610 _ _ (sb5 _ _ ndR gd)
                    have gp : DGet H10 d (.ref q) (some (.int e.2)) := .inr ⟨pK (F cn), kP e.1, q, .inr ⟨od, gd10⟩, rfl, s610 _ _ hq6, by
                      rw [valV_mem (v := V.int e.2)]
                      · unfold pK
                        rw [List.map_map]
                        have e2 : ((fun x : List Key × V => x.1) ∘ fun e : (Int × Int) × Int => (kP e.1, V.int e.2)) = kP ∘ (·.1) := rfl
                        rw [e2, ← List.map_map]
                        exact List.Pairwise.map _ (fun a b (h : a ≠ b) z => h (kP_inj z)) (FA.nd cn lc)
                      · exact List.mem_map.mpr ⟨e, me, rfl⟩⟩
                    have b1 : (sgn (s : Int)).natAbs = 1 := by rcases sgn_cases (s : Int) with z | z <;> rw [z] <;> rfl
                    have b2 : (sgn (s : Int) * g1).natAbs = 1 := by rw [Int.natAbs_mul, b1, a1]
                    have b3 : (sgn (s : Int) * g1 * g2).natAbs = 1 := by rw [Int.natAbs_mul, b2, a2]
                    have hr10 : RowAt H10 R r := s610 _ _ hr5
                    have se := (FA.sm cn lc).2 e me
                    have e0 : (if has r (((lotsN n).idxOf l2 : Nat) : Int) then some (V.int (co r (((lotsN n).idxOf l2 : Nat) : Int))) else none).getD (.int 0) = .int (co r (((lotsN n).idxOf l2 : Nat) : Int)) := by
                      by_cases m : has r (((lotsN n).idxOf l2 : Nat) : Int)
                      · rw [if_pos m]; rfl
                      · rw [if_neg m, co_none m]; rfl
                    refine ⟨_, rfl, (s : Int), rfl, _, rfl, t1, _, 0, _, rfl, rfl, SqT.of ht1', rfl, _, _, rfl, rfl, .inl ⟨by omega, by omega⟩, ?_⟩
                    refine ⟨_, rfl, t2', _, 0, _, rfl, rfl, SqT.of ht2, rfl, _, _, rfl, rfl, .inl ⟨by omega, by omega⟩, ?_⟩
                    refine ⟨_, rfl, _, rfl, refsIx hf10 hdc ?_⟩
                    refine ⟨_, rfl, d, _, rfl, gp, _, _, rfl, rfl, .inl ⟨by omega, by omega⟩, ?_⟩
                    show gName 18 (.int (sgn s * g1 * g2 * e.2)) _ _ _
                    refine ⟨_, rfl, R, rfl, .inl ⟨_, .inl hr10⟩, _, rfl, _, rfl, t2', _, 1, _, rfl, rfl, SqT.of ht2, rfl, A1, _, rfl, gA, _, look_row hr10, ?_⟩
                    rw [e0]
                    refine ⟨_, rfl, _, _, rfl, rfl, _, rfl, _, rfl, _, rfl, t2', _, 1, _, rfl, rfl, SqT.of ht2, rfl, A1, _, rfl, gA, R, _, rfl, put_row hr10 (small1000 (by have := row_len ndr.1 ndr.2; omega)), _, _, _, _, rfl, (sb5.next s610).at, _, upd_same, ⟨nd_put ndr.1 _ _, bel_put ndr.2 ⟨by omega, by have := idx_lt L ml2; omega⟩⟩, fun x => ?_⟩
                    rw [co_put, tk, sumD_snoc]
                    have ct : co (termL (lotsN n) w' s e.1) x = if (((lotsN n).idxOf l2 : Nat) : Int) = x then sgn s * g1 * g2 else 0 := by
                      unfold termL
                      rw [tn]
                      rfl
                    rw [ct]
                    by_cases ek : (((lotsN n).idxOf l2 : Nat) : Int) = x
                    · rw [if_pos ek, if_pos ek, ek, vr, Int.mul_comm e.2]
                      omega
                    · rw [if_neg ek, if_neg ek, vr]
                      omega
              · rintro σ H5 ⟨v15, v16, v17, v18, rfl, sb5, r, hr5, ndr, vr⟩
                have zl : (pK (F cn)).length = (F cn).length := by unfold pK; rw [List.length_map]
                rw [zl, List.take_length] at vr
                refine ⟨sb5 _ _ ndR gd, _, _, _, _, _, _, rfl, fun b' o nb e => ?_, r, ?_, ndr, fun x => ?_⟩
                · by_cases eb : b' = d
                  · subst eb
                    rw [upd_same, ← sbT _ _ nb e]
                    exact hdd.symm
                  · rw [upd_ne eb]
                    exact sb5 _ _ nb (gO _ _ eb (sbT _ _ nb e))
                · show (upd H5 d _) R = _
                  rw [upd_ne (Ne.symm ndR)]
                  exact hr5
                · rw [vr, List.range_succ, List.map_append, List.sum_append, List.map_singleton, ecn]
                  simp
            · rintro σ H3 ⟨v13, v14, v15, v16, v17, v18, rfl, sb, r, hr', ndr, vr⟩
              rw [List.length_map] at vr
              have s23 : Same H2 H3 := fun b' o e => sb b' o (ne_of_none e nR) e
              have LU := LA.but s23
              have g1 := NumAt.get (show NumAt H3 A1 (lotsN n) from s23 _ _ (sbS _ _ (Ne.symm nSA) hAD)) (show TupAt H3 w' b from s23 _ _ (up2 hx))
              rw [atKV_some L.nd ex] at g1
              have nin : (i : Int) ∉ it.map (·.1) := fun m => by
                obtain ⟨e, m, h⟩ := List.mem_map.mp m
                obtain ⟨_, _, j, h3, h4⟩ := LA.row e m
                omega
              have nRS : R ≠ S1 := Ne.symm (ne_of_none (show H2 S1 = some _ from LA.tab) nR)
              have put := LU.put hr' nRS ndr fun x => by rw [vr, dl_spots L mx, eix]
              have p1 : DPut H3 S1 (.int (i : Int)) (.ref R) (upd H3 S1 (.dK (iT (it ++ [((i : Int), R)])))) := by
                rw [← iT_snoc (lkI_notin nin)]
                exact DPut.k (k := Sum.inl (i : Int)) LU.tab (by
                  unfold iT
                  rw [List.length_map]
                  have := LA.len
                  exact small1000 (by omega))
              exact ⟨_, rfl, _, rfl, _, rfl, _, rfl, A1, _, rfl, g1, S1, _, rfl, p1, _, _, _, _, _, _, _, _, _, _, rfl, (sbS.next s23).at, put⟩
        · rintro σ H2 ⟨v8', v12, v13, v14, v15, v16, v17, v18, it, D, rfl, sbS, LA⟩
          rw [List.length_map, lz, L.len] at LA
          have upE : ∀ {b o}, H1 b = some o → H2 b = some o := fun {b o} e => sbS _ _ (ne_of_none e n1S) (upD e)
          have hlE := upE hl
          have LT2 : LotTab H2 P1 (lotsN n) pt := by
            have nS : ∀ {b : Addr} {o : HO}, HD b = some o → b ≠ S1 → H2 b = some o := fun {b o} e nb => sbS _ _ nb e
            refine ⟨⟨nS LTab.tab.tab (Ne.symm nSP), LTab.tab.len, LTab.tab.nd, fun e m => ⟨?_, (LTab.tab.row e m).2⟩, LTab.tab.off⟩, LTab.key, LTab.row_ne⟩
            refine nS (LTab.tab.row e m).1 fun z => ?_
            have h1 := (LTab.tab.row e m).1
            have h2 := LTab.row_ne e m
            rw [z] at h1
            have := HO.dK.inj (Option.some.inj (hSD.symm.trans h1))
            cases er : rowL (lotsN n) e.1 with
            | nil => exact h2 er
            | cons q r => rw [er] at this; cases this
          refine ⟨_, rfl, _, rfl, l, rfl, ⟨_, SqL.of hlE⟩, fun D2 nD2 => ?_⟩
          refine lc_it (walk_list (xs := as.map V.ref)) (fun i H' => Same H2 H' ∧ H' D2 = some (.lst (((hlN n).take i).map V.int))) ⟨same_new nD2, upd_same⟩ (fun i H' _ h => SqL.of (h.1 _ _ hlE)) ?_ ?_
          · rintro i x H4 H5 hi ⟨s4, hD⟩ ⟨rfl, hxi⟩
            rw [List.getElem?_map] at hxi
            cases ey : as[i]? with
            | none => rw [ey] at hxi; cases hxi
            | some b =>
              rw [ey] at hxi
              cases hxi
              obtain ⟨y, eyy, hy⟩ := Paired.nth hk ey
              have eh : (hlN n)[i]? = some (y.length : Int) := by
                unfold hlN
                rw [List.getElem?_map, eyy]
                rfl
              show gName 8 (.ref b) _ _ _
              refine ⟨rfl, ?_⟩
              simp only [tYes, if_true]
              refine ⟨_, rfl, b, _, rfl, .inr (SqT.of (s4 _ _ (upE hy))), _, hD, ?_, same_upd s4 nD2, ?_⟩
              · rw [List.length_map, List.length_take, hlN_len L]
                exact small1000 (by omega)
              · rw [upd_same, take_snoc eh, List.map_append, List.length_map]
                rfl
          · rintro H4 ⟨s4, hD2'⟩
            rw [List.length_map, lz, L.len, ← hlN_len L, List.take_length] at hD2'
            have O : DOk n F D := ⟨fun j hj => (LA.good j hj).1, fun j hj => (LA.good j hj).2⟩
            have off : ∀ k : Int, ¬ (0 ≤ k ∧ k < (2 ^ n : Nat)) → D k = [] := fun k hk => LA.off k fun e m z => by
              obtain ⟨_, _, j, h3, h4⟩ := LA.row e m
              omega
            have II : ITabIn H4 S1 it D (lotsN n).length := ⟨s4 _ _ LA.tab, by have := LA.len; omega, LA.nd, fun e m => by
              obtain ⟨h1, _, j, h3, h4⟩ := LA.row e m
              refine ⟨s4 _ _ h1, ?_⟩
              rw [h3, L.len]
              exact (LA.good j h4).1, LA.off⟩
            have sH4 : Same H H4 := fun b o e => s4 _ _ (upE (s1 _ _ e))
            refine ⟨_, rfl, _, rfl, D2, P1, S1, hlN n, pt, rowL (lotsN n), it, D, (lotsN n).length, p, rfl, hD2', LT2.tab.inn s4, II, by omega, hp, fun H' sk it' s5 nsk SK mem => ?_⟩
            exact k H' sk it' D (sH4.trans s5) (none_of_same sH4 nsk) SK O off fun e m => by
              obtain ⟨e2, m2, h2⟩ := mem e m
              obtain ⟨_, _, j, h3, h4⟩ := LA.row e2 m2
              omega
end
end Lp
namespace Lp
open PySem L2 LamX
local macro_rules | `(tactic| walk_at "rd") => `(tactic| simp only [tSeq, tAsg, tYes, tTest, tOp, tCB, tCons, tNil, tVar, tC, rI0, rI, gName, wipe, tDisp, tTru, TruV, tB, tNext, tDGet2, tLock, tDIn, tDNotIn, tOr, tNot, tChain, tAnd, tCont, tUn, rU, tPairs, tRet, tIf, tIfS, tPar, tLst, tTup, tDrop, tDGet, tCall, sDPut, L2.start,
  List.map_cons, List.map_nil, List.foldl_cons, List.foldl_nil, List.length_cons, List.length_nil, List.replicate_succ, List.replicate_zero, List.append_nil, List.cons_append, List.nil_append, List.set_cons_zero, List.set_cons_succ, List.getElem?_cons_zero, List.getElem?_cons_succ,
  Option.some.injEq, List.cons.injEq, V.int.injEq, V.bl.injEq, V.ref.injEq, V.str.injEq, exists_eq_left', exists_eq_left, exists_eq_right, and_true, true_and, exists_and_left, Nat.add_zero, Nat.reduceAdd, Nat.reduceSub, Nat.sub_zero, if_true, if_false])
/-! ### _law_letter_steps -/
def hasP (d : PRow) (k : Int × Int) : Prop := ∃ e ∈ d, e.1 = k
instance (d : PRow) (k : Int × Int) : Decidable (hasP d k) := by unfold hasP; exact inferInstance
def putPR (d : PRow) (k : Int × Int) (v : Int) : PRow := if hasP d k then d.map (fun e => if e.1 = k then (e.1, v) else e) else d ++ [(k, v)]
theorem any_pK (d : PRow) (k : Int × Int) : ((pK d).any fun kv => decide (kv.1 = kP k)) = decide (hasP d k) := by
  induction d with
  | nil => rfl
  | cons e d ih =>
    have e0 : pK (e :: d) = (kP e.1, V.int e.2) :: pK d := rfl
    rw [e0, List.any_cons, ih]
    by_cases h : e.1 = k
    · have h2 : hasP (e :: d) k := ⟨e, List.mem_cons_self, h⟩
      rw [decide_eq_true h2, decide_eq_true (by rw [h])]
      rfl
    · have ne : ¬ kP e.1 = kP k := fun z => h (kP_inj z)
      rw [decide_eq_false ne, Bool.false_or]
      have iff : hasP d k ↔ hasP (e :: d) k := ⟨fun ⟨q, m, z⟩ => ⟨q, List.mem_cons_of_mem _ m, z⟩, fun ⟨q, m, z⟩ => (List.mem_cons.mp m).elim (fun y => absurd (y ▸ z) h) fun y => ⟨q, y, z⟩⟩
      by_cases g : hasP d k
      · rw [decide_eq_true g, decide_eq_true (iff.mp g)]
      · rw [decide_eq_false g, decide_eq_false fun z => g (iff.mpr z)]
theorem putK_pK (d : PRow) (k : Int × Int) (v : Int) : putK (pK d) (kP k) (.int v) = pK (putPR d k v) := by
  unfold putK putPR
  rw [any_pK]
  by_cases h : hasP d k
  · rw [decide_eq_true h, if_pos rfl, if_pos h]
    unfold pK
    rw [List.map_map, List.map_map]
    refine List.map_congr_left fun e _ => ?_
    by_cases g : e.1 = k
    · simp [g]
    · have ne : ¬ kP e.1 = kP k := fun z => g (kP_inj z)
      simp [g, ne]
  · rw [decide_eq_false h, if_neg (by decide), if_neg h]
    unfold pK
    rw [List.map_append]
    rfl
theorem putPR_keys (d : PRow) (k : Int × Int) (v : Int) : (putPR d k v).map (·.1) = if hasP d k then d.map (·.1) else d.map (·.1) ++ [k] := by
  unfold putPR
  by_cases h : hasP d k
  · rw [if_pos h, if_pos h, List.map_map]
    refine List.map_congr_left fun e _ => ?_
    by_cases g : e.1 = k
    · simp [g]
    · simp [g]
  · rw [if_neg h, if_neg h, List.map_append]
    rfl
/-- a sum of pairs of letters below m, with k entries at most -/
structure PrOk (n m k : Nat) (d : PRow) : Prop where
  nd : (d.map (·.1)).Nodup
  mem : ∀ e ∈ d, e.1 ∈ pairsN n
  sm : ∀ e ∈ d, e.2.natAbs ≤ 100
  len : d.length ≤ k
theorem PrOk.nil (n m k : Nat) : PrOk n m k [] := ⟨List.nodup_nil, fun e m => (nomatch m), fun e m => (nomatch m), Nat.zero_le _⟩
theorem PrOk.put {n m k : Nat} {d : PRow} (h : PrOk n m k d) {pr : Int × Int} {v : Int} (hp : pr ∈ pairsN n) (hv : v.natAbs ≤ 100) : PrOk n m (k + 1) (putPR d pr v) := by
  have mem : ∀ e ∈ putPR d pr v, (e.1 = pr ∧ e.2 = v) ∨ e ∈ d := fun e m => by
    unfold putPR at m
    by_cases g : hasP d pr
    · rw [if_pos g] at m
      obtain ⟨q, mq, rfl⟩ := List.mem_map.mp m
      by_cases z : q.1 = pr
      · rw [if_pos z]; exact .inl ⟨z, rfl⟩
      · rw [if_neg z]; exact .inr mq
    · rw [if_neg g] at m
      rcases List.mem_append.mp m with m | m
      · exact .inr m
      · rw [List.mem_singleton.mp m]; exact .inl ⟨rfl, rfl⟩
  refine ⟨?_, fun e m => ?_, fun e m => ?_, ?_⟩
  · rw [putPR_keys]
    by_cases g : hasP d pr
    · rw [if_pos g]; exact h.nd
    · rw [if_neg g, List.nodup_append]
      refine ⟨h.nd, by simp, fun a ha b hb z => g ?_⟩
      rw [List.mem_singleton] at hb
      obtain ⟨e, me, rfl⟩ := List.mem_map.mp ha
      exact ⟨e, me, z.trans hb⟩
  · rcases mem e m with ⟨z, _⟩ | z
    · rw [z]; exact hp
    · exact h.mem e z
  · rcases mem e m with ⟨_, z⟩ | z
    · rw [z]; exact hv
    · exact h.sm e z
  · have := congrArg List.length (putPR_keys d pr v)
    rw [List.length_map] at this
    rw [this]
    have := h.len
    by_cases g : hasP d pr
    · rw [if_pos g, List.length_map]; omega
    · rw [if_neg g, List.length_append, List.length_map, List.length_singleton]; omega
theorem pair_mem : ∀ n, n ≤ 5 → ∀ b, b < n → ∀ a, a < b → ((a : Int), (b : Int)) ∈ pairsN n
  | 0, _ => by decide
  | 1, _ => by decide
  | 2, _ => by decide
  | 3, _ => by decide
  | 4, _ => by decide
  | 5, _ => by decide
  | n + 6, h => absurd h (by omega)
/-- the letters' steps, as a list of the law's own -/
structure FirstsL (H : Hp) (fs : Addr) (n : Nat) (F : Nat → PRow) (ds : List Addr) : Prop where
  at_ : H fs = some (.lst (ds.map V.ref))
  len : ds.length = n
  row : ∀ (c : Nat) d, ds[c]? = some d → H d = some (.dT (pK (F c)))
  ok : ∀ c, c < n → PrOk n n 10 (F c)
theorem FirstsL.to {H : Hp} {fs : Addr} {n : Nat} {F : Nat → PRow} {ds : List Addr} (f : FirstsL H fs n F ds) : FirstsAt H fs n F :=
  ⟨⟨ds, .inl f.at_, f.len, f.row⟩, fun c hc => (f.ok c hc).nd, fun c hc e m => (f.ok c hc).mem e m, fun c hc => ⟨(f.ok c hc).len, (f.ok c hc).sm⟩⟩
theorem FirstsL.inn {H H' : Hp} {fs : Addr} {n : Nat} {F : Nat → PRow} {ds : List Addr} (f : FirstsL H fs n F ds) (s : Same H H') : FirstsL H' fs n F ds := ⟨s _ _ f.at_, f.len, fun c d e => s _ _ (f.row c d e), f.ok⟩
theorem DrawIn.ne_dT {H : Hp} {d l c : Addr} (D : DrawIn H d l c) {b : Addr} {kvs : List (List Key × V)} (h : H b = some (.dT kvs)) : b ≠ d ∧ b ≠ l := by
  obtain ⟨r, t, hd⟩ := D.dd
  obtain ⟨ns, hl, _⟩ := D.ll
  exact ⟨ne_of h hd (fun z => nomatch z), ne_of h hl (fun z => nomatch z)⟩
theorem FirstsL.but {H H' : Hp} {fs : Addr} {n : Nat} {F : Nat → PRow} {ds : List Addr} {d l c : Addr} (f : FirstsL H fs n F ds) (D : DrawIn H d l c) (nl : fs ≠ l) (b : But d l H H') : FirstsL H' fs n F ds := by
  obtain ⟨r, t, hd⟩ := D.dd
  exact ⟨b _ _ f.at_ (ne_of f.at_ hd (fun z => nomatch z)) nl, f.len, fun c x e => b _ _ (f.row c x e) (D.ne_dT (f.row c x e)).1 (D.ne_dT (f.row c x e)).2, f.ok⟩
theorem Tw_zero {p : Int} {n : Nat} (hp : 0 < p) (hn : n ≤ 5) : Tw p n fun _ => [] := by
  have L := lots_ok hn
  have P : PairsIn n fun _ => [] := fun c hc e m => (nomatch m)
  have O := D0_ok L P
  intro a ha j
  have z : nfR p (D0 n (fun _ => []) a) = [] := by
    refine Canon.ext (nfR_spec hp (O.nd a ha).1).1 ⟨List.Pairwise.nil, fun q m => nomatch m⟩ fun k => ?_
    rw [(nfR_spec hp (O.nd a ha).1).2, O.val a ha]
    have : dl n (fun _ => []) a k = 0 := (lin_congr fun c hc e m => (nomatch (show e ∈ ([] : PRow) from m))).trans (lin_zero n _)
    rw [this, Int.zero_fmod]
    rfl
  show (sumW (nfR p (D0 n (fun _ => []) a)) _).fmod p = 0
  rw [z]
  rfl
theorem cutL1 {xs : List V} {m : Nat} (h : m ≤ xs.length) : cutV xs none (some (m : Int)) = xs.take m := by
  unfold cutV
  rw [HT.sIx_none, HT.sIx_nat, Nat.min_eq_left h, List.drop_zero, Nat.sub_zero]
theorem cutL2 {xs : List V} {m : Nat} (h : m ≤ xs.length) : cutV xs (some (m : Int)) none = xs.drop m := by
  unfold cutV
  rw [HT.sIx_none, HT.sIx_nat, Nat.min_eq_left h]
  exact List.take_of_length_le (by rw [List.length_drop]; exact Nat.le_refl _)
theorem DrawIn.updT {H : Hp} {d l c T : Addr} {kvs : List (List Key × V)} {o : HO} (D : DrawIn H d l c) (h : H T = some (.dT kvs)) : DrawIn (upd H T o) d l c := by
  obtain ⟨r, t, hd⟩ := D.dd
  obtain ⟨ns, h1, z1⟩ := D.ll
  obtain ⟨ms, h2, z2⟩ := D.cc
  exact ⟨D.lc, ⟨r, t, by rw [upd_ne (Ne.symm (D.ne_dT h).1)]; exact hd⟩, ⟨ns, by rw [upd_ne (Ne.symm (D.ne_dT h).2)]; exact h1, z1⟩, ⟨ms, by rw [upd_ne (ne_of h2 h (fun z => nomatch z))]; exact h2, z2⟩⟩
theorem pw2 {n : Nat} (h : n ≤ 5) : 2 ^ n ≤ 32 := Nat.le_trans (Nat.pow_le_pow_right (by decide) h) (by decide)
theorem bel_all {p : Int} {n : Nat} {F : Nat → PRow} {D : Int → Row} (hp : 0 < p) (O : DOk n F D) (off : ∀ k : Int, ¬ (0 ≤ k ∧ k < (2 ^ n : Nat)) → D k = []) (k : Int) : Bel (2 ^ n : Nat) (nfR p (D k)) := by
  by_cases h : 0 ≤ k ∧ k < (2 ^ n : Nat)
  · obtain ⟨a, rfl⟩ : ∃ a : Nat, k = (a : Int) := ⟨k.toNat, by omega⟩
    have q := O.nd a (by omega)
    exact bel_nfR hp q.1 q.2
  · rw [off k h, nfR_nil]
    exact fun q m => (nomatch m)
theorem it_few {H : Hp} {St : Addr} {it : ITab} {S : Int → Row} {p : Int} {n : Nat} (t : ITabOk H St it S p) (hn : n ≤ 5) (ks : ∀ e ∈ it, 0 ≤ e.1 ∧ e.1 < (2 ^ n : Nat)) : it.length ≤ 60 := by
  have h := nodup_len (n := 2 ^ n) t.nd fun k m => by
    obtain ⟨e, he, rfl⟩ := List.mem_map.mp m
    exact ks e he
  rw [List.length_map] at h
  have := pw2 hn
  omega
theorem But.at {d l T : Addr} {H H' : Hp} {o : HO} (b : But d l H H') (n : H T = none) : But d l H (upd H' T o) := fun a u h x y => by
  rw [upd_ne (ne_of_none h n)]
  exact b a u h x y
def setF (F : Nat → PRow) (c : Nat) (d : PRow) : Nat → PRow := fun x => if x = c then d else F x
abbrev sLet : Stmt := top 58
def spLet : Sp := fun vs H Q _ => ∃ (d l c : Addr) (p : Int) (n : Nat), vs = [.ref d, .int p, .int n] ∧ DrawIn H d l c ∧ n ≤ 5 ∧ (0 < p ∧ p ≤ 31) ∧
  ∀ H' fs F ds, DrawIn H' d l c → But d l H H' → fs ≠ l → FirstsL H' fs n F ds → Tw p n F → Q (.ref fs) H'
section
variable {P : Program} {w : World} {K : PySem.W.Frag} {mg : Str → Option Value} {base : Heap}
theorem scLet : FnScope ["draw", "field", "letters_here", "steps_here", "letter", "told", "lap", "a", "some"] ["draw", "field", "letters_here"] (defScope sLet) := ⟨rfl, rfl, rfl, by decide +kernel, rfl, by decide +kernel, by decide +kernel⟩
theorem ok_let {f : Addr} {fd : FuncData} (F0 : Fun K "_law_letter_steps" "_law_letter_steps" sLet f fd) (TK : Df P w K mg base CX0 2 "_law_take" ["draw", "amount"] spTake) (TO : Df P w K mg base CX0 4 "_law_turning_of" ["field", "letters_here", "steps_here"] spTof)
    (TW : Df P w K mg base CX0 4 "_law_is_twice_nothing" ["sketch"] spTwice) (mRange : mg "range" = none) : FnOk P w K mg base CX0 5 f fd ["draw", "field", "letters_here"] spLet := by
  refine F0.ok scLet (fun vs H Q E h => ?_) (fun cdv A outer s H vs Q E hr h => ?_)
  · obtain ⟨d, l, c, p, n, rfl, _⟩ := h
    rfl
  · obtain ⟨d, l, c, p, n, rfl, D, hn, ⟨hp, hp31⟩, k⟩ := h
    have hu := hu_of hr
    refine ⟨_, pss_cons (ps_setLc (i := 3) (own := [("letter", 4)]) (g := gName 4) (tt := tYes) rfl scLet.nd rfl rfl (sw_true rfl rfl rfl (by decide +kernel)) (pi_range1 (by rfl) mRange (pa_cons (pv 2) pa_nil)) (blkOk_by (N := ["draw", "field", "letters_here", "steps_here", "letter", "told", "lap", "a", "some"]) (sc := defScope sLet) (by decide +kernel))
        (fun _ _ _ _ _ => pg_name (i := 4) scLet.nd rfl (Or.inl rfl)) (fun _ _ _ _ _ => pts_nil) (fun _ _ _ _ _ => pe_dnewT))
      (pss_cons (ps_for PassesOwn.never rfl (pi_range2 (by rfl) mRange (pa_cons pe_int (pa_cons (pv 2) pa_nil))) (pg_name (i := 4) scLet.nd rfl (Or.inl rfl))
        (pss_one (ps_if (pt_cmpR op_gt (pe_df TK (hr.mono (by decide)) (by rfl) pass0 (pa_cons (pv 0) (pa_cons pe_int pa_nil))) pe_int (nomark _))
          (pss_cons (ps_set (i := 5) scLet.nd rfl (Or.inl rfl) pe_dnewT)
          (pss_cons (ps_for PassesOwn.never rfl (pi_range1 (by rfl) mRange (pa_cons (pe_op op_add pe_int (pe_df TK (hr.mono (by decide)) (by rfl) pass0 (pa_cons (pv 0) (pa_cons pe_int pa_nil)))) pa_nil)) (pg_name (i := 6) scLet.nd rfl (Or.inl rfl))
            (pss_cons (ps_set (i := 7) scLet.nd rfl (Or.inl rfl) (pe_df TK (hr.mono (by decide)) (by rfl) pass0 (pa_cons (pv 0) (pa_cons (pe_op op_sub (pv 4) pe_int) pa_nil))))
            (pss_one (ps_dput hu (pv 5) (pe_tup (pa_cons (pv 7) (pa_cons (pe_op op_add (pe_op op_add (pv 7) pe_int) (pe_df TK (hr.mono (by decide)) (by rfl) pass0 (pa_cons (pv 0) (pa_cons (pe_op op_sub (pe_op op_sub (pv 4) pe_int) (pv 7)) pa_nil)))) pa_nil)))
              (pe_op op_add pe_int (pe_df TK (hr.mono (by decide)) (by rfl) pass0 (pa_cons (pv 0) (pa_cons (pv 1) pa_nil)))) rfl))))
          (pss_cons (ps_set (i := 8) scLet.nd rfl (Or.inl rfl) (pe_op op_cat (pe_op op_cat (pe_slice sl_list (pv 3) po_none (po_some (pv 4))) (pe_lst (pa_cons (pv 5) pa_nil))) (pe_slice sl_list (pv 3) (po_some (pe_op op_add (pv 4) pe_int)) po_none)))
          (pss_one (ps_if (pt_val (pe_df TW hr (by rfl) pass0 (pa_cons (pe_df TO hr (by rfl) pass0 (pa_cons (pv 1) (pa_cons (pv 2) (pa_cons (pv 8) pa_nil)))) pa_nil))) (pss_one (ps_set (i := 3) scLet.nd rfl (Or.inl rfl) (pv 8))) pss_nil))))) pss_nil)))
      (pss_one (ps_ret (pv 3)))), ?_⟩
    refine ⟨_, rfl, n, rfl, by omega, by omega, fun D0 nD0 => ?_⟩
    obtain ⟨ns0, hl0, _⟩ := D.ll
    refine lc_it (walk_range (lo := 0) (n := n)) (fun i H' => Same H H' ∧ ∃ ds : List Addr, H' D0 = some (.lst (ds.map V.ref)) ∧ ds.length = i ∧ ∀ x ∈ ds, H' x = some (.dT [])) ⟨same_new nD0, [], upd_same, rfl, fun x m => (nomatch m)⟩ (fun _ _ _ _ => trivial) ?_ ?_
    · rintro i x H1 H2 hi ⟨s1, ds, hD, zd, al⟩ ⟨rfl, rfl⟩
      show gName 4 (.int (0 + (i : Int))) _ _ _
      refine ⟨rfl, ?_⟩
      simp only [tYes, if_true]
      intro t nt
      have st : Same H2 (upd H2 t (.dT [])) := same_new nt
      have hD2 := st _ _ hD
      refine ⟨_, hD2, by rw [List.length_map]; exact small1000 (by omega), same_upd (s1.trans st) nD0, ds ++ [t], ?_, by rw [List.length_append, zd]; rfl, fun x m => ?_⟩
      · rw [upd_same, List.map_append]; rfl
      · have hx : (upd H2 t (.dT [])) x = some (.dT []) := by
          rcases List.mem_append.mp m with m | m
          · exact st _ _ (al x m)
          · rw [List.mem_singleton.mp m]; exact upd_same
        rw [upd_ne (ne_of hx hD2 (fun z => nomatch z))]
        exact hx
    · rintro H1 ⟨s1, ds, hD, zd, al⟩
      show gName 3 (.ref D0) _ _ _
      refine ⟨_, rfl, 2, (n : Int), rfl, ⟨by decide, by decide, by omega, by omega⟩, ?_⟩
      refine for_it (walk_range (lo := 2) (n := ((n : Int) - 2).toNat)) (fun i σ H' => ∃ v4 v5 v6 v7 v8 fs F ds, σ = [some (.ref d), some (.int p), some (.int n), some (.ref fs), v4, v5, v6, v7, v8] ∧ DrawIn H' d l c ∧ But d l H H' ∧ fs ≠ l ∧ FirstsL H' fs n F ds ∧ Tw p n F) ?_ (fun _ _ _ _ _ => trivial) ?_ ?_
      · refine ⟨none, none, none, none, none, D0, fun _ => [], ds, rfl, D.same s1, But.of s1, Ne.symm (ne_of_none hl0 nD0), ⟨hD, zd, fun c x e => al x (List.mem_of_getElem? e), fun c hc => PrOk.nil _ _ _⟩, Tw_zero hp hn⟩
      · rintro i x σ H' H2 hi ⟨v4, v5, v6, v7, v8, fs, F, ds, rfl, D2, b2, nfl, FL, tw⟩ ⟨rfl, rfl⟩
        have li : 2 + i < n := by omega
        show gName 4 (.int (2 + (i : Int))) _ _ _
        refine ⟨_, rfl, d, l, c, 4, rfl, D2, ⟨by decide, by decide⟩, fun H3 v hv D3 b3 => ⟨_, _, rfl, rfl, _, rfl, ite2 (fun _ => ?_) fun _ => ⟨_, _, _, _, _, fs, F, ds, rfl, D3, b2.trans b3, nfl, FL.but D2 nfl b3, tw⟩⟩⟩
        intro T nT
        show gName 5 (.ref T) _ _ _
        have sT : Same H3 (upd H3 T (.dT [])) := same_new nT
        refine ⟨_, rfl, d, l, c, 2, rfl, D3.same sT, ⟨by decide, by decide⟩, fun H4 v2 hv2 D4 b4 => ⟨_, _, rfl, rfl, 1 + v2, rfl, by omega, by omega, ?_⟩⟩
        obtain ⟨rr, tt, hd3⟩ := D3.dd
        obtain ⟨ns3, hl3, _⟩ := D3.ll
        have nTd : T ≠ d := Ne.symm (ne_of_none hd3 nT)
        have nTl : T ≠ l := Ne.symm (ne_of_none hl3 nT)
        have hT4 : H4 T = some (.dT (pK [])) := b4 _ _ upd_same nTd nTl
        refine for_it (walk_range (lo := 0) (n := (1 + v2).toNat)) (fun j σ H' => ∃ v6 v7, σ = [some (.ref d), some (.int p), some (.int n), some (.ref fs), some (.int (2 + (i : Int))), some (.ref T), v6, v7, v8] ∧ DrawIn H' d l c ∧ But d l H3 H' ∧ ∃ dd : PRow, H' T = some (.dT (pK dd)) ∧ PrOk n n j dd) ?_ (fun _ _ _ _ _ => trivial) ?_ ?_
        · exact ⟨v6, v7, rfl, D4, (But.of sT).trans b4, [], hT4, PrOk.nil _ _ _⟩
        · rintro j x σ H' H5 hj ⟨v6, v7, rfl, D5, b5, dd, hT5, pd⟩ ⟨rfl, rfl⟩
          show gName 6 (.int (0 + (j : Int))) _ _ _
          refine ⟨_, rfl, _, rfl, _, _, rfl, rfl, d, l, c, 2 + (i : Int) - 1, rfl, D5, ⟨by omega, by omega⟩, fun H6 a ha D6 b6 => ?_⟩
          show gName 7 (.int a) _ _ _
          refine ⟨_, rfl, _, rfl, d, l, c, p, rfl, D6, ⟨by omega, by omega⟩, fun H7 x hx D7 b7 => ?_⟩
          walk_at "rd"
          refine ⟨d, l, c, 2 + (i : Int) - 1 - a, rfl, D7, ⟨by omega, by omega⟩, fun H8 y hy D8 b8 => ⟨y, rfl, by decide, fun p' np => ?_⟩⟩
          have b58 : But d l H5 H8 := (b6.trans b7).trans b8
          have hT8 : H8 T = some (.dT (pK dd)) := b58 _ _ hT5 nTd nTl
          have nTp : T ≠ p' := ne_of_none hT8 np
          have hTu : (upd H8 p' (.tup [V.int a, V.int (a + 1 + y)])) T = some (.dT (pK dd)) := by rw [upd_ne nTp]; exact hT8
          have Du := D8.same (same_new (o := .tup [V.int a, V.int (a + 1 + y)]) np)
          obtain ⟨a', rfl⟩ : ∃ a' : Nat, a = (a' : Int) := ⟨a.toNat, by omega⟩
          obtain ⟨y', rfl⟩ : ∃ y' : Nat, y = (y' : Int) := ⟨y.toNat, by omega⟩
          have pm := pair_mem n hn (a' + 1 + y') (by omega) a' (by omega)
          have pm2 : (((a' : Int), (a' : Int) + 1 + (y' : Int))) ∈ pairsN n := by
            have e : ((a' + 1 + y' : Nat) : Int) = (a' : Int) + 1 + (y' : Int) := by omega
            rw [← e]; exact pm
          have pz := pd.len
          refine ⟨_, DPut.t (k := kP ((a' : Int), (a' : Int) + 1 + (y' : Int))) hTu upd_same ?_, _, _, ⟨rfl, rfl⟩, Du.updT hTu, ?_, putPR dd ((a' : Int), (a' : Int) + 1 + (y' : Int)) (1 + x), ?_, pd.put pm2 (by omega)⟩
          · show (pK dd).length < sizeLine
            unfold pK
            rw [List.length_map]
            exact Nat.lt_of_le_of_lt pz (small1000 (by omega))
          · exact ((b5.trans b58).new np).at nT
          · rw [upd_same, putK_pK]
        · rintro σ H5 ⟨v6, v7, rfl, D5, b5, dd, hT5, pd⟩
          have FL5 : FirstsL H5 fs n F ds := (FL.but D2 nfl b3).but D3 nfl b5
          have lds := FL5.len
          have eI : (2 + (i : Int)) = ((2 + i : Nat) : Int) := by omega
          have eJ : (2 + (i : Int)) + 1 = ((2 + i + 1 : Nat) : Int) := by omega
          have hi1 : 2 + i ≤ (ds.map V.ref).length := by rw [List.length_map, lds]; omega
          have hi2 : 2 + i + 1 ≤ (ds.map V.ref).length := by rw [List.length_map, lds]; omega
          have zd : (ds.map V.ref).length = n := by rw [List.length_map, lds]
          walk_at "rd"
          unfold tSl tPart tNoPart
          refine ⟨_, rfl, _, rfl, _, rfl, fs, ds.map V.ref, rfl, SqL.of FL5.at_, fun q1 nq1 => ?_⟩
          rw [eI, cutL1 hi1]
          refine ⟨by decide, fun q2 nq2 => ?_⟩
          have s1 : Same H5 (upd H5 q1 (.lst ((ds.map V.ref).take (2 + i)))) := same_new nq1
          have s2 := s1.trans (same_new (o := .lst [V.ref T]) nq2)
          have sz : sizeLine = sizeLine := rfl
          have big : 1000 < sizeLine := by decide
          refine ⟨q1, q2, _, _, rfl, rfl, (same_new nq2) _ _ upd_same, upd_same, ?_, fun q3 nq3 => ?_⟩
          · rw [List.length_take]
            show _ + 1 ≤ _
            omega
          have s3 := s2.trans (same_new (o := .lst ((ds.map V.ref).take (2 + i) ++ [V.ref T])) nq3)
          refine ⟨_, rfl, _, rfl, _, _, rfl, rfl, _, rfl, fs, ds.map V.ref, rfl, SqL.of (s3 _ _ FL5.at_), fun q4 nq4 => ?_⟩
          rw [show ((2 + i : Nat) : Int) + 1 = ((2 + i + 1 : Nat) : Int) by omega, cutL2 hi2]
          have s4 := s3.trans (same_new (o := .lst ((ds.map V.ref).drop (2 + i + 1))) nq4)
          refine ⟨q3, q4, _, _, rfl, rfl, (same_new nq4) _ _ upd_same, upd_same, ?_, fun q5 nq5 => ?_⟩
          · rw [List.length_append, List.length_take, List.length_drop]
            show _ + 1 + _ ≤ _
            omega
          have s5 := s4.trans (same_new (o := .lst ((ds.map V.ref).take (2 + i) ++ [V.ref T] ++ (ds.map V.ref).drop (2 + i + 1))) nq5)
          obtain ⟨ds2, e2⟩ : ∃ x : List Addr, x = ds.take (2 + i) ++ [T] ++ ds.drop (2 + i + 1) := ⟨_, rfl⟩
          have em : (ds.map V.ref).take (2 + i) ++ [V.ref T] ++ (ds.map V.ref).drop (2 + i + 1) = ds2.map V.ref := by
            rw [e2, List.map_append, List.map_append, List.map_take, List.map_drop]
            rfl
          rw [em] at s5 ⊢
          have lt : (ds.take (2 + i)).length = 2 + i := by rw [List.length_take, lds]; omega
          have FN0 : ∀ Hz : Hp, Same H5 Hz → Hz q5 = some (.lst (ds2.map V.ref)) → FirstsL Hz q5 n (setF F (2 + i) dd) ds2 := fun Hz sz5 hz5 => by
            refine ⟨hz5, ?_, fun c' d' e => ?_, fun c' hc => ?_⟩
            · rw [e2, List.length_append, List.length_append, lt, List.length_drop, lds]
              show 2 + i + 1 + _ = _
              omega
            · unfold setF
              rw [e2] at e
              by_cases g : c' = 2 + i
              · rw [if_pos g]
                rw [List.getElem?_append_left (by rw [List.length_append, lt]; show c' < 2 + i + 1; omega), List.getElem?_append_right (by omega), lt, g, Nat.sub_self] at e
                rw [← Option.some.inj e]
                exact sz5 _ _ hT5
              · rw [if_neg g]
                refine sz5 _ _ (FL5.row c' d' ?_)
                rcases Nat.lt_or_ge c' (2 + i) with g2 | g2
                · rw [List.getElem?_append_left (by rw [List.length_append, lt]; show c' < 2 + i + 1; omega), List.getElem?_append_left (by omega), List.getElem?_take_of_lt g2] at e
                  exact e
                · rw [List.getElem?_append_right (by rw [List.length_append, lt]; show 2 + i + 1 ≤ c'; omega), List.length_append, lt, List.getElem?_drop] at e
                  rw [← e]
                  congr 1
                  show c' = 2 + i + 1 + (c' - (2 + i + 1))
                  omega
            · unfold setF
              by_cases g : c' = 2 + i
              · rw [if_pos g]
                exact ⟨pd.nd, pd.mem, pd.sm, Nat.le_trans pd.len (by omega)⟩
              · rw [if_neg g]
                exact FL5.ok c' hc
          have FN := FN0 _ s5 upd_same
          have nq5l : q5 ≠ l := by
            obtain ⟨ns5, hl5, _⟩ := D5.ll
            exact Ne.symm (ne_of_none (s4 _ _ hl5) nq5)
          have bb : But d l H H5 := (b2.trans b3).trans b5
          refine ⟨q5, p, n, _, rfl, hn, ⟨hp, hp31⟩, FN.to, fun H9 sk it D s9 nsk SK O off ks => ?_⟩
          obtain ⟨h', P', St, pt, k1, k2, k3, k4⟩ := SK.ex
          refine ⟨sk, h', P', St, it, _, p, 2 ^ n, rfl, k1, k4, bel_all hp O off, Nat.le_trans (pw2 hn) (by decide), ⟨it_few k4 hn ks, ks⟩, ⟨hp, hp31⟩, fun H10 b s10 hb => ⟨b, rfl, ?_⟩⟩
          have s510 : Same H5 H10 := (s5.trans s9).trans s10
          refine ite2 (fun hb1 => ?_) fun _ => ?_
          · exact ⟨_, _, _, _, _, q5, ⟨rfl, rfl, rfl, rfl, rfl, rfl⟩, D5.same s510, bb.trans (But.of s510), nq5l, _, ds2, FN.inn (s9.trans s10), (tw_iff hp (lots_ok hn) FN.to.mem O).mp (hb.mp hb1)⟩
          · exact ⟨_, _, _, _, _, fs, ⟨rfl, rfl, rfl, rfl, rfl, rfl⟩, D5.same s510, bb.trans (But.of s510), nfl, F, ds, FL5.inn s510, tw⟩
      · rintro σ H' ⟨v4, v5, v6, v7, v8, fs, F, ds, rfl, D2, b2, nfl, FL, tw⟩
        exact ⟨_, rfl, k H' fs F ds D2 b2 nfl FL tw⟩
end
end Lp
namespace Lp
open PySem L2 LamX
local macro_rules | `(tactic| walk_at "rd") => `(tactic| simp only [tSeq, tAsg, tYes, tTest, tOp, tCB, tCons, tNil, tVar, tC, rI0, rI, gName, wipe, tDisp, tTru, TruV, tB, tNext, tDGet2, tLock, tDIn, tDNotIn, tOr, tNot, tChain, tAnd, tCont, tUn, rU, tPairs, tRet, tIf, tIfS, tPar, tLst, tTup, tDrop, tDGet, tCall, sDPut, L2.start,
  List.map_cons, List.map_nil, List.foldl_cons, List.foldl_nil, List.length_cons, List.length_nil, List.replicate_succ, List.replicate_zero, List.append_nil, List.cons_append, List.nil_append, List.set_cons_zero, List.set_cons_succ, List.getElem?_cons_zero, List.getElem?_cons_succ,
  Option.some.injEq, List.cons.injEq, V.int.injEq, V.bl.injEq, V.ref.injEq, V.str.injEq, exists_eq_left', exists_eq_left, exists_eq_right, and_true, true_and, exists_and_left, Nat.add_zero, Nat.reduceAdd, Nat.reduceSub, Nat.sub_zero, if_true, if_false])
/-! ### _law_any_steps -/
theorem FirstsL.upd {H : Hp} {fs T : Addr} {i : Nat} {F : Nat → PRow} {ds : List Addr} {n : Nat} {d : PRow} (at_ : H fs = some (.lst (ds.map V.ref))) (len : ds.length = i) (row : ∀ (c : Nat) d, ds[c]? = some d → H d = some (.dT (pK (F c)))) (ok : ∀ c, c < i → PrOk n n 10 (F c))
    (hT : H T = some (.dT (pK d))) (hd : PrOk n n 10 d) :
    (∀ (c : Nat) x, (ds ++ [T])[c]? = some x → (upd H fs (.lst ((ds ++ [T]).map V.ref))) x = some (.dT (pK (setF F i d c)))) ∧ ∀ c, c < i + 1 → PrOk n n 10 (setF F i d c) := by
  refine ⟨fun c x e => ?_, fun c hc => ?_⟩
  · unfold setF
    by_cases g : c = i
    · rw [if_pos g]
      rw [List.getElem?_append_right (by omega), g, len, Nat.sub_self] at e
      rw [← Option.some.inj e, upd_ne (ne_of hT at_ (fun z => nomatch z))]
      exact hT
    · rw [if_neg g]
      have lc : c < ds.length := by
        rcases Nat.lt_or_ge c ds.length with h | h
        · exact h
        · have := (List.getElem?_eq_some_iff.mp e).1
          rw [List.length_append, List.length_singleton] at this
          omega
      rw [List.getElem?_append_left lc] at e
      have hx := row c x e
      rw [upd_ne (ne_of hx at_ (fun z => nomatch z))]
      exact hx
  · unfold setF
    by_cases g : c = i
    · rw [if_pos g]; exact hd
    · rw [if_neg g]; exact ok c (by omega)
theorem DrawIn.updL {H : Hp} {d l c T : Addr} {xs : List Addr} {o : HO} (D : DrawIn H d l c) (h : H T = some (.lst (xs.map V.ref))) (nl : T ≠ l) (nc : T ≠ c) : DrawIn (upd H T o) d l c := by
  obtain ⟨r, t, hd⟩ := D.dd
  obtain ⟨ns, h1, z1⟩ := D.ll
  obtain ⟨ms, h2, z2⟩ := D.cc
  exact ⟨D.lc, ⟨r, t, by rw [upd_ne (ne_of hd h (fun z => nomatch z))]; exact hd⟩, ⟨ns, by rw [upd_ne (Ne.symm nl)]; exact h1, z1⟩, ⟨ms, by rw [upd_ne (Ne.symm nc)]; exact h2, z2⟩⟩
abbrev sAny : Stmt := top 60
def spAny : Sp := fun vs H Q _ => ∃ (d l c : Addr) (p : Int) (n : Nat), vs = [.ref d, .int p, .int n] ∧ DrawIn H d l c ∧ n ≤ 5 ∧ (0 < p ∧ p ≤ 31) ∧
  ∀ H' fs F ds, DrawIn H' d l c → But d l H H' → fs ≠ l → FirstsL H' fs n F ds → Q (.ref fs) H'
section
variable {P : Program} {w : World} {K : PySem.W.Frag} {mg : Str → Option Value} {base : Heap}
theorem scAny : FnScope ["draw", "field", "letters_here", "found", "letter", "told", "lap", "a"] ["draw", "field", "letters_here"] (defScope sAny) := ⟨rfl, rfl, rfl, by decide +kernel, rfl, by decide +kernel, by decide +kernel⟩
theorem ok_any {f : Addr} {fd : FuncData} (F0 : Fun K "_law_any_steps" "_law_any_steps" sAny f fd) (TK : Df P w K mg base CX0 2 "_law_take" ["draw", "amount"] spTake) (mRange : mg "range" = none) : FnOk P w K mg base CX0 3 f fd ["draw", "field", "letters_here"] spAny := by
  refine F0.ok scAny (fun vs H Q E h => ?_) (fun cdv A outer s H vs Q E hr h => ?_)
  · obtain ⟨d, l, c, p, n, rfl, _⟩ := h
    rfl
  · obtain ⟨d, l, c, p, n, rfl, D, hn, ⟨hp, hp31⟩, k⟩ := h
    have hu := hu_of hr
    refine ⟨_, pss_cons (ps_set (i := 3) scAny.nd rfl (Or.inl rfl) (pe_lst pa_nil))
      (pss_cons (ps_for PassesOwn.never rfl (pi_range1 (by rfl) mRange (pa_cons (pv 2) pa_nil)) (pg_name (i := 4) scAny.nd rfl (Or.inl rfl))
        (pss_cons (ps_set (i := 5) scAny.nd rfl (Or.inl rfl) pe_dnewT)
        (pss_cons (ps_for PassesOwn.never rfl (pi_range1 (by rfl) mRange (pa_cons (pe_df TK (hr.mono (by decide)) (by rfl) pass0 (pa_cons (pv 0) (pa_cons pe_int pa_nil))) pa_nil)) (pg_name (i := 6) scAny.nd rfl (Or.inl rfl))
          (pss_one (ps_if (pt_cmpR op_gt (pv 2) pe_int (nomark _))
            (pss_cons (ps_set (i := 7) scAny.nd rfl (Or.inl rfl) (pe_df TK (hr.mono (by decide)) (by rfl) pass0 (pa_cons (pv 0) (pa_cons (pe_op op_sub (pv 2) pe_int) pa_nil))))
            (pss_one (ps_dput hu (pv 5) (pe_tup (pa_cons (pv 7) (pa_cons (pe_op op_add (pe_op op_add (pv 7) pe_int) (pe_df TK (hr.mono (by decide)) (by rfl) pass0 (pa_cons (pv 0) (pa_cons (pe_op op_sub (pe_op op_sub (pv 2) pe_int) (pv 7)) pa_nil)))) pa_nil)))
              (pe_op op_sub (pe_df TK (hr.mono (by decide)) (by rfl) pass0 (pa_cons (pv 0) (pa_cons (pe_op op_mul pe_int (pv 1)) pa_nil))) (pv 1)) rfl))) pss_nil)))
        (pss_one (ps_expr (pe_bm PySem.F.plainAttrs_list PySem.F.slot_list_append PySem.F.type_list_append mt_append (pv 3) (pa_cons (pv 5) pa_nil)))))))
      (pss_one (ps_ret (pv 3)))), ?_⟩
    walk_at "rd"
    refine ⟨by decide, fun D0 nD0 => ?_⟩
    obtain ⟨ns0, hl0, _⟩ := D.ll
    obtain ⟨ms0, hc0, _⟩ := D.cc
    have nD0c : D0 ≠ c := Ne.symm (ne_of_none hc0 nD0)
    have nD0l : D0 ≠ l := Ne.symm (ne_of_none hl0 nD0)
    refine ⟨_, rfl, (n : Int), rfl, by omega, by omega, ?_⟩
    refine for_it (walk_range (lo := 0) (n := n)) (fun i σ H' => ∃ v4 v5 v6 v7, ∃ (F : Nat → PRow) (ds : List Addr), σ = [some (.ref d), some (.int p), some (.int n), some (.ref D0), v4, v5, v6, v7] ∧ DrawIn H' d l c ∧ But d l H H' ∧
      H' D0 = some (.lst (ds.map V.ref)) ∧ ds.length = i ∧ (∀ (c : Nat) d, ds[c]? = some d → H' d = some (.dT (pK (F c)))) ∧ ∀ c, c < i → PrOk n n 10 (F c)) ?_ (fun _ _ _ _ _ => trivial) ?_ ?_
    · exact ⟨none, none, none, none, fun _ => [], [], rfl, D.same (same_new nD0), But.of (same_new nD0), upd_same, rfl, fun c d e => (nomatch e), fun c h => absurd h (by omega)⟩
    · rintro i x σ H' H2 hi ⟨v4, v5, v6, v7, F, ds, rfl, D2, b2, at2, len2, row2, ok2⟩ ⟨rfl, rfl⟩
      show gName 4 (.int (0 + (i : Int))) _ _ _
      intro T nT
      show gName 5 (.ref T) _ _ _
      have sT : Same H2 (upd H2 T (.dT [])) := same_new nT
      refine ⟨_, rfl, d, l, c, 3, rfl, D2.same sT, ⟨by decide, by decide⟩, fun H4 v2 hv2 D4 b4 => ?_⟩
      refine ⟨v2, rfl, by omega, by omega, ?_⟩
      obtain ⟨rr, tt, hd3⟩ := D2.dd
      obtain ⟨ns3, hl3, _⟩ := D2.ll
      have nTd : T ≠ d := Ne.symm (ne_of_none hd3 nT)
      have nTl : T ≠ l := Ne.symm (ne_of_none hl3 nT)
      have nD0d : D0 ≠ d := ne_of at2 hd3 (fun z => nomatch z)
      have hT4 : H4 T = some (.dT (pK [])) := b4 _ _ upd_same nTd nTl
      refine for_it (walk_range (lo := 0) (n := v2.toNat)) (fun j σ H' => ∃ v6 v7, σ = [some (.ref d), some (.int p), some (.int n), some (.ref D0), some (.int (0 + (i : Int))), some (.ref T), v6, v7] ∧ DrawIn H' d l c ∧ But d l H2 H' ∧ ∃ dd : PRow, H' T = some (.dT (pK dd)) ∧ PrOk n n j dd) ?_ (fun _ _ _ _ _ => trivial) ?_ ?_
      · exact ⟨v6, v7, rfl, D4, (But.of sT).trans b4, [], hT4, PrOk.nil _ _ _⟩
      · rintro j x σ H' H5 hj ⟨v6, v7, rfl, D5, b5, dd, hT5, pd⟩ ⟨rfl, rfl⟩
        show gName 6 (.int (0 + (j : Int))) _ _ _
        refine ⟨_, rfl, _, _, rfl, rfl, _, rfl, ?_⟩
        refine ite2 (fun hn1 => ?_) fun _ => ?_
        · have hn1 : (1 : Int) < n := of_decide_eq_true hn1
          refine ⟨_, rfl, _, rfl, _, _, rfl, rfl, ?_⟩
          refine ⟨d, l, c, (n : Int) - 1, rfl, D5, ⟨by omega, by omega⟩, fun H6 a ha D6 b6 => ?_⟩
          show gName 7 (.int a) _ _ _
          refine ⟨_, rfl, ?_⟩
          walk_at "rd"
          refine ⟨.inl ⟨by decide, by decide⟩, d, l, c, 3 * p, rfl, D6, ⟨by omega, by omega⟩, fun H7 x hx D7 b7 => ?_⟩
          walk_at "rd"
          refine ⟨d, l, c, (n : Int) - 1 - a, rfl, D7, ⟨by omega, by omega⟩, fun H8 y hy D8 b8 => ⟨y, rfl, by decide, fun p' np => ?_⟩⟩
          have b58 : But d l H5 H8 := (b6.trans b7).trans b8
          have hT8 : H8 T = some (.dT (pK dd)) := b58 _ _ hT5 nTd nTl
          have nTp : T ≠ p' := ne_of_none hT8 np
          have hTu : (upd H8 p' (.tup [V.int a, V.int (a + 1 + y)])) T = some (.dT (pK dd)) := by rw [upd_ne nTp]; exact hT8
          have Du := D8.same (same_new (o := .tup [V.int a, V.int (a + 1 + y)]) np)
          obtain ⟨a', rfl⟩ : ∃ a' : Nat, a = (a' : Int) := ⟨a.toNat, by omega⟩
          obtain ⟨y', rfl⟩ : ∃ y' : Nat, y = (y' : Int) := ⟨y.toNat, by omega⟩
          have pm := pair_mem n hn (a' + 1 + y') (by omega) a' (by omega)
          have pm2 : (((a' : Int), (a' : Int) + 1 + (y' : Int))) ∈ pairsN n := by
            have e : ((a' + 1 + y' : Nat) : Int) = (a' : Int) + 1 + (y' : Int) := by omega
            rw [← e]; exact pm
          have pz := pd.len
          refine ⟨_, DPut.t (k := kP ((a' : Int), (a' : Int) + 1 + (y' : Int))) hTu upd_same ?_, _, _, ⟨rfl, rfl⟩, Du.updT hTu, ((b5.trans b58).new np).at nT, putPR dd ((a' : Int), (a' : Int) + 1 + (y' : Int)) (x - p), ?_, pd.put pm2 (by omega)⟩
          · show (pK dd).length < sizeLine
            unfold pK
            rw [List.length_map]
            exact Nat.lt_of_le_of_lt pz (small1000 (by omega))
          · rw [upd_same, putK_pK]
        · exact ⟨_, _, rfl, D5, b5, dd, hT5, ⟨pd.nd, pd.mem, pd.sm, Nat.le_succ_of_le pd.len⟩⟩
      · rintro σ H5 ⟨v6, v7, rfl, D5, b5, dd, hT5, pd⟩
        have at5 := b5 _ _ at2 nD0d nD0l
        have row5 : ∀ (c : Nat) x, ds[c]? = some x → H5 x = some (.dT (pK (F c))) := fun c x e => b5 _ _ (row2 c x e) (D2.ne_dT (row2 c x e)).1 (D2.ne_dT (row2 c x e)).2
        have q := FirstsL.upd (n := n) at5 len2 row5 ok2 hT5 ⟨pd.nd, pd.mem, pd.sm, Nat.le_trans pd.len (by omega)⟩
        refine ⟨_, rfl, Or.inl ⟨rfl, _, SqL.of at5⟩, _, rfl, D0, _, .ref T, rfl, rfl, at5, ?_, ?_⟩
        · rw [List.length_map, len2]
          exact small1000 (by omega)
        · refine ⟨_, _, _, _, setF F i dd, ds ++ [T], rfl, ?_, ((b2.trans b5).at nD0), ?_, by rw [List.length_append, len2]; rfl, ?_, q.2⟩
          · exact D5.updL at5 nD0l nD0c
          · rw [upd_same, List.map_append]; rfl
          · have := q.1
            rw [List.map_append] at this
            exact this
    · rintro σ H' ⟨v4, v5, v6, v7, F, ds, rfl, D2, b2, at2, len2, row2, ok2⟩
      exact ⟨_, rfl, k H' D0 F ds D2 b2 nD0l ⟨at2, len2, row2, ok2⟩⟩
end
end Lp
namespace Lp
open PySem L2 LamX
local macro_rules | `(tactic| walk_at "rd") => `(tactic| simp only [tSeq, tAsg, tYes, tTest, tOp, tCB, tCons, tNil, tVar, tC, rI0, rI, gName, wipe, tDisp, tTru, TruV, tB, tNext, tDGet2, tLock, tDIn, tDNotIn, tOr, tNot, tChain, tAnd, tCont, tUn, rU, tPairs, tRet, tIf, tIfS, tPar, tLst, tTup, tDrop, tDGet, tCall, sDPut, L2.start,
  List.map_cons, List.map_nil, List.foldl_cons, List.foldl_nil, List.length_cons, List.length_nil, List.replicate_succ, List.replicate_zero, List.append_nil, List.cons_append, List.nil_append, List.set_cons_zero, List.set_cons_succ, List.getElem?_cons_zero, List.getElem?_cons_succ,
  Option.some.injEq, List.cons.injEq, V.int.injEq, V.bl.injEq, V.ref.injEq, V.str.injEq, exists_eq_left', exists_eq_left, exists_eq_right, and_true, true_and, exists_and_left, Nat.add_zero, Nat.reduceAdd, Nat.reduceSub, Nat.sub_zero, if_true, if_false])
/-! ### what repr tells of tables -/
theorem paired_maps {α β γ : Type} {R : β → γ → Prop} (f : α → β) (g : α → γ) : ∀ {xs : List α}, (∀ a ∈ xs, R (f a) (g a)) → Paired R (xs.map f) (xs.map g)
  | [], _ => .nil
  | x :: xs, h => .cons (h x List.mem_cons_self) (paired_maps f g fun a m => h a (List.mem_cons_of_mem _ m))
def rowD (r : Row) : PyData := .dict (r.map fun q => (PyData.int q.1, PyData.int q.2))
def tabD (ks : List (Int × Int)) (S : Int × Int → Row) : PyData := .dict (ks.map fun k => (PyData.tuple [.int k.1, .int k.2], rowD (S k)))
def stepD (ks : List Int) (D : Int → Row) : PyData := .dict (ks.map fun k => (PyData.int k, rowD (D k)))
def tupD (hl : List Int) : PyData := .tuple (hl.map PyData.int)
theorem told_row {H : Hp} {a : Addr} {r : Row} (h : RowAt H a r) : Told H (.ref a) (rowD r) := by
  have q := told_dK (ds := r.map fun q => PyData.int q.2) h (paired_maps (fun p : Int × Int => ((Sum.inl p.1 : Key), V.int p.2)) _ fun a _ => Told.int _)
  have e : ((iK r).map fun p => kD p.1).zip (r.map fun q => PyData.int q.2) = r.map fun q => (PyData.int q.1, PyData.int q.2) := by
    unfold iK
    rw [List.map_map, List.zip_map']
    rfl
  rw [e] at q
  exact q
theorem told_tab {H : Hp} {P : Addr} {pt : PTab} {S : Int × Int → Row} {p : Int} (t : TabOk H P pt S p) : Told H (.ref P) (tabD (pt.map (·.1)) S) := by
  have q := told_dT (ds := pt.map fun e => rowD (S e.1)) t.tab (paired_maps (fun e : (Int × Int) × Addr => (kP e.1, V.ref e.2)) _ fun e m => told_row (t.row e m).1)
  have e : ((pT pt).map fun p => PyData.tuple (p.1.map kD)).zip (pt.map fun e => rowD (S e.1)) = (pt.map (·.1)).map fun k => (PyData.tuple [.int k.1, .int k.2], rowD (S k)) := by
    unfold pT
    rw [List.map_map, List.zip_map', List.map_map]
    rfl
  rw [e] at q
  exact q
theorem told_step {H : Hp} {P : Addr} {it : ITab} {D : Int → Row} {p : Int} (t : ITabOk H P it D p) : Told H (.ref P) (stepD (it.map (·.1)) D) := by
  have q := told_dK (ds := it.map fun e => rowD (D e.1)) t.tab (paired_maps (fun e : Int × Addr => ((Sum.inl e.1 : Key), V.ref e.2)) _ fun e m => told_row (t.row e m).1)
  have e : ((iT it).map fun p => kD p.1).zip (it.map fun e => rowD (D e.1)) = (it.map (·.1)).map fun k => (PyData.int k, rowD (D k)) := by
    unfold iT
    rw [List.map_map, List.zip_map', List.map_map]
    rfl
  rw [e] at q
  exact q
theorem told_hl {H : Hp} {a : Addr} {hl : List Int} (h : H a = some (.tup (hl.map V.int))) : Told H (.ref a) (tupD hl) := by
  have e : hl.map V.int = (hl.map (fun i => (Sum.inl i : Key))).map kV := by rw [List.map_map]; rfl
  rw [e] at h
  have q := told_tup h
  rw [List.map_map] at q
  exact q
/-! ### how long it is -/
theorem showKv {α : Type} {f : α → PyData × PyData} : ∀ {l : List α}, (∀ a ∈ l, (f a).1.showable = true ∧ (f a).2.showable = true) → PyData.showableKv (l.map f) = true
  | [], _ => by simp only [List.map_nil, PyData.showableKv]
  | a :: l, h => by
    have h0 := h a List.mem_cons_self
    have h1 := showKv fun b m => h b (List.mem_cons_of_mem _ m)
    rw [List.map_cons]
    rcases e : f a with ⟨x, y⟩
    rw [e] at h0
    simp only [PyData.showableKv, h0.1, h0.2, h1, Bool.and_self]
theorem shortKv {α : Type} {f : α → PyData × PyData} {B : Nat} : ∀ {l : List α}, (∀ a ∈ l, (f a).1.leavesShort B = true ∧ (f a).2.leavesShort B = true) → PyData.leavesShortKv B (l.map f) = true
  | [], _ => by simp only [List.map_nil, PyData.leavesShortKv]
  | a :: l, h => by
    have h0 := h a List.mem_cons_self
    have h1 := shortKv fun b m => h b (List.mem_cons_of_mem _ m)
    rw [List.map_cons]
    rcases e : f a with ⟨x, y⟩
    rw [e] at h0
    simp only [PyData.leavesShortKv, h0.1, h0.2, h1, Bool.and_self]
theorem bulkKvLe {α : Type} {f : α → PyData × PyData} {b : Nat} : ∀ {l : List α}, (∀ a ∈ l, (f a).1.bulk + (f a).2.bulk + 2 ≤ b) → PyData.bulkKv (l.map f) ≤ l.length * b
  | [], _ => by simp only [List.map_nil, PyData.bulkKv, List.length_nil]; omega
  | a :: l, h => by
    have h0 := h a List.mem_cons_self
    have h1 := bulkKvLe fun b m => h b (List.mem_cons_of_mem _ m)
    rw [List.map_cons]
    rcases e : f a with ⟨x, y⟩
    rw [e] at h0
    simp only [PyData.bulkKv, List.length_cons, Nat.succ_mul]
    dsimp only at h0
    omega
theorem depthKvLe {α : Type} {f : α → PyData × PyData} {m : Nat} : ∀ {l : List α}, (∀ a ∈ l, (f a).1.depth ≤ m ∧ (f a).2.depth ≤ m) → PyData.depthKv (l.map f) ≤ m
  | [], _ => by simp only [List.map_nil, PyData.depthKv]; omega
  | a :: l, h => by
    have h0 := h a List.mem_cons_self
    have h1 := depthKvLe fun b m => h b (List.mem_cons_of_mem _ m)
    rw [List.map_cons]
    rcases e : f a with ⟨x, y⟩
    rw [e] at h0
    simp only [PyData.depthKv]
    dsimp only at h0
    omega
def Sml (i : Int) : Prop := i.natAbs ≤ 1000
theorem Sml.show {i : Int} (h : Sml i) : (PyData.int i).showable = true := by
  have h : i.natAbs ≤ 1000 := h
  simp only [PyData.showable, decide_eq_true_eq]
  have := Nat.log2_le_self i.natAbs
  omega
theorem Sml.short {i : Int} (h : Sml i) : (PyData.int i).leavesShort 13 = true := by
  have h : i.natAbs ≤ 1000 := h
  simp only [PyData.leavesShort, decide_eq_true_eq]
  exact PyData.shown_int_le2 (by omega) (by omega)
structure RowS (r : Row) : Prop where
  len : r.length ≤ 32
  sm : ∀ q ∈ r, Sml q.1 ∧ Sml q.2
theorem RowS.show {r : Row} (h : RowS r) : (rowD r).showable = true := by
  unfold rowD
  simp only [PyData.showable]
  exact showKv fun q m => ⟨(h.sm q m).1.show, (h.sm q m).2.show⟩
theorem RowS.short {r : Row} (h : RowS r) : (rowD r).leavesShort 13 = true := by
  unfold rowD
  simp only [PyData.leavesShort]
  exact shortKv fun q m => ⟨(h.sm q m).1.short, (h.sm q m).2.short⟩
theorem RowS.bulk {r : Row} (h : RowS r) : (rowD r).bulk ≤ 64 := by
  unfold rowD
  simp only [PyData.bulk]
  have := bulkKvLe (f := fun q : Int × Int => (PyData.int q.1, PyData.int q.2)) (b := 2) (l := r) fun q m => by simp only [PyData.bulk]; omega
  have := h.len
  omega
theorem RowS.depth {r : Row} : (rowD r).depth ≤ 1 := by
  unfold rowD
  simp only [PyData.depth]
  have := depthKvLe (f := fun q : Int × Int => (PyData.int q.1, PyData.int q.2)) (m := 0) (l := r) fun q m => by simp only [PyData.depth]; omega
  omega
structure GoodD (d : PyData) : Prop where
  sh : d.showable = true
  ln : d.shown.length ≤ sizeLine
  dp : d.depth ≤ 32
theorem goodD {d : PyData} (h1 : d.showable = true) (h2 : d.leavesShort 13 = true) (h3 : d.bulk ≤ 1000000) (h4 : d.depth ≤ 32) : GoodD d := by
  refine ⟨h1, ?_, h4⟩
  have q := PyData.shown_le_bulk 13 (by decide) d h2
  have z : (15000013 : Nat) ≤ sizeLine := by decide
  omega
theorem good_tab {ks : List (Int × Int)} {S : Int × Int → Row} (zk : ks.length ≤ 1024) (hk : ∀ k ∈ ks, Sml k.1 ∧ Sml k.2 ∧ RowS (S k)) : GoodD (tabD ks S) := by
  unfold tabD
  refine goodD ?_ ?_ ?_ ?_
  · simp only [PyData.showable]
    refine showKv fun k m => ⟨?_, (hk k m).2.2.show⟩
    have h1 := (hk k m).1.show
    have h2 := (hk k m).2.1.show
    simp only [PyData.showable, PyData.showableAll] at h1 h2 ⊢
    rw [h1, h2]
    rfl
  · simp only [PyData.leavesShort]
    refine shortKv fun k m => ⟨?_, (hk k m).2.2.short⟩
    have h1 := (hk k m).1.short
    have h2 := (hk k m).2.1.short
    simp only [PyData.leavesShort, PyData.leavesShortAll] at h1 h2 ⊢
    rw [h1, h2]
    rfl
  · simp only [PyData.bulk]
    have := bulkKvLe (f := fun k : Int × Int => (PyData.tuple [.int k.1, .int k.2], rowD (S k))) (b := 68) (l := ks) fun k m => by
      have := (hk k m).2.2.bulk
      simp only [PyData.bulk, PyData.bulkAll]
      omega
    omega
  · simp only [PyData.depth]
    have := depthKvLe (f := fun k : Int × Int => (PyData.tuple [.int k.1, .int k.2], rowD (S k))) (m := 1) (l := ks) fun k m => by
      have := RowS.depth (r := S k)
      simp only [PyData.depth, PyData.depthAll]
      omega
    omega
theorem good_step {ks : List Int} {D : Int → Row} (zk : ks.length ≤ 1024) (hk : ∀ k ∈ ks, Sml k ∧ RowS (D k)) : GoodD (stepD ks D) := by
  unfold stepD
  refine goodD ?_ ?_ ?_ ?_
  · simp only [PyData.showable]
    exact showKv fun k m => ⟨(hk k m).1.show, (hk k m).2.show⟩
  · simp only [PyData.leavesShort]
    exact shortKv fun k m => ⟨(hk k m).1.short, (hk k m).2.short⟩
  · simp only [PyData.bulk]
    have := bulkKvLe (f := fun k : Int => (PyData.int k, rowD (D k))) (b := 66) (l := ks) fun k m => by
      have := (hk k m).2.bulk
      simp only [PyData.bulk]
      omega
    omega
  · simp only [PyData.depth]
    have := depthKvLe (f := fun k : Int => (PyData.int k, rowD (D k))) (m := 1) (l := ks) fun k m => by
      have := RowS.depth (r := D k)
      simp only [PyData.depth]
      omega
    omega
theorem good_tup {hl : List Int} (z : hl.length ≤ 1000) (h : ∀ x ∈ hl, Sml x) : GoodD (tupD hl) := by
  have q1 : ∀ {l : List Int}, (∀ x ∈ l, Sml x) → PyData.showableAll (l.map PyData.int) = true ∧ PyData.leavesShortAll 13 (l.map PyData.int) = true ∧ PyData.bulkAll (l.map PyData.int) ≤ l.length ∧ PyData.depthAll (l.map PyData.int) = 0 := fun {l} => by
    induction l with
    | nil => intro _; simp [PyData.showableAll, PyData.leavesShortAll, PyData.bulkAll, PyData.depthAll]
    | cons x l ih =>
      intro h
      obtain ⟨a1, a2, a3, a4⟩ := ih fun y m => h y (List.mem_cons_of_mem _ m)
      have h1 := (h x List.mem_cons_self).show
      have h2 := (h x List.mem_cons_self).short
      rw [List.map_cons]
      simp only [PyData.showableAll, PyData.leavesShortAll, PyData.bulkAll, PyData.depthAll, h1, h2, a1, a2, a4, Bool.and_self, List.length_cons, PyData.bulk, PyData.depth]
      refine ⟨trivial, trivial, by omega, ?_⟩
      rfl
  obtain ⟨a1, a2, a3, a4⟩ := q1 h
  unfold tupD
  refine goodD ?_ ?_ ?_ ?_
  · simp only [PyData.showable]; exact a1
  · simp only [PyData.leavesShort]; exact a2
  · simp only [PyData.bulk]; omega
  · simp only [PyData.depth]; omega
/-! ### the same keys -/
theorem asc_eq {α : Type} {lt : α → α → Prop} (irr : ∀ a, ¬ lt a a) (asy : ∀ a b, lt a b → ¬ lt b a) : ∀ {xs ys : List α}, xs.Pairwise lt → ys.Pairwise lt → (∀ a, a ∈ xs ↔ a ∈ ys) → xs = ys
  | [], [], _, _, _ => rfl
  | [], y :: ys, _, _, h => absurd ((h y).mpr List.mem_cons_self) (by simp)
  | x :: xs, [], _, _, h => absurd ((h x).mp List.mem_cons_self) (by simp)
  | x :: xs, y :: ys, p, q, h => by
    rw [List.pairwise_cons] at p q
    have e : x = y := by
      rcases List.mem_cons.mp ((h x).mp List.mem_cons_self) with e | e
      · exact e
      · rcases List.mem_cons.mp ((h y).mpr List.mem_cons_self) with e2 | e2
        · exact e2.symm
        · exact absurd (p.1 y e2) (asy _ _ (q.1 x e))
    subst e
    have t : xs = ys := asc_eq irr asy p.2 q.2 fun a => ⟨fun m => ((List.mem_cons.mp ((h a).mp (List.mem_cons_of_mem _ m))).resolve_left fun z => irr x (z ▸ p.1 a m)), fun m => ((List.mem_cons.mp ((h a).mpr (List.mem_cons_of_mem _ m))).resolve_left fun z => irr x (z ▸ q.1 a m))⟩
    rw [t]
theorem TabOk.key_iff {H : Hp} {P : Addr} {pt : PTab} {S : Int × Int → Row} {p : Int} (t : TabOk H P pt S p) (k : Int × Int) : k ∈ pt.map (·.1) ↔ S k ≠ [] := by
  constructor
  · intro m
    obtain ⟨e, me, rfl⟩ := List.mem_map.mp m
    exact (t.row e me).2
  · intro h
    by_cases g : k ∈ pt.map (·.1)
    · exact g
    · exact absurd (t.off k fun e me z => g (z ▸ List.mem_map.mpr ⟨e, me, rfl⟩)) h
theorem ITabOk.key_iff {H : Hp} {P : Addr} {it : ITab} {D : Int → Row} {p : Int} (t : ITabOk H P it D p) (k : Int) : k ∈ it.map (·.1) ↔ D k ≠ [] := by
  constructor
  · intro m
    obtain ⟨e, me, rfl⟩ := List.mem_map.mp m
    exact (t.row e me).2
  · intro h
    by_cases g : k ∈ it.map (·.1)
    · exact g
    · exact absurd (t.off k fun e me z => g (z ▸ List.mem_map.mpr ⟨e, me, rfl⟩)) h
end Lp
namespace Lp
open PySem L2 LamX
local macro_rules | `(tactic| walk_at "rd") => `(tactic| simp only [tSeq, tAsg, tYes, tTest, tOp, tCB, tCons, tNil, tVar, tC, rI0, rI, gName, wipe, tDisp, tTru, TruV, tB, tNext, tDGet2, tLock, tDIn, tDNotIn, tOr, tNot, tChain, tAnd, tCont, tUn, rU, tPairs, tRet, tIf, tIfS, tPar, tLst, tTup, tDrop, tDGet, tCall, sDPut, L2.start,
  List.map_cons, List.map_nil, List.foldl_cons, List.foldl_nil, List.length_cons, List.length_nil, List.replicate_succ, List.replicate_zero, List.append_nil, List.cons_append, List.nil_append, List.set_cons_zero, List.set_cons_succ, List.getElem?_cons_zero, List.getElem?_cons_succ,
  Option.some.injEq, List.cons.injEq, V.int.injEq, V.bl.injEq, V.ref.injEq, V.str.injEq, exists_eq_left', exists_eq_left, exists_eq_right, and_true, true_and, exists_and_left, Nat.add_zero, Nat.reduceAdd, Nat.reduceSub, Nat.sub_zero, if_true, if_false])
/-! ### _law_is_frame -/
theorem ltP2_asy (a b : Int × Int) : ltP2 a b → ¬ ltP2 b a := fun h1 h2 => by
  have h1 := SrtO.lexB_iff.mp h1
  have h2 := SrtO.lexB_iff.mp h2
  omega
theorem ptab_few {H : Hp} {P : Addr} {pt : PTab} {S : Int × Int → Row} {p : Int} {N : Nat} (t : TabOk H P pt S p) (hN : N ≤ 32) (key : ∀ k, S k ≠ [] → (0 ≤ k.1 ∧ k.1 < (N : Int)) ∧ (0 ≤ k.2 ∧ k.2 < (N : Int))) : pt.length ≤ 1024 := by
  have kk : ∀ e ∈ pt, (0 ≤ e.1.1 ∧ e.1.1 < (N : Int)) ∧ (0 ≤ e.1.2 ∧ e.1.2 < (N : Int)) := fun e m => key e.1 (t.row e m).2
  have h := nodup_len (n := 1024) (l := pt.map fun e => e.1.1 * 32 + e.1.2) (List.pairwise_map.mpr ((List.pairwise_map.mp t.asc).imp_of_mem fun {a b} ma mb h => by
    have h1 := kk a ma
    have h2 := kk b mb
    have h3 := SrtO.lexB_iff.mp (show ltP2 a.1 b.1 from h)
    omega)) fun k m => by
      obtain ⟨e, me, rfl⟩ := List.mem_map.mp m
      have h1 := kk e me
      omega
  rw [List.length_map] at h
  exact h
theorem row_small {p : Int} {N : Nat} {r : Row} (c : Canon p r) (b : Bel N r) (hN : N ≤ 32) (hp : p ≤ 31) : RowS r := by
  refine ⟨?_, fun q m => ⟨?_, ?_⟩⟩
  · have h := nodup_len (n := N) (l := r.map (·.1)) (show (r.map (·.1)).Nodup from c.nd) (bel_keys.mp b)
    rw [List.length_map] at h
    omega
  · have := b q m
    show q.1.natAbs ≤ 1000
    omega
  · have := c.num q m
    show q.2.natAbs ≤ 1000
    omega
/-- tables of a small frame -/
structure SmallF (N : Nat) (p : Int) (hl : List Int) (S : Int × Int → Row) (D : Int → Row) : Prop where
  hN : N ≤ 32
  hp : 0 < p ∧ p ≤ 31
  hl : hl.length ≤ 32 ∧ ∀ x ∈ hl, Sml x
  keyS : ∀ k, S k ≠ [] → (0 ≤ k.1 ∧ k.1 < (N : Int)) ∧ (0 ≤ k.2 ∧ k.2 < (N : Int))
  belS : ∀ k, Bel N (S k)
  keyD : ∀ k, D k ≠ [] → 0 ≤ k ∧ k < (N : Int)
  belD : ∀ k, Bel N (D k)
theorem SmallF.tab {N : Nat} {p : Int} {hl : List Int} {S : Int × Int → Row} {D : Int → Row} (s : SmallF N p hl S D) {H : Hp} {P : Addr} {pt : PTab} (t : TabOk H P pt S p) : GoodD (tabD (pt.map (·.1)) S) :=
  good_tab (by rw [List.length_map]; exact ptab_few t s.hN s.keyS) fun k m => by
    have h := s.keyS k ((t.key_iff k).mp m)
    have := s.hN
    refine ⟨?_, ?_, row_small (t.can k) (s.belS k) s.hN s.hp.2⟩
    · show k.1.natAbs ≤ 1000
      omega
    · show k.2.natAbs ≤ 1000
      omega
theorem SmallF.stp {N : Nat} {p : Int} {hl : List Int} {S : Int × Int → Row} {D : Int → Row} (s : SmallF N p hl S D) {H : Hp} {P : Addr} {it : ITab} (t : ITabOk H P it D p) : GoodD (stepD (it.map (·.1)) D) :=
  good_step (by
    have h := nodup_len (n := N) t.nd fun k m => s.keyD k ((t.key_iff k).mp m)
    have := s.hN
    omega) fun k m => by
    have h := s.keyD k ((t.key_iff k).mp m)
    have := s.hN
    refine ⟨?_, row_small (t.can k) (s.belD k) s.hN s.hp.2⟩
    show k.natAbs ≤ 1000
    omega
theorem TabOk.same_keys {H H' : Hp} {P P' : Addr} {pt pt' : PTab} {S : Int × Int → Row} {p p' : Int} (t : TabOk H P pt S p) (u : TabOk H' P' pt' S p') : pt.map (·.1) = pt'.map (·.1) :=
  asc_eq ltP2_irrefl ltP2_asy t.asc u.asc fun k => (t.key_iff k).trans (u.key_iff k).symm
theorem ITabOk.same_keys {H H' : Hp} {P P' : Addr} {it it' : ITab} {D : Int → Row} {p p' : Int} (t : ITabOk H P it D p) (u : ITabOk H' P' it' D p') : it.map (·.1) = it'.map (·.1) :=
  asc_eq (lt := (· < ·)) (fun a h => by omega) (fun a b h1 h2 => by omega) t.asc u.asc fun k => (t.key_iff k).trans (u.key_iff k).symm
abbrev sIsFr : Stmt := top 59
def spIsFr (C : Addr) : Sp := fun vs H Q _ => ∃ (x sk : Addr) (N : Nat) (p : Int) (hl : List Int) (S : Int × Int → Row) (D : Int → Row) (it : ITab), vs = [.ref x, .ref sk] ∧ FrameAt C H x p hl S D ∧ SkAt H sk p hl S D it ∧ SmallF N p hl S D ∧
  ∀ H', Same H H' → Q (.bl true) H'
section
variable {P : Program} {w : World} {K : PySem.W.Frag} {mg : Str → Option Value} {base : Heap}
theorem scIsFr : FnScope ["thing", "sketch"] ["thing", "sketch"] (defScope sIsFr) := ⟨rfl, rfl, rfl, by decide +kernel, rfl, by decide +kernel, by decide +kernel⟩
theorem ok_isFr {f C : Addr} {fd : FuncData} (F0 : Fun K "_law_is_frame" "_law_is_frame" sIsFr f fd) (T : FrameC K C) (TI : C8.InsC K C) (mI : mg "isinstance" = none) (mF : mg "Frame" = some (.ref C)) (mR : mg "repr" = none) (mT : mg "tuple" = none) :
    FnG P w K mg base CX0 1 f fd ["thing", "sketch"] (spIsFr C) := by
  refine okG F0 scIsFr (fun vs H Q E h => ?_) (fun cdv A outer s H vs Q E hg hr h => ?_)
  · obtain ⟨x, sk, N, p, hl, S, D, it, rfl, _⟩ := h
    rfl
  · obtain ⟨x, sk, N, p, hl, S, D, it, rfl, FA, SA, SM, k⟩ := h
    have hu := hu_of hr
    have hu64 : (A.deeper (PyProof.Rows.envOfC "_law_is_frame" (defScope sIsFr) s.heap.objs.size f cdv)).units + 64 < cLine := hr.units
    have gd : (A.deeper (PyProof.Rows.envOfC "_law_is_frame" (defScope sIsFr) s.heap.objs.size f cdv)).guards = some [] := hg
    have RP := @call_reprD (cxOf CX0 P w K mg base ["thing", "sketch"] "_law_is_frame" (defScope sIsFr) f cdv A outer s H E) gd hu64
    refine ⟨_, pss_cons (ps_if (PW.pt (pw_or (pt_not (pt_val (pe_callB (C8.call_isC TI) (by rfl) mI (by decide +kernel) (pa_cons (pv 0) (pa_cons (C8.pe_gc (v := .ref C) (by rfl) ⟨_, mF, rfl⟩) pa_nil)))))
        (pw_or1 (pt_cmpR op_ne (pe_callB SkE.call_repr_int (by rfl) mR (by decide +kernel) (pa_cons (pe_fld (pv 0) rfl) pa_nil)) (pe_callB SkE.call_repr_int (by rfl) mR (by decide +kernel) (pa_cons (pe_dget hu (pv 1) pe_str (fun _ _ => rfl)) pa_nil)) (nomark _)))))
        (pss_one (ps_ret pe_bl)) pss_nil)
      (pss_cons (ps_if (pt_cmpR op_ne (pe_callB RP (by rfl) mR (by decide +kernel) (pa_cons (pe_fld (pv 0) rfl) pa_nil)) (pe_callB RP (by rfl) mR (by decide +kernel) (pa_cons (pe_callTy call_tuple_of (by rfl) mT (by decide +kernel) (pa_cons (pe_dget hu (pv 1) pe_str (fun _ _ => rfl)) pa_nil)) pa_nil)) (nomark _))
        (pss_one (ps_ret pe_bl)) pss_nil)
      (pss_one (ps_ret (pe_and (pe_cmpR op_eq (pe_callB RP (by rfl) mR (by decide +kernel) (pa_cons (pe_fld (pv 0) rfl) pa_nil)) (pe_callB RP (by rfl) mR (by decide +kernel) (pa_cons (pe_dget hu (pv 1) pe_str (fun _ _ => rfl)) pa_nil)) (nomark _))
        (pe_one (pe_cmpR op_eq (pe_callB RP (by rfl) mR (by decide +kernel) (pa_cons (pe_fld (pv 0) rfl) pa_nil)) (pe_callB RP (by rfl) mR (by decide +kernel) (pa_cons (pe_dget hu (pv 1) pe_str (fun _ _ => rfl)) pa_nil)) (nomark _))))))), ?_⟩
    obtain ⟨dx, fs, h, P', St, pt, it2, a1, a2, a3, a4, a5, a6, a7, a8⟩ := FA.ex
    obtain ⟨h', P2, St2, pt2, b1, b2, b3, b4⟩ := SA.ex
    have hpb := SM.hp
    have lg : p.natAbs.log2 < 1920 := by
      have := Nat.log2_le_self p.natAbs
      omega
    have G1 := good_tup (Nat.le_trans SM.hl.1 (by decide)) SM.hl.2
    have eK := a6.same_keys b3
    have eI := a8.same_keys b4
    have G2 := SM.tab a6
    have G3 := SM.stp a8
    refine ⟨_, rfl, x, dx, fs, rfl, a1, _, rfl, ?_⟩
    walk_at "rd"
    have nq : ∀ y : Str, (!decide (V.str y = V.str y)) = false := fun y => by rw [decide_eq_true rfl]; rfl
    have eq : ∀ y : Str, decide (V.str y = V.str y) = true := fun y => decide_eq_true rfl
    refine iteF ⟨_, rfl, x, C, dx, fs, _, rfl, a1, T.cl, T.n1, a2, p, rfl, lg, _, sk_prime b1, p, rfl, lg, rfl, _, rfl, ?_⟩
    rw [nq]
    refine iteF ⟨_, rfl, x, C, dx, fs, _, rfl, a1, T.cl, T.n2, a3, h, _, rfl, told_hl a4, G1.sh, G1.ln, G1.dp, _, sk_heights b1, h', rfl, _, Or.inl ⟨SqL.of b2, fun l nl => ⟨l, _, rfl, told_hl upd_same, G1.sh, G1.ln, G1.dp, rfl, _, rfl, ?_⟩⟩⟩
    rw [nq]
    refine iteF ?_
    have s1 : Same H (upd H l (.tup (hl.map V.int))) := same_new nl
    refine ⟨_, rfl, x, C, dx, fs, _, rfl, s1 _ _ a1, T.cl, T.n3, a5, P', _, rfl, told_tab (a6.inn s1), G2.sh, G2.ln, G2.dp, ?_⟩
    walk_at "rd"
    refine ⟨_, sk_product (s1 _ _ b1), P2, _, rfl, told_tab (b3.inn s1), ?_⟩
    rw [← eK]
    refine ⟨G2.sh, G2.ln, G2.dp, rfl, _, rfl, ?_⟩
    rw [eq]
    refine iteT ?_
    refine ⟨_, rfl, x, C, dx, fs, _, rfl, s1 _ _ a1, T.cl, T.n4, a7, St, _, rfl, told_step (a8.inn s1), G3.sh, G3.ln, G3.dp, ?_⟩
    walk_at "rd"
    refine ⟨_, sk_step (s1 _ _ b1), St2, _, rfl, told_step (b4.inn s1), ?_⟩
    rw [← eI]
    refine ⟨G3.sh, G3.ln, G3.dp, rfl, ?_⟩
    rw [eq]
    exact k _ s1
end
end Lp
namespace Lp
open PySem PySem.Spec PySem.Calls PyProof.Rows L2
/-! ### an exception that leaves its except suite as a value -/
/-- the exception at a, of the class cls, its dict at d -/
def ErrO (cls : Value) (d : Option Addr) (a : Addr) : HO := .ext fun h => ∃ (oe : Obj) (vs : Array Value), h.get? a = some oe ∧ Zc cls d oe ∧ oe.data = .fields vs
theorem errO_ok {P : Program} {w : World} {H : Hp} {h : Heap} {a : Addr} {cls : Value} {d : Option Addr} {oe : Obj} {vs : Array Value} (e : h.get? a = some oe) (z : Zc cls d oe) (dd : oe.data = .fields vs) : ObjOk P w H h a (ErrO cls d a) :=
  ⟨⟨oe, vs, e, z, dd⟩, ⟨oe, e⟩, fun _ _ ⟨o, v, q, r⟩ k => ⟨o, v, k o q, r⟩⟩
section
variable {X : Cx} {pins : List (Addr × Obj)} {σ : L2.St} {H : Hp} {s : Shared}
/-- an object made since the entry, not tracked so far, is tracked -/
theorem track {a : Addr} {o : HO} (I : Inv X pins σ H s) (h0 : X.s_0.heap.get? a = none) (na : H a = none) (nL : a ≠ X.env.locals) (nC : ∀ x c, X.env.cells.lookup x = some c → c ≠ a) (nP : ∀ p ∈ X.pn ++ pins, p.1 ≠ a)
    (ok : ObjOk X.prog X.w (upd H a o) s.heap a o) : Inv X pins σ (upd H a o) s := by
  have old : ∀ b u, X.s_0.heap.get? b = some u → b ≠ a := fun b u e z => by rw [z, h0] at e; cases e
  have keep : ∀ b u, H b = some u → upd H a o b = some u := fun b u e => by rw [upd_ne (ne_of_none e na)]; exact e
  refine ⟨I.ok, I.os, I.bare, ⟨I.base.keep, I.base.slot, fun b u e n hx => ?_, I.base.there, fun b xs e => keep _ _ (I.base.tups b xs e), fun b q u e => keep _ _ (I.base.frzs b q u e), fun b ps e => ?_⟩, I.loc, I.cell, ?_, fun x c e => ?_, fun p hp => ?_, fun b u e => ?_, I.len⟩
  · rw [upd_ne (old b u e)]
    exact I.base.free b u e n hx
  · obtain ⟨more, q⟩ := I.base.tbls b ps e
    exact ⟨more, keep _ _ q⟩
  · rw [upd_ne (Ne.symm nL)]
    exact I.free
  · rw [upd_ne (nC x c e)]
    exact I.freeC x c e
  · obtain ⟨e1, n1, r⟩ := I.pin p hp
    exact ⟨e1, by rw [upd_ne (nP p hp)]; exact n1, r⟩
  · by_cases z : b = a
    · subst z
      rw [upd_same] at e
      cases e
      exact ok
    · rw [upd_ne z] at e
      exact (I.hok b u e).stay (fun _ _ _ q => q) (fun c q => keep _ _ q) fun c xs q => keep _ _ q
end
/-- what the clause 'except x as n' wishes of an exception of the body, if the exception may be kept -/
def wEsc (K : PySem.W.Frag) (c : Value) (i : Nat) (ts : TS) (Wout : WX) (D : Ends) : WX := fun cls d σ H =>
  ∃ b, PySem.W.exmOne K cls c = some b ∧ (b = true → ∀ a, H a = none → ts { nx := fun σ' H' => D.nx (σ'.set i none) (upd H' a (ErrO cls d a)), rt := fun _ _ => False, bk := fun _ _ => False, ct := fun _ _ => False } (σ.set i (some (.ref a))) H) ∧
    (b = false → Wout cls d σ H)
section
variable {X : Cx} {x n : Str} {c : Value} {i : Nat} {body suite : List Stmt} {b₀ : Stmt} {np pos pos' : Pos} {tb : WX → TS} {ts : TS} {Wout : WX}
/-- an address that the exception's base hasn't stood nowhere at the entry -/
theorem esc_new {a : Addr} {B : Heap} {pins : List (Addr × Obj)} {σ : L2.St} {H : Hp} {s : Shared} (hx : X.ex = []) (I : Inv X pins σ H s) (nb : ∀ b o, s.heap.get? b = some o → b ∉ frs X.stack → B.get? b = some o) (ne : B.get? a = none) (nf : a ∉ frs X.stack) :
    X.s_0.heap.get? a = none ∧ (∀ x c, X.env.cells.lookup x = some c → c ≠ a) ∧ ∀ p ∈ X.pn ++ pins, p.1 ≠ a := by
  have no : ∀ o, s.heap.get? a ≠ some o := fun o e => by
    have := nb a o e nf
    rw [ne] at this
    cases this
  refine ⟨?_, fun y c e z => ?_, fun p hp z => ?_⟩
  · cases e : X.s_0.heap.get? a with
    | none => rfl
    | some o =>
      obtain ⟨o', e'⟩ := I.base.there a o e (by rw [hx]; simp)
      exact absurd e' (no o')
  · obtain ⟨v, q⟩ := I.cell y c e
    rw [z] at q
    obtain ⟨o, q, _⟩ := q
    exact no _ q
  · have q := (I.pin p hp).1
    rw [z] at q
    exact no _ q
/-- try: body / except x as n: suite, the suite going through to its end: what n named may be kept -/
theorem ps_try_esc (hx : X.ex = []) (hs : X.stack = X.env :: X.outer) (hf : X.env.frame = some X.env.locals) (hN : X.N.Nodup) (hi : X.N[i]? = some n) (hln : X.env.kindOf n = some .local) (hc : Names X x c) (tk : Takes X Wout)
    (hb : ∀ (W : WX) (pn : List (Addr × Obj)) (xe : Value → Shared → Prop), Takes (X.tr pn xe) W → PassesOwn (model X.prog X.w) X.A X.env xe → PSs (X.tr pn xe) body (tb W))
    (hsu : ∀ (a : Addr) (pn : List (Addr × Obj)), PSs (X.suite a pn) (b₀ :: suite) ts) :
    PS X (.Try body [.ExceptHandler (some (.Name x np)) (some n) (b₀ :: suite) pos'] [] [] pos) (fun D σ H => tb (wEsc X.K c i ts Wout D) D σ H) := by
  constructor
  intro pins s σ H D I h
  have ok := I.ok
  have frames : X.A.frames = some (X.env :: X.outer) := ok.frames.trans (congrArg some hs)
  refine wpAny_Try_except (wpAny_mono ((hb (wEsc X.K c i ts Wout D) (X.pn ++ pins) (fun e s₁ => wpAny (model X.prog X.w) X.A (noteFrame e X.env) (fun _ s₂ => wpAny (model X.prog X.w) X.A (setFlight e none) (fun _ s₃ =>
    wpAny (model X.prog X.w) X.A (handleBy e X.env [.ExceptHandler (some (.Name x np)) (some n) (b₀ :: suite) pos']) (SP X pins D) X.xe s₃) X.xe s₂) X.xe s₁) (fun u s' xx => ?_) PassesOwn.looking).run [] s σ H D (I.toTry _) h)
    (fun f s1 hsp => ?_) fun _ _ z => z)
  · obtain ⟨a, B, sI, pins', σ', H', cls, d, rfl, J', nb, up, sky, na, os, ag, b, hb1, hyes, hno⟩ := xx
    have J : Inv X pins σ' H' sI := J'.ofTry ok
    refine Sky.land (M := model X.prog X.w) (B := B) (outer := X.outer) (L := X.env.locals) (Z := Zc cls d) Zc.steady frames hf (hs ▸ sky) fun h3 fl3 up3 => ?_
    obtain ⟨oe3, vs3, he3, hz3, hd3⟩ := fl3.there
    have nfr : a ∉ frs (X.env :: X.outer) := fun hm => by
      obtain ⟨_, o', e', hnf⟩ := fl3.2.2.1.mem hm
      cases he3.symm.trans e'
      exact hnf _ hd3
    have nL : a ≠ X.env.locals := fun z => nfr (List.mem_filterMap.mpr ⟨X.env, List.mem_cons_self, by rw [hf, z]⟩)
    have nF : a ∉ X.fs := fun hm => by
      obtain ⟨e, he, q⟩ := List.mem_filterMap.mp hm
      exact nfr (List.mem_filterMap.mpr ⟨e, List.mem_cons_of_mem _ he, q⟩)
    obtain ⟨new0, newC, newP⟩ := esc_new hx J nb fl3.2.1 (by rw [hs]; exact nfr)
    have J3 : Inv X pins σ' H' { s' with heap := h3 } := J.landed nb fl3.1 (up.trans up3) os ag
    have S3 := J3.suite he3 hd3 na nL nF
    have LM := PySem.W.exm_one (M := model X.prog X.w) J3.kIn (fun A Q E s k q => wpAny_typeOf_ref (k _ _ he3) (by rw [hz3.1]; exact q) : PySem.W.Looks (model X.prog X.w) h3 (typeOf (.ref a)) cls) hb1
    have named : ∀ {Q : Value → Shared → Prop} {E : Value → Shared → Prop}, Q c { s' with heap := h3 } → wpAny (model X.prog X.w) (X.A.mark (some (.ref a))) (eval (.Name x np) X.env) Q E { s' with heap := h3 } := fun {Q E} q => by
      obtain ⟨hg, hdbg, hm | ⟨hm, hv, hnn⟩⟩ := hc
      · exact ld_glob (X := X.suite a ((a, oe3) :: (X.pn ++ pins))) S3 hg hm q hdbg
      · exact ld_blt (X := X.suite a ((a, oe3) :: (X.pn ++ pins))) S3 hg hm hv q hnn hdbg
    refine wpAny_handleBy_cons (codeAny_handlers_test (named (LM.here ?_))) (by intro q; cases q)
    cases b with
    | true =>
      refine codeAny_handlers_suite_as (HandSPX.lands_againZ fl3 fun h4 fl4 up4 => ?_)
      have J4 : Inv X pins σ' H' { s' with heap := h4 } := J.landed nb fl4.1 ((up.trans up3).trans up4) os ag
      obtain ⟨oe4, vs4, he4, hz4, hd4⟩ := fl4.there
      refine store_ok (X := X.suite a ((a, oe4) :: (X.pn ++ pins))) (v := .ref a) (J4.suite he4 hd4 na nL nF) hN hi (.inl hln) rfl (fun s5 S5 => ?_) (.inr hln)
      refine wpAny_mono ((hsu a ((a, oe4) :: (X.pn ++ pins))).run [] s5 _ H' _ S5 (hyes rfl a na)) (fun f s6 hsp => ?_) (fun _ _ z => False.elim z)
      cases f with
      | next =>
        obtain ⟨σ6, H6, S6, q6⟩ := hsp
        have pin6 := S6.pin (a, oe4) (List.mem_append_left _ List.mem_cons_self)
        exact gone_ok (track (o := ErrO cls d a) (S6.unsuite ok) new0 pin6.2.1 nL newC newP (errO_ok pin6.1 hz4 hd4)) hN hi hln fun s7 J7 => ⟨_, _, J7, q6⟩
      | brk => exact hsp.elim fun _ q => q.elim fun _ q => q.2.elim
      | cont => exact hsp.elim fun _ q => q.elim fun _ q => q.2.elim
      | ret u => exact hsp.elim fun _ q => q.elim fun _ q => q.elim fun _ q => q.2.2.elim
    | false =>
      show wpAny _ X.A (handleBy (.ref a) X.env []) _ _ _
      refine wpAny_handleBy_nil ?_
      obtain ⟨k1, k2, k3, oe, vs, T, oT, ts', he, hz, hd, h1, hr⟩ := id fl3
      unfold PySem.passOn
      refine wpAny_bind (wpAny_field he hd h1 ?_)
      rw [if_neg (show ¬ ((Value.ref T == Value.none) = true) from by simp)]
      have fin : wpAny (model X.prog X.w) X.A (setFlight (.ref a) X.env.frame) (fun _ s4 => wpAny (model X.prog X.w) X.A (throw (.ref a) : Sem Flow) (SP X pins D) X.xe s4) X.xe { s' with heap := h3 } := by
        rw [hf]
        exact HandSPX.setFlight_upZ fl3 fun h4 hh4 up4 => wpAny_throw (tk _ _ ⟨a, B, sI, pins, σ', H', cls, d, rfl, J, nb, (up.trans up3).trans up4, .inr (.inr (by rw [hs]; exact hh4)), na, os, ag, hno rfl⟩)
      first
        | exact wpAny_bind (wpAny_pure (wpAny_bind fin))
        | exact wpAny_bind fin
  · cases f with
    | next => exact hsp.elim fun σ' q => q.elim fun H' q => wpAny_execs_nil ⟨σ', H', q.1.ofTry ok, q.2⟩
    | brk => exact hsp.elim fun σ' q => q.elim fun H' q => ⟨σ', H', q.1.ofTry ok, q.2⟩
    | cont => exact hsp.elim fun σ' q => q.elim fun H' q => ⟨σ', H', q.1.ofTry ok, q.2⟩
    | ret u => exact hsp.elim fun v q => q.elim fun σ' q => q.elim fun H' q => ⟨v, σ', H', q.1.ofTry ok, q.2.1, q.2.2⟩
end
end Lp
namespace Lp
open PySem PySem.Spec PySem.Calls PyProof.Rows L2
/-! ### isinstance and attributes of an exception that is kept -/
/-- the exception at a, of the class at C, its attributes fs -/
def ErrIs (H : Hp) (a C : Addr) (fs : List (Str × V)) : Prop := (fs = [] ∧ H a = some (ErrO (.ref C) none a)) ∨ ∃ dd, H a = some (ErrO (.ref C) (some dd) a) ∧ H dd = some (.xd fs)
section
variable {X : Cx} {pins : List (Addr × Obj)} {σ : L2.St} {H : Hp} {s : Shared}
theorem errO_get (I : Inv X pins σ H s) {a : Addr} {cls : Value} {d : Option Addr} (h : H a = some (ErrO cls d a)) : ∃ (oe : Obj) (vs : Array Value), s.heap.get? a = some oe ∧ Zc cls d oe ∧ oe.data = .fields vs := (I.hok a _ h).1
theorem err_inst (I : Inv X pins σ H s) {a C : Addr} {fs : List (Str × V)} (h : ErrIs H a C fs) : ∃ oe od, PySem.W.InstAt s.heap a oe C od := by
  rcases h with ⟨_, h⟩ | ⟨dd, h, hd⟩
  · obtain ⟨oe, vs, e, z, dt⟩ := errO_get I h
    exact ⟨oe, none, e, z.1, by unfold PySem.W.notCls; rw [dt] <;> rfl, by rw [z.2]; trivial⟩
  · obtain ⟨oe, vs, e, z, dt⟩ := errO_get I h
    obtain ⟨mA, hns, hr⟩ := (show ObjOk X.prog X.w H s.heap dd (.xd fs) from I.hok dd _ hd)
    obtain ⟨od, ho, hl⟩ := lookIn_ns hns
    exact ⟨oe, some od, e, z.1, by unfold PySem.W.notCls; rw [dt] <;> rfl, by rw [z.2]; exact ho⟩
end
section
variable {X : Cx}
/-- isinstance(e, c), e such an exception -/
def rIsErr (K : PySem.W.Frag) : List V → Hp → VK → Prop := fun xs H Q => ∃ (a C : Addr) (fs : List (Str × V)) (c : V) (u : Value) (b : Bool), xs = [.ref a, c] ∧ ErrIs H a C fs ∧ ExcC K C ∧ ClsV c u ∧ PySem.W.kitOne K (.ref C) u = some b ∧ Q (.bl b) H
theorem call_isErr : CallR X (.builtin "isinstance") (rIsErr X.K) := by
  intro pins s σ H xs us Q I r h
  obtain ⟨a, C, fs, c, u, b, rfl, he, T, k, e, q⟩ := h
  obtain ⟨u1, u2, rfl, r1, r2⟩ := vals2 r
  cases k.eq r2
  cases (show u1 = Value.ref a from r1)
  obtain ⟨oe, od, J⟩ := err_inst I he
  obtain ⟨cd, hc, _⟩ := PySem.W.any_some T.hd
  exact PySem.W.kia_one (PySem.W.kitx_exc (by rw [hc]; rfl) T.hg T.hk T.hs T.ha T.hn T.ht T.hm) I.kIn J e (fun z => nomatch z) fun tk => ⟨.bl b, H, I.tok tk, rfl, q⟩
/-- e.f of such an exception -/
def tErrF (K : PySem.W.Frag) (f : Str) (te : TE) : TE := fun σ H Q => te σ H fun x H1 => ∃ (a C : Addr) (fs : List (Str × V)) (v : V), x = .ref a ∧ ErrIs H1 a C fs ∧ XfC K C ∧ PySem.W.findIn K (.ref C) f = some none ∧ fs.lookup f = some v ∧ Q v H1
theorem pe_errF {e : Expr} {te : TE} {pos : Pos} {n : Str} (he : PE X e te) (hb : attributeBase e n X.env (eval e X.env) = eval e X.env := by rfl) : PE X (.Attribute e n pos) (tErrF X.K n te) := by
  refine ⟨fun pins s σ H Q I h => ?_⟩
  refine attr_of hb (thn (he.run pins s σ H _ I h) fun u s1 ⟨x, H1, I1, rx, a, C, fs, v, ex, ea, T, hno, l, q⟩ => ?_)
  subst ex
  cases (show u = Value.ref a from rx)
  rcases ea with ⟨rfl, _⟩ | ⟨dd, h, hd⟩
  · cases l
  · obtain ⟨oe, vs, e, z, dt⟩ := errO_get I1 h
    obtain ⟨mA, hns, hr⟩ := (show ObjOk X.prog X.w H1 s1.heap dd (.xd fs) from I1.hok dd _ hd)
    obtain ⟨od, ho, hl⟩ := lookIn_ns hns
    obtain ⟨w', hu, ru⟩ := RelO.some_of (v := v) (o := mA n) (by rw [← l]; exact hr n)
    have J : PySem.W.InstAt s1.heap a oe C (some od) := ⟨e, z.1, by unfold PySem.W.notCls; rw [dt] <;> rfl, by rw [z.2]; exact ho⟩
    exact HandSPX.exc_get I1.kIn J T.ga T.gg T.exC (PySem.W.findObj_own T.hdC hno rfl (by rw [hl, hu])) (handed_of ru) ⟨v, H1, I1.tok _, ru, q⟩
end
end Lp
namespace Lp
open PySem PySem.Spec PySem.Calls PyProof.Rows L2 LamX
local macro_rules | `(tactic| walk_at "rd") => `(tactic| simp only [tSeq, tAsg, tYes, tTest, tOp, tCB, tCons, tNil, tVar, tC, rI0, rI, gName, wipe, tDisp, tTru, TruV, tB, tNext, tDGet2, tLock, tDIn, tDNotIn, tOr, tNot, tChain, tAnd, tCont, tUn, rU, tPairs, tRet, tIf, tIfS, tPar, tLst, tTup, tDrop, tDGet, tCall, sDPut, L2.start,
  List.map_cons, List.map_nil, List.foldl_cons, List.foldl_nil, List.length_cons, List.length_nil, List.replicate_succ, List.replicate_zero, List.append_nil, List.cons_append, List.nil_append, List.set_cons_zero, List.set_cons_succ, List.getElem?_cons_zero, List.getElem?_cons_succ,
  Option.some.injEq, List.cons.injEq, V.int.injEq, V.bl.injEq, V.ref.injEq, V.str.injEq, exists_eq_left', exists_eq_left, exists_eq_right, and_true, true_and, exists_and_left, Nat.add_zero, Nat.reduceAdd, Nat.reduceSub, Nat.sub_zero, if_true, if_false])
/-! ### _law_caught -/
theorem takes_len {X : Cx} {W : WX} (t : Takes X W) : Takes X (fun cls d σ H => σ.length = X.N.length → W cls d σ H) := fun u s' ⟨a, B, sI, pins, σ, H, cls, d, e, I, nb, up, sky, na, os, ag, w⟩ =>
  t u s' ⟨a, B, sI, pins, σ, H, cls, d, e, I, nb, up, sky, na, os, ag, w I.len⟩
abbrev sCau : Stmt := top 46
abbrev nCau : List Str := ["work", "caught", "error"]
/-- what is caught: None, or the error, kept -/
def TCaught (K : PySem.W.Frag) (CS : Addr) : (XK → Hp → VK → Prop) → Hp → VK → Prop := fun tl H Q =>
  tl (fun cls d H' => ∃ b, PySem.W.exmOne K cls (.ref CS) = some b ∧ (b = true → ∀ a, H' a = none → Q (.ref a) (upd H' a (ErrO cls d a))) ∧ (b = false → False)) H fun _ H' => ∃ v, (some (some V.non) : Option (Option V)) = some (some v) ∧ Q v H'
theorem scCau : FnScope nCau ["work"] (defScope sCau) := ⟨rfl, rfl, rfl, by decide +kernel, rfl, by decide +kernel, by decide +kernel⟩
theorem caught_gives {X : Cx} {g CS : Addr} {cdg : Value} {q : Str} (hme : X.mg "LeftError" = some (.ref CS)) : GivesTo X nCau "_law_caught" (defScope sCau) g cdg (defBody sCau) "work" q (TCaught X.K CS) := by
  intro f c' s H Q tl act hc h
  refine ⟨_, pss_cons (ps_set (i := 1) scCau.nd rfl (Or.inl rfl) pe_non) (pss_cons (ps_try_esc (X := (cxOf C8.CX0 X.prog X.w X.K X.mg X.base nCau "_law_caught" (defScope sCau) g cdg X.A X.stack s H C8.E0).nox) (c := .ref CS) (i := 2) (n := "error")
      (tb := fun W D σ H => ∃ Ech : XK, (∀ cls d σ' H', σ'.length = 3 → Ech cls d H' → W cls d σ' H') ∧ σ[0]? = some (some (.ref f)) ∧ H c' = some (CodeO c' q) ∧ tl Ech H fun _ H' => D.nx σ H')
      rfl rfl rfl scCau.nd rfl rfl ⟨rfl, rfl, .inl hme⟩ LamX.takes0 (fun W pn xe tk _ => ?_) (fun a pn => pss_one (ps_set (i := 1) scCau.nd rfl (Or.inl rfl) (pv 2)))) (pss_one (ps_ret (pv 1)))), ?_⟩
  · refine ⟨fun pins s' σ H' D I h' => ?_⟩
    obtain ⟨Ech, hW, h1, h2, h3⟩ := h'
    have hp := fun p1 p2 => act (fun cls d σ' H' => σ'.length = 3 → W cls d σ' H') pn xe Ech p1 p2 (takes_len tk) fun cls d σ' H' e l => hW cls d σ' H' l e
    exact (pss_one (ps_expr (hp _ _))).run pins s' σ H' D I ⟨h1, h2, h3⟩
  · refine ⟨fun cls d H' => ∃ b, PySem.W.exmOne X.K cls (.ref CS) = some b ∧ (b = true → ∀ a, H' a = none → Q (.ref a) (upd H' a (ErrO cls d a))) ∧ (b = false → False), fun cls d σ' H' l ⟨b, e1, e2, e3⟩ => ⟨b, e1, fun hb a na => ?_, fun hb => e3 hb⟩, rfl, hc, ?_⟩
    · match σ', l with
      | [x0, x1, x2], _ => exact ⟨_, rfl, _, rfl, e2 hb a na⟩
    · exact h
end Lp
namespace Lp
open PySem PySem.Spec PySem.Calls PyProof.Rows L2 LamX
/-! ### {k: v}, k a tuple -/
def tDisp1 (b : Bool) (tk tv : TE) : TE := fun σ H Q => ∀ p, H p = none → tPairs [(tk, tv)] σ (upd H p (dNew b)) fun ps H2 => ∃ x y, ps = [(x, y)] ∧ ∃ H3, DPut H2 p x y H3 ∧ Q (.ref p) H3
theorem pe_disp1 {X : Cx} {k v : Expr} {tk tv : TE} {pos : Pos} (b : Bool) (hu : X.A.units + 1 < cLine) (hk : PE X k tk) (hv : PE X v tv) : PE X (.Dict [some k] [v] pos) (tDisp1 b tk tv) := by
  refine ⟨fun pins s σ H Q I q => ?_⟩
  have hn := I.hok.fresh (Nat.le_refl s.heap.objs.size)
  have I1 := I.laid (a := s.heap.objs.size) (o := dNew b) (h' := s.heap.push { cls := .type "dict", data := .dict #[] }) (t' := s.toks) (fun _ _ q => Heap.get?_push_of_some _ q) (Nat.le_refl _) (dNew_ok b s.heap I.big)
  refine wpAny_Dict_any (by rfl) (by rfl) (by simp) (by simp) (thn ((pps_cons hk hv pps_nil).run pins _ σ _ _ I1 (q _ hn)) fun ws s2 ⟨ps, H2, I2, rel, x, y, ep, H3, g, q2⟩ => ?_)
  subst ep
  cases rel with
  | @cons a c as cs h t =>
    cases t
    obtain ⟨u, v'⟩ := c
    unfold storeAll
    rw [List.forIn_cons]
    refine wpAny_bind (wpAny_bind (set_fresh hu I2 g h.1 h.2 fun s' I' => wpAny_pure ?_))
    show wpAny _ _ (forIn _ _ _) _ _ _
    rw [List.forIn_nil]
    exact wpAny_pure ⟨.ref _, H3, I', rfl, q2⟩
end Lp
namespace Lp
open PySem PySem.Spec PySem.Calls PyProof.Rows L2 LamX
local macro_rules | `(tactic| walk_at "rd") => `(tactic| simp only [tSeq, tAsg, tYes, tTest, tOp, tCB, tCons, tNil, tVar, tC, rI0, rI, gName, wipe, tDisp, tTru, TruV, tB, tNext, tDGet2, tLock, tDIn, tDNotIn, tOr, tNot, tChain, tAnd, tCont, tUn, rU, tPairs, tRet, tIf, tIfS, tPar, tLst, tTup, tDrop, tDGet, tCall, sDPut, L2.start,
  List.map_cons, List.map_nil, List.foldl_cons, List.foldl_nil, List.length_cons, List.length_nil, List.replicate_succ, List.replicate_zero, List.append_nil, List.cons_append, List.nil_append, List.set_cons_zero, List.set_cons_succ, List.getElem?_cons_zero, List.getElem?_cons_succ,
  Option.some.injEq, List.cons.injEq, V.int.injEq, V.bl.injEq, V.ref.injEq, V.str.injEq, exists_eq_left', exists_eq_left, exists_eq_right, and_true, true_and, exists_and_left, Nat.add_zero, Nat.reduceAdd, Nat.reduceSub, Nat.sub_zero, if_true, if_false])
/-! ### _law_caught(lambda: ..) -/
/-- what the law's own code object must say, that its lambdas be made -/
structure LamHome (base : Heap) (mg : Str → Option Value) (T : List (Addr × Str)) (q : Str) (cd : Value) : Prop where
  ex : ∃ c P, cd = .ref c ∧ TabB base mg c P ∧ (P, q ++ "<lambda>") ∈ T ∧ ∀ p ∈ T, p.1 = P → p.2 = q ++ "<lambda>"
/-- _law_caught, to be called -/
structure CaughtOk (K : PySem.W.Frag) (mg : Str → Option Value) (CS : Addr) : Prop where
  ex : ∃ g fd, Fun K "_law_caught" "_law_caught" sCau g fd ∧ mg "_law_caught" = some (.ref g) ∧ PySem.W.keepIn K (.ref g) = true ∧ Binds K fd ["work"] []
  me : mg "LeftError" = some (.ref CS)
theorem pe_caught {X : Cx} {T : List (Addr × Str)} {CS : Addr} {k : Nat} {params : Arguments} {body : Expr} {scope : Scope} {t : XK → TE} {p lpos pos : Pos} (C : CaughtOk X.K X.mg CS) (LH : LamHome X.base X.mg T X.env.qual X.env.code) (hg : Gl X "_law_caught")
    (hr : Room (k + 2) X.A) {sc : Scope} (hsc : X.env.scope = sc) (L : lamSB sc scope = true) (hdef : defaultsOf params X.env = ([], []))
    (hbind : ∀ (q : Str) (cl : List (Str × Addr)) (pm cv ctv : Value), bindArgs (PySem.W.kla_fn "<lambda>" q params body scope cl pm cv ctv) ⟨[], []⟩ = pure [])
    (hbody : ∀ (A : Around) (outer : List Env) (s : Shared) (H : Hp) (E : XK) (f c' : Addr), Room k (A.deeper (lamEnv X scope s.heap.objs.size f c')) → PE (lamCx X A outer s H E scope f c') body (t E)) :
    PE X (.Call (.Name "_law_caught" p) [.Lambda params body scope lpos] [] pos) (tLam T (TCaught X.K CS) t) := by
  obtain ⟨g, fd, F, gm, gk, gb⟩ := C.ex
  obtain ⟨oc, od, kV, doc, pm, an, cdv, ct, osl, rfl, lk, hcd⟩ := F.ex
  obtain ⟨c, P, hcode, TB, hm, hu⟩ := LH.ex
  exact pe_lamcall (Ng := nCau) hg gm gk lk hcd gb scCau rfl (.inl rfl) (caught_gives C.me) TB hcode hm hu hr (lamS_by (hsc ▸ L)) hdef hbind hbody
/-- an error of this package: caught, its class told -/
structure ErrK (K : PySem.W.Frag) (CS C : Addr) : Prop where
  exm : PySem.W.exmOne K (.ref C) (.ref CS) = some true
  exc : ExcC K C
  own : PySem.W.kitOne K (.ref C) (.ref C) = some true
structure PartK (K : PySem.W.Frag) (C : Addr) : Prop where
  xf : XfC K C
  no : PySem.W.findIn K (.ref C) "part" = some none
end Lp
namespace Lp
open PySem PySem.Spec PySem.Calls PyProof.Rows L2 LamX
local macro_rules | `(tactic| walk_at "rd") => `(tactic| simp only [tSeq, tAsg, tYes, tTest, tOp, tCB, tCons, tNil, tVar, tC, rI0, rI, gName, wipe, tDisp, tTru, TruV, tB, tNext, tDGet2, tLock, tDIn, tDNotIn, tOr, tNot, tChain, tAnd, tCont, tUn, rU, tPairs, tRet, tIf, tIfS, tPar, tLst, tTup, tDrop, tDGet, tCall, sDPut, L2.start,
  List.map_cons, List.map_nil, List.foldl_cons, List.foldl_nil, List.length_cons, List.length_nil, List.replicate_succ, List.replicate_zero, List.append_nil, List.cons_append, List.nil_append, List.set_cons_zero, List.set_cons_succ, List.getElem?_cons_zero, List.getElem?_cons_succ,
  Option.some.injEq, List.cons.injEq, V.int.injEq, V.bl.injEq, V.ref.injEq, V.str.injEq, exists_eq_left', exists_eq_left, exists_eq_right, and_true, true_and, exists_and_left, Nat.add_zero, Nat.reduceAdd, Nat.reduceSub, Nat.sub_zero, if_true, if_false])
/-! ### values that are no lists of sums of pairs -/
def cutH (d l : Addr) (H : Hp) : Hp := fun b => if b = d ∨ b = l then none else match H b with
  | some (.tbl _) => none
  | o => o
theorem cut_at {d l b : Addr} {H : Hp} {o : HO} (h : H b = some o) (nd : b ≠ d) (nl : b ≠ l) (nt : ∀ ps, o ≠ .tbl ps) : cutH d l H b = some o := by
  unfold cutH
  rw [if_neg (by rintro (z | z); exact nd z; exact nl z), h]
  cases o <;> first | rfl | exact absurd rfl (nt _)
theorem cut_of {d l b : Addr} {H : Hp} {o : HO} (h : cutH d l H b = some o) : H b = some o ∧ b ≠ d ∧ b ≠ l ∧ ∀ ps, o ≠ .tbl ps := by
  unfold cutH at h
  by_cases z : b = d ∨ b = l
  · rw [if_pos z] at h; cases h
  · rw [if_neg z] at h
    cases e : H b with
    | none => rw [e] at h; cases h
    | some u =>
      rw [e] at h
      cases u <;> first
        | (cases h; done)
        | (cases h; exact ⟨rfl, fun q => z (.inl q), fun q => z (.inr q), fun ps q => by cases q⟩)
/-- all that stood stands, but d, l and the tables -/
def ButT (d l : Addr) (H H' : Hp) : Prop := ∀ b o, H b = some o → b ≠ d → b ≠ l → (∀ ps, o ≠ .tbl ps) → H' b = some o
theorem ButT.cut {d l : Addr} {H H' : Hp} (s : ButT d l H H') : Same (cutH d l H) (cutH d l H') := fun b o h => by
  obtain ⟨h1, h2, h3, h4⟩ := cut_of h
  exact cut_at (s b o h1 h2 h3 h4) h2 h3 h4
theorem ButT.of {d l : Addr} {H H' : Hp} (s : Same H H') : ButT d l H H' := fun b o h _ _ _ => s b o h
theorem ButT.ext {d l : Addr} {H H' : Hp} (s : ExtN H H') : ButT d l H H' := fun b o h _ _ n => s b o h n
theorem ButT.but {d l : Addr} {H H' : Hp} (s : But d l H H') : ButT d l H H' := fun b o h x y _ => s b o h x y
theorem ButT.trans {d l : Addr} {H H1 H2 : Hp} (s : ButT d l H H1) (t : ButT d l H1 H2) : ButT d l H H2 := fun b o h x y n => t b o (s b o h x y n) x y n
theorem cut_le {d l : Addr} {H : Hp} : Same (cutH d l H) H := fun b o h => (cut_of h).1
theorem StBad.same {K : PySem.W.Frag} {H H' : Hp} {n : Nat} {x : V} {t : String} (h : StBad K H n x t) (s : Same H H') : StBad K H' n x t := by
  cases h with
  | kind h => exact .kind h
  | len hs e h => exact .len hs (e.imp (s _ _) (s _ _)) h
  | elt hs e h p no => exact .elt hs (e.imp (s _ _) (s _ _)) h (Paired.mapP p fun _ _ q => q.same s) no
section
variable {K : PySem.W.Frag} {d l : Addr} {n : Nat}
def SumE (K : PySem.W.Frag) (d l : Addr) (n : Nat) (b : Bool) : Hp → V → Prop := fun H x => SumP K (cutH d l H) n x b
def BadE (K : PySem.W.Frag) (d l : Addr) (n : Nat) : Hp → V → Prop := fun H x => ∃ s, KindV K (cutH d l H) x s ∧ StBad K (cutH d l H) n x s
def Stab (R : Hp → V → Prop) : Prop := ∀ H H' x, Same H H' → R H x → R H' x
theorem sumE_stab {b : Bool} : Stab (SumE K d l n b) := fun _ _ _ s h => SumP.same h (ButT.of s).cut
theorem badE_but {H H' : Hp} {x : V} (s : ButT d l H H') (h : BadE K d l n H x) : BadE K d l n H' x := h.elim fun t h => ⟨t, h.1.same s.cut, h.2.same s.cut⟩
theorem badE_stab : Stab (BadE K d l n) := fun _ _ _ s h => badE_but (ButT.of s) h
/-- what a reading gives, all that stood standing -/
def Gv (d l : Addr) (R : Hp → V → Prop) (t : TE) : Prop := ∀ σ H Q, H d ≠ none → H l ≠ none → (∀ x H', Same H H' → R H' x → Q x H') → t σ H Q
def AllR : List (Hp → V → Prop) → Hp → List V → Prop
  | [], _, [] => True
  | R :: Rs, H, x :: xs => R H x ∧ AllR Rs H xs
  | _, _, _ => False
theorem AllR.len : ∀ {Rs : List (Hp → V → Prop)} {H : Hp} {xs : List V}, AllR Rs H xs → xs.length = Rs.length
  | [], _, [], _ => rfl
  | [], _, _ :: _, h => h.elim
  | _ :: _, _, [], h => h.elim
  | _ :: _, _, _ :: _, h => by rw [List.length_cons, List.length_cons, AllR.len h.2]
def GvA (d l : Addr) (Rs : List (Hp → V → Prop)) (ta : TA) : Prop := ∀ σ H Q, H d ≠ none → H l ≠ none → (∀ xs H', Same H H' → AllR Rs H' xs → Q xs H') → ta σ H Q
theorem same_ne {H H' : Hp} {a : Addr} (s : Same H H') (h : H a ≠ none) : H' a ≠ none := fun z => by
  cases e : H a with
  | none => exact h e
  | some o => rw [s _ _ e] at z; cases z
theorem Gv.imp {R R' : Hp → V → Prop} {t : TE} (h : Gv d l R t) (i : ∀ H x, R H x → R' H x) : Gv d l R' t := fun σ H Q a b k => h σ H Q a b fun x H' s r => k x H' s (i _ _ r)
theorem gva_nil : GvA d l [] tNil := fun σ H Q _ _ k => k [] H (Same.refl H) trivial
theorem gva_cons {R : Hp → V → Prop} {Rs : List (Hp → V → Prop)} {t : TE} {ta : TA} (st : Stab R) (h : Gv d l R t) (h2 : GvA d l Rs ta) : GvA d l (R :: Rs) (tCons t ta) := fun σ H Q a b k =>
  h σ H _ a b fun x H1 s1 r1 => h2 σ H1 _ (same_ne s1 a) (same_ne s1 b) fun xs H2 s2 r2 => k (x :: xs) H2 (s1.trans s2) ⟨st _ _ _ s2 r1, r2⟩
theorem gv_c {R : Hp → V → Prop} {v : V} (h : ∀ H, R H v) : Gv d l R (tC v) := fun σ H Q _ _ k => k v H (Same.refl H) (h H)
def GvL (d l : Addr) (Rs : List (Hp → V → Prop)) : Hp → V → Prop := fun H x => ∃ p xs, x = .ref p ∧ H p = some (.lst xs) ∧ p ≠ d ∧ p ≠ l ∧ AllR Rs H xs
def StabA (Rs : List (Hp → V → Prop)) : Prop := ∀ H H' xs, Same H H' → AllR Rs H xs → AllR Rs H' xs
theorem staba_nil : StabA [] := fun _ _ xs _ h => by cases xs <;> exact h
theorem staba_cons {R : Hp → V → Prop} {Rs : List (Hp → V → Prop)} (a : Stab R) (b : StabA Rs) : StabA (R :: Rs) := fun _ _ xs s h => by
  cases xs with
  | nil => exact h
  | cons x xs => exact ⟨a _ _ _ s h.1, b _ _ _ s h.2⟩
theorem new_ne {H : Hp} {p a : Addr} (h : H a ≠ none) (np : H p = none) : p ≠ a := fun z => h (z ▸ np)
theorem gv_lst {Rs : List (Hp → V → Prop)} {ta : TA} (st : StabA Rs) (z : Rs.length ≤ 100) (h : GvA d l Rs ta) : Gv d l (GvL d l Rs) (tLst ta) := fun σ H Q a b k =>
  h σ H _ a b fun xs H1 s1 r1 => ⟨by rw [r1.len]; exact Nat.le_of_lt (small1000 (by omega)), fun p np => k _ _ (s1.trans (same_new np)) ⟨p, xs, rfl, upd_same, new_ne (same_ne s1 a) np, new_ne (same_ne s1 b) np, st _ _ _ (same_new np) r1⟩⟩
theorem gv_empty : Gv d l (SumE K d l n true) tDNewT := fun σ H Q a b k p np => k _ _ (same_new np) (.dT (kvs := []) (cut_at upd_same (new_ne a np) (new_ne b np) fun ps q => nomatch q) (by decide) (fun e m => nomatch m) List.nodup_nil fun e m => nomatch m)
theorem gv_disp1 {ta : TA} {ks : List Key} {v : V} (pure : ∀ (σ : L2.St) (H : Hp) (Q : List V → Hp → Prop), Q (ks.map kV) H → ta σ H Q) (zk : ks.length ≤ 100) (hv : ∃ t, ∀ H' : Hp, KindV K H' v t) : Gv d l (SumE K d l n (pairE n (ks, v))) (tDisp1 true (tTup ta) (tC v)) := fun σ H Q a b k p np => by
  refine pure σ _ _ ⟨?_, fun q nq => ?_⟩
  · rw [List.length_map]; exact Nat.le_of_lt (small1000 (by omega))
  have s1 : Same H (upd H p (dNew true)) := same_new np
  have s2 := s1.trans (same_new (o := .tup (ks.map kV)) nq)
  have hp : (upd (upd H p (dNew true)) q (.tup (ks.map kV))) p = some (.dT []) := (same_new nq) _ _ upd_same
  refine ⟨_, _, rfl, _, DPut.t (k := ks) hp upd_same (by show 0 < sizeLine; decide), k _ _ (same_upd s2 np) ?_⟩
  have e : (pairE n (ks, v)) = (putK [] ks v).all (pairE n) := by
    show _ = (pairE n (ks, v) && true)
    rw [Bool.and_true]
  unfold SumE
  rw [e]
  exact .dT (cut_at upd_same (new_ne a np) (new_ne b np) fun ps q => nomatch q) (by show 1 ≤ 1000; decide) (fun e m => by rw [List.mem_singleton.mp m]; show ks.length ≤ 1000; omega) (by simp [putK]) fun e m => by rw [List.mem_singleton.mp m]; exact hv
theorem gv_dispR {ta : TA} {v : V} (pure : ∀ (σ : L2.St) (H : Hp) (Q : List V → Hp → Prop), Q [.bl true, .int 1] H → ta σ H Q) : Gv d l (SumE K d l n false) (tDispR (tTup ta) (tC v)) := fun σ H Q a b k p np => by
  refine pure σ _ _ ⟨by show 2 ≤ sizeLine; decide, fun q nq => ?_⟩
  have s1 : Same H (upd H p (.dT [])) := same_new np
  have s2 := s1.trans (same_new (o := .tup [.bl true, .int 1]) nq)
  have hp : (upd (upd H p (.dT [])) q (.tup [.bl true, .int 1])) p = some (.dT []) := (same_new nq) _ _ upd_same
  refine ⟨q, v, rfl, upd_same, hp, fun o R => k _ _ (same_upd s2 np) ?_⟩
  have hp0 : (upd H p (.dT [])) p = some (.dT []) := upd_same
  have nq1 : H q = none := none_of_same s1 nq
  exact .raw (cut_at upd_same (new_ne a np) (new_ne b np) fun ps q => nomatch q) R (cut_at (by rw [upd_ne (Ne.symm (ne_of_none hp0 nq))]; exact upd_same) (new_ne a nq1) (new_ne b nq1) fun ps q => nomatch q)
/-- {i: j} -/
theorem gv_disp0 {t1 t2 : TE} {i j : Int} (pure : ∀ (σ : L2.St) (H : Hp) (Q : List (V × V) → Hp → Prop), Q [(.int i, .int j)] H → tPairs [(t1, t2)] σ H Q) : Gv d l (SumE K d l n false) (tDisp [(t1, t2)]) := fun σ H Q a b k p np => by
  refine pure σ _ _ ⟨upd_same, [(Sum.inl i, .int j)], rfl, by show 1 ≤ 15; decide, ?_⟩
  have s1 : Same H (upd H p (.dK [])) := same_new np
  refine k _ _ (same_upd s1 np) ?_
  have e : (upd (upd H p (.dK [])) p (.dK (mergeK [] [(Sum.inl i, .int j)]))) p = some (.dK [(Sum.inl i, .int j)]) := by
    rw [upd_same]
    rfl
  exact .dK (cut_at e (new_ne a np) (new_ne b np) fun ps q => nomatch q) (by show 1 ≤ 1000; decide)
theorem gv_none : Gv d l (SumE K d l n false) (tC .non) := gv_c fun H => .no ⟨.base .non, by decide +kernel⟩ (by decide +kernel)
theorem sumE_lst {Rs : List (Hp → V → Prop)} {H : Hp} {x : V} (h : GvL d l Rs H x) : SumE K d l n false H x := by
  obtain ⟨p, xs, rfl, e, h1, h2, _⟩ := h
  exact .no ⟨.base (.lst (cut_at e h1 h2 fun ps q => nomatch q)), by decide +kernel⟩ (by decide +kernel)
theorem badE_len {Rs : List (Hp → V → Prop)} {H : Hp} {x : V} (h : GvL d l Rs H x) (z : Rs.length ≠ n) : BadE K d l n H x := by
  obtain ⟨p, xs, rfl, e, h1, h2, r⟩ := h
  have e2 := cut_at e h1 h2 fun ps q => nomatch q
  exact ⟨"list", ⟨.base (.lst e2), by decide +kernel⟩, .len (by decide +kernel) (.inl e2) (by rw [r.len]; exact z)⟩
theorem badE_two {b1 b2 : Bool} {H : Hp} {x : V} (h : GvL d l [SumE K d l 2 b1, SumE K d l 2 b2] H x) (z : (b1 && b2) = false) : BadE K d l 2 H x := by
  obtain ⟨p, xs, rfl, e, h1, h2, r⟩ := h
  have e2 := cut_at e h1 h2 fun ps q => nomatch q
  cases xs with
  | nil => exact False.elim r
  | cons y1 xs =>
    cases xs with
    | nil => exact False.elim r.2
    | cons y2 xs =>
      cases xs with
      | cons _ _ => exact False.elim r.2.2
      | nil =>
        have no : [b1, b2].all id = false := by
          show (b1 && (b2 && true)) = false
          rw [Bool.and_true]
          exact z
        have p2 : Paired (SumP K (cutH d l H) (2 : Nat)) [y1, y2] [b1, b2] := .cons r.1 (.cons r.2.1 .nil)
        exact ⟨"list", ⟨.base (.lst e2), by decide +kernel⟩, StBad.elt (by decide +kernel) (.inl e2) (by simp) p2 no⟩
theorem badE_c {v : V} {s : String} (h : ∀ H : Hp, KindV K H v s) (k : (s == "list" || s == "tuple") = false) (H : Hp) : BadE K d l n H v := ⟨s, h _, .kind k⟩
/-- [{}, x] -/
theorem gv_two {b : Bool} {t : TE} (h : Gv d l (SumE K d l 2 b) t) (z : b = false) : Gv d l (BadE K d l 2) (tLst (tCons tDNewT (tCons t tNil))) :=
  (gv_lst (staba_cons sumE_stab (staba_cons sumE_stab staba_nil)) (by show 2 ≤ 100; decide) (gva_cons sumE_stab gv_empty (gva_cons sumE_stab h gva_nil))).imp fun H x r => badE_two r (by rw [z]; rfl)
end
end Lp
namespace Lp
open PySem PySem.Spec PySem.Calls PyProof.Rows L2 LamX
local macro_rules | `(tactic| walk_at "rd") => `(tactic| simp only [tSeq, tAsg, tYes, tTest, tOp, tCB, tCons, tNil, tVar, tC, rI0, rI, gName, wipe, tDisp, tTru, TruV, tB, tNext, tDGet2, tLock, tDIn, tDNotIn, tOr, tNot, tChain, tAnd, tCont, tUn, rU, tPairs, tRet, tIf, tIfS, tPar, tLst, tTup, tDrop, tDGet, tCall, sDPut, L2.start,
  List.map_cons, List.map_nil, List.foldl_cons, List.foldl_nil, List.length_cons, List.length_nil, List.replicate_succ, List.replicate_zero, List.append_nil, List.cons_append, List.nil_append, List.set_cons_zero, List.set_cons_succ, List.getElem?_cons_zero, List.getElem?_cons_succ,
  Option.some.injEq, List.cons.injEq, V.int.injEq, V.bl.injEq, V.ref.injEq, V.str.injEq, exists_eq_left', exists_eq_left, exists_eq_right, and_true, true_and, exists_and_left, Nat.add_zero, Nat.reduceAdd, Nat.reduceSub, Nat.sub_zero, if_true, if_false])
/-! ### _law_refused -/
section
variable {K : PySem.W.Frag} {d l : Addr} {n : Nat}
theorem gv_emptyB : Gv d l (BadE K d l n) tDNewT := fun σ H Q a b k p np => k _ _ (same_new np) ⟨"dict", ⟨.base (.dT (cut_at upd_same (new_ne a np) (new_ne b np) fun ps q => nomatch q)), by decide +kernel⟩, .kind (by decide +kernel)⟩
end
theorem DrawIn.extN {H H' : Hp} {d l c : Addr} (D : DrawIn H d l c) (e : ExtN H H') : DrawIn H' d l c := by
  obtain ⟨r, t, hd⟩ := D.dd
  obtain ⟨ns, h1, z1⟩ := D.ll
  obtain ⟨ms, h2, z2⟩ := D.cc
  exact ⟨D.lc, ⟨r, t, e _ _ hd fun ps z => nomatch z⟩, ⟨ns, e _ _ h1 (fun ps z => nomatch z), z1⟩, ⟨ms, e _ _ h2 (fun ps z => nomatch z), z2⟩⟩
theorem tabs_but {T : List (Addr × Str)} {H H' : Hp} {d l c : Addr} (t : Tabs T H) (D : DrawIn H d l c) (b : But d l H H') : Tabs T H' := fun p hp => by
  obtain ⟨r, tt, hd⟩ := D.dd
  obtain ⟨ns, hl, _⟩ := D.ll
  obtain ⟨ps, h1, h2, h3⟩ := t p hp
  refine ⟨ps, b _ _ h1 (ne_of h1 hd fun z => nomatch z) (ne_of h1 hl fun z => nomatch z), h2, fun pos cv hc => ?_⟩
  obtain ⟨c', e1, e2⟩ := h3 pos cv hc
  exact ⟨c', e1, b _ _ e2 (ne_of e2 hd fun z => nomatch z) (ne_of e2 hl fun z => nomatch z)⟩
theorem prime_bad {K : PySem.W.Frag} {x : V} (m : x ∈ [V.int 0, .int 1, .int 4, .int 37, .non, .bl true, .str "3"]) : ∃ s, (∀ H : Hp, KindV K H x s) ∧ primeB x = false := by
  simp only [List.mem_cons, List.mem_nil_iff, or_false] at m
  rcases m with rfl | rfl | rfl | rfl | rfl | rfl | rfl
  all_goals first
    | exact ⟨"int", fun H => KindV.int _, by decide +kernel⟩
    | exact ⟨"NoneType", fun H => ⟨.base .non, by decide +kernel⟩, by decide +kernel⟩
    | exact ⟨"bool", fun H => ⟨.base (.bl _), by decide +kernel⟩, by decide +kernel⟩
    | exact ⟨"str", fun H => ⟨.base (.str _), by decide +kernel⟩, by decide +kernel⟩
theorem bet_bad {K : PySem.W.Frag} {x : V} (m : x ∈ [V.non, .int (-1), .int 6, .bl true, .str "2"]) : ∃ s, (∀ H : Hp, KindV K H x s) ∧ betB x 0 5 = false := by
  simp only [List.mem_cons, List.mem_nil_iff, or_false] at m
  rcases m with rfl | rfl | rfl | rfl | rfl
  all_goals first
    | exact ⟨"int", fun H => KindV.int _, by decide +kernel⟩
    | exact ⟨"NoneType", fun H => ⟨.base .non, by decide +kernel⟩, by decide +kernel⟩
    | exact ⟨"bool", fun H => ⟨.base (.bl _), by decide +kernel⟩, by decide +kernel⟩
    | exact ⟨"str", fun H => ⟨.base (.str _), by decide +kernel⟩, by decide +kernel⟩
theorem kNon {K : PySem.W.Frag} {H : Hp} : KindV K H .non "NoneType" := ⟨.base .non, by decide +kernel⟩
theorem staba_rep {R : Hp → V → Prop} (h : Stab R) : ∀ n, StabA (List.replicate n R)
  | 0 => staba_nil
  | n + 1 => staba_cons h (staba_rep h n)
theorem allR_rep {R : Hp → V → Prop} {H : Hp} : ∀ {n : Nat} {xs : List V}, AllR (List.replicate n R) H xs → ∀ x ∈ xs, R H x
  | _, [], _, _, m => nomatch m
  | 0, _ :: _, h, _, _ => h.elim
  | n + 1, y :: ys, h, x, m => by
    rcases List.mem_cons.mp m with rfl | m
    · exact h.1
    · exact allR_rep (n := n) h.2 x m
theorem go_asg {te : TE} {tg : TG} {u : TS} {D : Ends} {σ : L2.St} {H : Hp} (h : te σ H fun x H1 => tg x σ H1 fun σ2 H2 => u D σ2 H2) : tSeq (tAsg te tg) u D σ H := h
abbrev sRef : Stmt := top 61
abbrev nRef : List Str := ["draw", "field", "bad", "caught", "odd"]
def spRef (T : List (Addr × Str)) : Sp := fun vs H Q _ => ∃ (d l c : Addr) (p : Int), vs = [.ref d, .int p] ∧ DrawIn H d l c ∧ primeB (.int p) = true ∧ Tabs T H ∧
  ∀ H', DrawIn H' d l c → ButT d l H H' → Tabs T H' → Q (.bl true) H'
section
variable {P : Program} {w : World} {K : PySem.W.Frag} {mg : Str → Option Value} {base : Heap}
theorem scRef : FnScope nRef ["draw", "field"] (defScope sRef) := ⟨rfl, rfl, rfl, by decide +kernel, rfl, by decide +kernel, by decide +kernel⟩
theorem ok_ref {f CS : Addr} {fd : FuncData} {T : List (Addr × Str)} {c : TurnC} (F : Fun K "_law_refused" "_law_refused" sRef f fd) (LH : LamHome base mg T ("_law_refused" ++ ".<locals>.") fd.code) (CO : CaughtOk K mg CS)
    (TF : Df P w K mg base (L2.CX P w) 8 "turning_frame" ["prime", "letters", "steps"] (spTurn K T c)) (PK : Df P w K mg base CX0 3 "_law_pick" ["draw", "some"] spPick) (mI : mg "isinstance" = none)
    (mP : mg "BadPrime" = some (.ref c.CP)) (mN : mg "BadNumber" = some (.ref c.CN)) (mB : mg "BadTable" = some (.ref c.CB)) (EP : ErrK K CS c.CP) (EN : ErrK K CS c.CN) (EB : ErrK K CS c.CB) (PN : PartK K c.CN) : FnOk P w K mg base CX0 11 f fd ["draw", "field"] (spRef T) := by
  refine okC F scRef (fun vs H Q E h => ?_) (fun A outer s H vs Q E hr h => ?_)
  · obtain ⟨d, l, c', p, rfl, _⟩ := h
    rfl
  · obtain ⟨d, l, c', p, rfl, D, hp, hT, k⟩ := h
    have hu := hu_of hr
    have hu1 : (A.deeper (PyProof.Rows.envOfC "_law_refused" (defScope sRef) s.heap.objs.size f fd.code)).units + 1 < cLine := by
      have := hr.units
      omega
    have one : ∀ (vp vl vst : V), True := fun _ _ _ => trivial
    refine ⟨_, pss_cons (ps_if (pt_not (pt_val (pe_callB call_isErr (by rfl) mI (by decide +kernel) (pa_cons
          (pe_caught (T := T) CO LH (by rfl) hr (sc := defScope sRef) rfl (by decide +kernel) rfl (fun _ _ _ _ _ => rfl) (fun A2 outer2 s2 H2 E2 f2 c2 hr2 => pe_df TF hr2 (by rfl) (passX (takes_of rfl rfl rfl rfl)) (pa_cons (pe_df PK (hr2.mono (by decide)) (by rfl) pass0 (pa_cons (pv 0) (pa_cons (pe_lst (pa_cons pe_int (pa_cons pe_int (pa_cons pe_int (pa_cons pe_int (pa_cons pe_non (pa_cons pe_bl (pa_cons pe_str pa_nil)))))))) pa_nil)))
            (pa_cons pe_non (pa_cons pe_non pa_nil)))))
          (pa_cons (C8.pe_gc (v := .ref c.CP) (by rfl) ⟨_, mP, rfl⟩) pa_nil))))) (pss_one (ps_ret pe_bl)) pss_nil)
      (pss_cons (ps_for PassesOwn.never rfl (pi_list (pe_lst (pa_cons pe_non (pa_cons (pe_un un_neg pe_int) (pa_cons pe_int (pa_cons pe_bl (pa_cons pe_str pa_nil))))))) (pg_name (i := 2) scRef.nd rfl (Or.inr rfl))
          (pss_cons (ps_set (i := 3) scRef.nd rfl (Or.inl rfl) (pe_caught (T := T) CO LH (by rfl) hr (sc := defScope sRef) rfl (by decide +kernel) rfl (fun _ _ _ _ _ => rfl) (fun A2 outer2 s2 H2 E2 f2 c2 hr2 => pe_df TF hr2 (by rfl) (passX (takes_of rfl rfl rfl rfl)) (pa_cons (pv 1) (pa_cons (pv 2) (pa_cons pe_non pa_nil))))))
          (pss_one (ps_if (PW.pt (pw_or (pt_not (pt_val (pe_callB call_isErr (by rfl) mI (by decide +kernel) (pa_cons (pv 3) (pa_cons (C8.pe_gc (v := .ref c.CN) (by rfl) ⟨_, mN, rfl⟩) pa_nil)))))
            (pw_or1 (pt_cmpR op_ne (pe_errF (pv 3)) pe_str (nomark _))))) (pss_one (ps_ret pe_bl)) pss_nil))))
      (pss_cons (ps_set (i := 4) scRef.nd rfl (Or.inl rfl) (pe_lst (pa_cons pe_non (pa_cons pe_int (pa_cons pe_dnewT (pa_cons pe_str (pa_cons (pe_lst pa_nil) (pa_cons (pe_lst (pa_cons pe_dnewT pa_nil)) (pa_cons (pe_lst (pa_cons pe_dnewT (pa_cons pe_dnewT (pa_cons pe_dnewT pa_nil)))) (pa_cons (pe_lst (pa_cons pe_dnewT (pa_cons pe_non pa_nil))) (pa_cons (pe_lst (pa_cons pe_dnewT (pa_cons (pe_lst pa_nil) pa_nil))) (pa_cons (pe_lst (pa_cons pe_dnewT (pa_cons (pe_disp1 true hu1 (pe_tup (pa_cons pe_int pa_nil)) pe_int) pa_nil))) (pa_cons (pe_lst (pa_cons pe_dnewT (pa_cons (pe_disp1 true hu1 (pe_tup (pa_cons pe_int (pa_cons pe_int pa_nil))) pe_int) pa_nil))) (pa_cons (pe_lst (pa_cons pe_dnewT (pa_cons (pe_disp1 true hu1 (pe_tup (pa_cons pe_int (pa_cons pe_int pa_nil))) pe_int) pa_nil))) (pa_cons (pe_lst (pa_cons pe_dnewT (pa_cons (pe_disp1 true hu1 (pe_tup (pa_cons pe_int (pa_cons pe_int pa_nil))) pe_int) pa_nil))) pa_nil)))))))))))))))
      (pss_cons (ps_for PassesOwn.never rfl (pi_list (pe_op op_cat (pv 4) (pe_lst (pa_cons (pe_lst (pa_cons pe_dnewT (pa_cons (pe_disp1 true hu1 (pe_tup (pa_cons pe_int (pa_cons pe_int pa_nil))) pe_non) pa_nil))) (pa_cons (pe_lst (pa_cons pe_dnewT (pa_cons (pe_disp1 true hu1 (pe_tup (pa_cons pe_int (pa_cons pe_int pa_nil))) pe_bl) pa_nil))) (pa_cons (pe_lst (pa_cons pe_dnewT (pa_cons (pe_disp1 true hu1 (pe_tup (pa_cons pe_int (pa_cons pe_int (pa_cons pe_int pa_nil)))) pe_int) pa_nil))) (pa_cons (pe_lst (pa_cons pe_dnewT (pa_cons (pe_disp (pps_cons pe_int pe_int pps_nil) (by rfl) (by rfl) (by simp) (by simp)) pa_nil))) (pa_cons (pe_lst (pa_cons pe_dnewT (pa_cons (pe_dispR hu1 (pe_tup (pa_cons pe_bl (pa_cons pe_int pa_nil))) pe_int) pa_nil))) (pa_cons (pe_lst (pa_cons pe_dnewT (pa_cons (pe_disp1 true hu1 (pe_tup (pa_cons (pe_un un_neg pe_int) (pa_cons pe_int pa_nil))) pe_int) pa_nil))) pa_nil))))))))) (pg_name (i := 2) scRef.nd rfl (Or.inr rfl))
          (pss_one (ps_if (pt_not (pt_val (pe_callB call_isErr (by rfl) mI (by decide +kernel) (pa_cons (pe_caught (T := T) CO LH (by rfl) hr (sc := defScope sRef) rfl (by decide +kernel) rfl (fun _ _ _ _ _ => rfl) (fun A2 outer2 s2 H2 E2 f2 c2 hr2 => pe_df TF hr2 (by rfl) (passX (takes_of rfl rfl rfl rfl)) (pa_cons (pv 1) (pa_cons pe_int (pa_cons (pv 2) pa_nil)))))
            (pa_cons (C8.pe_gc (v := .ref c.CB) (by rfl) ⟨_, mB, rfl⟩) pa_nil))))) (pss_one (ps_ret pe_bl)) pss_nil)))
      (pss_one (ps_ret pe_bl))))), ?_⟩
    have one : ∀ {H1 H2 : Hp} {a C : Addr} {e : Option Addr}, DrawIn H1 d l c' → ButT d l H H1 → Tabs T H1 → H1 a = none → DrawIn (upd H1 a (ErrO (.ref C) e a)) d l c' ∧ ButT d l H (upd H1 a (ErrO (.ref C) e a)) ∧ Tabs T (upd H1 a (ErrO (.ref C) e a)) := fun {H1 H2 a C e} D1 b1 t1 na =>
      ⟨D1.same (same_new na), b1.trans (ButT.of (same_new na)), t1.ext fun b o z => same_new na _ _ z⟩
    refine ⟨hT, fun H1 e1 T1 => ?_⟩
    have D1 := D.extN e1
    have b1 : ButT d l H H1 := ButT.ext e1
    refine ⟨_, rfl, by show 7 ≤ sizeLine; decide, fun p0 np0 => ?_⟩
    have sp0 : Same H1 (upd H1 p0 (.lst [V.int 0, .int 1, .int 4, .int 37, .non, .bl true, .str "3"])) := same_new np0
    obtain ⟨ns1, hl1, _⟩ := D1.ll
    refine ⟨d, l, c', p0, _, rfl, D1.same sp0, upd_same, Ne.symm (ne_of_none hl1 np0), ⟨by show 0 < 7; decide, by show 7 < 2 ^ 30; decide⟩, fun H2 x mx D2 b2 => ?_⟩
    obtain ⟨sx, kx, px⟩ := prime_bad (K := K) mx
    have T2 : Tabs T H2 := tabs_but (T1.ext fun b o z => sp0 _ _ z) (D1.same sp0) b2
    refine ⟨x, sx, .non, _, .non, _, rfl, kx H2, kNon, kNon, T2, .inl ⟨px, true, EP.exm, fun _ a na => ?_, fun z => nomatch z⟩⟩
    have bt2 : ButT d l H H2 := b1.trans ((ButT.of sp0).trans (ButT.but b2))
    obtain ⟨D3, b3, T3⟩ := one (H2 := H2) (C := c.CP) (e := none) D2 bt2 T2 na
    refine ⟨a, c.CP, [], .ref c.CP, _, true, rfl, .inl ⟨rfl, upd_same⟩, EP.exc, .own _, EP.own, _, rfl, iteF ?_⟩
    generalize eH3 : upd H2 a (ErrO (.ref c.CP) none a) = H3 at D3 b3 T3
    refine ⟨1, rfl, by show 5 ≤ sizeLine; decide, fun p1 np1 => ⟨p1, rfl, ⟨_, SqL.of upd_same⟩, ?_⟩⟩
    have s4 : Same H3 (upd H3 p1 (.lst [V.non, .int (-1), .int 6, .bl true, .str "2"])) := same_new np1
    refine for_it (walk_list (K := K) (a := p1) (xs := [V.non, .int (-1), .int 6, .bl true, .str "2"])) (fun i σ H' => ∃ v2 v3, σ = [some (.ref d), some (.int p), v2, v3, none] ∧ DrawIn H' d l c' ∧ ButT d l H H' ∧ Tabs T H' ∧ H' p1 = some (.lst [V.non, .int (-1), .int 6, .bl true, .str "2"])) ?_ (fun i σ H' _ h => ?_) ?_ ?_
    · exact ⟨none, none, rfl, D3.same s4, b3.trans (ButT.of s4), T3.ext fun b o z => s4 _ _ z, upd_same⟩
    · obtain ⟨_, _, _, _, _, _, h⟩ := h
      exact SqL.of h
    · rintro i x σ H4 H4' hi ⟨v2, v3, rfl, D4, b4, T4, hp4⟩ ⟨rfl, hx⟩
      obtain ⟨sx, kx, bx⟩ := bet_bad (K := K) (List.mem_of_getElem? hx)
      show gName 2 x _ _ _
      refine ⟨T4, fun H5 e5 T5 => ?_⟩
      have D5 := D4.extN e5
      refine ⟨_, rfl, _, rfl, .int p, _, x, sx, .non, _, rfl, KindV.int p, kx H5, kNon, T5, .inr (.inl ⟨hp, bx, fun dd H6 s6 nd hd => ⟨true, EN.exm, fun _ a na => ?_, fun z => nomatch z⟩⟩)⟩
      obtain ⟨D7, b7, T7⟩ := one (H2 := H6) (C := c.CN) (e := some dd) (D5.same s6) (b4.trans ((ButT.ext e5).trans (ButT.of s6))) (T5.ext fun b o z => s6 _ _ z) na
      have er : ErrIs (upd H6 a (ErrO (.ref c.CN) (some dd) a)) a c.CN [("part", .str "letters")] := .inr ⟨dd, upd_same, by rw [upd_ne (ne_of_none hd na)]; exact hd⟩
      have hp7 : (upd H6 a (ErrO (.ref c.CN) (some dd) a)) p1 = some (.lst [V.non, .int (-1), .int 6, .bl true, .str "2"]) := (same_new na) _ _ (s6 _ _ (e5 _ _ hp4 fun ps z => nomatch z))
      generalize eH7 : upd H6 a (ErrO (.ref c.CN) (some dd) a) = H7 at D7 b7 T7 er hp7 ⊢
      refine ⟨_, rfl, a, c.CN, _, .ref c.CN, _, true, rfl, er, EN.exc, .own _, EN.own, _, rfl, iteF ?_⟩
      refine ⟨_, rfl, a, c.CN, _, _, rfl, er, PN.xf, PN.no, rfl, rfl, _, rfl, ?_⟩
      rw [show (!decide (V.str "letters" = V.str "letters")) = false from by rw [decide_eq_true rfl]; rfl]
      exact iteF ⟨_, _, rfl, D7, b7, T7, hp7⟩
    · rintro σ H8 ⟨v2, v3, rfl, D8, b8, T8, hp8⟩
      have hd8 : H8 d ≠ none := by
        obtain ⟨r, t, e⟩ := D8.dd
        rw [e]; exact fun z => nomatch z
      have hl8 : H8 l ≠ none := by
        obtain ⟨r, e, _⟩ := D8.ll
        rw [e]; exact fun z => nomatch z
      refine go_asg (gv_lst (d := d) (l := l) (Rs := List.replicate 13 (BadE K d l 2)) (staba_rep badE_stab _) (by show 13 ≤ 100; decide)
        ((gva_cons badE_stab (gv_c (badE_c (s := "NoneType") (fun H => ⟨.base .non, by decide +kernel⟩) (by decide +kernel)))
      (gva_cons badE_stab (gv_c (badE_c (s := "int") (fun H => ⟨.base (.int _), by decide +kernel⟩) (by decide +kernel)))
      (gva_cons badE_stab gv_emptyB
      (gva_cons badE_stab (gv_c (badE_c (s := "str") (fun H => ⟨.base (.str _), by decide +kernel⟩) (by decide +kernel)))
      (gva_cons badE_stab ((gv_lst staba_nil (by show 0 ≤ 100; decide) gva_nil).imp fun H x r => badE_len r (by show 0 ≠ 2; decide))
      (gva_cons badE_stab ((gv_lst (staba_cons (sumE_stab (K := K) (d := d) (l := l) (n := 2) (b := true)) staba_nil) (by show 1 ≤ 100; decide) (gva_cons (sumE_stab (K := K) (d := d) (l := l) (n := 2) (b := true)) gv_empty gva_nil)).imp fun H x r => badE_len r (by show 1 ≠ 2; decide))
      (gva_cons badE_stab ((gv_lst (staba_cons (sumE_stab (K := K) (d := d) (l := l) (n := 2) (b := true)) (staba_cons (sumE_stab (K := K) (d := d) (l := l) (n := 2) (b := true)) (staba_cons (sumE_stab (K := K) (d := d) (l := l) (n := 2) (b := true)) staba_nil))) (by show 3 ≤ 100; decide) (gva_cons (sumE_stab (K := K) (d := d) (l := l) (n := 2) (b := true)) gv_empty (gva_cons (sumE_stab (K := K) (d := d) (l := l) (n := 2) (b := true)) gv_empty (gva_cons (sumE_stab (K := K) (d := d) (l := l) (n := 2) (b := true)) gv_empty gva_nil)))).imp fun H x r => badE_len r (by show 3 ≠ 2; decide))
      (gva_cons badE_stab (gv_two gv_none (by decide +kernel))
      (gva_cons badE_stab (gv_two ((gv_lst staba_nil (by show 0 ≤ 100; decide) gva_nil).imp fun H x => sumE_lst) (by decide +kernel))
      (gva_cons badE_stab (gv_two (gv_disp1 (ks := [.inl (0)]) (fun _ _ _ h => h) (by show 1 ≤ 100; decide) ⟨"int", fun H => ⟨.base (.int _), by decide +kernel⟩⟩) (by decide +kernel))
      (gva_cons badE_stab (gv_two (gv_disp1 (ks := [.inl (1), .inl (0)]) (fun _ _ _ h => h) (by show 2 ≤ 100; decide) ⟨"int", fun H => ⟨.base (.int _), by decide +kernel⟩⟩) (by decide +kernel))
      (gva_cons badE_stab (gv_two (gv_disp1 (ks := [.inl (0), .inl (0)]) (fun _ _ _ h => h) (by show 2 ≤ 100; decide) ⟨"int", fun H => ⟨.base (.int _), by decide +kernel⟩⟩) (by decide +kernel))
      (gva_cons badE_stab (gv_two (gv_disp1 (ks := [.inl (0), .inl (2)]) (fun _ _ _ h => h) (by show 2 ≤ 100; decide) ⟨"int", fun H => ⟨.base (.int _), by decide +kernel⟩⟩) (by decide +kernel))
      gva_nil))))))))))))))
        _ H8 _ hd8 hl8 fun xo H9 s9 r9 => ?_)
      obtain ⟨p2, xo', rfl, ho, n1, n2, rr⟩ := r9
      have hd9 := same_ne s9 hd8
      have hl9 := same_ne s9 hl8
      show gName 4 (.ref p2) _ _ _
      refine ⟨_, rfl, ?_⟩
      refine gv_lst (d := d) (l := l) (Rs := List.replicate 6 (BadE K d l 2)) (staba_rep badE_stab _) (by show 6 ≤ 100; decide)
        ((gva_cons badE_stab (gv_two (gv_disp1 (ks := [.inl (0), .inl (1)]) (fun _ _ _ h => h) (by show 2 ≤ 100; decide) ⟨"NoneType", fun H => ⟨.base .non, by decide +kernel⟩⟩) (by decide +kernel))
      (gva_cons badE_stab (gv_two (gv_disp1 (ks := [.inl (0), .inl (1)]) (fun _ _ _ h => h) (by show 2 ≤ 100; decide) ⟨"bool", fun H => ⟨.base (.bl _), by decide +kernel⟩⟩) (by decide +kernel))
      (gva_cons badE_stab (gv_two (gv_disp1 (ks := [.inl (0), .inl (1), .inl (1)]) (fun _ _ _ h => h) (by show 3 ≤ 100; decide) ⟨"int", fun H => ⟨.base (.int _), by decide +kernel⟩⟩) (by decide +kernel))
      (gva_cons badE_stab (gv_two (gv_disp0 (t1 := tC (.int 0)) (t2 := tC (.int 1)) (i := 0) (j := 1) fun _ _ _ h => h) (by decide +kernel))
      (gva_cons badE_stab (gv_two (gv_dispR fun _ _ _ h => h) (by decide +kernel))
      (gva_cons badE_stab (gv_two (gv_disp1 (ks := [.inl (-1), .inl (1)]) (fun _ _ _ h => ⟨_, rfl, h⟩) (by show 2 ≤ 100; decide) ⟨"int", fun H => ⟨.base (.int _), by decide +kernel⟩⟩) (by decide +kernel))
      gva_nil)))))))
        _ H9 _ hd9 hl9 fun xm H10 s10 r10 => ?_
      obtain ⟨p3, xm', rfl, hm, m1, m2, rm⟩ := r10
      have z1 := rr.len
      have z2 := rm.len
      rw [List.length_replicate] at z1 z2
      have bad : ∀ x ∈ xo' ++ xm', BadE K d l 2 H10 x := fun x m => by
        rcases List.mem_append.mp m with m | m
        · exact badE_stab _ _ _ s10 (allR_rep rr x m)
        · exact allR_rep rm x m
      refine ⟨p2, p3, _, _, rfl, rfl, s10 _ _ ho, hm, by rw [z1, z2]; show 13 + 6 ≤ sizeLine; decide, fun p4 np4 => ⟨p4, rfl, ⟨_, SqL.of upd_same⟩, ?_⟩⟩
      have s11 : Same H10 (upd H10 p4 (.lst (xo' ++ xm'))) := same_new np4
      have s8 : Same H8 (upd H10 p4 (.lst (xo' ++ xm'))) := (s9.trans s10).trans s11
      refine for_it (walk_list (K := K) (a := p4) (xs := xo' ++ xm')) (fun i σ H' => ∃ v2 v3, σ = [some (.ref d), some (.int p), v2, v3, some (.ref p2)] ∧ DrawIn H' d l c' ∧ ButT d l H H' ∧ Tabs T H' ∧ ButT d l H10 H' ∧ H' p4 = some (.lst (xo' ++ xm'))) ?_ (fun i σ H' _ h => ?_) ?_ ?_
      · exact ⟨v2, v3, rfl, D8.same s8, b8.trans (ButT.of s8), T8.ext fun b o z => s8 _ _ z, ButT.of s11, upd_same⟩
      · obtain ⟨_, _, _, _, _, _, _, h⟩ := h
        exact SqL.of h
      · rintro i x σ H4 H4' hi ⟨v2, v3, rfl, D4, b4, T4, q4, hp4⟩ ⟨rfl, hx⟩
        show gName 2 x _ _ _
        refine ⟨T4, fun H5 e5 T5 => ?_⟩
        have D5 := D4.extN e5
        obtain ⟨sx, kx, bx⟩ := badE_but (q4.trans (ButT.ext e5)) (bad x (List.mem_of_getElem? hx))
        refine ⟨_, rfl, _, rfl, .int p, _, .int 2, _, x, sx, rfl, KindV.int p, KindV.int 2, kx.same cut_le, T5, .inr (.inr (.inl ⟨2, hp, rfl, by decide, bx.same cut_le, fun H6 s6 => ⟨true, EB.exm, fun _ a na => ?_, fun z => nomatch z⟩⟩))⟩
        obtain ⟨D7, b7, T7⟩ := one (H2 := H6) (C := c.CB) (e := none) (D5.same s6) (b4.trans ((ButT.ext e5).trans (ButT.of s6))) (T5.ext fun b o z => s6 _ _ z) na
        have er : ErrIs (upd H6 a (ErrO (.ref c.CB) none a)) a c.CB [] := .inl ⟨rfl, upd_same⟩
        have hp7 : (upd H6 a (ErrO (.ref c.CB) none a)) p4 = some (.lst (xo' ++ xm')) := (same_new na) _ _ (s6 _ _ (e5 _ _ hp4 fun ps z => nomatch z))
        have q7 : ButT d l H10 (upd H6 a (ErrO (.ref c.CB) none a)) := q4.trans ((ButT.ext e5).trans (ButT.of (s6.trans (same_new na))))
        generalize eH7 : upd H6 a (ErrO (.ref c.CB) none a) = H7 at D7 b7 T7 er hp7 q7 ⊢
        exact ⟨a, c.CB, _, .ref c.CB, _, true, rfl, er, EB.exc, .own _, EB.own, _, rfl, iteF ⟨_, _, rfl, D7, b7, T7, q7, hp7⟩⟩
      · rintro σ H12 ⟨v2, v3, rfl, D12, b12, T12, _, _⟩
        exact k H12 D12 b12 T12
end
end Lp
namespace Lp
open PySem PySem.Spec PySem.Calls PyProof.Rows L2 LamX
local macro_rules | `(tactic| walk_at "rd") => `(tactic| simp only [tSeq, tAsg, tYes, tTest, tOp, tCB, tCons, tNil, tVar, tC, rI0, rI, gName, wipe, tDisp, tTru, TruV, tB, tNext, tDGet2, tLock, tDIn, tDNotIn, tOr, tNot, tChain, tAnd, tCont, tUn, rU, tPairs, tRet, tIf, tIfS, tPar, tLst, tTup, tDrop, tDGet, tCall, sDPut, L2.start,
  List.map_cons, List.map_nil, List.foldl_cons, List.foldl_nil, List.length_cons, List.length_nil, List.replicate_succ, List.replicate_zero, List.append_nil, List.cons_append, List.nil_append, List.set_cons_zero, List.set_cons_succ, List.getElem?_cons_zero, List.getElem?_cons_succ,
  Option.some.injEq, List.cons.injEq, V.int.injEq, V.bl.injEq, V.ref.injEq, V.str.injEq, exists_eq_left', exists_eq_left, exists_eq_right, and_true, true_and, exists_and_left, Nat.add_zero, Nat.reduceAdd, Nat.reduceSub, Nat.sub_zero, if_true, if_false])
/-! ### law -/
section
variable {P : Program} {w : World} {K : PySem.W.Frag} {mg : Str → Option Value} {base : Heap}
/-- as okG, the code object by its name -/
theorem okCG {CX : CXT} {x qual : Str} {st : Stmt} {f : Addr} {fd : FuncData} {N ps : List Str} {k : Nat} {sp : Sp} (F : Fun K x qual st f fd) (S : FnScope N ps (defScope st)) (len : ∀ vs H Q E, sp vs H Q E → vs.length = ps.length)
    (hbody : ∀ (A : Around) (outer : List Env) (s : Shared) (H : Hp) (vs : List V) (Q : VK) (E : XK), A.guards = some [] → Room k (A.deeper (envOfC qual (defScope st) s.heap.objs.size f fd.code)) → sp vs H Q E →
      ∃ t, PSs (cxOf CX P w K mg base N qual (defScope st) f fd.code A outer s H E).nox (defBody st) t ∧ t { nx := fun _ H' => Q .non H', rt := Q } (L2.start N vs) H) : FnG P w K mg base CX (k + 1) f fd ps sp := by
  obtain ⟨oc, od, kV, doc, pm, an, cdv, ct, osl, rfl, lk, hcd⟩ := F.ex
  refine ⟨len, fun A outer s H args us vs Q E hg hr e0 hb rv hsp => ?_⟩
  have hl := len _ _ _ _ hsp
  have up : ∀ b o, base.get? b = some o → s.heap.get? b = some o := fun b o e => (e0.bs b o e).1
  have kinds : ∀ y ∈ ps.zip us, (defScope st).names.lookup y.1 = some .local ∨ ((defScope st).names.lookup y.1 = some .cell ∧ ((cellsFrom (s.heap.objs.size + 1) (defScope st).names []).lookup y.1).isSome = true) := fun y hy => by
    rcases S.par y.1 (List.of_mem_zip hy).1 with q | q
    · exact .inl q
    · exact .inr ⟨q, PySem.W.cellsFrom_some _ _ _ (.inl q)⟩
  refine codeAny_call_function hr.depth (e0.mod.kin.keeps up _ _ lk) rfl S.co S.gen rfl (PySem.W.codeRec_of (e0.mod.kin.keeps up) hcd) (hb _ _ _ _ (wpAny_newFunctionEnv_cells S.kind kinds fun env he s1 x => ?_))
  subst he
  have KN := e0.mod.nolimit.keeps up
  refine ⟨KN.keeps x.toInCall.keep, codeAny_func ?_⟩
  obtain ⟨t, ht, hq⟩ := hbody A outer s H vs Q E hg (hr.deeper _) hsp
  have I := inv_start (CX := CX) (P := P) (w := w) (K := K) (mg := mg) (base := base) (qual := qual) (f := f) (cd := cdv) (E := E) S hr.hd e0 hl rv x
  refine wpAny_mono (ht.nox.run [] s1 _ H _ I hq) (fun fl s' hs => ?_) fun e s' z => z
  match fl, hs with
  | .ret u', hs =>
    obtain ⟨v', σ', H', J, r', q⟩ := hs
    exact ⟨v', H', J.os, J.bare, J.base, J.hok, r', q⟩
  | .next, hs =>
    obtain ⟨σ', H', J, q⟩ := hs
    exact ⟨.non, H', J.os, J.bare, J.base, J.hok, rfl, q⟩
  | .brk, hs =>
    obtain ⟨_, _, _, q⟩ := hs
    exact q.elim
  | .cont, hs =>
    obtain ⟨_, _, _, q⟩ := hs
    exact q.elim
end
end Lp
namespace Lp
open PySem L2 LamX
local macro_rules | `(tactic| walk_at "rd") => `(tactic| simp only [tSeq, tAsg, tYes, tTest, tOp, tCB, tCons, tNil, tVar, tC, rI0, rI, gName, wipe, tDisp, tTru, TruV, tB, tNext, tDGet2, tLock, tDIn, tDNotIn, tOr, tNot, tChain, tAnd, tCont, tUn, rU, tPairs, tRet, tIf, tIfS, tPar, tLst, tTup, tDrop, tDGet, tCall, sDPut, L2.start,
  List.map_cons, List.map_nil, List.foldl_cons, List.foldl_nil, List.length_cons, List.length_nil, List.replicate_succ, List.replicate_zero, List.append_nil, List.cons_append, List.nil_append, List.set_cons_zero, List.set_cons_succ, List.getElem?_cons_zero, List.getElem?_cons_succ,
  Option.some.injEq, List.cons.injEq, V.int.injEq, V.bl.injEq, V.ref.injEq, V.str.injEq, exists_eq_left', exists_eq_left, exists_eq_right, and_true, true_and, exists_and_left, Nat.add_zero, Nat.reduceAdd, Nat.reduceSub, Nat.sub_zero, if_true, if_false])
/-! ### the frame of the letters is small; what stands but for tables stands -/
theorem nfD_eq {n : Nat} {p : Int} {F : Nat → PRow} {D D' : Int → Row} (hp : 0 < p) (O : DOk n F D) (O' : DOk n F D') (off : ∀ k : Int, ¬ (0 ≤ k ∧ k < (2 ^ n : Nat)) → D k = []) (off' : ∀ k : Int, ¬ (0 ≤ k ∧ k < (2 ^ n : Nat)) → D' k = []) :
    (fun k => nfR p (D k)) = fun k => nfR p (D' k) := by
  funext k
  by_cases h : 0 ≤ k ∧ k < (2 ^ n : Nat)
  · obtain ⟨a, rfl⟩ : ∃ a : Nat, k = (a : Int) := ⟨k.toNat, by omega⟩
    have ha : a < 2 ^ n := by omega
    exact nfR_congr hp (O.nd a ha).1 (O'.nd a ha).1 fun j => by rw [O.val a ha, O'.val a ha]
  · rw [off k h, off' k h]
theorem rowL_cases {ls : List (List Int)} (k : Int × Int) : rowL ls k = [] ∨ ((0 ≤ k.1 ∧ k.1 < (ls.length : Int)) ∧ (0 ≤ k.2 ∧ k.2 < (ls.length : Int)) ∧ ∃ (i : Nat) (s : Int), i < ls.length ∧ rowL ls k = [((i : Int), s)]) := by
  unfold rowL
  cases e1 : ls[k.1.toNat]? with
  | none => exact .inl rfl
  | some x =>
    cases e2 : ls[k.2.toNat]? with
    | none => exact .inl rfl
    | some y =>
      have h1 := (List.getElem?_eq_some_iff.mp e1).1
      have h2 := (List.getElem?_eq_some_iff.mp e2).1
      dsimp only
      by_cases c : 0 ≤ k.1 ∧ 0 ≤ k.2 ∧ sortI (x ++ y) ∈ ls
      · rw [if_pos c]
        exact .inr ⟨⟨c.1, by omega⟩, ⟨c.2.1, by omega⟩, _, _, List.idxOf_lt_length_of_mem c.2.2, rfl⟩
      · rw [if_neg c]
        exact .inl rfl
theorem hl_small : ∀ n, n ≤ 5 → ∀ x ∈ hlN n, Sml x
  | 0, _ => (by decide +kernel : ∀ x ∈ hlN 0, x.natAbs ≤ 1000)
  | 1, _ => (by decide +kernel : ∀ x ∈ hlN 1, x.natAbs ≤ 1000)
  | 2, _ => (by decide +kernel : ∀ x ∈ hlN 2, x.natAbs ≤ 1000)
  | 3, _ => (by decide +kernel : ∀ x ∈ hlN 3, x.natAbs ≤ 1000)
  | 4, _ => (by decide +kernel : ∀ x ∈ hlN 4, x.natAbs ≤ 1000)
  | 5, _ => (by decide +kernel : ∀ x ∈ hlN 5, x.natAbs ≤ 1000)
  | n + 6, h => absurd h (by omega)
theorem smallF_of {n : Nat} {p : Int} {F : Nat → PRow} {D : Int → Row} (hn : n ≤ 5) (hp : 0 < p ∧ p ≤ 31) (O : DOk n F D) (off : ∀ k : Int, ¬ (0 ≤ k ∧ k < (2 ^ n : Nat)) → D k = []) (zl : (lotsN n).length = 2 ^ n := (lots_ok hn).len) (zw : ∀ x ∈ hlN n, Sml x := hl_small n hn) :
    SmallF (2 ^ n) p (hlN n) (fun k => nfR p (rowL (lotsN n) k)) (fun k => nfR p (D k)) := by
  refine ⟨pw2 hn, hp, ⟨?_, zw⟩, fun k h => ?_, fun k => ?_, fun k h => ?_, fun k => bel_all hp.1 O off k⟩
  · unfold hlN
    rw [List.length_map, zl]
    exact pw2 hn
  · rcases rowL_cases (ls := lotsN n) k with e | ⟨h1, h2, _⟩
    · have h : nfR p (rowL (lotsN n) k) ≠ [] := h
      rw [e, nfR_nil] at h
      exact absurd rfl h
    · rw [zl] at h1 h2
      exact ⟨h1, h2⟩
  · rcases rowL_cases (ls := lotsN n) k with e | ⟨h1, h2, i, s, hi, e⟩
    · rw [e, nfR_nil]
      exact fun q m => nomatch m
    · rw [e]
      refine bel_nfR hp.1 (by show ([((i : Int), s)].map (·.1)).Nodup; simp) fun q m => ?_
      rw [List.mem_singleton.mp m]
      rw [zl] at hi
      show 0 ≤ (i : Int) ∧ (i : Int) < ((2 ^ n : Nat) : Int)
      omega
  · by_cases g : 0 ≤ k ∧ k < ((2 ^ n : Nat) : Int)
    · exact g
    · have h : nfR p (D k) ≠ [] := h
      rw [off k g, nfR_nil] at h
      exact absurd rfl h
theorem TabOk.ext {H H' : Hp} {P : Addr} {pt : PTab} {S : Int × Int → Row} {p : Int} (t : TabOk H P pt S p) (e : ExtN H H') : TabOk H' P pt S p := ⟨e _ _ t.tab (fun ps z => nomatch z), t.asc, fun q m => ⟨e _ _ (t.row q m).1 (fun ps z => nomatch z), (t.row q m).2⟩, t.can, t.off⟩
theorem ITabOk.ext {H H' : Hp} {P : Addr} {it : ITab} {D : Int → Row} {p : Int} (t : ITabOk H P it D p) (e : ExtN H H') : ITabOk H' P it D p := ⟨e _ _ t.tab (fun ps z => nomatch z), t.asc, fun q m => ⟨e _ _ (t.row q m).1 (fun ps z => nomatch z), (t.row q m).2⟩, t.can, t.off⟩
theorem SkAt.ext {H H' : Hp} {sk : Addr} {p : Int} {hl : List Int} {S : Int × Int → Row} {D : Int → Row} {it : ITab} (k : SkAt H sk p hl S D it) (e : ExtN H H') : SkAt H' sk p hl S D it := by
  obtain ⟨h, P, St, pt, h1, h2, h3, h4⟩ := k.ex
  exact ⟨h, P, St, pt, e _ _ h1 (fun ps z => nomatch z), e _ _ h2 (fun ps z => nomatch z), h3.ext e, h4.ext e⟩
theorem FirstsL.ext {H H' : Hp} {fs : Addr} {n : Nat} {F : Nat → PRow} {ds : List Addr} (f : FirstsL H fs n F ds) (e : ExtN H H') : FirstsL H' fs n F ds := ⟨e _ _ f.at_ (fun ps z => nomatch z), f.len, fun c d h => e _ _ (f.row c d h) (fun ps z => nomatch z), f.ok⟩
end Lp
namespace Lp
open PySem L2
local macro_rules | `(tactic| walk_at "rd") => `(tactic| simp only [tSeq, tAsg, tYes, tTest, tOp, tCB, tCons, tNil, tVar, tC, rI0, rI, gName, wipe, tDisp, tTru, TruV, tB, tNext, tDGet2, tLock, tDIn, tDNotIn, tOr, tNot, tChain, tAnd, tCont, tUn, rU, tPairs, tRet, tIf, tIfS, tPar, tLst, tTup, tDrop, tDGet, tCall, sDPut, L2.start,
  List.map_cons, List.map_nil, List.foldl_cons, List.foldl_nil, List.length_cons, List.length_nil, List.replicate_succ, List.replicate_zero, List.append_nil, List.cons_append, List.nil_append, List.set_cons_zero, List.set_cons_succ, List.getElem?_cons_zero, List.getElem?_cons_succ,
  Option.some.injEq, List.cons.injEq, V.int.injEq, V.bl.injEq, V.ref.injEq, V.str.injEq, exists_eq_left', exists_eq_left, exists_eq_right, and_true, true_and, exists_and_left, Nat.add_zero, Nat.reduceAdd, Nat.reduceSub, Nat.sub_zero, if_true, if_false])
/-! ### the steps of the last frame come to nothing twice -/
/-- the steps of the last frame -/
def F5 (v : Int) : Nat → PRow := fun c => if c = 2 then [((0, 1), 1)] else if c = 3 then [((0, 2), 1)] else if c = 4 then [((0, 3), v)] else []
theorem lin5 (v : Int) (g : Nat → Int × Int → Int) : lin 5 (F5 v) g = g 2 (0, 1) + g 3 (0, 2) + v * g 4 (0, 3) := by
  rw [lin_succ, lin_succ, lin_succ, lin_succ, lin_succ]
  have z : lin 0 (F5 v) g = 0 := by simp [lin]
  rw [z]
  simp [F5, sumD]
def k5 : List (Nat × Nat) := [(2, (pairsN 5).idxOf (0, 1)), (3, (pairsN 5).idxOf (0, 2)), (4, (pairsN 5).idxOf (0, 3))]
def chk5 : Bool := (List.range 32).all fun a => k5.all fun e => decide (uc 5 a e.1 e.2 < 2) || k5.all fun e' => decide (uc 5 (uc 5 a e.1 e.2 / 2 - 1) e'.1 e'.2 < 2)
theorem m5a : (2, (pairsN 5).idxOf (0, 1)) ∈ k5 := List.mem_cons_self
theorem m5b : (3, (pairsN 5).idxOf (0, 2)) ∈ k5 := List.mem_cons_of_mem _ List.mem_cons_self
theorem m5c : (4, (pairsN 5).idxOf (0, 3)) ∈ k5 := List.mem_cons_of_mem _ (List.mem_cons_of_mem _ List.mem_cons_self)
theorem chk5_ok : chk5 = true := by decide +kernel
theorem at5 : (pairsN 5)[(pairsN 5).idxOf (0, 1)]? = some (0, 1) ∧ (pairsN 5)[(pairsN 5).idxOf (0, 2)]? = some (0, 2) ∧ (pairsN 5)[(pairsN 5).idxOf (0, 3)]? = some (0, 3) := by decide +kernel
theorem F5_in (v : Int) : PairsIn 5 (F5 v) := fun c _ e m => by
  have h : (((0 : Int), (1 : Int)) ∈ pairsN 5 ∧ ((0 : Int), (2 : Int)) ∈ pairsN 5) ∧ ((0 : Int), (3 : Int)) ∈ pairsN 5 := by decide +kernel
  unfold F5 at m
  by_cases h2 : c = 2
  · rw [if_pos h2] at m; rw [List.mem_singleton.mp m]; exact h.1.1
  · rw [if_neg h2] at m
    by_cases h3 : c = 3
    · rw [if_pos h3] at m; rw [List.mem_singleton.mp m]; exact h.1.2
    · rw [if_neg h3] at m
      by_cases h4 : c = 4
      · rw [if_pos h4] at m; rw [List.mem_singleton.mp m]; exact h.2
      · rw [if_neg h4] at m; cases m
theorem tw5 (p v : Int) (hp : 0 < p) : Tw p 5 (F5 v) := by
  have L := lots_ok (n := 5) (by decide)
  have P := F5_in v
  have O := D0_ok L P
  intro a ha j
  show (sumW (nfR p (D0 5 (F5 v) a)) fun k => co (nfR p (D0 5 (F5 v) k)) j).fmod p = 0
  rw [fmod_zero hp]
  refine dvd_swap (dvd_sumW (N := 2 ^ 5) hp (O.nd a ha).1 (O.nd a ha).2 (g := fun k => co (D0 5 (F5 v) k) j) fun i hi => dvd_nfR hp (O.nd i hi).1 j) ?_
  rw [sumW_D L P O ha, lin5]
  have row : ∀ c k : Nat, ∀ pr, c < 5 → (c, k) ∈ k5 → (pairsN 5)[k]? = some pr → sumW (Urow (lotsN 5) a (c : Int) pr) (fun k => co (D0 5 (F5 v) k) j) = 0 := fun c k pr hc m hk => by
    rw [L.u a c k pr ha hc hk, sumW_rowC]
    by_cases h : 2 ≤ uc 5 a c k
    · rw [if_pos h]
      have q := List.all_eq_true.mp (all_range chk5_ok ha) (c, k) m
      have q2 : (k5.all fun e' => decide (uc 5 (uc 5 a c k / 2 - 1) e'.1 e'.2 < 2)) = true := by
        rcases Bool.or_eq_true_iff.mp q with z | z
        · exact absurd (of_decide_eq_true z) (by show ¬ uc 5 a c k < 2; omega)
        · exact z
      have hb : uc 5 a c k / 2 - 1 < 2 ^ 5 := L.pu a c k ha hc (List.getElem?_eq_some_iff.mp hk).1
      have z : ∀ e ∈ k5, ∀ pr, e.1 < 5 → (pairsN 5)[e.2]? = some pr → co (Urow (lotsN 5) (uc 5 a c k / 2 - 1) (e.1 : Int) pr) j = 0 := fun e me pr he hk' => by
        rw [L.u _ e.1 e.2 pr hb he hk']
        exact co_lo (by have := of_decide_eq_true (List.all_eq_true.mp q2 e me); omega) j
      have v0 : co (D0 5 (F5 v) ((uc 5 a c k / 2 - 1 : Nat) : Int)) j = 0 := by
        rw [O.val _ hb]
        unfold dl
        rw [lin5]
        have e1 := z _ m5a (0, 1) (by decide) at5.1
        have e2 := z _ m5b (0, 2) (by decide) at5.2.1
        have e3 := z _ m5c (0, 3) (by decide) at5.2.2
        rw [e1, e2, e3]
        simp
      rw [v0, Int.mul_zero]
    · rw [if_neg h]
  have e1 := row 2 _ (0, 1) (by decide) m5a at5.1
  have e2 := row 3 _ (0, 2) (by decide) m5b at5.2.1
  have e3 := row 4 _ (0, 3) (by decide) m5c at5.2.2
  rw [e1, e2, e3]
  simp
end Lp
namespace Lp
open PySem PySem.Spec PySem.Calls PyProof.Rows L2 LamX
local macro_rules | `(tactic| walk_at "rd") => `(tactic| simp only [tSeq, tAsg, tYes, tTest, tOp, tCB, tCons, tNil, tVar, tC, rI0, rI, gName, wipe, tDisp, tTru, TruV, tB, tNext, tDGet2, tLock, tDIn, tDNotIn, tOr, tNot, tChain, tAnd, tCont, tUn, rU, tPairs, tRet, tIf, tIfS, tPar, tLst, tTup, tDrop, tDGet, tCall, sDPut, L2.start,
  List.map_cons, List.map_nil, List.foldl_cons, List.foldl_nil, List.length_cons, List.length_nil, List.replicate_succ, List.replicate_zero, List.append_nil, List.cons_append, List.nil_append, List.set_cons_zero, List.set_cons_succ, List.getElem?_cons_zero, List.getElem?_cons_succ,
  Option.some.injEq, List.cons.injEq, V.int.injEq, V.bl.injEq, V.ref.injEq, V.str.injEq, exists_eq_left', exists_eq_left, exists_eq_right, and_true, true_and, exists_and_left, Nat.add_zero, Nat.reduceAdd, Nat.reduceSub, Nat.sub_zero, if_true, if_false])
section
variable {X : Cx} {CX : CXT} {k : Nat} {f : Addr} {fd : FuncData} {ps ks : List Str} {sp : Sp} {x : Str} {p pos : Pos} {kws : List Keyword} {tk : TA} {E : XK} {g : List Value → List Value → List Value} {gV : List V → List V → List V}
/-- f(k = v, ..) -/
theorem pe_callK0 (F : FnOk X.prog X.w X.K X.mg X.base CX k f fd ps sp) (hr : Room k X.A) (hg : Gl X x) (hm : X.mg x = some (.ref f)) (hk : PySem.W.keepIn X.K (.ref f) = true) (hb : KBinds X.K fd ps ks g gV) (hx : Passes CX X E) (hkw : PK X kws tk)
    (hall : (backToKw pos (keywordEach kws X.env)).all (·.1.isSome) = true := by rfl) (hks : (backToKw pos (keywordEach kws X.env)).filterMap (·.1) = ks := by rfl) (hdb : (x == ("__debug__" : Str)) = false := by decide)
    (hpl : ((backTo pos (starEach [] X.env)).any (·.1) || (backToKw pos (keywordEach kws X.env)).any (·.1.isNone)) = false := by rfl) : PE X (.Call (.Name x p) [] kws pos) (fun σ H Q => tk σ H fun zs H2 => sp (gV [] zs) H2 Q E) := by
  refine ⟨fun pins s σ H Q I h => ?_⟩
  refine wpAny_Call_Name_kw (ld_glob I hg hm ?_ hdb)
  refine PySem.W.callWith_KW0 (h₀ := X.base) I.ok.mod.kin hk hall (thn (hkw.run pos pins s σ H _ I h) fun ws s2 ⟨zs, H2, I2, rz, q2⟩ => ⟨I2.kIn, ?_⟩) hpl
  rw [hks]
  exact run_fnk F hr hb hx I2 .nil rz q2
end
/-- only keywords, the last parameter first -/
def gRev {α : Type} : List α → List α → List α
  | [], ws => ws.reverse
  | _, _ => []
abbrev sLaw : Stmt := top 62
abbrev nLaw : List Str := ["script", "draw", "turn", "field", "letters_here", "steps_here", "due", "some", "caught"]
def spLaw (K : PySem.W.Frag) (T : List (Addr × Str)) : Sp := fun vs H Q _ => ∃ (a : Addr) (ns : List Int), vs = [.ref a] ∧ SqL K H a (ns.map V.int) ∧ ns.length ≤ 63 ∧ Tabs T H ∧ ∀ H', Q (.bl true) H'
section
variable {P : Program} {w : World} {K : PySem.W.Frag} {mg : Str → Option Value} {base : Heap}
theorem F5_ok {v : Int} (hv : v.natAbs ≤ 100) : ∀ c, c < 5 → PrOk 5 5 10 (F5 v c)
  | 0, _ => PrOk.nil _ _ _
  | 1, _ => PrOk.nil _ _ _
  | 2, _ => ⟨by show ([((0, 1), (1 : Int))].map (·.1) : List (Int × Int)).Nodup; simp, fun e m => by rw [List.mem_singleton.mp m]; exact pair_mem 5 (by decide) 1 (by decide) 0 (by decide), fun e m => by rw [List.mem_singleton.mp m]; decide, by show 1 ≤ 10; decide⟩
  | 3, _ => ⟨by show ([((0, 2), (1 : Int))].map (·.1) : List (Int × Int)).Nodup; simp, fun e m => by rw [List.mem_singleton.mp m]; exact pair_mem 5 (by decide) 2 (by decide) 0 (by decide), fun e m => by rw [List.mem_singleton.mp m]; decide, by show 1 ≤ 10; decide⟩
  | 4, _ => ⟨by show ([((0, 3), (v : Int))].map (·.1) : List (Int × Int)).Nodup; simp, fun e m => by rw [List.mem_singleton.mp m]; exact pair_mem 5 (by decide) 3 (by decide) 0 (by decide), fun e m => by rw [List.mem_singleton.mp m]; exact hv, by show 1 ≤ 10; decide⟩
  | n + 5, h => absurd h (by omega)
theorem go_name {i : Nat} {v : V} {σ : L2.St} {H : Hp} {Q : L2.St → Hp → Prop} (h : Q (σ.set i (some v)) H) : gName i v σ H Q := h
theorem scLaw : FnScope nLaw ["script"] (defScope sLaw) := ⟨rfl, rfl, rfl, by decide +kernel, rfl, by decide +kernel, by decide +kernel⟩
theorem ok_law {f fT fI CS : Addr} {fd dT dI : FuncData} {T : List (Addr × Str)} {c : TurnC} (F : Fun K "law" "law" sLaw f fd) (LH : LamHome base mg T ("law" ++ ".<locals>.") fd.code) (CO : CaughtOk K mg CS)
    (BG : Df P w K mg base CX0 1 "_law_begun" ["script"] (spBegun K)) (FI : Df P w K mg base CX0 4 "_law_field" ["draw"] spField) (PK : Df P w K mg base CX0 3 "_law_pick" ["draw", "some"] spPick) (TK : Df P w K mg base CX0 2 "_law_take" ["draw", "amount"] spTake)
    (LS : Df P w K mg base CX0 5 "_law_letter_steps" ["draw", "field", "letters_here"] spLet) (AS : Df P w K mg base CX0 3 "_law_any_steps" ["draw", "field", "letters_here"] spAny) (TO : Df P w K mg base CX0 4 "_law_turning_of" ["field", "letters_here", "steps_here"] spTof)
    (TW : Df P w K mg base CX0 4 "_law_is_twice_nothing" ["sketch"] spTwice) (RF : Df P w K mg base CX0 11 "_law_refused" ["draw", "field"] (spRef T))
    (TF : FnOk P w K mg base (L2.CX P w) 8 fT dT ["prime", "letters", "steps"] (spTurn K T c)) (gT : mg "turning_frame" = some (.ref fT)) (kT : PySem.W.keepIn K (.ref fT) = true) (bT : Binds K dT ["prime", "letters", "steps"] []) (bK : KBinds K dT ["prime", "letters", "steps"] ["steps", "letters", "prime"] gRev gRev)
    (IF : FnG P w K mg base CX0 1 fI dI ["thing", "sketch"] (spIsFr c.C)) (gI : mg "_law_is_frame" = some (.ref fI)) (kI : PySem.W.keepIn K (.ref fI) = true) (bI : Binds K dI ["thing", "sketch"] [])
    (mF : mg "BadFrame" = some (.ref c.CF)) (EF : ErrK K CS c.CF) (PF : PartK K c.CF) (mI : mg "isinstance" = none) (mRange : mg "range" = none) (mMin : mg "min" = none) (mLen : mg "len" = none) (mTup : mg "tuple" = none) : FnG P w K mg base CX0 12 f fd ["script"] (spLaw K T) := by
  refine okCG F scLaw (fun vs H Q E h => ?_) (fun A outer s H vs Q E gd hr h => ?_)
  · obtain ⟨a, ns, rfl, _⟩ := h
    rfl
  · obtain ⟨a, ns, rfl, ha, hz, hT, k⟩ := h
    have hu := hu_of hr
    have hu1 : (A.deeper (PyProof.Rows.envOfC "law" (defScope sLaw) s.heap.objs.size f fd.code)).units + 1 < cLine := by
      have := hr.units
      omega
    refine ⟨_, pss_cons (ps_set (i := 1) scLaw.nd rfl (Or.inl rfl) (pe_df BG (hr.mono (by decide)) (by rfl) pass0 (pa_cons (pv 0) pa_nil)))
      (pss_cons (ps_for PassesOwn.never rfl (pi_range1 (by rfl) mRange (pa_cons (pe_op op_add pe_int (pe_callB (call_min2 rfl) (by rfl) mMin (by decide +kernel) (pa_cons (pe_callB (call_lenK (K := K) rfl) (by rfl) mLen PySem.boot_len (pa_cons (pv 0) pa_nil)) (pa_cons pe_int pa_nil)))) pa_nil)) (pg_name (i := 2) scLaw.nd rfl (Or.inl rfl))
        (pss_cons (ps_asg (pe_tup (pa_cons (pe_df FI (hr.mono (by decide)) (by rfl) pass0 (pa_cons (pv 1) pa_nil)) (pa_cons (pe_df PK (hr.mono (by decide)) (by rfl) pass0 (pa_cons (pv 1) (pa_cons (pe_lst (pa_cons pe_int (pa_cons pe_int (pa_cons pe_int (pa_cons pe_int (pa_cons pe_int (pa_cons pe_int pa_nil))))))) pa_nil))) pa_nil))) (pg_tup rfl (pgs_cons (pg_name (i := 3) scLaw.nd rfl (Or.inr rfl)) (pgs_cons (pg_name (i := 4) scLaw.nd rfl (Or.inr rfl)) pgs_nil))))
        (pss_cons (ps_set (i := 5) scLaw.nd rfl (Or.inl rfl) (pe_df LS (hr.mono (by decide)) (by rfl) pass0 (pa_cons (pv 1) (pa_cons (pv 3) (pa_cons (pv 4) pa_nil)))))
        (pss_cons (ps_set (i := 6) scLaw.nd rfl (Or.inl rfl) (pe_df TO (hr.mono (by decide)) (by rfl) pass0 (pa_cons (pv 3) (pa_cons (pv 4) (pa_cons (pv 5) pa_nil)))))
        (pss_cons (ps_if (pt_not (pt_val (pe_callG IF gd (hr.mono (by decide)) (by rfl) gI kI bI pass0 (pa_cons (pe_call TF (hr.mono (by decide)) (by rfl) gT kT bT .nil passL (pa_cons (pv 3) (pa_cons (pv 4) (pa_cons (pv 5) pa_nil)))) (pa_cons (pv 6) pa_nil))))) (pss_one (ps_ret pe_bl)) pss_nil)
        (pss_cons (ps_if (pt_not (pt_val (pe_callG IF gd (hr.mono (by decide)) (by rfl) gI kI bI pass0 (pa_cons (pe_callK0 TF (hr.mono (by decide)) (by rfl) gT kT bK passL (pk_cons (pe_callTy call_tuple_of (by rfl) mTup (by decide +kernel) (pa_cons (pv 5) pa_nil)) (pk_cons (pv 4) (pk_cons (pv 3) pk_nil)))) (pa_cons (pv 6) pa_nil))))) (pss_one (ps_ret pe_bl)) pss_nil)
        (pss_cons (ps_set (i := 7) scLaw.nd rfl (Or.inr rfl) (pe_df AS (hr.mono (by decide)) (by rfl) pass0 (pa_cons (pv 1) (pa_cons (pv 3) (pa_cons (pv 4) pa_nil)))))
        (pss_cons (ps_set (i := 6) scLaw.nd rfl (Or.inl rfl) (pe_df TO (hr.mono (by decide)) (by rfl) pass0 (pa_cons (pv 3) (pa_cons (pv 4) (pa_cons (pv 7) pa_nil)))))
        (pss_cons (ps_set (i := 8) scLaw.nd rfl (Or.inl rfl) (pe_caught (k := 8) (T := T) CO LH (by rfl) (hr.mono (by decide)) (sc := defScope sLaw) rfl (by decide +kernel) rfl (fun _ _ _ _ _ => rfl) (fun A2 outer2 s2 H2 E2 f2 c2 hr2 => pe_call TF hr2 (by rfl) gT kT bT .nil (passX (takes_of rfl rfl rfl rfl)) (pa_cons (pv 3) (pa_cons (pv 4) (pa_cons (pv 7) pa_nil))))))
        (pss_cons (ps_if (pt_val (pe_df TW (hr.mono (by decide)) (by rfl) pass0 (pa_cons (pv 6) pa_nil)))
          (pss_one (ps_if (PW.pt (pw_or (pt_cmpR op_notN (pv 8) pe_non (nomark _)) (pw_or1 (pt_not (pt_val (pe_callG IF gd (hr.mono (by decide)) (by rfl) gI kI bI pass0 (pa_cons (pe_call TF (hr.mono (by decide)) (by rfl) gT kT bT .nil passL (pa_cons (pv 3) (pa_cons (pv 4) (pa_cons (pv 7) pa_nil)))) (pa_cons (pv 6) pa_nil)))))))) (pss_one (ps_ret pe_bl)) pss_nil))
          (pss_one (ps_if (PW.pt (pw_or (pt_not (pt_val (pe_callB call_isErr (by rfl) mI (by decide +kernel) (pa_cons (pv 8) (pa_cons (C8.pe_gc (v := .ref c.CF) (by rfl) ⟨_, mF, rfl⟩) pa_nil)))))
            (pw_or1 (pt_cmpR op_ne (pe_errF (pv 8)) pe_str (nomark _))))) (pss_one (ps_ret pe_bl)) pss_nil)))
        (pss_one (ps_if (pt_not (pt_val (pe_df RF (hr.mono (by decide)) (by rfl) pass0 (pa_cons (pv 1) (pa_cons (pv 3) pa_nil))))) (pss_one (ps_ret pe_bl)) pss_nil))))))))))))
      (pss_cons (ps_if (pt_cmpR op_gt (pe_df TK (hr.mono (by decide)) (by rfl) pass0 (pa_cons (pv 1) (pa_cons pe_int pa_nil))) pe_int (nomark _)) (pss_one (ps_ret pe_bl)) pss_nil)
      (pss_cons (ps_set (i := 3) scLaw.nd rfl (Or.inr rfl) (pe_df FI (hr.mono (by decide)) (by rfl) pass0 (pa_cons (pv 1) pa_nil)))
      (pss_cons (ps_set (i := 5) scLaw.nd rfl (Or.inl rfl) (pe_lst (pa_cons pe_dnewT (pa_cons pe_dnewT (pa_cons (pe_disp1 true hu1 (pe_tup (pa_cons pe_int (pa_cons pe_int pa_nil))) pe_int) (pa_cons (pe_disp1 true hu1 (pe_tup (pa_cons pe_int (pa_cons pe_int pa_nil))) pe_int)
          (pa_cons (pe_disp1 true hu1 (pe_tup (pa_cons pe_int (pa_cons pe_int pa_nil))) (pe_df TK (hr.mono (by decide)) (by rfl) pass0 (pa_cons (pv 1) (pa_cons (pv 3) pa_nil)))) pa_nil)))))))
      (pss_one (ps_ret (pe_callG IF gd (hr.mono (by decide)) (by rfl) gI kI bI pass0 (pa_cons (pe_call TF (hr.mono (by decide)) (by rfl) gT kT bT .nil passL (pa_cons (pv 3) (pa_cons pe_int (pa_cons (pv 5) pa_nil)))) (pa_cons (pe_df TO (hr.mono (by decide)) (by rfl) pass0 (pa_cons (pv 3) (pa_cons pe_int (pa_cons (pv 5) pa_nil)))) pa_nil))))))))), ?_⟩
    refine ⟨_, rfl, a, ns, rfl, ha, hz, fun H1 d l c' D1 s1 nd nl nc => ?_⟩
    have T1 : Tabs T H1 := hT.ext s1
    refine ⟨_, rfl, a, _, rfl, .inl (ha.elim (fun r => .inl (r.elim (fun h => .inl (s1 _ _ h)) fun ⟨o, h⟩ => .inr ⟨o, s1 _ _ h⟩)) fun h => .inr h), _, _, rfl, 1, _, rfl, rfl, _, rfl, ?_, ?_, ?_⟩
    · split <;> omega
    · rw [List.length_map]
      split <;> omega
    refine for_it (walk_range (lo := 0) (n := (1 + (if (2 : Int) < (((ns.map V.int).length : Nat) : Int) then 2 else (((ns.map V.int).length : Nat) : Int))).toNat)) (fun i σ H' => ∃ v2 v3 v4 v5 v6 v7 v8, σ = [some (.ref a), some (.ref d), v2, v3, v4, v5, v6, v7, v8] ∧ DrawIn H' d l c' ∧ Tabs T H') ?_ (fun _ _ _ _ _ => trivial) ?_ ?_
    · exact ⟨none, none, none, none, none, none, none, rfl, D1, T1⟩
    · rintro i x σ H2 H2' hi ⟨v2, v3, v4, v5, v6, v7, v8, rfl, D2, T2⟩ ⟨rfl, rfl⟩
      show gName 2 _ _ _ _
      refine ⟨_, rfl, d, l, c', rfl, D2, fun H3 p hp D3 b3 => ?_⟩
      refine ⟨_, rfl, by show 6 ≤ sizeLine; decide, fun p0 np0 => ?_⟩
      have s3 : Same H3 (upd H3 p0 (.lst [V.int 3, .int 4, .int 2, .int 1, .int 0, .int 3])) := same_new np0
      obtain ⟨ns3, hl3, _⟩ := D3.ll
      refine ⟨d, l, c', p0, _, rfl, D3.same s3, upd_same, Ne.symm (ne_of_none hl3 np0), ⟨by show 0 < 6; decide, by show 6 < 2 ^ 30; decide⟩, fun H4 xn mx D4 b4 => ?_⟩
      have T4 : Tabs T H4 := tabs_but ((tabs_but T2 D2 b3).ext s3) (D3.same s3) b4
      obtain ⟨n, hn, rfl⟩ : ∃ n : Nat, n ≤ 4 ∧ xn = .int n := by
        simp only [List.mem_cons, List.mem_nil_iff, or_false] at mx
        rcases mx with rfl | rfl | rfl | rfl | rfl | rfl
        · exact ⟨3, by decide, rfl⟩
        · exact ⟨4, by decide, rfl⟩
        · exact ⟨2, by decide, rfl⟩
        · exact ⟨1, by decide, rfl⟩
        · exact ⟨0, by decide, rfl⟩
        · exact ⟨3, by decide, rfl⟩
      have hpb := prime_bd hp
      refine ⟨by show 2 ≤ sizeLine; decide, fun t nt => ⟨t, _, rfl, SqT.of upd_same, rfl, ?_⟩⟩
      have s4 : Same H4 (upd H4 t (.tup [V.int p, .int n])) := same_new nt
      generalize eH5 : upd H4 t (.tup [V.int p, .int n]) = H5 at s4
      have D5 := D4.same s4
      have T5 : Tabs T H5 := T4.ext s4
      refine ⟨_, _, rfl, _, _, rfl, rfl, ?_⟩
      refine ⟨_, rfl, _, rfl, _, rfl, d, l, c', p, n, rfl, D5, by omega, hpb, fun H6 fs F ds D6 b6 nfl FL tw => ?_⟩
      have T6 : Tabs T H6 := tabs_but T5 D5 b6
      show gName 5 _ _ _ _
      refine ⟨_, rfl, _, rfl, _, rfl, fs, p, n, F, rfl, by omega, hpb, FL.to, fun H7 sk it D s7 nsk SK O off ks => ?_⟩
      show gName 6 _ _ _ _
      have FL7 := FL.inn s7
      have T7 : Tabs T H7 := T6.ext s7
      have D7 := D6.same s7
      refine ⟨_, rfl, _, rfl, _, rfl, .int p, _, .int n, _, .ref fs, "list", rfl, KindV.int p, KindV.int n, ⟨.base (.lst FL7.at_), by decide⟩, T7, .inr (.inr (.inr ⟨p, n, F, fs, rfl, hp, rfl, by omega, rfl, rfl, FL7.to, fun _ H8 x D' e8 T8 nx O' off' FA => ?_, fun h => absurd tw h⟩))⟩
      have eD := nfD_eq hpb.1 O' O off' off
      rw [eD] at FA
      have SM := smallF_of (F := F) (by omega) hpb O off
      refine ⟨_, rfl, x, sk, 2 ^ n, p, hlN n, _, _, it, rfl, FA, SK.ext e8, SM, fun H9 s9 => ⟨_, rfl, iteF ?_⟩⟩
      have e9 := e8.trans (ExtN.same s9)
      have FL9 := FL7.ext e9
      have T9 : Tabs T H9 := T8.ext s9
      have D9 := D7.extN e9
      have SK9 := SK.ext e9
      refine ⟨_, rfl, fs, _, rfl, .inl ⟨SqL.of FL9.at_, fun q nq => ?_⟩⟩
      have sq : Same H9 (upd H9 q (.tup (ds.map V.ref))) := same_new nq
      have FQ : FirstsAt (upd H9 q (.tup (ds.map V.ref))) q n F := ⟨⟨ds, .inr upd_same, FL9.len, fun c d e => sq _ _ (FL9.row c d e)⟩, FL9.to.nd, FL9.to.mem, FL9.to.sm⟩
      refine ⟨_, rfl, _, rfl, .int p, _, .int n, _, .ref q, "tuple", rfl, KindV.int p, KindV.int n, KindV.tup upd_same, T9.ext sq, .inr (.inr (.inr ⟨p, n, F, q, rfl, hp, rfl, by omega, rfl, rfl, FQ, fun _ H10 x2 D2' e10 T10 nx2 O2 off2 FA2 => ?_, fun h => absurd tw h⟩))⟩
      rw [nfD_eq hpb.1 O2 O off2 off] at FA2
      refine ⟨_, rfl, x2, sk, 2 ^ n, p, hlN n, _, _, it, rfl, FA2, (SK9.same sq).ext e10, SM, fun H11 s11 => ⟨_, rfl, iteF ?_⟩⟩
      have T11 : Tabs T H11 := T10.ext s11
      have D11 : DrawIn H11 d l c' := ((D9.same sq).extN e10).same s11
      refine ⟨_, rfl, _, rfl, _, rfl, d, l, c', p, n, rfl, D11, by omega, hpb, fun H12 fs2 F2 ds2 D12 b12 nfl2 FL12 => ?_⟩
      show gName 7 _ _ _ _
      have T12 : Tabs T H12 := tabs_but T11 D11 b12
      refine ⟨_, rfl, _, rfl, _, rfl, fs2, p, n, F2, rfl, by omega, hpb, FL12.to, fun H13 sk2 it2 DD s13 nsk2 SK2 OO oof kks => ?_⟩
      show gName 6 _ _ _ _
      refine ⟨T12.ext s13, fun H14 e14 T14 => ?_⟩
      have D14 : DrawIn H14 d l c' := (D12.same s13).extN e14
      have FL14 := (FL12.inn s13).ext e14
      have SK14 := SK2.ext e14
      have SM2 := smallF_of (F := F2) (by omega) hpb OO oof
      refine ⟨_, rfl, _, rfl, _, rfl, .int p, _, .int n, _, .ref fs2, "list", rfl, KindV.int p, KindV.int n, ⟨.base (.lst FL14.at_), by decide⟩, T14, .inr (.inr (.inr ⟨p, n, F2, fs2, rfl, hp, rfl, by omega, rfl, rfl, FL14.to, fun htw H15 x3 D3' e15 T15 nx3 O3 off3 FA3 => ?_, fun htw dd H15 e15 T15 nd0 hd => ⟨true, EF.exm, fun _ aa na => ?_, fun z => nomatch z⟩⟩))⟩
      · refine ⟨_, rfl, ?_⟩
        have SK15 := SK14.ext e15
        obtain ⟨h', P', St, pt, k1, k2, k3, k4⟩ := SK15.ex
        refine ⟨_, rfl, sk2, h', P', St, it2, _, p, 2 ^ n, rfl, k1, k4, bel_all hpb.1 OO oof, Nat.le_trans (pw2 (by omega)) (by decide), ⟨it_few k4 (by omega) kks, kks⟩, hpb, fun H16 b s16 hb => ⟨b, rfl, ?_⟩⟩
        obtain rfl : b = true := hb.mpr ((tw_iff hpb.1 (lots_ok (by omega)) FL14.to.mem OO).mpr htw)
        refine iteT ⟨_, rfl, rfl, _, rfl, ?_⟩
        rw [show (!decide (V.non = V.non)) = false from rfl]
        refine iteF ?_
        have D16 : DrawIn H16 d l c' := (D14.extN e15).same s16
        have FL16 := (FL14.ext e15).inn s16
        refine ⟨_, rfl, _, rfl, _, rfl, .int p, _, .int n, _, .ref fs2, "list", rfl, KindV.int p, KindV.int n, ⟨.base (.lst FL16.at_), by decide⟩, T15.ext s16, .inr (.inr (.inr ⟨p, n, F2, fs2, rfl, hp, rfl, by omega, rfl, rfl, FL16.to, fun _ H17 x4 D4' e17 T17 nx4 O4 off4 FA4 => ?_, fun h => absurd htw h⟩))⟩
        rw [nfD_eq hpb.1 O4 OO off4 oof] at FA4
        refine ⟨_, rfl, x4, sk2, 2 ^ n, p, hlN n, _, _, it2, rfl, FA4, (SK15.same s16).ext e17, SM2, fun H18 s18 => ⟨_, rfl, iteF ?_⟩⟩
        exact ⟨_, rfl, _, rfl, d, l, c', p, rfl, (D16.extN e17).same s18, hp, T17.ext s18, fun H19 D19 b19 T19 => ⟨_, rfl, iteF ⟨_, _, _, _, _, _, _, rfl, D19, T19⟩⟩⟩
      · have D15 : DrawIn (upd H15 aa (ErrO (.ref c.CF) (some dd) aa)) d l c' := (D14.extN e15).same (same_new na)
        have T16 : Tabs T (upd H15 aa (ErrO (.ref c.CF) (some dd) aa)) := T15.ext fun b o z => same_new na _ _ z
        have SK16 := (SK14.ext e15).same (same_new (o := ErrO (.ref c.CF) (some dd) aa) na)
        have er : ErrIs (upd H15 aa (ErrO (.ref c.CF) (some dd) aa)) aa c.CF [("part", .str "twice")] := .inr ⟨dd, upd_same, by rw [upd_ne (ne_of_none hd na)]; exact hd⟩
        generalize eH : upd H15 aa (ErrO (.ref c.CF) (some dd) aa) = H16 at D15 T16 SK16 er ⊢
        show gName 8 _ _ _ _
        obtain ⟨h', P', St, pt, k1, k2, k3, k4⟩ := SK16.ex
        refine ⟨_, rfl, sk2, h', P', St, it2, _, p, 2 ^ n, rfl, k1, k4, bel_all hpb.1 OO oof, Nat.le_trans (pw2 (by omega)) (by decide), ⟨it_few k4 (by omega) kks, kks⟩, hpb, fun H17 b s17 hb => ⟨b, rfl, ?_⟩⟩
        obtain rfl : b = false := by
          cases b with
          | false => rfl
          | true => exact absurd ((tw_iff hpb.1 (lots_ok (by omega)) FL14.to.mem OO).mp (hb.mp rfl)) htw
        have er2 : ErrIs H17 aa c.CF [("part", .str "twice")] := er.elim (fun z => absurd z.1 (by simp)) fun ⟨dd, h1, h2⟩ => .inr ⟨dd, s17 _ _ h1, s17 _ _ h2⟩
        refine iteF ⟨_, rfl, aa, c.CF, _, .ref c.CF, _, true, rfl, er2, EF.exc, .own _, EF.own, _, rfl, iteF ?_⟩
        refine ⟨_, rfl, aa, c.CF, _, _, rfl, er2, PF.xf, PF.no, rfl, rfl, _, rfl, ?_⟩
        rw [show (!decide (V.str "twice" = V.str "twice")) = false from by rw [decide_eq_true rfl]; rfl]
        refine iteF ?_
        exact ⟨_, rfl, _, rfl, d, l, c', p, rfl, D15.same s17, hp, T16.ext s17, fun H19 D19 b19 T19 => ⟨_, rfl, iteF ⟨_, _, _, _, _, _, _, rfl, D19, T19⟩⟩⟩
    · rintro σ H2 ⟨v2, v3, v4, v5, v6, v7, v8, rfl, D2, T2⟩
      refine ⟨_, rfl, d, l, c', 6, rfl, D2, ⟨by decide, by decide⟩, fun H3 z hz3 D3 b3 => ⟨_, _, rfl, rfl, _, rfl, ite2 (fun _ => k H3) fun _ => ?_⟩⟩
      have T3 := tabs_but T2 D2 b3
      refine ⟨_, rfl, d, l, c', rfl, D3, fun H4 p hp D4 b4 => ?_⟩
      have T4 := tabs_but T3 D3 b4
      have hpb := prime_bd hp
      refine go_name ?_
      dsimp only
      refine go_asg ?_
      intro A0 nA0 A1 nA1 A2 nA2
      refine ⟨by show 2 ≤ sizeLine; decide, fun q2 nq2 => ⟨_, _, rfl, _, DPut.t (k := kP (0, 1)) ((same_new nq2) _ _ upd_same) upd_same (by show 0 < sizeLine; decide), ?_⟩⟩
      have t0 : Same H4 (upd H4 A0 (.dT [])) := same_new nA0
      have t1 : Same _ (upd (upd H4 A0 (.dT [])) A1 (.dT [])) := same_new nA1
      have e2 : ∀ o, Same (upd (upd H4 A0 (.dT [])) A1 (.dT [])) (upd (upd (upd (upd (upd H4 A0 (.dT [])) A1 (.dT [])) A2 (dNew true)) q2 (.tup [V.int 0, .int 1])) A2 o) := fun o => same_upd ((same_new (o := dNew true) nA2).trans (same_new (o := .tup [V.int 0, .int 1]) nq2)) nA2
      have w2 := e2 (.dT (putK [] (kP (0, 1)) (.int 1)))
      have g2 : (upd (upd (upd (upd (upd H4 A0 (.dT [])) A1 (.dT [])) A2 (dNew true)) q2 (.tup [V.int 0, .int 1])) A2 (.dT (putK [] (kP (0, 1)) (.int 1)))) A2 = some (.dT (pK [((0, 1), 1)])) := upd_same
      generalize upd (upd (upd (upd (upd H4 A0 (.dT [])) A1 (.dT [])) A2 (dNew true)) q2 (.tup [V.int 0, .int 1])) A2 (.dT (putK [] (kP (0, 1)) (.int 1))) = Ha at w2 g2 ⊢
      intro A3 nA3
      refine ⟨by show 2 ≤ sizeLine; decide, fun q3 nq3 => ⟨_, _, rfl, _, DPut.t (k := kP (0, 2)) ((same_new nq3) _ _ upd_same) upd_same (by show 0 < sizeLine; decide), ?_⟩⟩
      have w3 : Same Ha (upd (upd (upd Ha A3 (dNew true)) q3 (.tup [V.int 0, .int 2])) A3 (.dT (putK [] (kP (0, 2)) (.int 1)))) := same_upd ((same_new (o := dNew true) nA3).trans (same_new (o := .tup [V.int 0, .int 2]) nq3)) nA3
      have g3 : (upd (upd (upd Ha A3 (dNew true)) q3 (.tup [V.int 0, .int 2])) A3 (.dT (putK [] (kP (0, 2)) (.int 1)))) A3 = some (.dT (pK [((0, 2), 1)])) := upd_same
      generalize upd (upd (upd Ha A3 (dNew true)) q3 (.tup [V.int 0, .int 2])) A3 (.dT (putK [] (kP (0, 2)) (.int 1))) = Hb at w3 g3 ⊢
      have sb : Same H4 Hb := ((t0.trans t1).trans w2).trans w3
      have Db := D4.same sb
      have r0 : Hb A0 = some (.dT (pK [])) := w3 _ _ (w2 _ _ (t1 _ _ upd_same))
      have r1 : Hb A1 = some (.dT (pK [])) := w3 _ _ (w2 _ _ upd_same)
      have r2 := w3 _ _ g2
      have Tb : Tabs T Hb := T4.ext sb
      intro A4 nA4
      refine ⟨by show 2 ≤ sizeLine; decide, fun q4 nq4 => ?_⟩
      have u1 : Same Hb (upd Hb A4 (dNew true)) := same_new nA4
      have u2 : Same Hb (upd (upd Hb A4 (dNew true)) q4 (.tup [V.int 0, .int 3])) := u1.trans (same_new nq4)
      have hA4 : (upd (upd Hb A4 (dNew true)) q4 (.tup [V.int 0, .int 3])) A4 = some (.dT []) := (same_new nq4) _ _ upd_same
      have Du := Db.same u2
      refine ⟨_, rfl, _, rfl, d, l, c', p, rfl, Du, ⟨hpb.1, by omega⟩, fun Hc v hv Dc bc => ?_⟩
      obtain ⟨rd, td, hdU⟩ := Du.dd
      obtain ⟨nl3, hlU, _⟩ := Du.ll
      have hA4c : Hc A4 = some (.dT []) := bc _ _ hA4 (Du.ne_dT hA4).1 (Du.ne_dT hA4).2
      have hq4c : Hc q4 = some (.tup [V.int 0, .int 3]) := bc _ _ upd_same (ne_of upd_same hdU fun z => nomatch z) (ne_of upd_same hlU fun z => nomatch z)
      refine ⟨_, _, rfl, _, DPut.t (k := kP (0, 3)) hA4c hq4c (by show 0 < sizeLine; decide), ?_⟩
      refine ⟨by show 5 ≤ sizeLine; decide, fun p5 np5 => ?_⟩
      have B : But d l Hb (upd (upd Hc A4 (.dT (putK [] (kP (0, 3)) (.int v)))) p5 (.lst [V.ref A0, .ref A1, .ref A2, .ref A3, .ref A4])) := (((But.of u2).trans bc).at nA4).new np5
      have g4 : (upd (upd Hc A4 (.dT (putK [] (kP (0, 3)) (.int v)))) p5 (.lst [V.ref A0, .ref A1, .ref A2, .ref A3, .ref A4])) A4 = some (.dT (pK [((0, 3), v)])) := (same_new np5) _ _ upd_same
      have De : DrawIn (upd (upd Hc A4 (.dT (putK [] (kP (0, 3)) (.int v)))) p5 (.lst [V.ref A0, .ref A1, .ref A2, .ref A3, .ref A4])) d l c' := (Dc.updT hA4c).same (same_new np5)
      have gp : (upd (upd Hc A4 (.dT (putK [] (kP (0, 3)) (.int v)))) p5 (.lst [V.ref A0, .ref A1, .ref A2, .ref A3, .ref A4])) p5 = some (.lst ([A0, A1, A2, A3, A4].map V.ref)) := upd_same
      generalize upd (upd Hc A4 (.dT (putK [] (kP (0, 3)) (.int v)))) p5 (.lst [V.ref A0, .ref A1, .ref A2, .ref A3, .ref A4]) = He at B g4 De gp ⊢
      have Te : Tabs T He := tabs_but Tb Db B
      have pu : ∀ {A : Addr} {kvs : List (List Key × V)}, Hb A = some (.dT kvs) → He A = some (.dT kvs) := fun {A kvs} h => B _ _ h (Db.ne_dT h).1 (Db.ne_dT h).2
      have row : ∀ (c : Nat) x, [A0, A1, A2, A3, A4][c]? = some x → He x = some (.dT (pK (F5 v c))) := fun c x e => by
        match c, e with
        | 0, e => cases e; exact pu r0
        | 1, e => cases e; exact pu r1
        | 2, e => cases e; exact pu r2
        | 3, e => cases e; exact pu g3
        | 4, e => cases e; exact g4
        | c + 5, e => cases e
      have FL : FirstsL He p5 5 (F5 v) [A0, A1, A2, A3, A4] := ⟨gp, rfl, row, F5_ok (by omega)⟩
      have tw := tw5 p v hpb.1
      refine go_name ?_
      refine ⟨_, rfl, _, rfl, .int p, _, .int 5, _, .ref p5, "list", rfl, KindV.int p, KindV.int 5, ⟨.base (.lst FL.at_), by decide⟩, Te, .inr (.inr (.inr ⟨p, 5, F5 v, p5, rfl, hp, rfl, by decide, rfl, rfl, FL.to, fun _ Hf x D' ef Tf nx O' off' FA => ?_, fun h => absurd tw h⟩))⟩
      have FLf := FL.ext ef
      refine ⟨_, rfl, _, rfl, p5, p, 5, F5 v, rfl, by decide, hpb, FLf.to, fun Hg sk it D sg nsk SK O off ks => ?_⟩
      rw [nfD_eq hpb.1 O' O off' off] at FA
      exact ⟨x, sk, 2 ^ 5, p, hlN 5, _, _, it, rfl, FA.inn sg, SK, smallF_of (F := F5 v) (by decide) hpb O off, fun Hh _ => k Hh⟩
end
end Lp
namespace Lp
open PySem PySem.Spec PySem.Calls PyProof.Rows L2 LamX
/-! ### the law's call, with tables of code objects -/
/-- a def's promise at one place alone: where the claim's caller stands -/
def AtCaller (P : Program) (w : World) (K : PySem.W.Frag) (mg : Str → Option Value) (base : Heap) (f : Addr) (fd : FuncData) (x : Str) (sp : Sp) : Prop :=
  ∀ (s : Shared) (H : Hp) (args : Args) (u : Value) (v : V) (Q : VK) (E : XK), Env0 P w K mg base callerA [] s H → BindsTo s fd args [(x, u)] → RelV v u → sp [v] H Q E → codeAny (model P w) callerA (.call (.ref f) args) (CR CX0 [] P w H s Q E) s
theorem FnG.caller {P : Program} {w : World} {K : PySem.W.Frag} {mg : Str → Option Value} {base : Heap} {f : Addr} {fd : FuncData} {x : Str} {sp : Sp} {k : Nat} (F : FnG P w K mg base CX0 k f fd [x] sp) (hr : Room k callerA) : AtCaller P w K mg base f fd x sp :=
  fun s H args u v Q E e0 hb rv hsp => F.go callerA [] s H args [u] [v] Q E rfl hr e0 hb (.cons rv .nil) hsp
theorem law_goT {P : Program} {w : World} {K : PySem.W.Frag} {mg mb : Str → Option Value} {fa a : Addr} {fd : FuncData} {x : Str} {sp : Sp} {t : Shared} {vs : List Value} {ns : List Int} {cs : List (Addr × Addr)} (KX : K.In t.heap) (hns : t.heap.Ns mainGlobals mg) (hb : t.heap.Ns builtinsNs mb)
    (hbb : ∀ x : Str, x ≠ "__name__" → mb x = bootBuiltins x) (hlim : t.heap.NoLimit) (hg : t.gens = #[]) (hT : ∀ p ∈ cs, t.heap.get? p.2 = some { cls := .none, data := .fields #[] }) (nT : ∀ p ∈ cs, K.lookup p.2 = none) (C : ∀ p ∈ cs, PySem.W.CodeHd t.heap p.1 p.2)
    (hbm : ∃ (bm : Addr) (ob : Obj), mg "__builtins__" = some (.ref bm) ∧ bm ≠ builtinsNs ∧ t.heap.get? bm = some ob ∧ ob.cls = .type "module" ∧ ob.dict = some builtinsNs ∧ ob.data = .plain)
    (ha : t.heap.get? a = some { cls := .type "list", data := .seq vs.toArray }) (hi : IntsAre vs ns) (hl : ns.length ≤ sizeLine)
    (F : ∀ base : Heap, K.In base → base.Ns mainGlobals mg → (∀ p ∈ cs, TabB base mg p.1 p.2) → AtCaller P w K mg base fa fd x sp) (bind : ∀ (s : Shared) (u : Value), BindsTo s fd ⟨[u], []⟩ [(x, u)])
    (ask : ∀ H : Hp, (∀ p ∈ cs, H p.2 = some (.tbl #[])) → SqL K H a (ns.map V.int) → sp [.ref a] H (fun v _ => v = .bl true) fun _ _ _ => False) :
    codeAny (model P w) callerA (.call (.ref fa) ⟨[.ref a], []⟩) (fun r s' => r = .ok (.ret (.bool true)) ∧ OldK t.heap s'.heap ∧ s'.os = t.os ∧ AllBare s'.gens) t := by
  have rv := vals_ints hi
  have len : vs.length = ns.length := hi.length
  let tabs : Hp := fun b => if b ∈ cs.map (·.2) then some (.tbl #[]) else none
  let own : Hp := fun b => if b = a then some (.frz { cls := .type "list", data := .seq vs.toArray } (.lst (ns.map V.int))) else tabs b
  have tabAt : ∀ b, b ∈ cs.map (·.2) → t.heap.get? b = some { cls := .none, data := .fields #[] } := fun b m => by
    obtain ⟨p, hp, rfl⟩ := List.mem_map.mp m
    exact hT p hp
  have aT : a ∉ cs.map (·.2) := fun m => by
    have q := tabAt a m
    rw [ha] at q
    cases q
  have main : ∀ H : Hp, (∀ b u, H b = some u → (b = a ∧ u = .frz { cls := .type "list", data := .seq vs.toArray } (.lst (ns.map V.int)) ∧ K.lookup a = none) ∨ (b ∈ cs.map (·.2) ∧ u = .tbl #[])) → (∀ p ∈ cs, H p.2 = some (.tbl #[])) → SqL K H a (ns.map V.int) →
      codeAny (model P w) callerA (.call (.ref fa) ⟨[.ref a], []⟩) (fun r s' => r = .ok (.ret (.bool true)) ∧ OldK t.heap s'.heap ∧ s'.os = t.os ∧ AllBare s'.gens) t := by
    intro H at_ hH hS
    have free : ∀ {b : Addr} {o : Obj}, t.heap.get? b = some o → (∀ xs n, o.data ≠ .seq xs n) → o.data ≠ .fields #[] → H b = none := fun {b o} e h1 h2 => by
      cases q : H b with
      | none => rfl
      | some u =>
        rcases at_ b u q with ⟨rfl, _, _⟩ | ⟨m, _⟩
        · rw [ha] at e; cases e; exact absurd rfl (h1 _ _)
        · rw [tabAt b m] at e; cases e; exact absurd rfl h2
    have hok : HOk P w H t.heap := fun b u e => by
      rcases at_ b u e with ⟨rfl, rfl, _⟩ | ⟨m, rfl⟩
      · exact ⟨ha, by rw [List.length_map]; exact hl, vs, _, rv, ha⟩
      · exact tabAt b m
    have dicts : ∀ {b : Addr} {o : Obj} {es : Array DictEntry} {ep : Nat}, t.heap.get? b = some o → o.data = .dict es ep → H b = none := fun {b o es ep} e d => free e (fun xs n z => by rw [d] at z; cases z) fun z => by rw [d] at z; cases z
    have spaces : ∀ {b : Addr} {m : Str → Option Value}, t.heap.Ns b m → (hidT t.heap H).Ns b m := fun {b m} ⟨o, es, ep, e, d, r⟩ => ⟨o, es, ep, hidT_get e (dicts e d), d, r⟩
    have KB : K.In (hidT t.heap H) := fun b o e => hidT_get (KX b o e) (by
      cases q : H b with
      | none => rfl
      | some u =>
        rcases at_ b u q with ⟨rfl, _, n⟩ | ⟨m, _⟩
        · rw [n] at e; cases e
        · obtain ⟨p, hp, rfl⟩ := List.mem_map.mp m
          rw [nT p hp] at e; cases e)
    have TB : ∀ p ∈ cs, TabB (hidT t.heap H) mg p.1 p.2 := fun p hp => by
      refine ⟨?_, ?_, fun z => ?_⟩
      · obtain ⟨o, us, file, tf, flags, tg, inF, text, tt, e1, r1, r2, r3, r⟩ := C p hp
        exact ⟨o, us, file, tf, flags, tg, inF, text, tt, hidT_get e1 (free e1 (fun xs n z => by rw [r2] at z; cases z) fun z => by rw [r2] at z; cases z; simp at r3), r1, r2, r3, r⟩
      · obtain ⟨bm, ob, b1, b2, b3, b4, b5, b6⟩ := hbm
        refine ⟨bm, ob, b1, b2, fun q => ?_, fun q => ?_, hidT_get b3 (free b3 (fun xs n z => by rw [b6] at z; cases z) fun z => by rw [b6] at z; cases z), b4, b5, b6⟩
        · obtain ⟨o, es, ep, e, hd, _⟩ := hns
          rw [q, e] at b3; cases b3; rw [hd] at b6; cases b6
        · rw [q, hT p hp] at b3; cases b3; cases b6
      · obtain ⟨o, es, ep, e, hd, _⟩ := hns
        rw [z, hT p hp] at e; cases e; cases hd
    obtain ⟨ml, l1, l2⟩ := hlim
    have e0 : Env0 P w K mg (hidT t.heap H) callerA [] t H := ⟨rfl, ⟨KB, spaces hns, ⟨mb, spaces hb, hbb⟩, ⟨ml, spaces l1, l2⟩⟩, fun b o e => of_hidT e, Nat.le_of_eq (hidT_size _ _), trivial, fun b z => (nomatch z), hok, .of_eq hg⟩
    refine codeAny_mono (F _ KB (spaces hns) TB t H ⟨[.ref a], []⟩ (.ref a) (.ref a) _ _ e0 (bind t (.ref a)) rfl (ask H hH hS)) fun r s' z => ?_
    match r, z with
    | .ok (.ret u), z =>
      obtain ⟨v, H', os, bare, un, hok', r', q⟩ := z
      have q' : v = .bl true := q
      subst q'
      cases (show u = Value.bool true from r')
      have key : ∀ b o, b ∉ cs.map (·.2) → t.heap.get? b = some o → s'.heap.get? b = some o := fun b o nb e => by
        cases q : H b with
        | none => exact un.keep b o e q (fun z => nomatch z) (fun z => nomatch z)
        | some u =>
          rcases at_ b u q with ⟨rfl, rfl, _⟩ | ⟨m, _⟩
          · obtain ⟨g1, _⟩ := hok' b _ (un.frzs b _ _ q)
            rw [ha] at e
            cases e
            exact g1
          · exact absurd m nb
      have grown : ∀ p ∈ cs, ∃ more : Array Value, s'.heap.get? p.2 = some { cls := .none, data := .fields more } := fun p hp => by
        obtain ⟨more, z⟩ := un.tbls p.2 #[] (hH p hp)
        exact ⟨_, hok' p.2 _ z⟩
      refine ⟨rfl, ⟨fun b o e => ?_, fun b o e => ?_⟩, os, bare⟩
      · by_cases m : b ∈ cs.map (·.2)
        · obtain ⟨p, hp, rfl⟩ := List.mem_map.mp m
          obtain ⟨more, hm⟩ := grown p hp
          rw [hT p hp] at e
          cases e
          exact .inr (.inl ⟨((C p hp).tab (hT p hp)).isCodeTable, rfl, #[], more, rfl, by rw [Array.empty_append]; exact hm⟩)
        · exact .inl (key b o m e)
      · by_cases m : b ∈ cs.map (·.2)
        · obtain ⟨p, hp, rfl⟩ := List.mem_map.mp m
          obtain ⟨more, hm⟩ := grown p hp
          exact ⟨_, hm⟩
        · exact ⟨_, key b o m e⟩
    | .ok .next, z => exact False.elim z
    | .ok .brk, z => exact False.elim z
    | .ok .cont, z => exact False.elim z
    | .error e, z => exact False.elim z
  cases hk : K.lookup a with
  | none =>
    refine main own (fun b u e => ?_) (fun p hp => ?_) (.inl (.inr ⟨_, if_pos rfl⟩))
    · by_cases hb : b = a
      · have e' := (show own b = some _ from if_pos hb).symm.trans e
        exact .inl ⟨hb, (Option.some.inj e').symm, hk⟩
      · have e' : tabs b = some u := (show own b = tabs b from if_neg hb).symm.trans e
        by_cases m : b ∈ cs.map (·.2)
        · have e2 := (show tabs b = some (.tbl #[]) from if_pos m).symm.trans e'
          exact .inr ⟨m, (Option.some.inj e2).symm⟩
        · have e2 := (show tabs b = none from if_neg m).symm.trans e'
          cases e2
    · have m : p.2 ∈ cs.map (·.2) := List.mem_map.mpr ⟨p, hp, rfl⟩
      exact (show own p.2 = tabs p.2 from if_neg (show ¬ p.2 = a from fun z => aT (by rw [← z]; exact m))).trans (if_pos m)
  | some o =>
    have e := (KX a o hk).symm.trans ha
    cases e
    refine main tabs (fun b u e => ?_) (fun p hp => if_pos (List.mem_map.mpr ⟨p, hp, rfl⟩)) (.inr ⟨_, vs.toArray, _, hk, rfl, rfl, rfl, by rw [List.size_toArray, len]; exact hl, by simpa using rv⟩)
    by_cases m : b ∈ cs.map (·.2)
    · have e2 := (show tabs b = some (.tbl #[]) from if_pos m).symm.trans e
      exact .inr ⟨m, (Option.some.inj e2).symm⟩
    · have e2 := (show tabs b = none from if_neg m).symm.trans e
      cases e2
end Lp
namespace Lp
open PySem PySem.Spec PySem.Calls PyProof.Rows L2 LamX
/-- the claim, of the law's promise at the caller's place; the tables of the defs told by records are empty -/
theorem walk_at_callerT {l : PySem.W.OpenLaw} {n : Nat} {q : Program} {loose : List Str} {XP : (Str → Option Value) → Heap → Prop} {YP : World → Heap → Prop} {d : DefRec} {K : Params → PySem.W.Frag} {x : Str}
    (hn : l.most = some n) (hn2 : n ≤ sizeLine) (hdf : d.params.defaults = []) (hY : ∀ (w : World) (h : Heap), YP w h → (K w.params).In h)
    (F : ∀ (w : World) (mg : Str → Option Value) (fa : Addr) (h : Heap), YP w h → (K w.params).In h → h.Ns mainGlobals mg → mg d.name = some (.ref fa) → (∀ dL ∈ recsOf q, ∀ g, mg dL.name = some (.ref g) → OwnTab (K w.params) g h) →
      ∃ (fd : FuncData) (cs : List (Addr × Addr)) (sp : Sp), (∀ p ∈ cs, h.get? p.2 = some { cls := .none, data := .fields #[] }) ∧ (∀ p ∈ cs, (K w.params).lookup p.2 = none) ∧ (∀ p ∈ cs, PySem.W.CodeHd h p.1 p.2) ∧ (∀ (s : Shared) (u : Value), BindsTo s fd ⟨[u], []⟩ [(x, u)]) ∧
        (∀ (H : Hp) (a : Addr) (ns : List Int), ns.length ≤ n → (∀ p ∈ cs, H p.2 = some (.tbl #[])) → SqL (K w.params) H a (ns.map V.int) → sp [.ref a] H (fun v _ => v = .bl true) fun _ _ _ => False) ∧
        ∀ base : Heap, (K w.params).In base → base.Ns mainGlobals mg → (∀ p ∈ cs, TabB base mg p.1 p.2) → AtCaller l.prog w (K w.params) mg base fa fd x sp) :
    PySem.W.WalkO q loose XP YP l.row.toRowW d [] (fun f vs => PySem.call f vs) :=
  Att.attach_call hn hdf fun w s₀ t mg mb fa o pm cd doc a vs ns G Y ho hd hcd hmg hobj hints hlen hg => by
    have KX := hY w _ Y
    have own : ∀ dL ∈ recsOf q, ∀ g, mg dL.name = some (.ref g) → OwnTab (K w.params) g t.heap := fun dL hm g hgm c P o1 fd1 e dd vs1 sl k1 k2 k3 k4 k5 => by
      obtain ⟨a', o', fd', c', P', h1, h2, h3, h4, h5, h6⟩ := G.T.tab dL hm
      have e1 : g = a' := Value.ref.inj (Option.some.inj (hgm.symm.trans h1))
      subst e1
      have e2 := (KX _ _ k1).symm.trans h2
      cases e2
      rw [k2] at h3
      cases h3
      rw [k3] at h4
      cases h4
      obtain ⟨⟨oc, vc, e3, _, e4, e5⟩, hP⟩ := h6
      have e6 := (KX _ _ k4).symm.trans e3
      cases e6
      cases e4
      rw [k5] at e5
      cases e5
      exact hP
    obtain ⟨fd, cs, sp, hT, nT, C, bind, ask, go⟩ := F w mg fa _ Y KX G.T.g hmg own
    exact law_goT KX G.T.g G.T.b G.T.builtins G.T.nolimit hg hT nT C G.T.bmain hobj hints (Nat.le_trans hlen hn2) go bind fun H hH hS => ask H a ns hlen hH hS
end Lp
namespace Lp
open PySem PySem.Spec PySem.Calls PyProof.Rows L2 LamX
abbrev theP : Program := PySem.Challenge.rw_leftproducts_k03_frames_of_letters_that.prog
abbrev veTl : List Value := [.type "ValueError", .type "Exception", .type "BaseException", .type "object"]
structure ClsM (K : PySem.W.Frag) (C : Addr) (m : List Value) : Prop where
  cl : ∃ cd, PySem.W.clsIn K C = some cd ∧ cd.mro = m
/-- a def of the text, as it stands -/
def FnD (K : PySem.W.Frag) (f : Addr) (x q : Str) (st : Stmt) : Prop := ∃ (oc : Value) (od an : Option Addr) (osl : Array (Option Value)) (kV doc pm cdv ct : Value), K.lookup f = some ⟨oc, od, .func (PySem.W.fnOf x q (defArgs st) (defBody st) (defScope st) .none kV doc pm an cdv ct), osl⟩ ∧ PySem.W.codeIn K cdv q = true ∧ PySem.W.keepIn K (.ref f) = true
theorem FnD.made {K : PySem.W.Frag} {f : Addr} {x q : Str} {st : Stmt} (h : FnD K f x q st) : ∃ fd, Fun K x q st f fd := by
  obtain ⟨oc, od, an, osl, kV, doc, pm, cdv, ct, l, c, k⟩ := h
  exact ⟨_, fun_mk l c k⟩
/-- one with a lambda in it: where its code stands -/
def FnL (K : PySem.W.Frag) (f c : Addr) (x q : Str) (st : Stmt) : Prop := ∃ (oc : Value) (od an : Option Addr) (osl : Array (Option Value)) (kV doc pm ct : Value), K.lookup f = some ⟨oc, od, .func (PySem.W.fnOf x q (defArgs st) (defBody st) (defScope st) .none kV doc pm an (.ref c) ct), osl⟩ ∧ PySem.W.codeIn K (.ref c) q = true ∧ PySem.W.keepIn K (.ref f) = true
/-- what holds of each class of errors -/
structure ClsF (K : PySem.W.Frag) (C : Addr) : Prop where
  kp : PySem.W.keepIn K (.ref C) = true
  ty : PySem.W.typeIn K (.ref C) = some (.type "type")
  ga : PySem.W.findIn K (.ref C) "__getattribute__" = some (some (.builtin "BaseException.__getattribute__"))
  gg : PySem.W.findIn K (.ref C) "__getattr__" = some none
  ex : PySem.W.subIn K (.ref C) (.type "BaseException") = some true
  hd : PySem.W.hasDictIn K C = true
  ca : PySem.W.findIn K (.ref C) "__class__" = some (some (.builtin "object.__class__"))
  ob : PySem.W.mroIn K C (.type "object") = some true
  ve : PySem.W.subIn K (.ref C) (.type "ValueError") = some true
theorem kit_same {K : PySem.W.Frag} {C : Addr} : PySem.W.kitOne K (.ref C) (.ref C) = some true := by
  unfold PySem.W.kitOne
  rw [if_pos (beq_self_eq_true _)]
theorem errk_mk {K : PySem.W.Frag} {C L : Addr} (F : ClsF K C) (G : ClsF K L) (M : ClsM K C (.ref C :: .ref L :: veTl)) (N : ClsM K L (.ref L :: veTl)) (sp : PySem.W.specialIn K (.builtin "object.__class__") "__get__" = some (some (.builtin "getset_descriptor.__get__"))) (tk : PySem.W.takesIn K (.builtin "object.__class__") = some true) : ErrK K L C := by
  obtain ⟨cd, h, e⟩ := M.cl
  obtain ⟨cl, h2, e2⟩ := N.cl
  refine ⟨?_, ⟨F.ga, F.gg, F.ex, F.hd, F.ca, sp, tk, F.ob⟩, kit_same⟩
  unfold PySem.W.exmOne
  rw [G.ex, if_pos (by rfl)]
  show (if ((PySem.W.clsIn K L).isSome && PySem.W.typeIn K (.ref L) == some (.type "type")) = true then PySem.W.subIn K (.ref C) (.ref L) else none) = some true
  rw [h2, G.ty, if_pos (by rfl)]
  show ((PySem.W.clsIn K C).bind fun cd => if cd.mro.isEmpty = true then none else some (cd.mro.contains (.ref L))) = some true
  rw [h, Option.bind_some, e]
  have z : (Value.ref L == Value.ref L) = true := beq_self_eq_true _
  rw [if_neg (by simp), List.contains_cons, List.contains_cons, z, Bool.true_or, Bool.or_true]
/-! ### the errors with an __init__ of their own -/
def FnI (K : PySem.W.Frag) (C fI : Addr) (st : Stmt) (qual : Str) : Prop := ∃ (oc ct doc pm : Value) (od an : Option Addr) (cda cc : Addr) (osl : Array (Option Value)), K.lookup fI = some ⟨oc, od, .func (PySem.W.ksFn "__init__" qual (defArgs st) (defBody st) (defScope st) .none .none doc pm an (.ref cda) ct cc), osl⟩ ∧ PySem.W.codeIn K (.ref cda) qual = true ∧
    (∃ ccl cdd vs ccs file tf, K.lookup cda = some ⟨ccl, cdd, .fields vs, ccs⟩ ∧ vs[2]? = some (.str file tf) ∧ ((theP.main.file : Str) == file) = true) ∧ ∃ cl cld csl, K.lookup cc = some ⟨cl, cld, .cell (some (.ref C)), csl⟩
def OxI (K : PySem.W.Frag) (C : Addr) : Prop := ∃ nm q N bs bm sn sub ab col dd k0 k1 k2 k3 k5, K.lookup C = some (excClassObj nm q C N bs bm true sn sub ab col dd k0 k1 k2 k3 k5 "ValueError.__new__") ∧ PySem.HandSPX.refsVE bm = true
structure InF (K : PySem.W.Frag) (C fI : Addr) (x : Str) : Prop where
  tI : PySem.W.typeIn K (.ref fI) = some (.type "function")
  sa : PySem.W.findIn K (.ref C) "__setattr__" = some (some (.builtin "object.__setattr__"))
  no : PySem.W.findIn K (.ref C) x = some none
  isC : PySem.W.mroIn K C (.ref C) = some true
theorem init_made {K : PySem.W.Frag} {mg : Str → Option Value} {C L fI : Addr} {st : Stmt} {qual x msg : Str} (ox : OxI K C) (F : ClsF K C) (I : InF K C fI x) (fn : FnI K C fI st qual)
    (tx : ∃ p1 p2 p, defArgs st = iA x p1 p2 ∧ defBody st = iB x msg p ∧ defScope st = iS x ∧
    (∀ env : Env, ∃ pl : Sem Bool, eval (iCall x msg p) env = (do
      let ov ← attributeBase (.Call (.Name "super" p.a) [] [] p.b) "__init__" env (eval (.Call (.Name "super" p.a) [] [] p.b) env)
      standAt p.c.atName
      let (f, first) ← holding [ov] (getMethod ov "__init__" pl)
      callWith p.j f first (backTo p.j (starEach [.JoinedStr [.Constant (.str msg) 0 p.d, .FormattedValue (.Call (.Name "_told" p.e) [.Name x p.f] [] p.g) (-1) none p.h] p.i] env)) [])))
    (su : mg "super" = none) (M : ClsM K C (.ref C :: .ref L :: veTl)) (N : ClsM K L (.ref L :: veTl)) (lI : PySem.W.findIn K (.ref L) "__init__" = some (some (.builtin "ValueError.__init__"))) (opq : PySem.W.nsIn K PySem.cStatics "thirdparty.any" = some none)
    (xne : x = "part" ∨ x = "at" ∨ x = "name" ∨ x = "most") (ml : msg.length ≤ 1000) : InitT theP K mg C fI st qual x msg where
  oex := ⟨ox, I.sa, F.ex, F.ty, F.kp⟩
  text := tx
  fn := fn
  top := by decide +kernel
  su := su
  above := by
    obtain ⟨cd, h, e⟩ := M.cl
    obtain ⟨cl, h2, e2⟩ := N.cl
    unfold PySem.W.ks_superIn
    rw [h, Option.bind_some, e]
    have q := lI
    unfold PySem.W.findIn at q
    unfold PySem.W.clsIn at h2
    have ed : (((Value.ref C :: Value.ref L :: veTl).dropWhile (· != .ref C)).drop 1) = Value.ref L :: veTl := by simp [List.dropWhile_cons]
    rw [ed]
    split at h2
    · rename_i c' d' cd' sl' ho
      cases h2
      dsimp only at q
      rw [ho] at q
      dsimp only at q
      rw [e2] at q
      exact q
    · cases h2
  opq := opq
  isVE := F.ve
  isC := I.isC
  noX := I.no
  xne := xne
  msgl := ml
theorem textN : ∃ p1 p2 p, defArgs (inClass (top 4) 0) = iA "part" p1 p2 ∧ defBody (inClass (top 4) 0) = iB "part" "no fitting number" p ∧ defScope (inClass (top 4) 0) = iS "part" ∧
    (∀ env : Env, ∃ pl : Sem Bool, eval (iCall "part" "no fitting number" p) env = (do
      let ov ← attributeBase (.Call (.Name "super" p.a) [] [] p.b) "__init__" env (eval (.Call (.Name "super" p.a) [] [] p.b) env)
      standAt p.c.atName
      let (f, first) ← holding [ov] (getMethod ov "__init__" pl)
      callWith p.j f first (backTo p.j (starEach [.JoinedStr [.Constant (.str "no fitting number") 0 p.d, .FormattedValue (.Call (.Name "_told" p.e) [.Name "part" p.f] [] p.g) (-1) none p.h] p.i] env)) [])) :=
  ⟨_, _, ⟨_, _, _, _, _, _, _, _, _, _, _, _, _, _⟩, rfl, rfl, rfl, fun env => ⟨_, rfl⟩⟩
theorem textF : ∃ p1 p2 p, defArgs (inClass (top 3) 0) = iA "part" p1 p2 ∧ defBody (inClass (top 3) 0) = iB "part" "no frame" p ∧ defScope (inClass (top 3) 0) = iS "part" ∧
    (∀ env : Env, ∃ pl : Sem Bool, eval (iCall "part" "no frame" p) env = (do
      let ov ← attributeBase (.Call (.Name "super" p.a) [] [] p.b) "__init__" env (eval (.Call (.Name "super" p.a) [] [] p.b) env)
      standAt p.c.atName
      let (f, first) ← holding [ov] (getMethod ov "__init__" pl)
      callWith p.j f first (backTo p.j (starEach [.JoinedStr [.Constant (.str "no frame") 0 p.d, .FormattedValue (.Call (.Name "_told" p.e) [.Name "part" p.f] [] p.g) (-1) none p.h] p.i] env)) [])) :=
  ⟨_, _, ⟨_, _, _, _, _, _, _, _, _, _, _, _, _, _⟩, rfl, rfl, rfl, fun env => ⟨_, rfl⟩⟩
def threeT (PLaw PRef PShorter : Addr) : List (Addr × Str) := [(PLaw, ("law" ++ ".<locals>.") ++ "<lambda>"), (PRef, ("_law_refused" ++ ".<locals>.") ++ "<lambda>"), (PShorter, qShorter)]
/-- only keywords, as they stand in the call -/
theorem gRev_kb {K : PySem.W.Frag} {f : Addr} {fd : FuncData} (F : Fun K "turning_frame" "turning_frame" sTurn f fd) : KBinds K fd ["prime", "letters", "steps"] ["steps", "letters", "prime"] gRev gRev := by
  obtain ⟨oc, od, kV, doc, pm, an, cdv, ct, osl, rfl, lk, hcd⟩ := F.ex
  refine ⟨fun s us ws _ hl => ?_, fun {vs us zs ws} r1 r2 => ?_⟩
  · match us, ws, hl with
    | [], [a, b, c], _ => exact .of_eq rfl
    | [], [], h => cases h
    | [], [_], h => cases h
    | [], [_, _], h => cases h
    | [], _ :: _ :: _ :: _ :: _, h => simp [gRev] at h
    | _ :: _, _, h => cases h
  · cases r1 with
    | nil => exact r2.reverse
    | cons _ _ => exact .nil
theorem all_mk {w : World} {K : PySem.W.Frag} {h : Heap} {mg : Str → Option Value} {fa CP CB CN CF CS IN IF C0 I0 aP fBegun fMixed fTake fPick fTidied fAddTo fLed fProd fSign fTab fIsNum fIsBet fIsList fIsWord fAreH fIsRow fIsPrime fNeedP fRowAt fIsProd fIsStep fFree fRule fTold fNeedN fStepsOf fShorter fLots fNumbered fLotP fSumP fLedOn fTurn fField fLSign fTrim fLSum fLStep fTwice fFill fFramed fLLots fPut fTof fLet fAny fIsFr fCau fRef fLaw cShorter PShorter cRef PRef cLaw PLaw : Addr} (X : K.In h) (G : h.Ns mainGlobals mg) (hfa : mg "law" = some (.ref fa))
    (gP : PySem.W.nsIn K mainGlobals "BadPrime" = some (some (.ref CP)))
    (FP : ClsF K CP)
    (MP : ClsM K CP (.ref CP :: .ref CS :: veTl))
    (gB : PySem.W.nsIn K mainGlobals "BadTable" = some (some (.ref CB)))
    (FB : ClsF K CB)
    (MB : ClsM K CB (.ref CB :: .ref CS :: veTl))
    (gN : PySem.W.nsIn K mainGlobals "BadNumber" = some (some (.ref CN)))
    (FN : ClsF K CN)
    (MN : ClsM K CN (.ref CN :: .ref CS :: veTl))
    (gF : PySem.W.nsIn K mainGlobals "BadFrame" = some (some (.ref CF)))
    (FF : ClsF K CF)
    (MF : ClsM K CF (.ref CF :: .ref CS :: veTl))
    (gS : PySem.W.nsIn K mainGlobals "LeftError" = some (some (.ref CS)))
    (FS : ClsF K CS)
    (MS : ClsM K CS (.ref CS :: veTl))
    (xP : PySem.W.excIn K CP veTl "ValueError.__new__" = true)
    (xB : PySem.W.excIn K CB veTl "ValueError.__new__" = true)
    (iCN : PySem.W.findIn K (.ref CN) "__init__" = some (some (.ref IN)))
    (inN : InF K CN IN "part")
    (oxN : OxI K CN)
    (fnN : FnI K CN IN (inClass (top 4) 0) "BadNumber.__init__")
    (iCF : PySem.W.findIn K (.ref CF) "__init__" = some (some (.ref IF)))
    (inF : InF K CF IF "part")
    (oxF : OxI K CF)
    (fnF : FnI K CF IF (inClass (top 3) 0) "BadFrame.__init__")
    (gC : PySem.W.nsIn K mainGlobals "Frame" = some (some (.ref C0)))
    (clC : Cls K C0)
    (naC : NoAttr K C0 "prime" ∧ NoAttr K C0 "heights" ∧ NoAttr K C0 "product" ∧ NoAttr K C0 "step")
    (iC : PySem.W.findIn K (.ref C0) "__init__" = some (some (.ref I0)))
    (mkC : PySem.W.makesIn K C0 = true)
    (isI : PySem.W.isFn K (.ref I0) = true)
    (kC : PySem.W.keepIn K (.ref C0) = true)
    (caC : PySem.W.findIn K (.ref C0) "__class__" = some (some (.builtin "object.__class__")))
    (obC : PySem.W.mroIn K C0 (.type "object") = some true)
    (dInit : FnD K I0 "__init__" "Frame.__init__" sFrameInit)
    (gPr : PySem.W.nsIn K mainGlobals "PRIMES" = some (some (.ref aP)))
    (lPr : ∃ (ob : Obj) (its : Array Value) (n : Nat), K.lookup aP = some ob ∧ ob.cls = .type "tuple" ∧ ob.data = .seq its n ∧ its.size ≤ sizeLine ∧ Vals (primes.map V.int) its.toList)
    (aBegun : PySem.W.nsIn K mainGlobals "_law_begun" = some (some (.ref fBegun)))
    (dBegun : FnD K fBegun "_law_begun" "_law_begun" sBegun)
    (aMixed : PySem.W.nsIn K mainGlobals "_law_mixed" = some (some (.ref fMixed)))
    (dMixed : FnD K fMixed "_law_mixed" "_law_mixed" sMixed)
    (aTake : PySem.W.nsIn K mainGlobals "_law_take" = some (some (.ref fTake)))
    (dTake : FnD K fTake "_law_take" "_law_take" sTake)
    (aPick : PySem.W.nsIn K mainGlobals "_law_pick" = some (some (.ref fPick)))
    (dPick : FnD K fPick "_law_pick" "_law_pick" sPick)
    (aTidied : PySem.W.nsIn K mainGlobals "tidied" = some (some (.ref fTidied)))
    (dTidied : FnD K fTidied "tidied" "tidied" sTidied)
    (aAddTo : PySem.W.nsIn K mainGlobals "add_to" = some (some (.ref fAddTo)))
    (dAddTo : FnD K fAddTo "add_to" "add_to" sAddTo)
    (aLed : PySem.W.nsIn K mainGlobals "led" = some (some (.ref fLed)))
    (dLed : FnD K fLed "led" "led" sLed)
    (aProd : PySem.W.nsIn K mainGlobals "product_sum" = some (some (.ref fProd)))
    (dProd : FnD K fProd "product_sum" "product_sum" sProd)
    (aSign : PySem.W.nsIn K mainGlobals "sign" = some (some (.ref fSign)))
    (dSign : FnD K fSign "sign" "sign" sSign)
    (aTab : PySem.W.nsIn K mainGlobals "tidied_table" = some (some (.ref fTab)))
    (dTab : FnD K fTab "tidied_table" "tidied_table" sTab)
    (aIsNum : PySem.W.nsIn K mainGlobals "is_number" = some (some (.ref fIsNum)))
    (dIsNum : FnD K fIsNum "is_number" "is_number" sIsNum)
    (aIsBet : PySem.W.nsIn K mainGlobals "is_between" = some (some (.ref fIsBet)))
    (dIsBet : FnD K fIsBet "is_between" "is_between" sIsBet)
    (aIsList : PySem.W.nsIn K mainGlobals "is_list" = some (some (.ref fIsList)))
    (dIsList : FnD K fIsList "is_list" "is_list" sIsList)
    (aIsWord : PySem.W.nsIn K mainGlobals "is_word" = some (some (.ref fIsWord)))
    (dIsWord : FnD K fIsWord "is_word" "is_word" sIsWord)
    (aAreH : PySem.W.nsIn K mainGlobals "are_heights" = some (some (.ref fAreH)))
    (dAreH : FnD K fAreH "are_heights" "are_heights" sAreH)
    (aIsRow : PySem.W.nsIn K mainGlobals "is_row" = some (some (.ref fIsRow)))
    (dIsRow : FnD K fIsRow "is_row" "is_row" sIsRow)
    (aIsPrime : PySem.W.nsIn K mainGlobals "is_prime" = some (some (.ref fIsPrime)))
    (dIsPrime : FnD K fIsPrime "is_prime" "is_prime" sIsPrime)
    (aNeedP : PySem.W.nsIn K mainGlobals "need_prime" = some (some (.ref fNeedP)))
    (dNeedP : FnD K fNeedP "need_prime" "need_prime" sNeedP)
    (aRowAt : PySem.W.nsIn K mainGlobals "_is_row_at" = some (some (.ref fRowAt)))
    (dRowAt : FnD K fRowAt "_is_row_at" "_is_row_at" sRowAt)
    (aIsProd : PySem.W.nsIn K mainGlobals "_is_product" = some (some (.ref fIsProd)))
    (dIsProd : FnD K fIsProd "_is_product" "_is_product" sIsProd)
    (aIsStep : PySem.W.nsIn K mainGlobals "_is_step" = some (some (.ref fIsStep)))
    (dIsStep : FnD K fIsStep "_is_step" "_is_step" sIsStep)
    (aFree : PySem.W.nsIn K mainGlobals "_is_free_of_brackets" = some (some (.ref fFree)))
    (dFree : FnD K fFree "_is_free_of_brackets" "_is_free_of_brackets" sFree)
    (aRule : PySem.W.nsIn K mainGlobals "_keeps_rule" = some (some (.ref fRule)))
    (dRule : FnD K fRule "_keeps_rule" "_keeps_rule" sRule)
    (aTold : PySem.W.nsIn K mainGlobals "_told" = some (some (.ref fTold)))
    (dTold : FnD K fTold "_told" "_told" sTold)
    (aNeedN : PySem.W.nsIn K mainGlobals "need_number" = some (some (.ref fNeedN)))
    (dNeedN : FnD K fNeedN "need_number" "need_number" sNeedN)
    (aStepsOf : PySem.W.nsIn K mainGlobals "steps_of" = some (some (.ref fStepsOf)))
    (dStepsOf : FnD K fStepsOf "steps_of" "steps_of" sStepsOf)
    (aShorter : PySem.W.nsIn K mainGlobals "_shorter_first" = some (some (.ref fShorter)))
    (dShorter : FnL K fShorter cShorter "_shorter_first" "_shorter_first" sShorter)
    (aLots : PySem.W.nsIn K mainGlobals "_lots" = some (some (.ref fLots)))
    (dLots : FnD K fLots "_lots" "_lots" sLots)
    (aNumbered : PySem.W.nsIn K mainGlobals "_numbered" = some (some (.ref fNumbered)))
    (dNumbered : FnD K fNumbered "_numbered" "_numbered" sNumbered)
    (aLotP : PySem.W.nsIn K mainGlobals "_lot_products" = some (some (.ref fLotP)))
    (dLotP : FnD K fLotP "_lot_products" "_lot_products" sLotP)
    (aSumP : PySem.W.nsIn K mainGlobals "_is_sum_of_pairs" = some (some (.ref fSumP)))
    (dSumP : FnD K fSumP "_is_sum_of_pairs" "_is_sum_of_pairs" sSumP)
    (aLedOn : PySem.W.nsIn K mainGlobals "_led_on" = some (some (.ref fLedOn)))
    (dLedOn : FnD K fLedOn "_led_on" "_led_on" sLedOn)
    (aTurn : PySem.W.nsIn K mainGlobals "turning_frame" = some (some (.ref fTurn)))
    (dTurn : FnD K fTurn "turning_frame" "turning_frame" sTurn)
    (aField : PySem.W.nsIn K mainGlobals "_law_field" = some (some (.ref fField)))
    (dField : FnD K fField "_law_field" "_law_field" sField)
    (aLSign : PySem.W.nsIn K mainGlobals "_law_sign" = some (some (.ref fLSign)))
    (dLSign : FnD K fLSign "_law_sign" "_law_sign" sLSign)
    (aTrim : PySem.W.nsIn K mainGlobals "_law_trim" = some (some (.ref fTrim)))
    (dTrim : FnD K fTrim "_law_trim" "_law_trim" sTrim)
    (aLSum : PySem.W.nsIn K mainGlobals "_law_sum" = some (some (.ref fLSum)))
    (dLSum : FnD K fLSum "_law_sum" "_law_sum" sLSum)
    (aLStep : PySem.W.nsIn K mainGlobals "_law_step" = some (some (.ref fLStep)))
    (dLStep : FnD K fLStep "_law_step" "_law_step" sLStep)
    (aTwice : PySem.W.nsIn K mainGlobals "_law_is_twice_nothing" = some (some (.ref fTwice)))
    (dTwice : FnD K fTwice "_law_is_twice_nothing" "_law_is_twice_nothing" sTwice)
    (aFill : PySem.W.nsIn K mainGlobals "_law_filled" = some (some (.ref fFill)))
    (dFill : FnD K fFill "_law_filled" "_law_filled" sFill)
    (aFramed : PySem.W.nsIn K mainGlobals "_law_framed" = some (some (.ref fFramed)))
    (dFramed : FnD K fFramed "_law_framed" "_law_framed" sFramed)
    (aLLots : PySem.W.nsIn K mainGlobals "_law_lots" = some (some (.ref fLLots)))
    (dLLots : FnD K fLLots "_law_lots" "_law_lots" sLLots)
    (aPut : PySem.W.nsIn K mainGlobals "_law_put_lots" = some (some (.ref fPut)))
    (dPut : FnD K fPut "_law_put_lots" "_law_put_lots" sPut)
    (aTof : PySem.W.nsIn K mainGlobals "_law_turning_of" = some (some (.ref fTof)))
    (dTof : FnD K fTof "_law_turning_of" "_law_turning_of" sTof)
    (aLet : PySem.W.nsIn K mainGlobals "_law_letter_steps" = some (some (.ref fLet)))
    (dLet : FnD K fLet "_law_letter_steps" "_law_letter_steps" sLet)
    (aAny : PySem.W.nsIn K mainGlobals "_law_any_steps" = some (some (.ref fAny)))
    (dAny : FnD K fAny "_law_any_steps" "_law_any_steps" sAny)
    (aIsFr : PySem.W.nsIn K mainGlobals "_law_is_frame" = some (some (.ref fIsFr)))
    (dIsFr : FnD K fIsFr "_law_is_frame" "_law_is_frame" sIsFr)
    (aCau : PySem.W.nsIn K mainGlobals "_law_caught" = some (some (.ref fCau)))
    (dCau : FnD K fCau "_law_caught" "_law_caught" sCau)
    (aRef : PySem.W.nsIn K mainGlobals "_law_refused" = some (some (.ref fRef)))
    (dRef : FnL K fRef cRef "_law_refused" "_law_refused" sRef)
    (aLaw : PySem.W.nsIn K mainGlobals "law" = some (some (.ref fLaw)))
    (dLaw : FnL K fLaw cLaw "law" "law" sLaw)
    (hdShorter : PySem.W.codeHdIn K cShorter PShorter = true)
    (nlShorter : K.lookup PShorter = none)
    (tbShorter : h.get? PShorter = some { cls := .none, data := .fields #[] })
    (hdRef : PySem.W.codeHdIn K cRef PRef = true)
    (nlRef : K.lookup PRef = none)
    (tbRef : h.get? PRef = some { cls := .none, data := .fields #[] })
    (hdLaw : PySem.W.codeHdIn K cLaw PLaw = true)
    (nlLaw : K.lookup PLaw = none)
    (tbLaw : h.get? PLaw = some { cls := .none, data := .fields #[] })
    (dif : PLaw ≠ PRef ∧ PLaw ≠ PShorter ∧ PRef ≠ PShorter)
    (z_abs : PySem.W.nsIn K mainGlobals "abs" = some none)
    (z_all : PySem.W.nsIn K mainGlobals "all" = some none)
    (z_any : PySem.W.nsIn K mainGlobals "any" = some none)
    (z_bool : PySem.W.nsIn K mainGlobals "bool" = some none)
    (z_dict : PySem.W.nsIn K mainGlobals "dict" = some none)
    (z_enumerate : PySem.W.nsIn K mainGlobals "enumerate" = some none)
    (z_int : PySem.W.nsIn K mainGlobals "int" = some none)
    (z_isinstance : PySem.W.nsIn K mainGlobals "isinstance" = some none)
    (z_len : PySem.W.nsIn K mainGlobals "len" = some none)
    (z_list : PySem.W.nsIn K mainGlobals "list" = some none)
    (z_min : PySem.W.nsIn K mainGlobals "min" = some none)
    (z_range : PySem.W.nsIn K mainGlobals "range" = some none)
    (z_repr : PySem.W.nsIn K mainGlobals "repr" = some none)
    (z_sorted : PySem.W.nsIn K mainGlobals "sorted" = some none)
    (z_str : PySem.W.nsIn K mainGlobals "str" = some none)
    (z_tuple : PySem.W.nsIn K mainGlobals "tuple" = some none)
    (z_super : PySem.W.nsIn K mainGlobals "super" = some none)
    (lI : PySem.W.findIn K (.ref CS) "__init__" = some (some (.builtin "ValueError.__init__")))
    (opq : PySem.W.nsIn K PySem.cStatics "thirdparty.any" = some none)
    (sp : PySem.W.specialIn K (.builtin "object.__class__") "__get__" = some (some (.builtin "getset_descriptor.__get__")))
    (tk : PySem.W.takesIn K (.builtin "object.__class__") = some true) :
    ∃ (fd : FuncData) (cs : List (Addr × Addr)) (sp : Sp), (∀ p ∈ cs, h.get? p.2 = some { cls := .none, data := .fields #[] }) ∧ (∀ p ∈ cs, K.lookup p.2 = none) ∧ (∀ p ∈ cs, PySem.W.CodeHd h p.1 p.2) ∧ (∀ (s : Shared) (u : Value), BindsTo s fd ⟨[u], []⟩ [("script", u)]) ∧
        (∀ (H : Hp) (a : Addr) (ns : List Int), ns.length ≤ 63 → (∀ p ∈ cs, H p.2 = some (.tbl #[])) → SqL K H a (ns.map V.int) → sp [.ref a] H (fun v _ => v = .bl true) fun _ _ _ => False) ∧
        ∀ base : Heap, K.In base → base.Ns mainGlobals mg → (∀ p ∈ cs, TabB base mg p.1 p.2) → AtCaller theP w K mg base fa fd "script" sp := by
  have e := hfa.symm.trans (PySem.W.mg_of X G aLaw)
  cases e
  obtain ⟨qBegun, UBegun⟩ := dBegun.made
  obtain ⟨qMixed, UMixed⟩ := dMixed.made
  obtain ⟨qTake, UTake⟩ := dTake.made
  obtain ⟨qPick, UPick⟩ := dPick.made
  obtain ⟨qTidied, UTidied⟩ := dTidied.made
  obtain ⟨qAddTo, UAddTo⟩ := dAddTo.made
  obtain ⟨qLed, ULed⟩ := dLed.made
  obtain ⟨qProd, UProd⟩ := dProd.made
  obtain ⟨qSign, USign⟩ := dSign.made
  obtain ⟨qTab, UTab⟩ := dTab.made
  obtain ⟨qIsNum, UIsNum⟩ := dIsNum.made
  obtain ⟨qIsBet, UIsBet⟩ := dIsBet.made
  obtain ⟨qIsList, UIsList⟩ := dIsList.made
  obtain ⟨qIsWord, UIsWord⟩ := dIsWord.made
  obtain ⟨qAreH, UAreH⟩ := dAreH.made
  obtain ⟨qIsRow, UIsRow⟩ := dIsRow.made
  obtain ⟨qIsPrime, UIsPrime⟩ := dIsPrime.made
  obtain ⟨qNeedP, UNeedP⟩ := dNeedP.made
  obtain ⟨qRowAt, URowAt⟩ := dRowAt.made
  obtain ⟨qIsProd, UIsProd⟩ := dIsProd.made
  obtain ⟨qIsStep, UIsStep⟩ := dIsStep.made
  obtain ⟨qFree, UFree⟩ := dFree.made
  obtain ⟨qRule, URule⟩ := dRule.made
  obtain ⟨qTold, UTold⟩ := dTold.made
  obtain ⟨qNeedN, UNeedN⟩ := dNeedN.made
  obtain ⟨qStepsOf, UStepsOf⟩ := dStepsOf.made
  obtain ⟨ocShorter, odShorter, anShorter, oslShorter, kVShorter, docShorter, pmShorter, ctShorter, lShorter, kShorter, pShorter⟩ := dShorter
  have UShorter := fun_mk (st := sShorter) lShorter kShorter pShorter
  obtain ⟨qLots, ULots⟩ := dLots.made
  obtain ⟨qNumbered, UNumbered⟩ := dNumbered.made
  obtain ⟨qLotP, ULotP⟩ := dLotP.made
  obtain ⟨qSumP, USumP⟩ := dSumP.made
  obtain ⟨qLedOn, ULedOn⟩ := dLedOn.made
  obtain ⟨qTurn, UTurn⟩ := dTurn.made
  obtain ⟨qField, UField⟩ := dField.made
  obtain ⟨qLSign, ULSign⟩ := dLSign.made
  obtain ⟨qTrim, UTrim⟩ := dTrim.made
  obtain ⟨qLSum, ULSum⟩ := dLSum.made
  obtain ⟨qLStep, ULStep⟩ := dLStep.made
  obtain ⟨qTwice, UTwice⟩ := dTwice.made
  obtain ⟨qFill, UFill⟩ := dFill.made
  obtain ⟨qFramed, UFramed⟩ := dFramed.made
  obtain ⟨qLLots, ULLots⟩ := dLLots.made
  obtain ⟨qPut, UPut⟩ := dPut.made
  obtain ⟨qTof, UTof⟩ := dTof.made
  obtain ⟨qLet, ULet⟩ := dLet.made
  obtain ⟨qAny, UAny⟩ := dAny.made
  obtain ⟨qIsFr, UIsFr⟩ := dIsFr.made
  obtain ⟨qCau, UCau⟩ := dCau.made
  obtain ⟨ocRef, odRef, anRef, oslRef, kVRef, docRef, pmRef, ctRef, lRef, kRef, pRef⟩ := dRef
  have URef := fun_mk (st := sRef) lRef kRef pRef
  obtain ⟨ocLaw, odLaw, anLaw, oslLaw, kVLaw, docLaw, pmLaw, ctLaw, lLaw, kLaw, pLaw⟩ := dLaw
  have ULaw := fun_mk (st := sLaw) lLaw kLaw pLaw
  obtain ⟨qInit, UInit⟩ := dInit.made
  have m_abs := PySem.W.mg_none_of X G z_abs
  have m_all := PySem.W.mg_none_of X G z_all
  have m_any := PySem.W.mg_none_of X G z_any
  have m_bool := PySem.W.mg_none_of X G z_bool
  have m_dict := PySem.W.mg_none_of X G z_dict
  have m_enumerate := PySem.W.mg_none_of X G z_enumerate
  have m_int := PySem.W.mg_none_of X G z_int
  have m_isinstance := PySem.W.mg_none_of X G z_isinstance
  have m_len := PySem.W.mg_none_of X G z_len
  have m_list := PySem.W.mg_none_of X G z_list
  have m_min := PySem.W.mg_none_of X G z_min
  have m_range := PySem.W.mg_none_of X G z_range
  have m_repr := PySem.W.mg_none_of X G z_repr
  have m_sorted := PySem.W.mg_none_of X G z_sorted
  have m_str := PySem.W.mg_none_of X G z_str
  have m_tuple := PySem.W.mg_none_of X G z_tuple
  have m_super := PySem.W.mg_none_of X G z_super
  have bBegun := UBegun.binds (ps := ["script"]) fun _ _ _ _ _ _ us hl => match us, hl with | [_], _ => rfl
  have bMixed := UMixed.binds (ps := ["draw"]) fun _ _ _ _ _ _ us hl => match us, hl with | [_], _ => rfl
  have bTake := UTake.binds (ps := ["draw", "amount"]) fun _ _ _ _ _ _ us hl => match us, hl with | [_, _], _ => rfl
  have bPick := UPick.binds (ps := ["draw", "some"]) fun _ _ _ _ _ _ us hl => match us, hl with | [_, _], _ => rfl
  have bTidied := UTidied.binds (ps := ["row", "prime"]) fun _ _ _ _ _ _ us hl => match us, hl with | [_, _], _ => rfl
  have bAddTo := UAddTo.binds (ps := ["total", "row", "times"]) fun _ _ _ _ _ _ us hl => match us, hl with | [_, _, _], _ => rfl
  have bLed := ULed.binds (ps := ["rows", "row", "prime"]) fun _ _ _ _ _ _ us hl => match us, hl with | [_, _, _], _ => rfl
  have bProd := UProd.binds (ps := ["product", "one", "other"]) fun _ _ _ _ _ _ us hl => match us, hl with | [_, _, _], _ => rfl
  have bSign := USign.binds (ps := ["turn"]) fun _ _ _ _ _ _ us hl => match us, hl with | [_], _ => rfl
  have bTab := UTab.binds (ps := ["table", "prime"]) fun _ _ _ _ _ _ us hl => match us, hl with | [_, _], _ => rfl
  have bIsNum := UIsNum.binds (ps := ["thing"]) fun _ _ _ _ _ _ us hl => match us, hl with | [_], _ => rfl
  have bIsBet := UIsBet.binds (ps := ["thing", "least", "most"]) fun _ _ _ _ _ _ us hl => match us, hl with | [_, _, _], _ => rfl
  have bIsList := UIsList.binds (ps := ["thing"]) fun _ _ _ _ _ _ us hl => match us, hl with | [_], _ => rfl
  have bIsWord := UIsWord.binds (ps := ["thing", "places", "least", "most"]) fun _ _ _ _ _ _ us hl => match us, hl with | [_, _, _, _], _ => rfl
  have bAreH := UAreH.binds (ps := ["thing", "least", "most"]) fun _ _ _ _ _ _ us hl => match us, hl with | [_, _, _], _ => rfl
  have bIsRow := UIsRow.binds (ps := ["thing", "places"]) fun _ _ _ _ _ _ us hl => match us, hl with | [_, _], _ => rfl
  have bIsPrime := UIsPrime.binds (ps := ["thing"]) fun _ _ _ _ _ _ us hl => match us, hl with | [_], _ => rfl
  have bNeedP := UNeedP.binds (ps := ["prime"]) fun _ _ _ _ _ _ us hl => match us, hl with | [_], _ => rfl
  have bRowAt := URowAt.binds (ps := ["thing", "heights", "height", "prime"]) fun _ _ _ _ _ _ us hl => match us, hl with | [_, _, _, _], _ => rfl
  have bIsProd := UIsProd.binds (ps := ["thing", "heights", "prime"]) fun _ _ _ _ _ _ us hl => match us, hl with | [_, _, _], _ => rfl
  have bIsStep := UIsStep.binds (ps := ["thing", "heights", "prime"]) fun _ _ _ _ _ _ us hl => match us, hl with | [_, _, _], _ => rfl
  have bFree := UFree.binds (ps := ["prime", "size", "product"]) fun _ _ _ _ _ _ us hl => match us, hl with | [_, _, _], _ => rfl
  have bRule := URule.binds (ps := ["prime", "heights", "product", "steps"]) fun _ _ _ _ _ _ us hl => match us, hl with | [_, _, _, _], _ => rfl
  have bTold := UTold.binds (ps := ["value"]) fun _ _ _ _ _ _ us hl => match us, hl with | [_], _ => rfl
  have bNeedN := UNeedN.binds (ps := ["number", "least", "most", "part"]) fun _ _ _ _ _ _ us hl => match us, hl with | [_, _, _, _], _ => rfl
  have bStepsOf := UStepsOf.binds (ps := ["frame"]) fun _ _ _ _ _ _ us hl => match us, hl with | [_], _ => rfl
  have bShorter := UShorter.binds (ps := ["names"]) fun _ _ _ _ _ _ us hl => match us, hl with | [_], _ => rfl
  have bLots := ULots.binds (ps := ["letters"]) fun _ _ _ _ _ _ us hl => match us, hl with | [_], _ => rfl
  have bNumbered := UNumbered.binds (ps := ["names"]) fun _ _ _ _ _ _ us hl => match us, hl with | [_], _ => rfl
  have bLotP := ULotP.binds (ps := ["lots"]) fun _ _ _ _ _ _ us hl => match us, hl with | [_], _ => rfl
  have bSumP := USumP.binds (ps := ["thing", "letters"]) fun _ _ _ _ _ _ us hl => match us, hl with | [_, _], _ => rfl
  have bLedOn := ULedOn.binds (ps := ["names", "heights", "product", "firsts"]) fun _ _ _ _ _ _ us hl => match us, hl with | [_, _, _, _], _ => rfl
  have bTurn := UTurn.binds (ps := ["prime", "letters", "steps"]) fun _ _ _ _ _ _ us hl => match us, hl with | [_, _, _], _ => rfl
  have bField := UField.binds (ps := ["draw"]) fun _ _ _ _ _ _ us hl => match us, hl with | [_], _ => rfl
  have bLSign := ULSign.binds (ps := ["number"]) fun _ _ _ _ _ _ us hl => match us, hl with | [_], _ => rfl
  have bTrim := UTrim.binds (ps := ["field", "row"]) fun _ _ _ _ _ _ us hl => match us, hl with | [_, _], _ => rfl
  have bLSum := ULSum.binds (ps := ["field", "parts"]) fun _ _ _ _ _ _ us hl => match us, hl with | [_, _], _ => rfl
  have bLStep := ULStep.binds (ps := ["sketch", "row"]) fun _ _ _ _ _ _ us hl => match us, hl with | [_, _], _ => rfl
  have bTwice := UTwice.binds (ps := ["sketch"]) fun _ _ _ _ _ _ us hl => match us, hl with | [_], _ => rfl
  have bFill := UFill.binds (ps := ["field", "table"]) fun _ _ _ _ _ _ us hl => match us, hl with | [_, _], _ => rfl
  have bFramed := UFramed.binds (ps := ["field", "heights_here", "product_here", "step_here"]) fun _ _ _ _ _ _ us hl => match us, hl with | [_, _, _, _], _ => rfl
  have bLLots := ULLots.binds (ps := ["letters_here"]) fun _ _ _ _ _ _ us hl => match us, hl with | [_], _ => rfl
  have bPut := UPut.binds (ps := ["one", "other"]) fun _ _ _ _ _ _ us hl => match us, hl with | [_, _], _ => rfl
  have bTof := UTof.binds (ps := ["field", "letters_here", "steps_here"]) fun _ _ _ _ _ _ us hl => match us, hl with | [_, _, _], _ => rfl
  have bLet := ULet.binds (ps := ["draw", "field", "letters_here"]) fun _ _ _ _ _ _ us hl => match us, hl with | [_, _, _], _ => rfl
  have bAny := UAny.binds (ps := ["draw", "field", "letters_here"]) fun _ _ _ _ _ _ us hl => match us, hl with | [_, _, _], _ => rfl
  have bIsFr := UIsFr.binds (ps := ["thing", "sketch"]) fun _ _ _ _ _ _ us hl => match us, hl with | [_, _], _ => rfl
  have bCau := UCau.binds (ps := ["work"]) fun _ _ _ _ _ _ us hl => match us, hl with | [_], _ => rfl
  have bRef := URef.binds (ps := ["draw", "field"]) fun _ _ _ _ _ _ us hl => match us, hl with | [_, _], _ => rfl
  have bLaw := ULaw.binds (ps := ["script"]) fun _ _ _ _ _ _ us hl => match us, hl with | [_], _ => rfl
  have bInit := UInit.binds (ps := ["self", "prime", "heights", "product", "step"]) fun _ _ _ _ _ _ us hl => match us, hl with | [_, _, _, _, _], _ => rfl
  have nBegun := PySem.W.mg_of X G aBegun
  have nMixed := PySem.W.mg_of X G aMixed
  have nTake := PySem.W.mg_of X G aTake
  have nPick := PySem.W.mg_of X G aPick
  have nTidied := PySem.W.mg_of X G aTidied
  have nAddTo := PySem.W.mg_of X G aAddTo
  have nLed := PySem.W.mg_of X G aLed
  have nProd := PySem.W.mg_of X G aProd
  have nSign := PySem.W.mg_of X G aSign
  have nTab := PySem.W.mg_of X G aTab
  have nIsNum := PySem.W.mg_of X G aIsNum
  have nIsBet := PySem.W.mg_of X G aIsBet
  have nIsList := PySem.W.mg_of X G aIsList
  have nIsWord := PySem.W.mg_of X G aIsWord
  have nAreH := PySem.W.mg_of X G aAreH
  have nIsRow := PySem.W.mg_of X G aIsRow
  have nIsPrime := PySem.W.mg_of X G aIsPrime
  have nNeedP := PySem.W.mg_of X G aNeedP
  have nRowAt := PySem.W.mg_of X G aRowAt
  have nIsProd := PySem.W.mg_of X G aIsProd
  have nIsStep := PySem.W.mg_of X G aIsStep
  have nFree := PySem.W.mg_of X G aFree
  have nRule := PySem.W.mg_of X G aRule
  have nTold := PySem.W.mg_of X G aTold
  have nNeedN := PySem.W.mg_of X G aNeedN
  have nStepsOf := PySem.W.mg_of X G aStepsOf
  have nShorter := PySem.W.mg_of X G aShorter
  have nLots := PySem.W.mg_of X G aLots
  have nNumbered := PySem.W.mg_of X G aNumbered
  have nLotP := PySem.W.mg_of X G aLotP
  have nSumP := PySem.W.mg_of X G aSumP
  have nLedOn := PySem.W.mg_of X G aLedOn
  have nTurn := PySem.W.mg_of X G aTurn
  have nField := PySem.W.mg_of X G aField
  have nLSign := PySem.W.mg_of X G aLSign
  have nTrim := PySem.W.mg_of X G aTrim
  have nLSum := PySem.W.mg_of X G aLSum
  have nLStep := PySem.W.mg_of X G aLStep
  have nTwice := PySem.W.mg_of X G aTwice
  have nFill := PySem.W.mg_of X G aFill
  have nFramed := PySem.W.mg_of X G aFramed
  have nLLots := PySem.W.mg_of X G aLLots
  have nPut := PySem.W.mg_of X G aPut
  have nTof := PySem.W.mg_of X G aTof
  have nLet := PySem.W.mg_of X G aLet
  have nAny := PySem.W.mg_of X G aAny
  have nIsFr := PySem.W.mg_of X G aIsFr
  have nCau := PySem.W.mg_of X G aCau
  have nRef := PySem.W.mg_of X G aRef
  have nLaw := PySem.W.mg_of X G aLaw
  have eP : ErrP K mg "BadPrime" CP := ⟨PySem.W.mg_of X G gP, xP, FP.kp, FP.ex, FP.ty⟩
  have eB : ErrP K mg "BadTable" CB := ⟨PySem.W.mg_of X G gB, xB, FB.kp, FB.ex, FB.ty⟩
  have kP := errk_mk FP FS MP MS sp tk
  have kB := errk_mk FB FS MB MS sp tk
  have kN := errk_mk FN FS MN MS sp tk
  have kF := errk_mk FF FS MF MS sp tk
  have rN : PartK K CN := ⟨⟨FN.ga, FN.gg, FN.ex, FN.hd⟩, inN.no⟩
  have rF : PartK K CF := ⟨⟨FF.ga, FF.gg, FF.ex, FF.hd⟩, inF.no⟩
  have fC : FrameC K C0 := ⟨clC, naC.1, naC.2.1, naC.2.2.1, naC.2.2.2⟩
  have iCC : C8.InsC K C0 := ⟨clC, caC, sp, tk, obC, kit_same⟩
  have hPr : ∀ H, SqT K H aP (primes.map V.int) := fun H => .inr lPr
  refine ⟨PySem.W.fnOf "law" "law" (defArgs sLaw) (defBody sLaw) (defScope sLaw) .none kVLaw docLaw pmLaw anLaw (.ref cLaw) ctLaw, [(cLaw, PLaw), (cRef, PRef), (cShorter, PShorter)], spLaw K (threeT PLaw PRef PShorter), ?_, ?_, ?_, fun s u => .of_eq rfl, ?_, fun base KB _ TBs => ?_⟩
  · intro p hp
    simp only [List.mem_cons, List.not_mem_nil, or_false] at hp
    rcases hp with rfl | rfl | rfl
    · exact tbLaw
    · exact tbRef
    · exact tbShorter
  · intro p hp
    simp only [List.mem_cons, List.not_mem_nil, or_false] at hp
    rcases hp with rfl | rfl | rfl
    · exact nlLaw
    · exact nlRef
    · exact nlShorter
  · intro p hp
    simp only [List.mem_cons, List.not_mem_nil, or_false] at hp
    rcases hp with rfl | rfl | rfl
    · exact PySem.W.codeHd_of_K X hdLaw
    · exact PySem.W.codeHd_of_K X hdRef
    · exact PySem.W.codeHd_of_K X hdShorter
  · intro H a ns hl hH hS
    refine ⟨a, ns, rfl, hS, hl, fun p hp => ?_, fun _ => rfl⟩
    unfold threeT at hp
    simp only [List.mem_cons, List.not_mem_nil, or_false] at hp
    rcases hp with rfl | rfl | rfl
    · exact TabS.nil (hH (cLaw, PLaw) (by simp))
    · exact TabS.nil (hH (cRef, PRef) (by simp))
    · exact TabS.nil (hH (cShorter, PShorter) (by simp))
  have tL : TabB base mg cLaw PLaw := TBs (cLaw, PLaw) (by simp)
  have tR : TabB base mg cRef PRef := TBs (cRef, PRef) (by simp)
  have tS : TabB base mg cShorter PShorter := TBs (cShorter, PShorter) (by simp)
  obtain ⟨dd1, dd2, dd3⟩ := dif
  have hL : LamHome base mg (threeT PLaw PRef PShorter) ("law" ++ ".<locals>.") (.ref cLaw) := ⟨_, _, rfl, tL, by simp [threeT], fun p hp e => by
    simp only [threeT, List.mem_cons, List.not_mem_nil, or_false] at hp
    rcases hp with rfl | rfl | rfl
    · exact rfl
    · exact absurd e.symm dd1
    · exact absurd e.symm dd2⟩
  have hR : LamHome base mg (threeT PLaw PRef PShorter) ("_law_refused" ++ ".<locals>.") (.ref cRef) := ⟨_, _, rfl, tR, by simp [threeT], fun p hp e => by
    simp only [threeT, List.mem_cons, List.not_mem_nil, or_false] at hp
    rcases hp with rfl | rfl | rfl
    · exact absurd e dd1
    · exact rfl
    · exact absurd e.symm dd3⟩
  have GTold : FnOk theP w K mg base CX0 1 fTold qTold ["value"] spTold := ok_told UTold m_isinstance m_str m_int m_abs
  obtain ⟨wN, wbN, wkN, wfN⟩ := ok_init (init_made oxN FN inN fnN textN m_super MN MS lI opq (.inl rfl) (by decide)) GTold nTold UTold.kp bTold
  obtain ⟨wF, wbF, wkF, wfF⟩ := ok_init (init_made oxF FF inF fnF textF m_super MF MS lI opq (.inl rfl) (by decide)) GTold nTold UTold.kp bTold
  have jN : ErrI theP w K mg base "BadNumber" "part" CN IN wN := ⟨PySem.W.mg_of X G gN, ⟨oxN, inN.sa, FN.ex, FN.ty, FN.kp⟩, iCN, inN.tI, wfN, wbN⟩
  have jF : ErrI theP w K mg base "BadFrame" "part" CF IF wF := ⟨PySem.W.mg_of X G gF, ⟨oxF, inF.sa, FF.ex, FF.ty, FF.kp⟩, iCF, inF.tI, wfF, wbF⟩
  have GBegun : FnOk theP w K mg base CX0 1 fBegun qBegun ["script"] (spBegun K) := ok_begun UBegun m_abs
  have DBegun : Df _ _ _ _ _ _ _ _ _ _ := ⟨_, _, GBegun, nBegun, UBegun.kp, bBegun⟩
  have GMixed : FnOk theP w K mg base CX0 1 fMixed qMixed ["draw"] spMixed := ok_mixed UMixed m_int
  have DMixed : Df _ _ _ _ _ _ _ _ _ _ := ⟨_, _, GMixed, nMixed, UMixed.kp, bMixed⟩
  have GTake : FnOk theP w K mg base CX0 2 fTake qTake ["draw", "amount"] spTake := ok_take UTake GMixed nMixed UMixed.kp bMixed m_int
  have DTake : Df _ _ _ _ _ _ _ _ _ _ := ⟨_, _, GTake, nTake, UTake.kp, bTake⟩
  have GPick : FnOk theP w K mg base CX0 3 fPick qPick ["draw", "some"] spPick := ok_pick UPick GTake nTake UTake.kp bTake m_len
  have DPick : Df _ _ _ _ _ _ _ _ _ _ := ⟨_, _, GPick, nPick, UPick.kp, bPick⟩
  have GTidied : FnOk theP w K mg base CX0 1 fTidied qTidied ["row", "prime"] spTidied := ok_tidied UTidied m_sorted
  have DTidied : Df _ _ _ _ _ _ _ _ _ _ := ⟨_, _, GTidied, nTidied, UTidied.kp, bTidied⟩
  have GAddTo : FnOk theP w K mg base CX0 1 fAddTo qAddTo ["total", "row", "times"] spAddTo := ok_add_to UAddTo
  have DAddTo : Df _ _ _ _ _ _ _ _ _ _ := ⟨_, _, GAddTo, nAddTo, UAddTo.kp, bAddTo⟩
  have GLed : FnOk theP w K mg base CX0 2 fLed qLed ["rows", "row", "prime"] spLed := ok_led ULed GAddTo nAddTo UAddTo.kp bAddTo GTidied nTidied UTidied.kp bTidied
  have DLed : Df _ _ _ _ _ _ _ _ _ _ := ⟨_, _, GLed, nLed, ULed.kp, bLed⟩
  have GProd : FnOk theP w K mg base CX0 2 fProd qProd ["product", "one", "other"] spProd := ok_product_sum UProd GAddTo nAddTo UAddTo.kp bAddTo
  have DProd : Df _ _ _ _ _ _ _ _ _ _ := ⟨_, _, GProd, nProd, UProd.kp, bProd⟩
  have GSign : FnOk theP w K mg base CX0 1 fSign qSign ["turn"] spSign := ok_sign USign
  have DSign : Df _ _ _ _ _ _ _ _ _ _ := ⟨_, _, GSign, nSign, USign.kp, bSign⟩
  have GTabP : FnOk theP w K mg base CX0 2 fTab qTab ["table", "prime"] spTabP := ok_tabP UTab m_sorted GTidied nTidied UTidied.kp bTidied
  have DTabP : Df _ _ _ _ _ _ _ _ _ _ := ⟨_, _, GTabP, nTab, UTab.kp, bTab⟩
  have GTabI : FnOk theP w K mg base CX0 2 fTab qTab ["table", "prime"] spTabI := ok_tabI UTab m_sorted GTidied nTidied UTidied.kp bTidied
  have DTabI : Df _ _ _ _ _ _ _ _ _ _ := ⟨_, _, GTabI, nTab, UTab.kp, bTab⟩
  have GIsNum : FnOk theP w K mg base CX0 1 fIsNum qIsNum ["thing"] (spIsNum K) := ok_is_number UIsNum m_isinstance m_int m_bool
  have DIsNum : Df _ _ _ _ _ _ _ _ _ _ := ⟨_, _, GIsNum, nIsNum, UIsNum.kp, bIsNum⟩
  have GIsBet : FnOk theP w K mg base CX0 2 fIsBet qIsBet ["thing", "least", "most"] (spIsBet K) := ok_is_between UIsBet GIsNum nIsNum UIsNum.kp bIsNum
  have DIsBet : Df _ _ _ _ _ _ _ _ _ _ := ⟨_, _, GIsBet, nIsBet, UIsBet.kp, bIsBet⟩
  have GIsList : FnOk theP w K mg base CX0 1 fIsList qIsList ["thing"] (spIsList K) := ok_is_list UIsList m_isinstance m_list m_tuple
  have DIsList : Df _ _ _ _ _ _ _ _ _ _ := ⟨_, _, GIsList, nIsList, UIsList.kp, bIsList⟩
  have GIsWord : FnOk theP w K mg base CX0 3 fIsWord qIsWord ["thing", "places", "least", "most"] (spIsWord K) := ok_is_word UIsWord GIsBet nIsBet UIsBet.kp bIsBet m_isinstance m_tuple m_len m_all
  have DIsWord : Df _ _ _ _ _ _ _ _ _ _ := ⟨_, _, GIsWord, nIsWord, UIsWord.kp, bIsWord⟩
  have GAreH : FnOk theP w K mg base CX0 3 fAreH qAreH ["thing", "least", "most"] (spAreH K) := ok_are_heights UAreH GIsBet nIsBet UIsBet.kp bIsBet GIsList nIsList UIsList.kp bIsList m_len m_all
  have DAreH : Df _ _ _ _ _ _ _ _ _ _ := ⟨_, _, GAreH, nAreH, UAreH.kp, bAreH⟩
  have GIsRow : FnOk theP w K mg base CX0 3 fIsRow qIsRow ["thing", "places"] spIsRow := ok_is_row UIsRow GIsBet nIsBet UIsBet.kp bIsBet GIsNum nIsNum UIsNum.kp bIsNum m_isinstance m_dict m_all
  have DIsRow : Df _ _ _ _ _ _ _ _ _ _ := ⟨_, _, GIsRow, nIsRow, UIsRow.kp, bIsRow⟩
  have GIsPrime : FnOk theP w K mg base CX0 2 fIsPrime qIsPrime ["thing"] (spIsPrime K) := ok_is_prime UIsPrime GIsNum nIsNum UIsNum.kp bIsNum (PySem.W.mg_of X G gPr) hPr
  have DIsPrime : Df _ _ _ _ _ _ _ _ _ _ := ⟨_, _, GIsPrime, nIsPrime, UIsPrime.kp, bIsPrime⟩
  have GNeedP : FnOk theP w K mg base (L2.CX theP w) 3 fNeedP qNeedP ["prime"] (spNeedP K CP) := ok_need_prime UNeedP GIsPrime nIsPrime UIsPrime.kp bIsPrime eP
  have DNeedP : Df _ _ _ _ _ _ _ _ _ _ := ⟨_, _, GNeedP, nNeedP, UNeedP.kp, bNeedP⟩
  have GRowAt : FnOk theP w K mg base CX0 4 fRowAt qRowAt ["thing", "heights", "height", "prime"] spRowAt := ok_row_at URowAt GIsRow nIsRow UIsRow.kp bIsRow GTidied nTidied UTidied.kp bTidied m_len m_all
  have DRowAt : Df _ _ _ _ _ _ _ _ _ _ := ⟨_, _, GRowAt, nRowAt, URowAt.kp, bRowAt⟩
  have GIsProd : FnOk theP w K mg base CX0 5 fIsProd qIsProd ["thing", "heights", "prime"] spIsProd := ok_is_product UIsProd GIsWord nIsWord UIsWord.kp bIsWord GRowAt nRowAt URowAt.kp bRowAt m_isinstance m_dict m_len
  have DIsProd : Df _ _ _ _ _ _ _ _ _ _ := ⟨_, _, GIsProd, nIsProd, UIsProd.kp, bIsProd⟩
  have GIsStep : FnOk theP w K mg base CX0 5 fIsStep qIsStep ["thing", "heights", "prime"] spIsStep := ok_is_step UIsStep GIsBet nIsBet UIsBet.kp bIsBet GRowAt nRowAt URowAt.kp bRowAt m_isinstance m_dict m_len
  have DIsStep : Df _ _ _ _ _ _ _ _ _ _ := ⟨_, _, GIsStep, nIsStep, UIsStep.kp, bIsStep⟩
  have GFree : FnOk theP w K mg base CX0 3 fFree qFree ["prime", "size", "product"] spFree := ok_free UFree GProd nProd UProd.kp bProd GAddTo nAddTo UAddTo.kp bAddTo GTidied nTidied UTidied.kp bTidied m_range
  have DFree : Df _ _ _ _ _ _ _ _ _ _ := ⟨_, _, GFree, nFree, UFree.kp, bFree⟩
  have GRule : FnOk theP w K mg base CX0 3 fRule qRule ["prime", "heights", "product", "steps"] spRule := ok_rule URule GLed nLed ULed.kp bLed GProd nProd UProd.kp bProd GAddTo nAddTo UAddTo.kp bAddTo GTidied nTidied UTidied.kp bTidied GSign nSign USign.kp bSign m_range m_len
  have DRule : Df _ _ _ _ _ _ _ _ _ _ := ⟨_, _, GRule, nRule, URule.kp, bRule⟩
  have GNeedN : FnOk theP w K mg base (L2.CX theP w) 5 fNeedN qNeedN ["number", "least", "most", "part"] (spNeedN K CN) := ok_need_number UNeedN GIsBet nIsBet UIsBet.kp bIsBet jN
  have DNeedN : Df _ _ _ _ _ _ _ _ _ _ := ⟨_, _, GNeedN, nNeedN, UNeedN.kp, bNeedN⟩
  have GStepsOf : FnOk theP w K mg base CX0 1 fStepsOf qStepsOf ["frame"] (spStepsOf C0) := ok_steps_of UStepsOf fC m_range m_len
  have DStepsOf : Df _ _ _ _ _ _ _ _ _ _ := ⟨_, _, GStepsOf, nStepsOf, UStepsOf.kp, bStepsOf⟩
  have GInit : FnOk theP w K mg base (L2.CX theP w) 6 I0 qInit ["self", "prime", "heights", "product", "step"] (spFrameInit C0 CF) := ok_frame_init UInit fC jF DNeedP DAreH DIsProd DIsStep DTabP DTabI DFree DStepsOf DLed DRule m_len m_tuple m_any
  have GShorter : FnOk theP w K mg base CX0 4 fShorter _ ["names"] (spShorter (threeT PLaw PRef PShorter)) := ok_shorter UShorter rfl tS (by simp [threeT]) (fun p hp e => by
    simp only [threeT, List.mem_cons, List.not_mem_nil, or_false] at hp
    rcases hp with rfl | rfl | rfl
    · exact absurd e dd2
    · exact absurd e dd3
    · exact rfl) m_len m_sorted
  have DShorter : Df _ _ _ _ _ _ _ _ _ _ := ⟨_, _, GShorter, nShorter, UShorter.kp, bShorter⟩
  have GLots : FnOk theP w K mg base CX0 5 fLots qLots ["letters"] (spLots (threeT PLaw PRef PShorter)) := ok_lots ULots DShorter m_range
  have DLots : Df _ _ _ _ _ _ _ _ _ _ := ⟨_, _, GLots, nLots, ULots.kp, bLots⟩
  have GNumbered : FnOk theP w K mg base CX0 1 fNumbered qNumbered ["names"] spNumbered := ok_numbered UNumbered m_enumerate
  have DNumbered : Df _ _ _ _ _ _ _ _ _ _ := ⟨_, _, GNumbered, nNumbered, UNumbered.kp, bNumbered⟩
  have GLotP : FnOk theP w K mg base CX0 2 fLotP qLotP ["lots"] spLotP := ok_lotP ULotP DNumbered DSign m_sorted m_tuple m_len
  have DLotP : Df _ _ _ _ _ _ _ _ _ _ := ⟨_, _, GLotP, nLotP, ULotP.kp, bLotP⟩
  have GSumP : FnOk theP w K mg base CX0 4 fSumP qSumP ["thing", "letters"] (spSumP K) := ok_sumP USumP DIsWord DIsNum m_isinstance m_dict m_all
  have DSumP : Df _ _ _ _ _ _ _ _ _ _ := ⟨_, _, GSumP, nSumP, USumP.kp, bSumP⟩
  have GLedOn : FnOk theP w K mg base CX0 3 fLedOn qLedOn ["names", "heights", "product", "firsts"] spLedOn := ok_ledOn ULedOn DNumbered DSign DProd DAddTo m_len
  have DLedOn : Df _ _ _ _ _ _ _ _ _ _ := ⟨_, _, GLedOn, nLedOn, ULedOn.kp, bLedOn⟩
  have mkF : Mk K C0 I0 := ⟨mkC, iC, isI, kC⟩
  have GTurn : FnOk theP w K mg base (L2.CX theP w) 8 fTurn qTurn ["prime", "letters", "steps"] (spTurn K (threeT PLaw PRef PShorter) (TurnC.mk CP CB CN CF C0)) := ok_turn (c := (TurnC.mk CP CB CN CF C0)) UTurn DNeedP DNeedN DIsList DSumP DLots DLotP DLedOn eB mkF GInit (PySem.W.mg_of X G gC) bInit m_len m_all
  have DTurn : Df _ _ _ _ _ _ _ _ _ _ := ⟨_, _, GTurn, nTurn, UTurn.kp, bTurn⟩
  have GField : FnOk theP w K mg base CX0 4 fField qField ["draw"] spField := ok_field UField DPick
  have DField : Df _ _ _ _ _ _ _ _ _ _ := ⟨_, _, GField, nField, UField.kp, bField⟩
  have GLSign : FnOk theP w K mg base CX0 1 fLSign qLSign ["number"] spSign := ok_lsign ULSign
  have DLSign : Df _ _ _ _ _ _ _ _ _ _ := ⟨_, _, GLSign, nLSign, ULSign.kp, bLSign⟩
  have GTrim : FnOk theP w K mg base CX0 1 fTrim qTrim ["field", "row"] spTrim := ok_trim UTrim m_sorted m_dict
  have DTrim : Df _ _ _ _ _ _ _ _ _ _ := ⟨_, _, GTrim, nTrim, UTrim.kp, bTrim⟩
  have GLSum : FnOk theP w K mg base CX0 2 fLSum qLSum ["field", "parts"] spLSum := ok_lsum ULSum DTrim
  have DLSum : Df _ _ _ _ _ _ _ _ _ _ := ⟨_, _, GLSum, nLSum, ULSum.kp, bLSum⟩
  have GLStep : FnOk theP w K mg base CX0 3 fLStep qLStep ["sketch", "row"] spLStep := ok_lstep ULStep DLSum
  have DLStep : Df _ _ _ _ _ _ _ _ _ _ := ⟨_, _, GLStep, nLStep, ULStep.kp, bLStep⟩
  have GTwice : FnOk theP w K mg base CX0 4 fTwice qTwice ["sketch"] spTwice := ok_twice UTwice DLStep
  have DTwice : Df _ _ _ _ _ _ _ _ _ _ := ⟨_, _, GTwice, nTwice, UTwice.kp, bTwice⟩
  have GFillP : FnOk theP w K mg base CX0 2 fFill qFill ["field", "table"] spFillP := ok_fillP UFill DTrim m_sorted
  have DFillP : Df _ _ _ _ _ _ _ _ _ _ := ⟨_, _, GFillP, nFill, UFill.kp, bFill⟩
  have GFillI : FnOk theP w K mg base CX0 2 fFill qFill ["field", "table"] spFillI := ok_fillI UFill DTrim m_sorted
  have DFillI : Df _ _ _ _ _ _ _ _ _ _ := ⟨_, _, GFillI, nFill, UFill.kp, bFill⟩
  have GFramed : FnOk theP w K mg base CX0 3 fFramed qFramed ["field", "heights_here", "product_here", "step_here"] spFramed := ok_framed UFramed DFillP DFillI m_list
  have DFramed : Df _ _ _ _ _ _ _ _ _ _ := ⟨_, _, GFramed, nFramed, UFramed.kp, bFramed⟩
  have GLLots : FnOk theP w K mg base CX0 1 fLLots qLLots ["letters_here"] spLLots := ok_llots ULLots m_range
  have DLLots : Df _ _ _ _ _ _ _ _ _ _ := ⟨_, _, GLLots, nLLots, ULLots.kp, bLLots⟩
  have GPut : FnOk theP w K mg base CX0 2 fPut qPut ["one", "other"] spPut := ok_put UPut DLSign m_sorted m_tuple m_len
  have DPut : Df _ _ _ _ _ _ _ _ _ _ := ⟨_, _, GPut, nPut, UPut.kp, bPut⟩
  have GTof : FnOk theP w K mg base CX0 4 fTof qTof ["field", "letters_here", "steps_here"] spTof := ok_tof UTof DLLots DPut DLSign DFramed m_enumerate m_len
  have DTof : Df _ _ _ _ _ _ _ _ _ _ := ⟨_, _, GTof, nTof, UTof.kp, bTof⟩
  have GLet : FnOk theP w K mg base CX0 5 fLet qLet ["draw", "field", "letters_here"] spLet := ok_let ULet DTake DTof DTwice m_range
  have DLet : Df _ _ _ _ _ _ _ _ _ _ := ⟨_, _, GLet, nLet, ULet.kp, bLet⟩
  have GAny : FnOk theP w K mg base CX0 3 fAny qAny ["draw", "field", "letters_here"] spAny := ok_any UAny DTake m_range
  have DAny : Df _ _ _ _ _ _ _ _ _ _ := ⟨_, _, GAny, nAny, UAny.kp, bAny⟩
  have GIsFr : FnG theP w K mg base CX0 1 fIsFr qIsFr ["thing", "sketch"] (spIsFr C0) := ok_isFr UIsFr fC iCC m_isinstance (PySem.W.mg_of X G gC) m_repr m_tuple
  have CO : CaughtOk K mg CS := ⟨⟨_, _, UCau, nCau, UCau.kp, bCau⟩, PySem.W.mg_of X G gS⟩
  have GRef : FnOk theP w K mg base CX0 11 fRef _ ["draw", "field"] (spRef (threeT PLaw PRef PShorter)) := ok_ref (c := (TurnC.mk CP CB CN CF C0)) URef hR CO DTurn DPick m_isinstance (PySem.W.mg_of X G gP) (PySem.W.mg_of X G gN) (PySem.W.mg_of X G gB) kP kN kB rN
  have DRef : Df _ _ _ _ _ _ _ _ _ _ := ⟨_, _, GRef, nRef, URef.kp, bRef⟩
  have GLaw : FnG theP w K mg base CX0 12 _ _ ["script"] (spLaw K (threeT PLaw PRef PShorter)) := ok_law (c := (TurnC.mk CP CB CN CF C0)) ULaw hL CO DBegun DField DPick DTake DLet DAny DTof DTwice DRef GTurn nTurn UTurn.kp bTurn (gRev_kb UTurn) GIsFr nIsFr UIsFr.kp bIsFr (PySem.W.mg_of X G gF) kF rF m_isinstance m_range m_min m_len m_tuple
  exact GLaw.caller ⟨rfl, by decide, by decide⟩
end Lp
open PySem PySem.W PyProof.Rows
set_option maxRecDepth 100000 in
set_option maxHeartbeats 0 in
theorem PySem.Challenge.cw_leftproducts_k03_frames_of_letters_that_holds : PySem.Challenge.rw_leftproducts_k03_frames_of_letters_that.Holds := by
  w_on; o_law; k_head; (case hw => w_witness2)
  k_fill
  refine Lp.walk_at_callerT (l := PySem.Challenge.rw_leftproducts_k03_frames_of_letters_that) (n := 63) (x := "script") rfl (by decide) rfl (fun w h Y => PySem.W.km_in_of Y) ?F
  case F =>
    intro w mg fa h Y KX G hmg own
    have tabs := PySem.W.km_tabs_of Y
    refine' Lp.all_mk (PLaw := 423) (PRef := 416) (PShorter := 262) KX G hmg ?zq_gP ?zq_FP ?zq_MP ?zq_gB ?zq_FB ?zq_MB ?zq_gN ?zq_FN ?zq_MN ?zq_gF ?zq_FF ?zq_MF ?zq_gS ?zq_FS ?zq_MS ?zq_xP ?zq_xB ?zq_iCN ?zq_inN ?zq_oxN ?zq_fnN ?zq_iCF ?zq_inF ?zq_oxF ?zq_fnF ?zq_gC ?zq_clC ?zq_naC ?zq_iC ?zq_mkC ?zq_isI ?zq_kC ?zq_caC ?zq_obC ?zq_dInit ?zq_gPr ?zq_lPr ?zq_aBegun ?zq_dBegun ?zq_aMixed ?zq_dMixed ?zq_aTake ?zq_dTake ?zq_aPick ?zq_dPick ?zq_aTidied ?zq_dTidied ?zq_aAddTo ?zq_dAddTo ?zq_aLed ?zq_dLed ?zq_aProd ?zq_dProd ?zq_aSign ?zq_dSign ?zq_aTab ?zq_dTab ?zq_aIsNum ?zq_dIsNum ?zq_aIsBet ?zq_dIsBet ?zq_aIsList ?zq_dIsList ?zq_aIsWord ?zq_dIsWord ?zq_aAreH ?zq_dAreH ?zq_aIsRow ?zq_dIsRow ?zq_aIsPrime ?zq_dIsPrime ?zq_aNeedP ?zq_dNeedP ?zq_aRowAt ?zq_dRowAt ?zq_aIsProd ?zq_dIsProd ?zq_aIsStep ?zq_dIsStep ?zq_aFree ?zq_dFree ?zq_aRule ?zq_dRule ?zq_aTold ?zq_dTold ?zq_aNeedN ?zq_dNeedN ?zq_aStepsOf ?zq_dStepsOf ?zq_aShorter ?zq_dShorter ?zq_aLots ?zq_dLots ?zq_aNumbered ?zq_dNumbered ?zq_aLotP ?zq_dLotP ?zq_aSumP ?zq_dSumP ?zq_aLedOn ?zq_dLedOn ?zq_aTurn ?zq_dTurn ?zq_aField ?zq_dField ?zq_aLSign ?zq_dLSign ?zq_aTrim ?zq_dTrim ?zq_aLSum ?zq_dLSum ?zq_aLStep ?zq_dLStep ?zq_aTwice ?zq_dTwice ?zq_aFill ?zq_dFill ?zq_aFramed ?zq_dFramed ?zq_aLLots ?zq_dLLots ?zq_aPut ?zq_dPut ?zq_aTof ?zq_dTof ?zq_aLet ?zq_dLet ?zq_aAny ?zq_dAny ?zq_aIsFr ?zq_dIsFr ?zq_aCau ?zq_dCau ?zq_aRef ?zq_dRef ?zq_aLaw ?zq_dLaw ?zq_hdShorter ?zq_nlShorter ?zq_tbShorter ?zq_hdRef ?zq_nlRef ?zq_tbRef ?zq_hdLaw ?zq_nlLaw ?zq_tbLaw ?zq_dif ?zq_z_abs ?zq_z_all ?zq_z_any ?zq_z_bool ?zq_z_dict ?zq_z_enumerate ?zq_z_int ?zq_z_isinstance ?zq_z_len ?zq_z_list ?zq_z_min ?zq_z_range ?zq_z_repr ?zq_z_sorted ?zq_z_str ?zq_z_tuple ?zq_z_super ?zq_lI ?zq_opq ?zq_sp ?zq_tk
    (case zq_gP => k_is)
    (case zq_FP => exact ⟨by k_is, by k_is, by k_is, by k_is, by k_is, by k_is, by k_is, by k_is, by k_is⟩)
    (case zq_MP => exact ⟨_, by k_is, rfl⟩)
    (case zq_gB => k_is)
    (case zq_FB => exact ⟨by k_is, by k_is, by k_is, by k_is, by k_is, by k_is, by k_is, by k_is, by k_is⟩)
    (case zq_MB => exact ⟨_, by k_is, rfl⟩)
    (case zq_gN => k_is)
    (case zq_FN => exact ⟨by k_is, by k_is, by k_is, by k_is, by k_is, by k_is, by k_is, by k_is, by k_is⟩)
    (case zq_MN => exact ⟨_, by k_is, rfl⟩)
    (case zq_gF => k_is)
    (case zq_FF => exact ⟨by k_is, by k_is, by k_is, by k_is, by k_is, by k_is, by k_is, by k_is, by k_is⟩)
    (case zq_MF => exact ⟨_, by k_is, rfl⟩)
    (case zq_gS => k_is)
    (case zq_FS => exact ⟨by k_is, by k_is, by k_is, by k_is, by k_is, by k_is, by k_is, by k_is, by k_is⟩)
    (case zq_MS => exact ⟨_, by k_is, rfl⟩)
    (case zq_xP => k_exc)
    (case zq_xB => k_exc)
    (case zq_iCN => k_is)
    (case zq_inN => exact ⟨by k_is, by k_is, by k_is, by k_is⟩)
    (case zq_oxN => exact ⟨_, _, _, _, _, _, _, _, _, _, _, _, _, _, _, by k_is, by decide +kernel⟩)
    (case zq_fnN => exact ⟨_, _, _, _, _, _, _, _, _, by k_is, by k_is, ⟨_, _, _, _, _, _, by k_is, rfl, by decide +kernel⟩, ⟨_, _, _, by k_is⟩⟩)
    (case zq_iCF => k_is)
    (case zq_inF => exact ⟨by k_is, by k_is, by k_is, by k_is⟩)
    (case zq_oxF => exact ⟨_, _, _, _, _, _, _, _, _, _, _, _, _, _, _, by k_is, by decide +kernel⟩)
    (case zq_fnF => exact ⟨_, _, _, _, _, _, _, _, _, by k_is, by k_is, ⟨_, _, _, _, _, _, by k_is, rfl, by decide +kernel⟩, ⟨_, _, _, by k_is⟩⟩)
    (case zq_gC => k_is)
    (case zq_clC => exact ⟨by k_is, by k_is, by k_is, by k_is⟩)
    (case zq_naC => exact ⟨by unfold L2.NoAttr; k_is, by unfold L2.NoAttr; k_is, by unfold L2.NoAttr; k_is, by unfold L2.NoAttr; k_is⟩)
    (case zq_iC => k_is)
    (case zq_mkC => k_is)
    (case zq_isI => k_is)
    (case zq_kC => k_is)
    (case zq_caC => k_is)
    (case zq_obC => k_is)
    (case zq_dInit => exact ⟨_, _, _, _, _, _, _, _, _, by k_is, by k_is, by k_is⟩)
    (case zq_gPr => k_is)
    (case zq_lPr => refine ⟨_, _, _, by k_is, rfl, rfl, ?_, ?_⟩ <;> first | decide +kernel | exact .cons ⟨_, rfl⟩ (.cons ⟨_, rfl⟩ (.cons ⟨_, rfl⟩ (.cons ⟨_, rfl⟩ (.cons ⟨_, rfl⟩ (.cons ⟨_, rfl⟩ (.cons ⟨_, rfl⟩ (.cons ⟨_, rfl⟩ (.cons ⟨_, rfl⟩ (.cons ⟨_, rfl⟩ (.cons ⟨_, rfl⟩ .nil)))))))))))
    (case zq_aBegun => k_is)
    (case zq_dBegun => exact ⟨_, _, _, _, _, _, _, _, _, by k_is, by k_is, by k_is⟩)
    (case zq_aMixed => k_is)
    (case zq_dMixed => exact ⟨_, _, _, _, _, _, _, _, _, by k_is, by k_is, by k_is⟩)
    (case zq_aTake => k_is)
    (case zq_dTake => exact ⟨_, _, _, _, _, _, _, _, _, by k_is, by k_is, by k_is⟩)
    (case zq_aPick => k_is)
    (case zq_dPick => exact ⟨_, _, _, _, _, _, _, _, _, by k_is, by k_is, by k_is⟩)
    (case zq_aTidied => k_is)
    (case zq_dTidied => exact ⟨_, _, _, _, _, _, _, _, _, by k_is, by k_is, by k_is⟩)
    (case zq_aAddTo => k_is)
    (case zq_dAddTo => exact ⟨_, _, _, _, _, _, _, _, _, by k_is, by k_is, by k_is⟩)
    (case zq_aLed => k_is)
    (case zq_dLed => exact ⟨_, _, _, _, _, _, _, _, _, by k_is, by k_is, by k_is⟩)
    (case zq_aProd => k_is)
    (case zq_dProd => exact ⟨_, _, _, _, _, _, _, _, _, by k_is, by k_is, by k_is⟩)
    (case zq_aSign => k_is)
    (case zq_dSign => exact ⟨_, _, _, _, _, _, _, _, _, by k_is, by k_is, by k_is⟩)
    (case zq_aTab => k_is)
    (case zq_dTab => exact ⟨_, _, _, _, _, _, _, _, _, by k_is, by k_is, by k_is⟩)
    (case zq_aIsNum => k_is)
    (case zq_dIsNum => exact ⟨_, _, _, _, _, _, _, _, _, by k_is, by k_is, by k_is⟩)
    (case zq_aIsBet => k_is)
    (case zq_dIsBet => exact ⟨_, _, _, _, _, _, _, _, _, by k_is, by k_is, by k_is⟩)
    (case zq_aIsList => k_is)
    (case zq_dIsList => exact ⟨_, _, _, _, _, _, _, _, _, by k_is, by k_is, by k_is⟩)
    (case zq_aIsWord => k_is)
    (case zq_dIsWord => exact ⟨_, _, _, _, _, _, _, _, _, by k_is, by k_is, by k_is⟩)
    (case zq_aAreH => k_is)
    (case zq_dAreH => exact ⟨_, _, _, _, _, _, _, _, _, by k_is, by k_is, by k_is⟩)
    (case zq_aIsRow => k_is)
    (case zq_dIsRow => exact ⟨_, _, _, _, _, _, _, _, _, by k_is, by k_is, by k_is⟩)
    (case zq_aIsPrime => k_is)
    (case zq_dIsPrime => exact ⟨_, _, _, _, _, _, _, _, _, by k_is, by k_is, by k_is⟩)
    (case zq_aNeedP => k_is)
    (case zq_dNeedP => exact ⟨_, _, _, _, _, _, _, _, _, by k_is, by k_is, by k_is⟩)
    (case zq_aRowAt => k_is)
    (case zq_dRowAt => exact ⟨_, _, _, _, _, _, _, _, _, by k_is, by k_is, by k_is⟩)
    (case zq_aIsProd => k_is)
    (case zq_dIsProd => exact ⟨_, _, _, _, _, _, _, _, _, by k_is, by k_is, by k_is⟩)
    (case zq_aIsStep => k_is)
    (case zq_dIsStep => exact ⟨_, _, _, _, _, _, _, _, _, by k_is, by k_is, by k_is⟩)
    (case zq_aFree => k_is)
    (case zq_dFree => exact ⟨_, _, _, _, _, _, _, _, _, by k_is, by k_is, by k_is⟩)
    (case zq_aRule => k_is)
    (case zq_dRule => exact ⟨_, _, _, _, _, _, _, _, _, by k_is, by k_is, by k_is⟩)
    (case zq_aTold => k_is)
    (case zq_dTold => exact ⟨_, _, _, _, _, _, _, _, _, by k_is, by k_is, by k_is⟩)
    (case zq_aNeedN => k_is)
    (case zq_dNeedN => exact ⟨_, _, _, _, _, _, _, _, _, by k_is, by k_is, by k_is⟩)
    (case zq_aStepsOf => k_is)
    (case zq_dStepsOf => exact ⟨_, _, _, _, _, _, _, _, _, by k_is, by k_is, by k_is⟩)
    (case zq_aShorter => k_is)
    (case zq_dShorter => exact ⟨_, _, _, _, _, _, _, _, by k_is, by k_is, by k_is⟩)
    (case zq_aLots => k_is)
    (case zq_dLots => exact ⟨_, _, _, _, _, _, _, _, _, by k_is, by k_is, by k_is⟩)
    (case zq_aNumbered => k_is)
    (case zq_dNumbered => exact ⟨_, _, _, _, _, _, _, _, _, by k_is, by k_is, by k_is⟩)
    (case zq_aLotP => k_is)
    (case zq_dLotP => exact ⟨_, _, _, _, _, _, _, _, _, by k_is, by k_is, by k_is⟩)
    (case zq_aSumP => k_is)
    (case zq_dSumP => exact ⟨_, _, _, _, _, _, _, _, _, by k_is, by k_is, by k_is⟩)
    (case zq_aLedOn => k_is)
    (case zq_dLedOn => exact ⟨_, _, _, _, _, _, _, _, _, by k_is, by k_is, by k_is⟩)
    (case zq_aTurn => k_is)
    (case zq_dTurn => exact ⟨_, _, _, _, _, _, _, _, _, by k_is, by k_is, by k_is⟩)
    (case zq_aField => k_is)
    (case zq_dField => exact ⟨_, _, _, _, _, _, _, _, _, by k_is, by k_is, by k_is⟩)
    (case zq_aLSign => k_is)
    (case zq_dLSign => exact ⟨_, _, _, _, _, _, _, _, _, by k_is, by k_is, by k_is⟩)
    (case zq_aTrim => k_is)
    (case zq_dTrim => exact ⟨_, _, _, _, _, _, _, _, _, by k_is, by k_is, by k_is⟩)
    (case zq_aLSum => k_is)
    (case zq_dLSum => exact ⟨_, _, _, _, _, _, _, _, _, by k_is, by k_is, by k_is⟩)
    (case zq_aLStep => k_is)
    (case zq_dLStep => exact ⟨_, _, _, _, _, _, _, _, _, by k_is, by k_is, by k_is⟩)
    (case zq_aTwice => k_is)
    (case zq_dTwice => exact ⟨_, _, _, _, _, _, _, _, _, by k_is, by k_is, by k_is⟩)
    (case zq_aFill => k_is)
    (case zq_dFill => exact ⟨_, _, _, _, _, _, _, _, _, by k_is, by k_is, by k_is⟩)
    (case zq_aFramed => k_is)
    (case zq_dFramed => exact ⟨_, _, _, _, _, _, _, _, _, by k_is, by k_is, by k_is⟩)
    (case zq_aLLots => k_is)
    (case zq_dLLots => exact ⟨_, _, _, _, _, _, _, _, _, by k_is, by k_is, by k_is⟩)
    (case zq_aPut => k_is)
    (case zq_dPut => exact ⟨_, _, _, _, _, _, _, _, _, by k_is, by k_is, by k_is⟩)
    (case zq_aTof => k_is)
    (case zq_dTof => exact ⟨_, _, _, _, _, _, _, _, _, by k_is, by k_is, by k_is⟩)
    (case zq_aLet => k_is)
    (case zq_dLet => exact ⟨_, _, _, _, _, _, _, _, _, by k_is, by k_is, by k_is⟩)
    (case zq_aAny => k_is)
    (case zq_dAny => exact ⟨_, _, _, _, _, _, _, _, _, by k_is, by k_is, by k_is⟩)
    (case zq_aIsFr => k_is)
    (case zq_dIsFr => exact ⟨_, _, _, _, _, _, _, _, _, by k_is, by k_is, by k_is⟩)
    (case zq_aCau => k_is)
    (case zq_dCau => exact ⟨_, _, _, _, _, _, _, _, _, by k_is, by k_is, by k_is⟩)
    (case zq_aRef => k_is)
    (case zq_dRef => exact ⟨_, _, _, _, _, _, _, _, by k_is, by k_is, by k_is⟩)
    (case zq_aLaw => k_is)
    (case zq_dLaw => exact ⟨_, _, _, _, _, _, _, _, by k_is, by k_is, by k_is⟩)
    (case zq_hdShorter => kernel_rfl)
    (case zq_nlShorter => kernel_rfl)
    (case zq_tbShorter => exact tabs _ (by simp))
    (case zq_hdRef => kernel_rfl)
    (case zq_nlRef => kernel_rfl)
    (case zq_tbRef => exact tabs _ (by simp))
    (case zq_hdLaw => kernel_rfl)
    (case zq_nlLaw => kernel_rfl)
    (case zq_tbLaw => exact tabs _ (by simp))
    (case zq_dif => decide)
    (case zq_z_abs => k_is)
    (case zq_z_all => k_is)
    (case zq_z_any => k_is)
    (case zq_z_bool => k_is)
    (case zq_z_dict => k_is)
    (case zq_z_enumerate => k_is)
    (case zq_z_int => k_is)
    (case zq_z_isinstance => k_is)
    (case zq_z_len => k_is)
    (case zq_z_list => k_is)
    (case zq_z_min => k_is)
    (case zq_z_range => k_is)
    (case zq_z_repr => k_is)
    (case zq_z_sorted => k_is)
    (case zq_z_str => k_is)
    (case zq_z_tuple => k_is)
    (case zq_z_super => k_is)
    (case zq_lI => k_is)
    (case zq_opq => k_is)
    (case zq_sp => k_is)
    (case zq_tk => k_is)
