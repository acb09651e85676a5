import PyProof.Rows.All
import Wide.All
import OpenK.AllK
import Wide.FinOn
import HandS.ForMost
import HandS.ForExc
import HandS.Wide
import HandS.Flow
import HandS.IsInst
import HandS.Comp
import HandS.Walk
import HandS.More
import HandS.Gcd
import KE.GoesEnum
import KE.KItemsList
import KE.KRevSl
import HandS.Star
import HandS.DictComp
import HandS.Conv
import KE.KExcSuper
import HandS.ExcSuper
import HandS.ExcInit
import HandS.FStrTup
import HandS.Property
import HandS.WideBits
import KE.KExcIs
import HandS.TupSets
import HandS.Style
import HandS.Codes
import PySem.Challenge.RW_fallsunder_k06_bad_terms
set_option Elab.async false
set_option linter.all false
set_option maxRecDepth 100000
set_option maxHeartbeats 4000000
/-! k06, part a: the law's bag of numbers. -/
namespace K06
open PySem L2
def top (i : Nat) : Stmt := PySem.Challenge.pw_fallsunder_k06_bad_terms.main.body.getD i (.Pass ⟨0, 0, 0, 0⟩)
abbrev sBag : Stmt := top 53
abbrev sPick : Stmt := top 54
abbrev sChoice : Stmt := top 55
abbrev sOneIn : Stmt := top 56
/-! ### the bag's dict -/
def bagK (l : Addr) (a r m c : Int) : List (Key × V) := [(Sum.inr "cells", .ref l), (Sum.inr "at", .int a), (Sum.inr "rest", .int r), (Sum.inr "mixed", .int m), (Sum.inr "count", .int c)]
section
variable (l : Addr) (a r m c x : Int)
theorem bag_cells : valV (bagK l a r m c) (Sum.inr "cells") = some (.ref l) := by rfl
theorem bag_at : valV (bagK l a r m c) (Sum.inr "at") = some (.int a) := by rfl
theorem bag_rest : valV (bagK l a r m c) (Sum.inr "rest") = some (.int r) := by rfl
theorem bag_mixed : valV (bagK l a r m c) (Sum.inr "mixed") = some (.int m) := by rfl
theorem bag_count : valV (bagK l a r m c) (Sum.inr "count") = some (.int c) := by rfl
theorem put_at : putK (bagK l a r m c) (Sum.inr "at") (.int x) = bagK l x r m c := by rfl
theorem put_rest : putK (bagK l a r m c) (Sum.inr "rest") (.int x) = bagK l a x m c := by rfl
theorem put_mixed : putK (bagK l a r m c) (Sum.inr "mixed") (.int x) = bagK l a r x c := by rfl
theorem put_count : putK (bagK l a r m c) (Sum.inr "count") (.int x) = bagK l a r m x := by rfl
end
/-- a bag stands at b -/
def BagL (H : Hp) (b l : Addr) : Prop := ∃ (ns : List Int) (a : Nat) (r m c : Int), H b = some (.dK (bagK l (a : Int) r m c)) ∧ H l = some (.lst (ns.map V.int)) ∧ ns.length ≤ 63
/-- what was tracked, but the bag, is as it was -/
def But (b : Addr) (H H' : Hp) : Prop := ∀ c o, H c = some o → c ≠ b → H' c = some o
theorem But.refl (b : Addr) (H : Hp) : But b H H := fun _ _ h _ => h
theorem But.trans {b : Addr} {H H1 H2 : Hp} (x : But b H H1) (y : But b H1 H2) : But b H H2 := fun c o h n => y c o (x c o h n) n
theorem But.of {b : Addr} {H H' : Hp} (x : Same H H') : But b H H' := fun c o h _ => x c o h
theorem BagL.same {H H' : Hp} {b l : Addr} (x : BagL H b l) (s : Same H H') : BagL H' b l := by
  obtain ⟨ns, a, r, m, c, h1, h2, h3⟩ := x
  exact ⟨ns, a, r, m, c, s _ _ h1, s _ _ h2, h3⟩
theorem bag_small (l : Addr) (a r m c : Int) : (bagK l a r m c).length < sizeLine := small1000 (Nat.le_of_ble_eq_true rfl)
section
variable {H : Hp} {b l : Addr} {a r m c : Int}
theorem dg_cells (h : H b = some (.dK (bagK l a r m c))) : DGet H b (.str "cells") (some (.ref l)) := DGet.k (k := Sum.inr "cells") h
theorem dg_at (h : H b = some (.dK (bagK l a r m c))) : DGet H b (.str "at") (some (.int a)) := DGet.k (k := Sum.inr "at") h
theorem dg_rest (h : H b = some (.dK (bagK l a r m c))) : DGet H b (.str "rest") (some (.int r)) := DGet.k (k := Sum.inr "rest") h
theorem dg_mixed (h : H b = some (.dK (bagK l a r m c))) : DGet H b (.str "mixed") (some (.int m)) := DGet.k (k := Sum.inr "mixed") h
theorem dg_count (h : H b = some (.dK (bagK l a r m c))) : DGet H b (.str "count") (some (.int c)) := DGet.k (k := Sum.inr "count") h
theorem dp_at (x : Int) (h : H b = some (.dK (bagK l a r m c))) : DPut H b (.str "at") (.int x) (upd H b (.dK (bagK l x r m c))) := DPut.k (k := Sum.inr "at") h (bag_small _ _ _ _ _)
theorem dp_rest (x : Int) (h : H b = some (.dK (bagK l a r m c))) : DPut H b (.str "rest") (.int x) (upd H b (.dK (bagK l a x m c))) := DPut.k (k := Sum.inr "rest") h (bag_small _ _ _ _ _)
theorem dp_mixed (x : Int) (h : H b = some (.dK (bagK l a r m c))) : DPut H b (.str "mixed") (.int x) (upd H b (.dK (bagK l a r x c))) := DPut.k (k := Sum.inr "mixed") h (bag_small _ _ _ _ _)
theorem dp_count (x : Int) (h : H b = some (.dK (bagK l a r m c))) : DPut H b (.str "count") (.int x) (upd H b (.dK (bagK l a r m x))) := DPut.k (k := Sum.inr "count") h (bag_small _ _ _ _ _)
end
/-- _law_pick(bag, many): any number from 0 to below many; a bag again -/
def spPick : Sp := fun vs H Q _ => ∃ (b l : Addr) (many : Int), vs = [.ref b, .int many] ∧ 0 < many ∧ many < 1073741824 ∧ BagL H b l ∧
  ∀ (r : Int) (H' : Hp), 0 ≤ r → r < many → BagL H' b l → But b H H' → (∀ c, c ≠ b → H' c = H c) → Q (.int r) H'
section
variable {P : Program} {w : World} {K : PySem.W.Frag} {mg : Str → Option Value} {base : Heap}
theorem scPick : FnScope ["_law_bag_here", "_law_many", "_law_number", "_law_cell"] ["_law_bag_here", "_law_many"] (defScope sPick) := ⟨rfl, rfl, rfl, by decide +kernel, rfl, by decide +kernel, by decide +kernel⟩
theorem ok_pick {f : Addr} {fd : FuncData} (F : Fun K "_law_pick" "_law_pick" sPick f fd) (mInt : mg "int" = none) (mLen : mg "len" = none) : FnOk P w K mg base CX0 1 f fd ["_law_bag_here", "_law_many"] spPick := by
  refine F.ok scPick (fun vs H Q E h => ?_) (fun cdv A outer s H vs Q E hr h => ?_)
  · obtain ⟨b, l, many, rfl, _⟩ := h
    rfl
  · obtain ⟨b, l, many, rfl, hm, hm2, ⟨ns, a, r, m, c, hb, hl, hn⟩, k⟩ := h
    have hu := hu_of hr
    refine ⟨_, pss_cons (ps_dput hu (pv 0) pe_str (pe_op op_add (pe_dget hu (pv 0) pe_str (fun _ _ => rfl)) pe_int) rfl)
      (pss_cons (ps_if (pt_cmpR op_gt (pe_dget hu (pv 0) pe_str (fun _ _ => rfl)) pe_int (nomark _))
        (pss_cons (ps_set (i := 2) scPick.nd rfl (Or.inl rfl) (pe_dget hu (pv 0) pe_str (fun _ _ => rfl)))
        (pss_cons (ps_dput hu (pv 0) pe_str (pe_op op_fdivN (pv 2) (pv 1)) rfl)
        (pss_one (ps_ret (pe_op op_mod (pe_callTy call_int1 (by rfl) mInt (by decide +kernel) (pa_cons (pv 2) pa_nil)) (pv 1)))))) pss_nil)
      (pss_cons (ps_set (i := 3) scPick.nd rfl (Or.inl rfl) pe_int)
      (pss_cons (ps_if (pt_cmpR op_lt (pe_dget hu (pv 0) pe_str (fun _ _ => rfl)) (pe_callB call_len_seq (by rfl) mLen PySem.boot_len (pa_cons (pe_dget hu (pv 0) pe_str (fun _ _ => rfl)) pa_nil)) (nomark _))
        (pss_cons (ps_set (i := 3) scPick.nd rfl (Or.inl rfl) (pe_ix ix_list (pe_dget hu (pv 0) pe_str (fun _ _ => rfl)) (pe_dget hu (pv 0) pe_str (fun _ _ => rfl)) (fun _ _ => rfl)))
        (pss_cons (ps_dput hu (pv 0) pe_str (pe_op op_add (pe_dget hu (pv 0) pe_str (fun _ _ => rfl)) pe_int) rfl)
        (pss_one (ps_if (pt_cmpR op_ge (pv 3) (pe_op op_pow pe_int pe_int) (nomark _))
          (pss_cons (ps_dput hu (pv 0) pe_str (pe_op op_fdivN (pv 3) (pv 1)) rfl)
          (pss_one (ps_ret (pe_op op_mod (pe_callTy call_int1 (by rfl) mInt (by decide +kernel) (pa_cons (pv 3) pa_nil)) (pv 1))))) pss_nil)))) pss_nil)
      (pss_cons (ps_set (i := 2) scPick.nd rfl (Or.inl rfl) (pe_op op_mod (pe_callTy call_int1 (by rfl) mInt (by decide +kernel) (pa_cons (pe_op op_add (pe_op op_add (pe_op op_mul (pv 3) pe_int) (pe_op op_mul (pe_dget hu (pv 0) pe_str (fun _ _ => rfl)) pe_int)) (pe_op op_mul (pe_dget hu (pv 0) pe_str (fun _ _ => rfl)) pe_int)) pa_nil)) pe_int))
      (pss_cons (ps_set (i := 2) scPick.nd rfl (Or.inl rfl) (pe_op op_mod (pe_callTy call_int1 (by rfl) mInt (by decide +kernel) (pa_cons (pe_op op_add (pe_op op_mul (pv 2) pe_int) pe_int) pa_nil)) pe_int))
      (pss_cons (ps_dput hu (pv 0) pe_str (pe_op op_mod (pe_callTy call_int1 (by rfl) mInt (by decide +kernel) (pa_cons (pv 2) pa_nil)) pe_int) rfl)
      (pss_one (ps_ret (pe_op op_mod (pe_callTy call_int1 (by rfl) mInt (by decide +kernel) (pa_cons (pe_op op_fdiv (pv 2) pe_int) pa_nil)) (pv 1)))))))))), ?_⟩
    -- bag['count'] = bag['count'] + 1
    refine ⟨_, rfl, b, _, rfl, dg_count hb, _, _, rfl, rfl, _, rfl, b, _, rfl, dp_count _ hb, ?_⟩
    have nl : l ≠ b := ne_of hl hb (by intro z; cases z)
    have cm : ∀ i j : Int, -(2 ^ 64) < j → j < 2 ^ 64 → CMul i j := fun i j x y => .inr ⟨x, y⟩
    -- if bag['rest'] > 0
    refine ⟨_, rfl, b, _, rfl, dg_rest upd_same, _, _, rfl, rfl, _, rfl, ?_⟩
    refine ite2 (fun hc => ?_) (fun hc => ?_)
    · have hr0 : 0 < r := of_decide_eq_true hc
      -- number = bag['rest']; bag['rest'] = number // many; return int(number) % many
      refine ⟨_, rfl, b, _, rfl, dg_rest upd_same, ?_⟩
      refine ⟨_, rfl, _, rfl, _, _, rfl, rfl, ⟨by omega, by omega⟩, _, rfl, b, _, rfl, dp_rest _ upd_same, ?_⟩
      refine ⟨_, rfl, .inl ⟨_, rfl, _, rfl, _, _, rfl, rfl, hm, ?_⟩⟩
      rw [upd_upd]
      exact k _ _ (Int.emod_nonneg _ (by omega)) (Int.emod_lt_of_pos _ hm) ⟨ns, a, _, m, _, upd_same, by rw [upd_ne nl]; exact hl, hn⟩ (fun c o h n => by rw [upd_ne n]; exact h) fun c n => upd_ne n
    · refine ⟨_, rfl, b, _, rfl, dg_at upd_same, _, rfl, b, _, rfl, dg_cells upd_same, l, _, rfl, .inl (SqL.of (by rw [upd_ne nl]; exact hl)), _, _, rfl, rfl, _, rfl, ?_⟩
      refine ite2 (fun hc => ?_) (fun hc => ?_)
      · have hlt : (a : Int) < ((ns.map V.int).length : Int) := of_decide_eq_true hc
        have hlt' : a < ns.length := by rw [List.length_map] at hlt; omega
        have hat : (ns.map V.int)[a]? = some (V.int ns[a]) := by rw [List.getElem?_map, List.getElem?_eq_getElem hlt']; rfl
        -- cell = bag['cells'][bag['at']]; bag['at'] = bag['at'] + 1
        refine ⟨_, rfl, b, _, rfl, dg_cells upd_same, _, rfl, b, _, rfl, dg_at upd_same, l, _, _, _, rfl, rfl, SqL.of (by rw [upd_ne nl]; exact hl), atI_nat hat, ?_⟩
        refine ⟨_, rfl, b, _, rfl, dg_at upd_same, _, _, rfl, rfl, _, rfl, b, _, rfl, dp_at _ upd_same, ?_⟩
        rw [upd_upd]
        -- if cell >= 10 ** 18
        refine ⟨_, rfl, _, _, rfl, rfl, ⟨by decide, by decide, by decide⟩, _, _, rfl, rfl, _, rfl, ?_⟩
        refine ite2 (fun hc2 => ?_) (fun hc2 => ?_)
        · refine ⟨_, rfl, _, rfl, _, _, rfl, rfl, ⟨by omega, by omega⟩, _, rfl, b, _, rfl, dp_rest _ upd_same, ?_⟩
          refine ⟨_, rfl, .inl ⟨_, rfl, _, rfl, _, _, rfl, rfl, hm, ?_⟩⟩
          rw [upd_upd]
          exact k _ _ (Int.emod_nonneg _ (by omega)) (Int.emod_lt_of_pos _ hm) ⟨ns, a + 1, _, m, _, upd_same, by rw [upd_ne nl]; exact hl, hn⟩ (fun c o h n => by rw [upd_ne n]; exact h) fun c n => upd_ne n
        · refine ⟨_, rfl, _, _, rfl, rfl, cm _ _ (by decide) (by decide), _, rfl, b, _, rfl, dg_mixed upd_same, _, _, rfl, rfl, cm _ _ (by decide) (by decide), _, _, rfl, rfl, ?_⟩
          refine ⟨_, rfl, b, _, rfl, dg_count upd_same, _, _, rfl, rfl, cm _ _ (by decide) (by decide), _, _, rfl, rfl, .inl ⟨_, rfl, _, _, rfl, rfl, (by show (0 : Int) < 2147483647; decide), ?_⟩⟩
          refine ⟨_, rfl, _, _, rfl, rfl, cm _ _ (by decide) (by decide), _, _, rfl, rfl, .inl ⟨_, rfl, _, _, rfl, rfl, (by show (0 : Int) < 2147483647; decide), ?_⟩⟩
          refine ⟨_, rfl, .inl ⟨_, rfl, _, _, rfl, rfl, (by show (0 : Int) < 1000003; decide), _, rfl, b, _, rfl, dp_mixed _ upd_same, ?_⟩⟩
          refine ⟨_, rfl, _, _, rfl, rfl, ⟨by decide, by decide⟩, .inl ⟨_, rfl, _, rfl, _, _, rfl, rfl, hm, ?_⟩⟩
          rw [upd_upd]
          exact k _ _ (Int.emod_nonneg _ (by omega)) (Int.emod_lt_of_pos _ hm) ⟨ns, a + 1, _, _, _, upd_same, by rw [upd_ne nl]; exact hl, hn⟩ (fun c o h n => by rw [upd_ne n]; exact h) fun c n => upd_ne n
      · refine ⟨_, rfl, _, _, rfl, rfl, cm _ _ (by decide) (by decide), _, rfl, b, _, rfl, dg_mixed upd_same, _, _, rfl, rfl, cm _ _ (by decide) (by decide), _, _, rfl, rfl, ?_⟩
        refine ⟨_, rfl, b, _, rfl, dg_count upd_same, _, _, rfl, rfl, cm _ _ (by decide) (by decide), _, _, rfl, rfl, .inl ⟨_, rfl, _, _, rfl, rfl, (by show (0 : Int) < 2147483647; decide), ?_⟩⟩
        refine ⟨_, rfl, _, _, rfl, rfl, cm _ _ (by decide) (by decide), _, _, rfl, rfl, .inl ⟨_, rfl, _, _, rfl, rfl, (by show (0 : Int) < 2147483647; decide), ?_⟩⟩
        refine ⟨_, rfl, .inl ⟨_, rfl, _, _, rfl, rfl, (by show (0 : Int) < 1000003; decide), _, rfl, b, _, rfl, dp_mixed _ upd_same, ?_⟩⟩
        refine ⟨_, rfl, _, _, rfl, rfl, ⟨by decide, by decide⟩, .inl ⟨_, rfl, _, rfl, _, _, rfl, rfl, hm, ?_⟩⟩
        rw [upd_upd]
        exact k _ _ (Int.emod_nonneg _ (by omega)) (Int.emod_lt_of_pos _ hm) ⟨ns, a, _, _, _, upd_same, by rw [upd_ne nl]; exact hl, hn⟩ (fun c o h n => by rw [upd_ne n]; exact h) fun c n => upd_ne n
end
end K06

/-! k06, part b: data made of tuples and lists; numbers or not. -/
namespace K06
open PySem L2
abbrev sIsNum : Stmt := top 3
abbrev sInteger : Stmt := top 57
/-- a short text of signs -/
def Sh (z : Str) : Prop := z.length ≤ 1000 ∧ PyData.strOk z = true
mutual
/-- at v the data d is to be read, all of it tracked -/
inductive Rp (H : Hp) : V → PyData → Prop
  | non : Rp H .non .none
  | bl (b : Bool) : Rp H (.bl b) (.bool b)
  | int (i : Int) : Rp H (.int i) (.int i)
  | str (z : Str) (h : Sh z) : Rp H (.str z) (.str z)
  | lst {a : Addr} {xs : List V} {ds : List PyData} : H a = some (.lst xs) → Rps H xs ds → Rp H (.ref a) (.list ds)
  | tup {a : Addr} {xs : List V} {ds : List PyData} : H a = some (.tup xs) → Rps H xs ds → Rp H (.ref a) (.tuple ds)
inductive Rps (H : Hp) : List V → List PyData → Prop
  | nil : Rps H [] []
  | cons {v : V} {vs : List V} {d : PyData} {ds : List PyData} : Rp H v d → Rps H vs ds → Rps H (v :: vs) (d :: ds)
end
/-- tuples and lists of H stand in H' -/
def Sq (H H' : Hp) : Prop := (∀ a xs, H a = some (.tup xs) → H' a = some (.tup xs)) ∧ ∀ a xs, H a = some (.lst xs) → H' a = some (.lst xs)
mutual
theorem Rp.mono {H H' : Hp} (s : Sq H H') : ∀ {v : V} {d : PyData}, Rp H v d → Rp H' v d
  | _, _, .non => .non
  | _, _, .bl b => .bl b
  | _, _, .int i => .int i
  | _, _, .str z h => .str z h
  | _, _, .lst e r => .lst (s.2 _ _ e) (Rps.mono s r)
  | _, _, .tup e r => .tup (s.1 _ _ e) (Rps.mono s r)
theorem Rps.mono {H H' : Hp} (s : Sq H H') : ∀ {vs : List V} {ds : List PyData}, Rps H vs ds → Rps H' vs ds
  | _, _, .nil => .nil
  | _, _, .cons r rs => .cons (Rp.mono s r) (Rps.mono s rs)
end
mutual
theorem Rp.dp {K : PySem.W.Frag} {H : Hp} : ∀ {v : V} {d : PyData}, Rp H v d → Dp K H v d
  | _, _, .non => .non
  | _, _, .bl b => .bl b
  | _, _, .int i => .int i
  | _, _, .str z _ => .str z
  | _, _, .lst e r => .lst (SqL.of e) (Rps.dp r)
  | _, _, .tup e r => .tup (SqT.of e) (Rps.dp r)
theorem Rps.dp {K : PySem.W.Frag} {H : Hp} : ∀ {vs : List V} {ds : List PyData}, Rps H vs ds → DpAll K H vs ds
  | _, _, .nil => .nil
  | _, _, .cons r rs => .cons (Rp.dp r) (Rps.dp rs)
end
mutual
theorem Rp.lay {H : Hp} : ∀ {v : V} {d : PyData}, Rp H v d → d.canLay0 = true
  | _, _, .non => by simp only [PyData.canLay0]
  | _, _, .bl b => by simp only [PyData.canLay0]
  | _, _, .int i => by simp only [PyData.canLay0]
  | _, _, .str z h => by simp only [PyData.canLay0]; exact h.2
  | _, _, .lst e r => by simp only [PyData.canLay0]; exact Rps.lay r
  | _, _, .tup e r => by simp only [PyData.canLay0]; exact Rps.lay r
theorem Rps.lay {H : Hp} : ∀ {vs : List V} {ds : List PyData}, Rps H vs ds → PyData.canLayAll0 ds = true
  | _, _, .nil => by simp only [PyData.canLayAll0]
  | _, _, .cons r rs => by simp only [PyData.canLayAll0, Rp.lay r, Rps.lay rs, Bool.and_self]
end
theorem Sq.of {H H' : Hp} (s : Same H H') : Sq H H' := ⟨fun a xs e => s a _ e, fun a xs e => s a _ e⟩
theorem Sq.but {b l : Addr} {H H' : Hp} (B : BagL H b l) (s : But b H H') : Sq H H' := by
  obtain ⟨ns, a, r, m, c, hb, _⟩ := B
  exact ⟨fun p xs e => s p _ e (ne_of e hb (by intro z; cases z)), fun p xs e => s p _ e (ne_of e hb (by intro z; cases z))⟩
theorem Sq.trans {H H1 H2 : Hp} (x : Sq H H1) (y : Sq H1 H2) : Sq H H2 := ⟨fun a xs e => y.1 a xs (x.1 a xs e), fun a xs e => y.2 a xs (x.2 a xs e)⟩
theorem Sq.refl (H : Hp) : Sq H H := ⟨fun _ _ e => e, fun _ _ e => e⟩
theorem Rps.length {H : Hp} : ∀ {vs : List V} {ds : List PyData}, Rps H vs ds → vs.length = ds.length
  | _, _, .nil => rfl
  | _, _, .cons _ rs => by rw [List.length_cons, List.length_cons, Rps.length rs]
theorem Rps.get {H : Hp} : ∀ {vs : List V} {ds : List PyData}, Rps H vs ds → ∀ {i : Nat} {d : PyData}, ds[i]? = some d → ∃ v, vs[i]? = some v ∧ Rp H v d
  | _, _, .nil, i, d, h => by cases i <;> cases h
  | _, _, .cons r rs, 0, d, h => by cases h; exact ⟨_, rfl, r⟩
  | _, _, .cons r rs, i + 1, d, h => Rps.get rs h
def dI : PyData → Bool
  | .int _ => true
  | .bool _ => true
  | _ => false
def dB : PyData → Bool
  | .bool _ => true
  | _ => false
def dS : PyData → Bool
  | .str _ => true
  | _ => false
def dT : PyData → Bool
  | .tuple _ => true
  | _ => false
/-- an integer, and no truth -/
def dN : PyData → Bool
  | .int _ => true
  | _ => false
section
variable {K : PySem.W.Frag} {H : Hp} {x : V} {d : PyData}
theorem Rp.kInt (t : Rp H x d) : ∃ v, TyX K H x v ∧ PySem.W.kitOne K v (.type "int") = some (dI d) := by
  cases t with
  | non => exact ⟨_, .base .non, kit_ty (r := false) (by decide +kernel)⟩
  | bl b => exact ⟨_, .base (.bl b), kit_ty (r := true) (by decide +kernel)⟩
  | int i => exact ⟨_, .base (.int i), kit_ty (r := true) (by decide +kernel)⟩
  | str z _ => exact ⟨_, .base (.str z), kit_ty (r := false) (by decide +kernel)⟩
  | lst e _ => exact ⟨_, .base (.lst e), kit_ty (r := false) (by decide +kernel)⟩
  | tup e _ => exact ⟨_, .base (.tup e), kit_ty (r := false) (by decide +kernel)⟩
theorem Rp.kBool (t : Rp H x d) : ∃ v, TyX K H x v ∧ PySem.W.kitOne K v (.type "bool") = some (dB d) := by
  cases t with
  | non => exact ⟨_, .base .non, kit_ty (r := false) (by decide +kernel)⟩
  | bl b => exact ⟨_, .base (.bl b), kit_ty (r := true) (by decide +kernel)⟩
  | int i => exact ⟨_, .base (.int i), kit_ty (r := false) (by decide +kernel)⟩
  | str z _ => exact ⟨_, .base (.str z), kit_ty (r := false) (by decide +kernel)⟩
  | lst e _ => exact ⟨_, .base (.lst e), kit_ty (r := false) (by decide +kernel)⟩
  | tup e _ => exact ⟨_, .base (.tup e), kit_ty (r := false) (by decide +kernel)⟩
theorem Rp.kStr (t : Rp H x d) : ∃ v, TyX K H x v ∧ PySem.W.kitOne K v (.type "str") = some (dS d) := by
  cases t with
  | non => exact ⟨_, .base .non, kit_ty (r := false) (by decide +kernel)⟩
  | bl b => exact ⟨_, .base (.bl b), kit_ty (r := false) (by decide +kernel)⟩
  | int i => exact ⟨_, .base (.int i), kit_ty (r := false) (by decide +kernel)⟩
  | str z _ => exact ⟨_, .base (.str z), kit_ty (r := true) (by decide +kernel)⟩
  | lst e _ => exact ⟨_, .base (.lst e), kit_ty (r := false) (by decide +kernel)⟩
  | tup e _ => exact ⟨_, .base (.tup e), kit_ty (r := false) (by decide +kernel)⟩
theorem Rp.kTup (t : Rp H x d) : ∃ v, TyX K H x v ∧ PySem.W.kitOne K v (.type "tuple") = some (dT d) := by
  cases t with
  | non => exact ⟨_, .base .non, kit_ty (r := false) (by decide +kernel)⟩
  | bl b => exact ⟨_, .base (.bl b), kit_ty (r := false) (by decide +kernel)⟩
  | int i => exact ⟨_, .base (.int i), kit_ty (r := false) (by decide +kernel)⟩
  | str z _ => exact ⟨_, .base (.str z), kit_ty (r := false) (by decide +kernel)⟩
  | lst e _ => exact ⟨_, .base (.lst e), kit_ty (r := false) (by decide +kernel)⟩
  | tup e _ => exact ⟨_, .base (.tup e), kit_ty (r := true) (by decide +kernel)⟩
end
/-- the module's names that the built-ins keep -/
structure Nms (mg : Str → Option Value) : Prop where
  int : mg "int" = none
  len : mg "len" = none
  isi : mg "isinstance" = none
  bool : mg "bool" = none
  str : mg "str" = none
  tuple : mg "tuple" = none
  list : mg "list" = none
  range : mg "range" = none
  max : mg "max" = none
  all : mg "all" = none
  sorted : mg "sorted" = none
  reversed : mg "reversed" = none
  enumerate : mg "enumerate" = none
/-- isinstance(x, int) and not isinstance(x, bool) -/
def spNum : Sp := fun vs H Q _ => ∃ x d, vs = [x] ∧ Rp H x d ∧ Q (.bl (dN d)) H
section
variable {P : Program} {w : World} {K : PySem.W.Frag} {mg : Str → Option Value} {base : Heap}
theorem scIsNum : FnScope ["thing"] ["thing"] (defScope sIsNum) := ⟨rfl, rfl, rfl, by decide +kernel, rfl, by decide +kernel, by decide +kernel⟩
theorem scInteger : FnScope ["_law_thing"] ["_law_thing"] (defScope sInteger) := ⟨rfl, rfl, rfl, by decide +kernel, rfl, by decide +kernel, by decide +kernel⟩
theorem ok_isnum {f : Addr} {fd : FuncData} (F : Fun K "is_number" "is_number" sIsNum f fd) (N : Nms mg) : FnOk P w K mg base CX0 1 f fd ["thing"] spNum := by
  refine F.ok scIsNum (fun vs H Q E h => ?_) (fun cdv A outer s H vs Q E hr h => ?_)
  · obtain ⟨x, d, rfl, _⟩ := h
    rfl
  · obtain ⟨x, d, rfl, t, k⟩ := h
    refine ⟨_, pss_one (ps_ret (pe_and (pe_callB call_isi (by rfl) N.isi (by decide +kernel) (pa_cons (pv 0) (pa_cons (pe_bltn (v := .ty "int") (by rfl) N.int (by decide +kernel) rfl) pa_nil)))
      (pe_one (pe_not (pe_callB call_isi (by rfl) N.isi (by decide +kernel) (pa_cons (pv 0) (pa_cons (pe_bltn (v := .ty "bool") (by rfl) N.bool (by decide +kernel) rfl) pa_nil))))))), ?_⟩
    obtain ⟨v1, ty1, k1⟩ := t.kInt (K := K)
    obtain ⟨v2, ty2, k2⟩ := t.kBool (K := K)
    refine ⟨_, rfl, _, _, v1, _, _, rfl, .ty _, ty1, k1, _, rfl, ?_⟩
    cases e : dI d with
    | true =>
      refine iteT ?_
      refine ⟨_, rfl, _, _, v2, _, _, rfl, .ty _, ty2, k2, _, rfl, ?_⟩
      cases d <;> first | exact k | (cases e)
    | false =>
      refine iteF ?_
      cases d <;> first | exact k | (cases e)
theorem ok_integer {f : Addr} {fd : FuncData} (F : Fun K "_law_integer" "_law_integer" sInteger f fd) (N : Nms mg) : FnOk P w K mg base CX0 1 f fd ["_law_thing"] spNum := by
  refine F.ok scInteger (fun vs H Q E h => ?_) (fun cdv A outer s H vs Q E hr h => ?_)
  · obtain ⟨x, d, rfl, _⟩ := h
    rfl
  · obtain ⟨x, d, rfl, t, k⟩ := h
    refine ⟨_, pss_one (ps_ret (pe_and (pe_callB call_isi (by rfl) N.isi (by decide +kernel) (pa_cons (pv 0) (pa_cons (pe_bltn (v := .ty "int") (by rfl) N.int (by decide +kernel) rfl) pa_nil)))
      (pe_one (pe_not (pe_callB call_isi (by rfl) N.isi (by decide +kernel) (pa_cons (pv 0) (pa_cons (pe_bltn (v := .ty "bool") (by rfl) N.bool (by decide +kernel) rfl) pa_nil))))))), ?_⟩
    obtain ⟨v1, ty1, k1⟩ := t.kInt (K := K)
    obtain ⟨v2, ty2, k2⟩ := t.kBool (K := K)
    refine ⟨_, rfl, _, _, v1, _, _, rfl, .ty _, ty1, k1, _, rfl, ?_⟩
    cases e : dI d with
    | true =>
      refine iteT ?_
      refine ⟨_, rfl, _, _, v2, _, _, rfl, .ty _, ty2, k2, _, rfl, ?_⟩
      cases d <;> first | exact k | (cases e)
    | false =>
      refine iteF ?_
      cases d <;> first | exact k | (cases e)
end
end K06

/-! k06, part c: the bag made, choices. -/
namespace K06
open PySem L2
/-- _law_bag(script) -/
def spBag (K : PySem.W.Frag) : Sp := fun vs H Q _ => ∃ (a : Addr) (ns : List Int), vs = [.ref a] ∧ SqL K H a (ns.map V.int) ∧ ns.length ≤ 63 ∧ ∀ (b l : Addr) (H' : Hp), H b = none → H l = none → BagL H' b l → Same H H' → Q (.ref b) H'
/-- _law_one_in(bag, many) -/
def spOneIn : Sp := fun vs H Q _ => ∃ (b l : Addr) (many : Int), vs = [.ref b, .int many] ∧ 0 < many ∧ many < 1073741824 ∧ BagL H b l ∧
  ∀ (r : Bool) (H' : Hp), BagL H' b l → But b H H' → (∀ c, c ≠ b → H' c = H c) → Q (.bl r) H'
/-- _law_choice(bag, things): one of them -/
def spChoice (K : PySem.W.Frag) : Sp := fun vs H Q _ => ∃ (b bl l : Addr) (xs : List V), vs = [.ref b, .ref l] ∧ H l = some (.lst xs) ∧ l ≠ b ∧ 0 < xs.length ∧ xs.length < 1000 ∧ BagL H b bl ∧
  ∀ (x : V) (H' : Hp), x ∈ xs → BagL H' b bl → But b H H' → (∀ c, c ≠ b → H' c = H c) → Q x H'
/-- a comprehension without a test -/
theorem yesT {σ : St} {H : Hp} {A B : Hp → Prop} (h : A H) : tYes σ H fun b H3 => if b = true then A H3 else B H3 := by
  show if true = true then A H else B H
  rw [if_pos rfl]
  exact h
section
variable {P : Program} {w : World} {K : PySem.W.Frag} {mg : Str → Option Value} {base : Heap} {C : Addr}
theorem scBag : FnScope ["_law_script", "_law_mixed", "_law_cell"] ["_law_script"] (defScope sBag) := ⟨rfl, rfl, rfl, by decide +kernel, rfl, by decide +kernel, by decide +kernel⟩
theorem scChoice : FnScope ["_law_bag_here", "_law_things"] ["_law_bag_here", "_law_things"] (defScope sChoice) := ⟨rfl, rfl, rfl, by decide +kernel, rfl, by decide +kernel, by decide +kernel⟩
theorem scOneIn : FnScope ["_law_bag_here", "_law_many"] ["_law_bag_here", "_law_many"] (defScope sOneIn) := ⟨rfl, rfl, rfl, by decide +kernel, rfl, by decide +kernel, by decide +kernel⟩
theorem ok_onein {f fp : Addr} {fd fdp : FuncData} (F : Fun K "_law_one_in" "_law_one_in" sOneIn f fd) (FP : Fun K "_law_pick" "_law_pick" sPick fp fdp) (bP : Binds K fdp ["_law_bag_here", "_law_many"] []) (gP : mg "_law_pick" = some (.ref fp)) (N : Nms mg) :
    FnOk P w K mg base CX0 2 f fd ["_law_bag_here", "_law_many"] spOneIn := by
  have GP : FnOk P w K mg base CX0 1 fp fdp ["_law_bag_here", "_law_many"] spPick := ok_pick FP N.int N.len
  refine F.ok scOneIn (fun vs H Q E h => ?_) (fun cdv A outer s H vs Q E hr h => ?_)
  · obtain ⟨b, l, many, rfl, _⟩ := h
    rfl
  · obtain ⟨b, l, many, rfl, hm, hm2, B, k⟩ := h
    refine ⟨_, pss_one (ps_ret (pe_cmpR op_eq (pe_call GP hr rfl gP FP.kp bP .nil pass0 (pa_cons (pv 0) (pa_cons (pv 1) pa_nil))) pe_int (nomark _))), ?_⟩
    refine ⟨_, rfl, _, rfl, b, l, many, rfl, hm, hm2, B, fun r H' h0 h1 B' bt nw => ?_⟩
    exact ⟨rfl, k _ H' B' bt nw⟩
theorem ok_choice {f fp : Addr} {fd fdp : FuncData} (F : Fun K "_law_choice" "_law_choice" sChoice f fd) (FP : Fun K "_law_pick" "_law_pick" sPick fp fdp) (bP : Binds K fdp ["_law_bag_here", "_law_many"] []) (gP : mg "_law_pick" = some (.ref fp)) (N : Nms mg) :
    FnOk P w K mg base CX0 2 f fd ["_law_bag_here", "_law_things"] (spChoice K) := by
  have GP : FnOk P w K mg base CX0 1 fp fdp ["_law_bag_here", "_law_many"] spPick := ok_pick FP N.int N.len
  refine F.ok scChoice (fun vs H Q E h => ?_) (fun cdv A outer s H vs Q E hr h => ?_)
  · obtain ⟨b, bl, l, xs, rfl, _⟩ := h
    rfl
  · obtain ⟨b, bl, l, xs, rfl, hl, nl, h0, h1, B, k⟩ := h
    refine ⟨_, pss_one (ps_ret (pe_ix ix_list (pv 1) (pe_call GP hr rfl gP FP.kp bP .nil pass0 (pa_cons (pv 0) (pa_cons (pe_callB call_len_seq (by rfl) N.len PySem.boot_len (pa_cons (pv 1) pa_nil)) pa_nil))) (fun _ _ => rfl))), ?_⟩
    refine ⟨_, rfl, _, rfl, _, rfl, l, xs, rfl, .inl (SqL.of hl), b, bl, (xs.length : Int), rfl, by omega, by omega, B, fun r H' r0 r1 B' bt nw => ?_⟩
    obtain ⟨j, rfl⟩ := Int.eq_ofNat_of_zero_le r0
    have hj : j < xs.length := by omega
    exact ⟨l, xs, _, xs[j], rfl, rfl, SqL.of (bt _ _ hl nl), atI_nat (by rw [List.getElem?_eq_getElem hj]), k _ H' (List.getElem_mem hj) B' bt nw⟩
theorem ok_bag {f : Addr} {fd : FuncData} (F : Fun K "_law_bag" "_law_bag" sBag f fd) (N : Nms mg) : FnOk P w K mg base CX0 1 f fd ["_law_script"] (spBag K) := by
  refine F.ok scBag (fun vs H Q E h => ?_) (fun cdv A outer s H vs Q E hr h => ?_)
  · obtain ⟨a, ns, rfl, _⟩ := h
    rfl
  · obtain ⟨a, ns, rfl, hS, hn, k⟩ := h
    refine ⟨_, pss_cons (ps_set (i := 1) scBag.nd rfl (Or.inl rfl) pe_int)
      (pss_cons (ps_for PassesOwn.never rfl (pi_list (pv 0)) (pg_name (i := 2) scBag.nd rfl (Or.inl rfl))
        (pss_one (ps_set (i := 1) scBag.nd rfl (Or.inl rfl) (pe_op op_mod (pe_callTy call_int1 (by rfl) N.int (by decide +kernel) (pa_cons (pe_op op_add (pe_op op_add (pe_op op_mul (pv 1) pe_int) (pv 2)) pe_int) pa_nil)) pe_int))))
      (pss_one (ps_ret (pe_disp (pps_cons pe_str (pe_lc (own := [("_law_cell", 2)]) (g := gName 2) (tt := tYes) (te := tVar 2) rfl scBag.nd (pi_list (pv 0)) (blkOk_by (N := ["_law_script", "_law_mixed", "_law_cell"]) (sc := defScope sBag) (by decide +kernel)) (fun _ _ _ _ _ => pg_name (i := 2) scBag.nd rfl (Or.inl rfl)) (fun _ _ _ _ _ => pts_nil) (fun _ _ _ _ _ => pv 2))
        (pps_cons pe_str pe_int (pps_cons pe_str pe_int (pps_cons pe_str (pv 1) (pps_cons pe_str pe_int pps_nil))))) (by rfl) (by rfl) (fun z => by cases z) (by decide))))), ?_⟩
    refine ⟨_, rfl, a, rfl, ⟨_, hS⟩, for_list (K := K) (a := a) (xs := ns.map V.int) (fun i σ H' => ∃ (m : Int) (v : Option V), σ = [some (.ref a), some (.int m), v] ∧ H' = H) ⟨7, none, rfl, rfl⟩ (fun i σ H' _ ⟨_, _, _, e⟩ => by rw [e]; exact hS) ?_ ?_⟩
    · rintro i y σ H' hi ⟨m, v, rfl, rfl⟩
      obtain ⟨z, rfl⟩ : ∃ z, y = V.int z := by
        rw [List.getElem?_map] at hi
        cases e : ns[i]? with
        | none => rw [e] at hi; cases hi
        | some z => rw [e] at hi; exact ⟨z, (Option.some.inj hi).symm⟩
      refine ⟨_, rfl, _, _, rfl, rfl, .inr ⟨by decide, by decide⟩, _, rfl, _, _, rfl, rfl, _, _, rfl, rfl, .inl ⟨_, rfl, _, _, rfl, rfl, (by show (0 : Int) < 1000003; decide), ?_⟩⟩
      exact ⟨_, _, rfl, rfl⟩
    · rintro σ H' ⟨m, v, rfl, rfl⟩
      intro p np
      have np' : ∀ q o, H' q = some o → q ≠ p := fun q o e => ne_of_none e np
      have hS' : SqL K (upd H' p (.dK [])) a (ns.map V.int) := by
        rcases hS with (h | ⟨o, h⟩) | h
        · exact .inl (.inl (by rw [upd_ne (np' _ _ h)]; exact h))
        · exact .inl (.inr ⟨o, by rw [upd_ne (np' _ _ h)]; exact h⟩)
        · exact .inr h
      refine ⟨_, rfl, a, rfl, ⟨_, hS'⟩, fun D hD => ?_⟩
      have sD : Same (upd H' p (.dK [])) (upd (upd H' p (.dK [])) D (.lst [])) := fun q o e => by rw [upd_ne (ne_of_none e hD)]; exact e
      refine lc_list (K := K) (a := a) (xs := ns.map V.int) (fun i H2 => Same (upd H' p (.dK [])) H2 ∧ H2 D = some (.lst ((ns.map V.int).take i))) ⟨sD, upd_same⟩ (fun i H2 _ ⟨e, _⟩ => e.seq hS') ?_ ?_
      · rintro i x H2 hi ⟨e, hd⟩
        have hil : i < (ns.map V.int).length := (List.getElem?_eq_some_iff.mp hi).1
        have hx : (ns.map V.int).take (i + 1) = (ns.map V.int).take i ++ [x] := by rw [List.take_add_one, hi]; rfl
        have hD2 : ∀ q o, upd H' p (.dK []) q = some o → q ≠ D := fun q o z => ne_of_none z hD
        refine ⟨rfl, ?_⟩
        refine yesT ?_
        refine ⟨_, rfl, _, hd, ?_, fun q o z => ?_, ?_⟩
        · rw [List.length_take]
          exact small1000 (by rw [List.length_map]; omega)
        · rw [upd_ne (hD2 q o z)]
          exact e q o z
        · rw [hx]
          exact upd_same
      · rintro H2 ⟨e, hd⟩
        rw [List.take_length] at hd
        have hp2 : H2 p = some (.dK []) := e p _ upd_same
        have nD : D ≠ p := fun z => by rw [z, upd_same] at hD; cases hD
        refine ⟨_, rfl, hp2, [(Sum.inr "cells", .ref D), (Sum.inr "at", .int 0), (Sum.inr "rest", .int 0), (Sum.inr "mixed", .int m), (Sum.inr "count", .int 0)], rfl, Nat.le_of_ble_eq_true rfl, ?_⟩
        refine k p D _ np ?_ ⟨ns, 0, 0, m, 0, ?_, ?_, hn⟩ fun q o z => ?_
        · cases e : H' D with
          | none => rfl
          | some u => rw [upd_ne (np' D u e), e] at hD; cases hD
        · exact upd_same
        · rw [upd_ne nD]
          exact hd
        · rw [upd_ne (np' q o z)]
          exact e q o (by rw [upd_ne (np' q o z)]; exact z)
end
end K06

/-! k06, part d: names, headings' names. -/
namespace K06
open PySem L2
abbrev sIsName : Stmt := top 15
abbrev sIsHead : Stmt := top 23
def letters : Str := "abcdefghijklmnopqrstuvwxyz"
def figures : Str := "0123456789"
def reserved : List Str := ["any", "none", "mix", "form", "state", "over", "from", "parts", "some", "each", "main", "falls", "not", "and", "or", "two", "ring", "open"]
abbrev resV : List V := reserved.map V.str
def isLet (c : Nat) : Bool := decide (c ∈ letters.cps.toList)
def isFig (c : Nat) : Bool := decide (c ∈ figures.cps.toList)
/-- is the text a name -/
def nmS (z : Str) : Bool := decide (1 ≤ (z.length : Int)) && decide ((z.length : Int) ≤ 12) && (z.cps.toList.all isLet && !inV (.str z) resV)
/-- is it a heading's name -/
def hdS (z : Str) : Bool := decide (1 ≤ (z.length : Int)) && decide ((z.length : Int) ≤ 8) && !inV (.str z) resV && z.cps.toList.all fun c => isLet c || isFig c
def nmD : PyData → Bool
  | .str z => nmS z
  | _ => false
def hdD : PyData → Bool
  | .str z => hdS z
  | _ => false
/-- what the module's constants are -/
structure Glb (K : PySem.W.Frag) (mg : Str → Option Value) : Prop where
  letters : ∃ u, mg "LETTERS" = some u ∧ RelV (.str letters) u
  longest : ∃ u, mg "LONGEST_NAME" = some u ∧ RelV (.int 12) u
  heading : ∃ u, mg "LONGEST_HEADING" = some u ∧ RelV (.int 8) u
  bottom : ∃ u, mg "GREATEST_BOTTOM" = some u ∧ RelV (.int 20) u
  parts : ∃ u, mg "GREATEST_PARTS" = some u ∧ RelV (.int 4) u
  reserved : ∃ a, mg "RESERVED" = some (.ref a) ∧ ∀ H, SqT K H a resV
/-- a test of data: the answer, and nothing that stood has changed -/
def spTest (t : PyData → Bool) : Sp := fun vs H Q _ => ∃ x d, vs = [x] ∧ Rp H x d ∧ ∀ H', Same H H' → Q (.bl (t d)) H'
theorem same_new {H H1 : Hp} {p : Addr} {o : HO} (s : Same H H1) (n : H1 p = none) : Same H (upd H1 p o) := fun a u e => by
  rw [upd_ne (ne_of_none (s a u e) n)]
  exact s a u e
theorem same_put {H H1 : Hp} {p : Addr} {o : HO} (s : Same H H1) (n : H p = none) : Same H (upd H1 p o) := fun a u e => by
  rw [upd_ne (ne_of_none e n)]
  exact s a u e
theorem Same.rfl' {H : Hp} : Same H H := fun _ _ e => e
section
variable {P : Program} {w : World} {K : PySem.W.Frag} {mg : Str → Option Value} {base : Heap}
theorem scIsName : FnScope ["thing", "letter"] ["thing"] (defScope sIsName) := ⟨rfl, rfl, rfl, by decide +kernel, rfl, by decide +kernel, by decide +kernel⟩
theorem scIsHead : FnScope ["thing", "sign"] ["thing"] (defScope sIsHead) := ⟨rfl, rfl, rfl, by decide +kernel, rfl, by decide +kernel, by decide +kernel⟩
theorem ok_isname {f : Addr} {fd : FuncData} (F : Fun K "is_name" "is_name" sIsName f fd) (N : Nms mg) (G : Glb K mg) : FnOk P w K mg base CX0 1 f fd ["thing"] (spTest nmD) := by
  obtain ⟨uL, mL, rL⟩ := G.letters
  obtain ⟨uM, mM, rM⟩ := G.longest
  obtain ⟨aR, mR, sR⟩ := G.reserved
  refine F.ok scIsName (fun vs H Q E h => ?_) (fun cdv A outer s H vs Q E hr h => ?_)
  · obtain ⟨x, d, rfl, _⟩ := h
    rfl
  · obtain ⟨x, d, rfl, t, k⟩ := h
    refine ⟨_, pss_cons (ps_if (PW.pt (pw_or (pt_not (pt_val (pe_callB call_isi (by rfl) N.isi (by decide +kernel) (pa_cons (pv 0) (pa_cons (pe_bltn (v := .ty "str") (by rfl) N.str (by decide +kernel) rfl) pa_nil)))))
        (pw_or1 (pt_not (pt_chain op_le op_le pe_int (pe_callB call_len_str (by rfl) N.len PySem.boot_len (pa_cons (pv 0) pa_nil)) (pe_glob rfl mM rM)))))) (pss_one (ps_ret pe_bl)) pss_nil)
      (pss_one (ps_ret (pe_and (pe_callB (cr_all rfl) (by rfl) N.all (by decide +kernel) (pa_cons
        (pe_lc (own := [("letter", 1)]) (g := gName 1) (tt := tYes) rfl scIsName.nd (pi_str (pv 0)) (blkOk_by (N := ["thing", "letter"]) (sc := defScope sIsName) (by decide +kernel)) (fun _ _ _ _ _ => pg_name (i := 1) scIsName.nd rfl (Or.inl rfl)) (fun _ _ _ _ _ => pts_nil)
          (fun _ _ _ _ _ => pe_cmpR op_in_sign (pv 1) (pe_glob rfl mL rL) rfl)) pa_nil)) (pe_one (pe_cmpR op_notIn_seq (pv 0) (pe_glob (v := .ref aR) rfl mR rfl) rfl))))), ?_⟩
    obtain ⟨v1, ty1, k1⟩ := t.kStr (K := K)
    refine ⟨_, rfl, _, _, v1, _, _, rfl, .ty _, ty1, k1, _, rfl, ?_⟩
    cases t with
    | non => exact iteT (k H Same.rfl')
    | bl b => exact iteT (k H Same.rfl')
    | int i => exact iteT (k H Same.rfl')
    | lst e r => exact iteT (k H Same.rfl')
    | tup e r => exact iteT (k H Same.rfl')
    | str z hz =>
      refine iteF ?_
      have hz' : z.length ≤ sizeLine := Nat.le_trans hz.1 (by decide)
      refine ⟨_, rfl, z, rfl, hz', _, _, rfl, rfl, _, rfl, ?_⟩
      by_cases h1 : (1 : Int) ≤ (z.length : Int)
      · rw [decide_eq_true h1]
        refine iteT ⟨_, _, rfl, rfl, _, rfl, ?_⟩
        by_cases h2 : (z.length : Int) ≤ 12
        · rw [decide_eq_true h2]
          refine iteF ?_
          refine ⟨_, rfl, z, rfl, fun D hD => ?_⟩
          have sD : Same H (upd H D (.lst [])) := same_new Same.rfl' hD
          refine lc_it walk_str (fun i H2 => Same H H2 ∧ H2 D = some (.lst ((z.cps.toList.take i).map fun c => .bl (isLet c)))) ⟨sD, upd_same⟩ (fun _ _ _ _ => True.intro) ?_ ?_
          · rintro i x H1 H2 hi ⟨s1, d1⟩ ⟨rfl, c, hc, rfl⟩
            have hx : (z.cps.toList.take (i + 1)).map (fun c => V.bl (isLet c)) = (z.cps.toList.take i).map (fun c => V.bl (isLet c)) ++ [.bl (isLet c)] := by
              rw [List.take_add_one, Array.getElem?_toList, hc, List.map_append]
              rfl
            refine ⟨rfl, yesT ⟨_, rfl, c, letters, rfl, rfl, _, d1, ?_, same_put s1 hD, ?_⟩⟩
            · rw [List.length_map, List.length_take]
              have : i < z.length := hi
              exact small1000 (by omega)
            · rw [upd_same]
              exact congrArg (fun l => some (HO.lst l)) hx.symm
          · rintro H2 ⟨s1, d1⟩
            refine ⟨D, z.cps.toList.map isLet, rfl, SqL.of ?_, _, rfl, ?_⟩
            · rw [d1, List.take_of_length_le (Nat.le_of_eq (Array.length_toList)), List.map_map]
              rfl
            · have e1 : (z.cps.toList.map isLet).all id = z.cps.toList.all isLet := by rw [List.all_map]; rfl
              rw [e1]
              cases e : z.cps.toList.all isLet with
              | true =>
                refine iteT ⟨_, rfl, aR, resV, rfl, .inr (sR _), rfl, by decide, ?_⟩
                have : nmD (.str z) = !inV (.str z) resV := by
                  show nmS z = _
                  unfold nmS
                  rw [decide_eq_true h1, decide_eq_true h2, e]
                  rfl
                have q := k H2 s1
                rw [this] at q
                exact q
              | false =>
                refine iteF ?_
                have : nmD (.str z) = false := by
                  show nmS z = _
                  unfold nmS
                  rw [e, Bool.false_and, Bool.and_false]
                have q := k H2 s1
                rw [this] at q
                exact q
        · rw [decide_eq_false h2]
          refine iteT ?_
          have : nmD (.str z) = false := by
            show nmS z = false
            unfold nmS
            rw [decide_eq_false h2, Bool.and_false, Bool.false_and]
          rw [← this]
          exact k H Same.rfl'
      · rw [decide_eq_false h1]
        refine iteF ⟨_, rfl, iteT ?_⟩
        have : nmD (.str z) = false := by
          show nmS z = false
          unfold nmS
          rw [decide_eq_false h1, Bool.false_and, Bool.false_and]
        rw [← this]
        exact k H Same.rfl'
theorem ok_ishead {f : Addr} {fd : FuncData} (F : Fun K "is_heading_name" "is_heading_name" sIsHead f fd) (N : Nms mg) (G : Glb K mg) : FnOk P w K mg base CX0 1 f fd ["thing"] (spTest hdD) := by
  obtain ⟨uL, mL, rL⟩ := G.letters
  obtain ⟨uM, mM, rM⟩ := G.heading
  obtain ⟨aR, mR, sR⟩ := G.reserved
  refine F.ok scIsHead (fun vs H Q E h => ?_) (fun cdv A outer s H vs Q E hr h => ?_)
  · obtain ⟨x, d, rfl, _⟩ := h
    rfl
  · obtain ⟨x, d, rfl, t, k⟩ := h
    refine ⟨_, pss_cons (ps_if (PW.pt (pw_or (pt_not (pt_val (pe_callB call_isi (by rfl) N.isi (by decide +kernel) (pa_cons (pv 0) (pa_cons (pe_bltn (v := .ty "str") (by rfl) N.str (by decide +kernel) rfl) pa_nil)))))
        (pw_or (pt_not (pt_chain op_le op_le pe_int (pe_callB call_len_str (by rfl) N.len PySem.boot_len (pa_cons (pv 0) pa_nil)) (pe_glob rfl mM rM)))
        (pw_or1 (pt_cmpR op_in_seq (pv 0) (pe_glob (v := .ref aR) rfl mR rfl) rfl))))) (pss_one (ps_ret pe_bl)) pss_nil)
      (pss_one (ps_ret (pe_callB (cr_all rfl) (by rfl) N.all (by decide +kernel) (pa_cons
        (pe_lc (own := [("sign", 1)]) (g := gName 1) (tt := tYes) rfl scIsHead.nd (pi_str (pv 0)) (blkOk_by (N := ["thing", "sign"]) (sc := defScope sIsHead) (by decide +kernel)) (fun _ _ _ _ _ => pg_name (i := 1) scIsHead.nd rfl (Or.inl rfl)) (fun _ _ _ _ _ => pts_nil)
          (fun _ _ _ _ _ => pe_or (pe_cmpR op_in_sign (pv 1) (pe_glob rfl mL rL) rfl) (pe_one (pe_cmpR op_in_sign (pv 1) pe_str rfl)))) pa_nil)))), ?_⟩
    obtain ⟨v1, ty1, k1⟩ := t.kStr (K := K)
    refine ⟨_, rfl, _, _, v1, _, _, rfl, .ty _, ty1, k1, _, rfl, ?_⟩
    cases t with
    | non => exact iteT (k H Same.rfl')
    | bl b => exact iteT (k H Same.rfl')
    | int i => exact iteT (k H Same.rfl')
    | lst e r => exact iteT (k H Same.rfl')
    | tup e r => exact iteT (k H Same.rfl')
    | str z hz =>
      refine iteF ?_
      have hz' : z.length ≤ sizeLine := Nat.le_trans hz.1 (by decide)
      refine ⟨_, rfl, z, rfl, hz', _, _, rfl, rfl, _, rfl, ?_⟩
      by_cases h1 : (1 : Int) ≤ (z.length : Int)
      · rw [decide_eq_true h1]
        refine iteT ⟨_, _, rfl, rfl, _, rfl, ?_⟩
        by_cases h2 : (z.length : Int) ≤ 8
        · rw [decide_eq_true h2]
          refine iteF ⟨_, rfl, aR, resV, rfl, .inr (sR _), rfl, by decide, _, rfl, ?_⟩
          show if inV (.str z) resV = true then _ else _
          cases e3 : inV (.str z) resV with
          | true =>
            refine iteT ?_
            have : hdD (.str z) = false := by
              show hdS z = false
              unfold hdS
              rw [e3, Bool.not_true, Bool.and_false, Bool.false_and]
            rw [← this]
            exact k H Same.rfl'
          | false =>
            refine iteF ?_
            refine ⟨_, rfl, z, rfl, fun D hD => ?_⟩
            have sD : Same H (upd H D (.lst [])) := same_new Same.rfl' hD
            refine lc_it walk_str (fun i H2 => Same H H2 ∧ H2 D = some (.lst ((z.cps.toList.take i).map fun c => .bl (isLet c || isFig c)))) ⟨sD, upd_same⟩ (fun _ _ _ _ => True.intro) ?_ ?_
            · rintro i x H1 H2 hi ⟨s1, d1⟩ ⟨rfl, c, hc, rfl⟩
              have hx : (z.cps.toList.take (i + 1)).map (fun c => V.bl (isLet c || isFig c)) = (z.cps.toList.take i).map (fun c => V.bl (isLet c || isFig c)) ++ [.bl (isLet c || isFig c)] := by
                rw [List.take_add_one, Array.getElem?_toList, hc, List.map_append]
                rfl
              refine ⟨rfl, yesT ⟨_, rfl, c, letters, rfl, rfl, ?_⟩⟩
              have hl : ((z.cps.toList.take i).map fun c => V.bl (isLet c || isFig c)).length < sizeLine := by
                rw [List.length_map, List.length_take]
                have : i < z.length := hi
                exact small1000 (by omega)
              show ∃ _, _
              refine ⟨_, rfl, ?_⟩
              show if isLet c = true then _ else _
              cases el : isLet c with
              | true =>
                refine iteT ⟨_, d1, hl, same_put s1 hD, ?_⟩
                rw [upd_same, hx, el]
                rfl
              | false =>
                refine iteF ⟨_, rfl, c, figures, rfl, rfl, _, d1, hl, same_put s1 hD, ?_⟩
                rw [upd_same, hx, el]
                rfl
            · rintro H2 ⟨s1, d1⟩
              refine ⟨D, z.cps.toList.map fun c => isLet c || isFig c, rfl, SqL.of ?_, ?_⟩
              · rw [d1, List.take_of_length_le (Nat.le_of_eq (Array.length_toList)), List.map_map]
                rfl
              · have e1 : (z.cps.toList.map fun c => isLet c || isFig c).all id = z.cps.toList.all fun c => isLet c || isFig c := by rw [List.all_map]; rfl
                rw [e1]
                have : hdD (.str z) = z.cps.toList.all fun c => isLet c || isFig c := by
                  show hdS z = _
                  unfold hdS
                  rw [decide_eq_true h1, decide_eq_true h2, e3]
                  rfl
                rw [← this]
                exact k H2 s1
        · rw [decide_eq_false h2]
          refine iteT ?_
          have : hdD (.str z) = false := by
            show hdS z = false
            unfold hdS
            rw [decide_eq_false h2, Bool.and_false, Bool.false_and, Bool.false_and]
          rw [← this]
          exact k H Same.rfl'
      · rw [decide_eq_false h1]
        refine iteF ⟨_, rfl, iteT ?_⟩
        have : hdD (.str z) = false := by
          show hdS z = false
          unfold hdS
          rw [decide_eq_false h1, Bool.false_and, Bool.false_and, Bool.false_and]
        rw [← this]
        exact k H Same.rfl'
end
end K06

/-! k06, part e: shares; operators on data and written dicts. -/
namespace K06
open PySem L2 PySem.Spec PyProof.Rows
abbrev sIsShare : Stmt := top 24
/-- a == b of data, one side of them flat enough -/
def rEqM (K : PySem.W.Frag) : R2 := fun x y H Q => ∃ d e, Dp K H x d ∧ Dp K H y e ∧ d.canLay0 = true ∧ e.canLay0 = true ∧ min d.depth e.depth ≤ 64 ∧ Q (.bl (PyData.eqv d e)) H
/-- is the text a key of the written dict -/
def KHas (K : PySem.W.Frag) (w : World) (a : Addr) (z : Str) (r : Bool) : Prop :=
  ∃ es n o, K.lookup a = some ⟨.type "dict", none, .dict es n, #[]⟩ ∧ PySem.W.KeysLit w.params es.toList ∧ (a == sysModules) = false ∧ PySem.W.nsIn K a z = some o ∧ o.isSome = r
def rNotKD (K : PySem.W.Frag) (w : World) : R2 := fun x y H Q => ∃ p z r, x = .str z ∧ y = .ref p ∧ KHas K w p z r ∧ Q (.bl (!r)) H
section
variable {X : Cx}
theorem op_eqM (hu : X.A.units + 64 < cLine) : OpR X (compareOp .Eq) (rEqM X.K) := by
  intro pins s σ H x y v u Q I rx ry h
  obtain ⟨d, e, hd, he, ld, le, hm, q⟩ := h
  obtain ⟨as, r1⟩ := Dp.reads I d x v hd rx
  obtain ⟨bs, r2⟩ := Dp.reads I e y u he ry
  exact SeqAt.compareEq_reads r1 r2 ld le (by omega) ⟨.bl _, H, I, rfl, q⟩
theorem op_notKD : OpR X (compareOp .NotIn) (rNotKD X.K X.w) := by
  intro pins s σ H x y v u Q I rx ry h
  obtain ⟨p, z, r, rfl, rfl, ⟨es, n, o, hl, hk, lo, ho, hr⟩, q⟩ := h
  obtain ⟨t, rfl⟩ := rx
  obtain rfl : u = Value.ref p := ry
  refine wpAny_notIn_of (strKind_is X.prog X.w z t) lo (PySem.W.mapOf_K I.kIn hl hk) ?_
  rw [PySem.W.find_K hl ho, hr]
  exact ⟨.bl (!r), H, I.tok _, rfl, q⟩
end
/-- a def that stands, with its name -/
structure Df (K : PySem.W.Frag) (mg : Str → Option Value) (name : Str) (st : Stmt) (ps : List Str) (f : Addr) (fd : FuncData) : Prop where
  F : Fun K name name st f fd
  b : Binds K fd ps []
  g : mg name = some (.ref f)
def shD : PyData → PyData → Bool
  | .int p, .int q => decide (1 ≤ q) && decide (q ≤ 20) && (decide (0 ≤ p) && decide (p ≤ q) && decide (((Nat.gcd p.natAbs q.natAbs : Nat) : Int) = 1))
  | _, _ => false
theorem shD_ints (p q : Int) : shD (.int p) (.int q) = (decide (1 ≤ q) && decide (q ≤ 20) && (decide (0 ≤ p) && decide (p ≤ q) && decide (((Nat.gcd p.natAbs q.natAbs : Nat) : Int) = 1))) := rfl
def spShare : Sp := fun vs H Q _ => ∃ x y d e, vs = [x, y] ∧ Rp H x d ∧ Rp H y e ∧ Q (.bl (shD d e)) H
section
variable {P : Program} {w : World} {K : PySem.W.Frag} {mg : Str → Option Value} {base : Heap}
theorem scIsShare : FnScope ["top", "bottom"] ["top", "bottom"] (defScope sIsShare) := ⟨rfl, rfl, rfl, by decide +kernel, rfl, by decide +kernel, by decide +kernel⟩
theorem ok_isshare {f fn : Addr} {fd fdn : FuncData} (F : Fun K "is_share_of" "is_share_of" sIsShare f fd) (N : Nms mg) (G : Glb K mg) (DN : Df K mg "is_number" sIsNum ["thing"] fn fdn) (gcd : mg "gcd" = some (.builtin "math.gcd")) :
    FnOk P w K mg base CX0 2 f fd ["top", "bottom"] spShare := by
  have GN : FnOk P w K mg base CX0 1 fn fdn ["thing"] spNum := ok_isnum DN.F N
  obtain ⟨uB, mB, rB⟩ := G.bottom
  refine F.ok scIsShare (fun vs H Q E h => ?_) (fun cdv A outer s H vs Q E hr h => ?_)
  · obtain ⟨x, y, d, e, rfl, _⟩ := h
    rfl
  · obtain ⟨x, y, d, e, rfl, tx, ty, k⟩ := h
    refine ⟨_, pss_cons (ps_if (PW.pt (pw_or (pt_not (pt_val (pe_call GN hr rfl DN.g DN.F.kp DN.b .nil pass0 (pa_cons (pv 0) pa_nil)))) (pw_or1 (pt_not (pt_val (pe_call GN hr rfl DN.g DN.F.kp DN.b .nil pass0 (pa_cons (pv 1) pa_nil))))))) (pss_one (ps_ret pe_bl)) pss_nil)
      (pss_one (ps_ret (pe_and (pe_chain op_le op_le pe_int (pv 1) (pe_glob rfl mB rB)) (pe_and (pe_chain op_le op_le pe_int (pv 0) (pv 1)) (pe_one (pe_cmpR op_eq (pe_callBfun cr_gcd rfl gcd (pa_cons (pv 0) (pa_cons (pv 1) pa_nil))) pe_int (nomark _))))))), ?_⟩
    refine ⟨_, rfl, x, d, rfl, tx, _, rfl, ?_⟩
    cases ed : dN d with
    | false =>
      refine iteT ?_
      have : shD d e = false := by cases d <;> first | rfl | cases ed
      rw [this] at k
      exact k
    | true =>
      refine iteF ⟨_, rfl, y, e, rfl, ty, _, rfl, ?_⟩
      cases ee : dN e with
      | false =>
        refine iteT ?_
        have : shD d e = false := by cases e <;> first | (cases d <;> rfl) | cases ee
        rw [this] at k
        exact k
      | true =>
        refine iteF ?_
        cases tx <;> first | cases ed | skip
        rename_i p
        cases ty <;> first | cases ee | skip
        rename_i q
        refine ⟨_, rfl, _, _, rfl, rfl, _, rfl, ?_⟩
        by_cases h1 : 1 ≤ q
        · rw [decide_eq_true h1]
          refine iteT ⟨_, _, rfl, rfl, _, rfl, ?_⟩
          by_cases h2 : q ≤ 20
          · rw [decide_eq_true h2]
            refine iteT ⟨_, rfl, _, _, rfl, rfl, _, rfl, ?_⟩
            by_cases h3 : 0 ≤ p
            · rw [decide_eq_true h3]
              refine iteT ⟨_, rfl, _, _, rfl, rfl, _, rfl, ?_⟩
              by_cases h4 : p ≤ q
              · rw [decide_eq_true h4]
                refine iteT ⟨_, rfl, _, rfl, p, q, rfl, rfl, ?_⟩
                have e5 : shD (.int p) (.int q) = decide (V.int ((Nat.gcd p.natAbs q.natAbs : Nat) : Int) = V.int 1) := by
                  rw [shD_ints]
                  rw [decide_eq_true h1, decide_eq_true h2, decide_eq_true h3, decide_eq_true h4, dec_int]
                  rfl
                rw [e5] at k
                exact k
              · rw [decide_eq_false h4]
                refine iteF ?_
                have e5 : shD (.int p) (.int q) = false := by
                  rw [shD_ints]
                  rw [decide_eq_false h4, Bool.and_false, Bool.false_and, Bool.and_false]
                rw [e5] at k
                exact k
            · rw [decide_eq_false h3]
              refine iteF ⟨_, rfl, iteF ?_⟩
              have e5 : shD (.int p) (.int q) = false := by
                rw [shD_ints]
                rw [decide_eq_false h3, Bool.false_and, Bool.false_and, Bool.and_false]
              rw [e5] at k
              exact k
          · rw [decide_eq_false h2]
            refine iteF ?_
            have e5 : shD (.int p) (.int q) = false := by
              rw [shD_ints]
              rw [decide_eq_false h2, Bool.and_false, Bool.false_and]
            rw [e5] at k
            exact k
        · rw [decide_eq_false h1]
          refine iteF ⟨_, rfl, iteF ?_⟩
          have e5 : shD (.int p) (.int q) = false := by
            rw [shD_ints]
            rw [decide_eq_false h1, Bool.false_and, Bool.false_and]
          rw [e5] at k
          exact k
end
end K06

/-! k06, part f: is a term right by its own sign. -/
namespace K06
open PySem L2 PySem.Spec PyProof.Rows
abbrev sIsSign : Stmt := top 25
/-- a sign's length, and how many terms stand beneath it -/
def arities : List (Str × Nat × Nat) := [("any", 1, 0), ("none", 1, 0), ("mix", 1, 0), ("form", 2, 0), ("state", 2, 0), ("over", 4, 0), ("from", 4, 0), ("parts", 2, 0), ("some", 2, 1), ("each", 2, 1), ("main", 2, 1), ("falls", 2, 0), ("not", 2, 1), ("and", 3, 2), ("or", 3, 2)]
def arity (z : Str) : Option (Nat × Nat) := arities.lookup z
abbrev namedV : List V := [.str "form", .str "state"]
abbrev sharesV : List V := [.str "over", .str "from"]
/-- the tables of the signs -/
structure Shp (K : PySem.W.Frag) (w : World) (mg : Str → Option Value) : Prop where
  shapes : ∃ a es n, mg "SHAPES" = some (.ref a) ∧ (a == sysModules) = false ∧ K.lookup a = some ⟨.type "dict", none, .dict es n, #[]⟩ ∧ PySem.W.KeysLit w.params es.toList ∧
    (∀ z, arity z = none → PySem.W.nsIn K a z = some none) ∧ ∀ z p q, arity z = some (p, q) → ∃ t, PySem.W.nsIn K a z = some (some (.ref t)) ∧ ∀ H, SqT K H t [.int (p : Nat), .int (q : Nat)]
  shares : ∃ a, mg "SHARES" = some (.ref a) ∧ ∀ H, SqT K H a sharesV
def partsD : PyData → Bool
  | .int n => decide (1 ≤ n) && decide (n ≤ 4)
  | _ => false
/-- the rest of a sign's tuple, behind its word -/
def restD (z : Str) (ds : List PyData) : Bool :=
  if inV (.str z) namedV then nmD (ds.getD 0 .none)
  else if inV (.str z) sharesV then nmD (ds.getD 0 .none) && shD (ds.getD 1 .none) (ds.getD 2 .none)
  else if decide (V.str z = V.str "parts") then partsD (ds.getD 0 .none)
  else !decide (V.str z = V.str "falls") || hdD (ds.getD 0 .none)
def signD : PyData → Bool
  | .tuple (.str z :: ds) => match arity z with
    | some (n, _) => decide (ds.length + 1 = n) && restD z ds
    | none => false
  | _ => false
theorem arity_mem {z : Str} {r : Nat × Nat} (h : arity z = some r) : (z, r) ∈ arities := by
  unfold arity at h
  revert h
  generalize arities = l
  induction l with
  | nil => intro h; cases h
  | cons a l ih =>
    intro h
    rw [List.lookup_cons] at h
    split at h
    · rename_i e
      cases h
      rw [eq_of_beq e]
      exact List.mem_cons_self
    · exact List.mem_cons_of_mem _ (ih h)
theorem named_len {z : Str} {n m : Nat} (h : arity z = some (n, m)) (e : inV (.str z) namedV = true) : n = 2 := by
  have hm := arity_mem h
  have : ∀ p ∈ arities, inV (.str p.1) namedV = true → p.2.1 = 2 := by decide +kernel
  exact this _ hm e
theorem shares_len {z : Str} {n m : Nat} (h : arity z = some (n, m)) (e : inV (.str z) sharesV = true) : n = 4 := by
  have hm := arity_mem h
  have : ∀ p ∈ arities, inV (.str p.1) sharesV = true → p.2.1 = 4 := by decide +kernel
  exact this _ hm e
theorem parts_len {z : Str} {n m : Nat} (h : arity z = some (n, m)) (e : decide (V.str z = V.str "parts") = true) : n = 2 := by
  have hm := arity_mem h
  have : ∀ p ∈ arities, decide (V.str p.1 = V.str "parts") = true → p.2.1 = 2 := by decide +kernel
  exact this _ hm e
theorem falls_len {z : Str} {n m : Nat} (h : arity z = some (n, m)) (e : (!decide (V.str z = V.str "falls")) = false) : n = 2 := by
  have hm := arity_mem h
  have : ∀ p ∈ arities, (!decide (V.str p.1 = V.str "falls")) = false → p.2.1 = 2 := by decide +kernel
  exact this _ hm e
theorem sameT {H H1 H2 : Hp} (x : Same H H1) (y : Same H1 H2) : Same H H2 := fun a o e => y a o (x a o e)
theorem at0 {α : Type} {v : α} {vs : List α} : atI (v :: vs) 0 = some v := atI_nat (j := 0) rfl
theorem at1 {α : Type} {v v1 : α} {vs : List α} : atI (v :: v1 :: vs) 1 = some v1 := atI_nat (j := 1) rfl
theorem at2 {α : Type} {v v1 v2 : α} {vs : List α} : atI (v :: v1 :: v2 :: vs) 2 = some v2 := atI_nat (j := 2) rfl
theorem at3 {α : Type} {v v1 v2 v3 : α} {vs : List α} : atI (v :: v1 :: v2 :: v3 :: vs) 3 = some v3 := atI_nat (j := 3) rfl
section
variable {P : Program} {w : World} {K : PySem.W.Frag} {mg : Str → Option Value} {base : Heap}
theorem scIsSign : FnScope ["term", "word"] ["term"] (defScope sIsSign) := ⟨rfl, rfl, rfl, by decide +kernel, rfl, by decide +kernel, by decide +kernel⟩
theorem ok_issign {f fn fs fh fm : Addr} {fd fdn fds fdh fdm : FuncData} (F : Fun K "is_sign" "is_sign" sIsSign f fd) (N : Nms mg) (G : Glb K mg) (S : Shp K w mg) (gcd : mg "gcd" = some (.builtin "math.gcd"))
    (DN : Df K mg "is_number" sIsNum ["thing"] fn fdn) (DS : Df K mg "is_share_of" sIsShare ["top", "bottom"] fs fds) (DH : Df K mg "is_heading_name" sIsHead ["thing"] fh fdh) (DM : Df K mg "is_name" sIsName ["thing"] fm fdm) :
    FnOk P w K mg base CX0 3 f fd ["term"] (spTest signD) := by
  have GN : FnOk P w K mg base CX0 1 fn fdn ["thing"] spNum := ok_isnum DN.F N
  have GS : FnOk P w K mg base CX0 2 fs fds ["top", "bottom"] spShare := ok_isshare DS.F N G DN gcd
  have GH : FnOk P w K mg base CX0 1 fh fdh ["thing"] (spTest hdD) := ok_ishead DH.F N G
  have GM : FnOk P w K mg base CX0 1 fm fdm ["thing"] (spTest nmD) := ok_isname DM.F N G
  obtain ⟨aS, es, nS, mS, loS, lS, kS, misS, hasS⟩ := S.shapes
  obtain ⟨aH, mH, sH⟩ := S.shares
  obtain ⟨uP, mP, rP⟩ := G.parts
  refine F.ok scIsSign (fun vs H Q E h => ?_) (fun cdv A outer s H vs Q E hr h => ?_)
  · obtain ⟨x, d, rfl, _⟩ := h
    rfl
  · obtain ⟨x, d, rfl, t, k⟩ := h
    have r1 := hr.mono (show 1 ≤ 2 by decide)
    refine ⟨_, pss_cons (ps_if (PW.pt (pw_or (pt_not (pt_val (pe_callB call_isi (by rfl) N.isi (by decide +kernel) (pa_cons (pv 0) (pa_cons (pe_bltn (v := .ty "tuple") (by rfl) N.tuple (by decide +kernel) rfl) pa_nil)))))
        (pw_or (pt_cmpR (op_eqM hr.units) (pv 0) (pe_tup pa_nil) (nomark _))
        (pw_or (pt_not (pt_val (pe_callB call_isi (by rfl) N.isi (by decide +kernel) (pa_cons (pe_ix ix_tup (pv 0) pe_int (fun _ _ => rfl)) (pa_cons (pe_bltn (v := .ty "str") (by rfl) N.str (by decide +kernel) rfl) pa_nil)))))
        (pw_or1 (pt_cmpR op_notKD (pe_ix ix_tup (pv 0) pe_int (fun _ _ => rfl)) (pe_glob (v := .ref aS) rfl mS rfl) rfl)))))) (pss_one (ps_ret pe_bl)) pss_nil)
      (pss_cons (ps_set (i := 1) scIsSign.nd rfl (Or.inl rfl) (pe_ix ix_tup (pv 0) pe_int (fun _ _ => rfl)))
      (pss_cons (ps_if (pt_cmpR op_ne (pe_callB call_len_seq (by rfl) N.len PySem.boot_len (pa_cons (pv 0) pa_nil)) (pe_ix ix_tup (pe_ix ix_kdict (pe_glob (v := .ref aS) rfl mS rfl) (pv 1) (fun _ _ => rfl)) pe_int (fun _ _ => rfl)) (nomark _)) (pss_one (ps_ret pe_bl)) pss_nil)
      (pss_cons (ps_if (pt_cmpR op_in_seq (pv 1) (pe_tup (pa_cons pe_str (pa_cons pe_str pa_nil))) rfl) (pss_one (ps_ret (pe_call GM r1 rfl DM.g DM.F.kp DM.b .nil pass0 (pa_cons (pe_ix ix_tup (pv 0) pe_int (fun _ _ => rfl)) pa_nil)))) pss_nil)
      (pss_cons (ps_if (pt_cmpR op_in_seq (pv 1) (pe_glob (v := .ref aH) rfl mH rfl) rfl) (pss_one (ps_ret (pe_and (pe_call GM r1 rfl DM.g DM.F.kp DM.b .nil pass0 (pa_cons (pe_ix ix_tup (pv 0) pe_int (fun _ _ => rfl)) pa_nil))
          (pe_one (pe_call GS hr rfl DS.g DS.F.kp DS.b .nil pass0 (pa_cons (pe_ix ix_tup (pv 0) pe_int (fun _ _ => rfl)) (pa_cons (pe_ix ix_tup (pv 0) pe_int (fun _ _ => rfl)) pa_nil))))))) pss_nil)
      (pss_cons (ps_if (pt_cmpR op_eq (pv 1) pe_str (nomark _)) (pss_one (ps_ret (pe_and (pe_call GN r1 rfl DN.g DN.F.kp DN.b .nil pass0 (pa_cons (pe_ix ix_tup (pv 0) pe_int (fun _ _ => rfl)) pa_nil))
          (pe_one (pe_chain op_le op_le pe_int (pe_ix ix_tup (pv 0) pe_int (fun _ _ => rfl)) (pe_glob rfl mP rP)))))) pss_nil)
      (pss_one (ps_ret (pe_or (pe_cmpR op_ne (pv 1) pe_str (nomark _)) (pe_one (pe_call GH r1 rfl DH.g DH.F.kp DH.b .nil pass0 (pa_cons (pe_ix ix_tup (pv 0) pe_int (fun _ _ => rfl)) pa_nil))))))))))), ?_⟩
    obtain ⟨v1, ty1, k1⟩ := t.kTup (K := K)
    refine ⟨_, rfl, _, _, v1, _, _, rfl, .ty _, ty1, k1, _, rfl, ?_⟩
    cases t with
    | non => exact iteT (k H Same.rfl')
    | bl b => exact iteT (k H Same.rfl')
    | int i => exact iteT (k H Same.rfl')
    | str z hz => exact iteT (k H Same.rfl')
    | lst e r => exact iteT (k H Same.rfl')
    | @tup a xs ds e r =>
      refine iteF ?_
      refine ⟨_, rfl, Nat.zero_le _, fun p np => ?_⟩
      have s0 : Same H (upd H p (.tup [])) := same_new Same.rfl' np
      refine ⟨.tuple ds, .tuple [], (Rp.tup (s0 _ _ e) (r.mono (Sq.of s0))).dp, (Rp.tup (H := upd H p (.tup [])) upd_same .nil).dp, (Rp.tup e r).lay, by decide, ?_, _, rfl, ?_⟩
      · refine Nat.le_trans (Nat.min_le_right _ _) (by decide)
      cases r with
      | nil => exact iteT (k _ s0)
      | @cons v vs d ds tv tvs =>
        refine iteF ?_
        have tv0 := tv.mono (Sq.of s0)
        obtain ⟨v2, ty2, k2⟩ := tv0.kStr (K := K)
        refine ⟨_, rfl, a, _, 0, v, rfl, rfl, SqT.of (s0 _ _ e), at0, _, _, v2, _, _, rfl, .ty _, ty2, k2, _, rfl, ?_⟩
        cases tv with
        | non => exact iteT (k _ s0)
        | bl b => exact iteT (k _ s0)
        | int i => exact iteT (k _ s0)
        | lst e r => exact iteT (k _ s0)
        | tup e r => exact iteT (k _ s0)
        | str z hz =>
          refine iteF ⟨_, rfl, a, _, 0, .str z, rfl, rfl, SqT.of (s0 _ _ e), at0, aS, z, (arity z).isSome, rfl, rfl, ?_, _, rfl, ?_⟩
          · cases ea : arity z with
            | none => exact ⟨es, nS, none, lS, kS, loS, misS z ea, rfl⟩
            | some r =>
              obtain ⟨p1, q1⟩ := r
              obtain ⟨t1, h1, _⟩ := hasS z p1 q1 ea
              exact ⟨es, nS, some (.ref t1), lS, kS, loS, h1, rfl⟩
          cases ea : arity z with
          | none =>
            refine iteT ?_
            have q := k _ s0
            have e1 : signD (.tuple (.str z :: ds)) = false := by
              show (match arity z with | some (n, _) => decide (ds.length + 1 = n) && restD z ds | none => false) = false
              rw [ea]
            rw [e1] at q
            exact q
          | some r =>
            obtain ⟨n, m⟩ := r
            refine iteF ?_
            have e1 : signD (.tuple (.str z :: ds)) = (decide (ds.length + 1 = n) && restD z ds) := by
              show (match arity z with | some (n, _) => decide (ds.length + 1 = n) && restD z ds | none => false) = _
              rw [ea]
            rw [e1] at k
            obtain ⟨t1, h1, q1⟩ := hasS z n m ea
            refine ⟨_, rfl, a, _, 0, .str z, rfl, rfl, SqT.of (s0 _ _ e), at0, ?_⟩
            refine ⟨_, rfl, a, _, rfl, .inr (SqT.of (s0 _ _ e)), _, rfl, aS, z, .ref t1, rfl, rfl, ⟨es, nS, _, lS, kS, h1, rfl⟩, t1, _, 0, _, rfl, rfl, q1 _, at0, rfl, _, rfl, ?_⟩
            have hl : vs.length = ds.length := tvs.length
            by_cases hn : ds.length + 1 = n
            · have e2 : (!decide (V.int ((V.str z :: vs).length : Nat) = V.int (n : Nat))) = false := by
                rw [List.length_cons, hl, hn, decide_eq_true rfl]
                rfl
              show if (!decide (V.int ((V.str z :: vs).length : Nat) = V.int (n : Nat))) = true then _ else _
              rw [e2]
              rw [decide_eq_true hn, Bool.true_and] at k
              refine iteF ⟨_, rfl, (by show 2 ≤ sizeLine; decide), fun p2 np2 => ⟨p2, namedV, rfl, .inr (SqT.of upd_same), rfl, by decide, _, rfl, ?_⟩⟩
              have s1 : Same H (upd (upd H p (.tup [])) p2 (.tup namedV)) := same_new s0 np2
              have tvs1 := tvs.mono (Sq.of s1)
              have e' := s1 _ _ e
              generalize upd (upd H p (.tup [])) p2 (.tup namedV) = H1 at s1 tvs1 e'
              clear np2 s0 ty2 tv0 np k2
              show if inV (.str z) namedV = true then _ else _
              unfold restD at k
              cases e3 : inV (.str z) namedV with
              | true =>
                refine iteT ?_
                have hn2 := named_len ea e3
                cases tvs1 with
                | nil => simp at hn; omega
                | @cons v3 vs3 d3 ds3 t3 ts3 =>
                  refine ⟨_, rfl, a, _, 1, v3, rfl, rfl, SqT.of e', at1, v3, d3, rfl, t3, fun H' s' => ?_⟩
                  have q := k H' (sameT s1 s')
                  rw [e3, if_pos rfl] at q
                  exact q
              | false =>
                refine iteF ⟨_, rfl, aH, sharesV, rfl, .inr (sH _), rfl, by decide, _, rfl, ?_⟩
                show if inV (.str z) sharesV = true then _ else _
                cases e4 : inV (.str z) sharesV with
                | true =>
                  refine iteT ?_
                  have hn2 := shares_len ea e4
                  cases tvs1 with
                  | nil => simp at hn; omega
                  | @cons v3 vs3 d3 ds3 t3 ts3 =>
                    cases ts3 with
                    | nil => simp at hn; omega
                    | @cons v4 vs4 d4 ds4 t4 ts4 =>
                      cases ts4 with
                      | nil => simp at hn; omega
                      | @cons v5 vs5 d5 ds5 t5 ts5 =>
                        refine ⟨_, rfl, a, _, 1, v3, rfl, rfl, SqT.of e', at1, v3, d3, rfl, t3, fun H' s' => ⟨_, rfl, ?_⟩⟩
                        have q := k H' (sameT s1 s')
                        rw [e3, e4, if_neg Bool.false_ne_true, if_pos rfl] at q
                        show if nmD d3 = true then _ else _
                        cases e5 : nmD d3 with
                        | true =>
                          refine iteT ?_
                          refine ⟨_, rfl, a, _, 2, v4, rfl, rfl, SqT.of (s' _ _ e'), at2, _, rfl, a, _, 3, v5, rfl, rfl, SqT.of (s' _ _ e'), at3, v4, v5, d4, d5, rfl, t4.mono (Sq.of s'), t5.mono (Sq.of s'), ?_⟩
                          have q2 : Q (.bl (nmD d3 && shD d4 d5)) H' := q
                          rw [e5] at q2
                          exact q2
                        | false =>
                          refine iteF ?_
                          have q2 : Q (.bl (nmD d3 && shD d4 d5)) H' := q
                          rw [e5] at q2
                          exact q2
                | false =>
                  refine iteF ⟨_, rfl, rfl, _, rfl, ?_⟩
                  cases e5 : decide (V.str z = V.str "parts") with
                  | true =>
                    refine iteT ?_
                    have hn2 := parts_len ea e5
                    cases tvs1 with
                    | nil => simp at hn; omega
                    | @cons v3 vs3 d3 ds3 t3 ts3 =>
                      refine ⟨_, rfl, a, _, 1, v3, rfl, rfl, SqT.of e', at1, v3, d3, rfl, t3, _, rfl, ?_⟩
                      have q := k _ s1
                      rw [e3, e4, e5, if_neg Bool.false_ne_true, if_neg Bool.false_ne_true, if_pos rfl] at q
                      have q2 : Q (.bl (partsD d3)) H1 := q
                      cases t3 with
                      | non => exact iteF q2
                      | bl b => exact iteF q2
                      | str z hz => exact iteF q2
                      | lst e r => exact iteF q2
                      | tup e r => exact iteF q2
                      | int i =>
                        refine iteT ?_
                        refine ⟨_, rfl, a, _, 1, .int i, rfl, rfl, SqT.of e', at1, _, _, rfl, rfl, _, rfl, ?_⟩
                        have q3 : Q (.bl (decide (1 ≤ i) && decide (i ≤ 4))) H1 := q2
                        cases e6 : decide (1 ≤ i) with
                        | true =>
                          rw [e6] at q3
                          exact iteT ⟨_, _, rfl, rfl, q3⟩
                        | false =>
                          rw [e6] at q3
                          exact iteF q3
                  | false =>
                    refine iteF ⟨_, rfl, rfl, _, rfl, ?_⟩
                    have q := fun H' s' => k H' s'
                    rw [e3, e4, e5] at q
                    have q2 : ∀ H', Same H H' → Q (.bl (!decide (V.str z = V.str "falls") || hdD (ds.getD 0 .none))) H' := q
                    cases e6 : !decide (V.str z = V.str "falls") with
                    | true =>
                      refine iteT ?_
                      rw [e6] at q2
                      exact q2 _ s1
                    | false =>
                      refine iteF ?_
                      rw [e6] at q2
                      have hn2 := falls_len ea e6
                      cases tvs1 with
                      | nil => simp at hn; omega
                      | @cons v3 vs3 d3 ds3 t3 ts3 =>
                        exact ⟨_, rfl, a, _, 1, v3, rfl, rfl, SqT.of e', at1, v3, d3, rfl, t3, fun H' s' => q2 H' (sameT s1 s')⟩
            · have e2 : (!decide (V.int ((V.str z :: vs).length : Nat) = V.int (n : Nat))) = true := by
                rw [List.length_cons, hl, decide_eq_false (by intro q; injection q with q; omega)]
                rfl
              show if (!decide (V.int ((V.str z :: vs).length : Nat) = V.int (n : Nat))) = true then _ else _
              rw [e2]
              refine iteT ?_
              rw [decide_eq_false hn, Bool.false_and] at k
              exact k _ s0
end
end K06

/-! k06, part g: what stands beneath a sign. -/
namespace K06
open PySem L2 PySem.Spec PyProof.Rows
abbrev sBeneath : Stmt := top 27
/-- the terms beneath a sign -/
def beneath : PyData → List PyData
  | .tuple (.str z :: ds) => match arity z with
    | some (_, m) => ds.drop (ds.length - m)
    | none => []
  | _ => []
theorem arity_le {z : Str} {n m : Nat} (h : arity z = some (n, m)) : m < n ∧ n ≤ 4 := by
  have hm := arity_mem h
  have : ∀ p ∈ arities, p.2.2 < p.2.1 ∧ p.2.1 ≤ 4 := by decide +kernel
  exact this _ hm
/-- a right sign, laid open -/
theorem sign_open {d : PyData} (h : signD d = true) : ∃ z ds n m, d = .tuple (.str z :: ds) ∧ arity z = some (n, m) ∧ ds.length + 1 = n ∧ m < n ∧ n ≤ 4 := by
  cases d with
  | tuple l =>
    cases l with
    | nil => cases h
    | cons a ds =>
      cases a with
      | str z =>
        cases e : arity z with
        | none =>
          have : signD (.tuple (.str z :: ds)) = false := by
            show (match arity z with | some (n, _) => decide (ds.length + 1 = n) && restD z ds | none => false) = false
            rw [e]
          rw [this] at h; cases h
        | some r =>
          obtain ⟨n, m⟩ := r
          have : signD (.tuple (.str z :: ds)) = (decide (ds.length + 1 = n) && restD z ds) := by
            show (match arity z with | some (n, _) => decide (ds.length + 1 = n) && restD z ds | none => false) = _
            rw [e]
          rw [this] at h
          have h1 := of_decide_eq_true (Bool.and_eq_true_iff.mp h).1
          obtain ⟨a1, a2⟩ := arity_le e
          exact ⟨z, ds, n, m, rfl, e, h1, a1, a2⟩
      | none => cases h
      | bool b => cases h
      | int i => cases h
      | list l => cases h
      | tuple l => cases h
      | dict l => cases h
  | none => cases h
  | bool b => cases h
  | int i => cases h
  | str z => cases h
  | list l => cases h
  | dict l => cases h
theorem beneath_eq {z : Str} {ds : List PyData} {n m : Nat} (h : arity z = some (n, m)) : beneath (.tuple (.str z :: ds)) = ds.drop (ds.length - m) := by
  show (match arity z with | some (_, m) => ds.drop (ds.length - m) | none => []) = _
  rw [h]
theorem Rps.drop {H : Hp} : ∀ {vs : List V} {ds : List PyData}, Rps H vs ds → ∀ k, Rps H (vs.drop k) (ds.drop k)
  | _, _, r, 0 => r
  | _, _, .nil, k + 1 => .nil
  | _, _, .cons r rs, k + 1 => Rps.drop rs k
def spBeneath : Sp := fun vs H Q _ => ∃ x d H0, vs = [x] ∧ Rp H0 x d ∧ Same H0 H ∧ signD d = true ∧ ∀ p xs, H p = none → Rps H0 xs (beneath d) → Q (.ref p) (upd H p (.tup xs))
section
variable {P : Program} {w : World} {K : PySem.W.Frag} {mg : Str → Option Value} {base : Heap}
theorem scBeneath : FnScope ["term"] ["term"] (defScope sBeneath) := ⟨rfl, rfl, rfl, by decide +kernel, rfl, by decide +kernel, by decide +kernel⟩
theorem ok_beneath {f : Addr} {fd : FuncData} (F : Fun K "beneath_sign" "beneath_sign" sBeneath f fd) (N : Nms mg) (S : Shp K w mg) : FnOk P w K mg base CX0 1 f fd ["term"] spBeneath := by
  obtain ⟨aS, es, nS, mS, loS, lS, kS, misS, hasS⟩ := S.shapes
  refine F.ok scBeneath (fun vs H Q E h => ?_) (fun cdv A outer s H vs Q E hr h => ?_)
  · obtain ⟨x, d, H0, rfl, _⟩ := h
    rfl
  · obtain ⟨x, d, H0, rfl, t, s0, sg, k⟩ := h
    refine ⟨_, pss_one (ps_ret (pe_slice sl_tup (pv 0) (po_some (pe_op op_sub (pe_callB call_len_seq (by rfl) N.len PySem.boot_len (pa_cons (pv 0) pa_nil))
      (pe_ix ix_tup (pe_ix ix_kdict (pe_glob (v := .ref aS) rfl mS rfl) (pe_ix ix_tup (pv 0) pe_int (fun _ _ => rfl)) (fun _ _ => rfl)) pe_int (fun _ _ => rfl)))) po_none)), ?_⟩
    obtain ⟨z, ds, n, m, rfl, ea, hn, hm, _⟩ := sign_open sg
    cases t with
    | @tup a xs _ e r =>
      replace e := s0 _ _ e
      cases r with
      | @cons v vs _ _ tv tvs =>
        cases tv with
        | str z hz =>
          obtain ⟨t1, h1, q1⟩ := hasS z n m ea
          have hl : vs.length = ds.length := tvs.length
          refine ⟨_, rfl, _, rfl, a, _, rfl, .inr (SqT.of e), _, rfl, a, _, 0, .str z, rfl, rfl, SqT.of e, at0, aS, z, .ref t1, rfl, rfl, ⟨es, nS, _, lS, kS, h1, rfl⟩, t1, _, 1, _, rfl, rfl, q1 _, at1, _, _, rfl, rfl, _, rfl, a, _, rfl, SqT.of e, ?_, fun p np => ?_⟩
          · have : ((V.str z :: vs).length : Int) - (m : Int) = (((vs.length + 1 - m : Nat)) : Int) := by rw [List.length_cons]; omega
            rw [this, HT.sIx_nat]
            rintro ⟨h, _⟩
            rw [List.length_cons] at h
            omega
          · refine k p _ np ?_
            have e1 : ((V.str z :: vs).length : Int) - (m : Int) = (((vs.length + 1 - m : Nat)) : Int) := by rw [List.length_cons]; omega
            have e2 : vs.length + 1 - m = (ds.length - m) + 1 := by omega
            rw [e1, beneath_eq ea]
            unfold cutV
            rw [HT.sIx_nat, HT.sIx_none, List.length_cons, Nat.min_eq_left (by omega), e2, List.drop_succ_cons, List.take_of_length_le (by rw [List.length_drop]; omega)]
            exact tvs.drop _
end
end K06

/-! list(enumerate(v)) for a tuple or a list v: the pairs are kept, so each turn lays a new one. -/
namespace LE
open PySem L2 PySem.Spec PyProof.Rows
open Sem (wp)
/-- the enumeration e over it stands at c, and the pair at T was handed out and is kept (f: so it was met once more) -/
abbrev EnOut (h : Heap) (e it : Addr) (c : Int) (x : Value) (T : Addr) (f : Bool) : Prop :=
  h.get? e = some { cls := .type "enumerate", dict := none, data := .fields #[rawInt T, .bool f, .ref it, rawInt c, .none, x], slots := #[] }
section
variable {prog : Program} {w : World} {A : Around} {E : Value → Shared → Prop} {s : Shared}
theorem next_kept {e it T : Addr} {f : Bool} {oa : Obj} {fp : List Addr} {n i : Nat} {c : Int} {P : Nat → Value → Prop} {St : Nat → Heap → Prop} {x0 : Value} {Q : Value → Shared → Prop}
    (D : Draws prog w A it fp n P St) (he : EnOut s.heap e it c x0 T f) (hT : s.heap.get? T = some oa) (hTe : T ≠ e) (hTi : T ≠ it) (hst : St i s.heap) (hlt : i < n) (hne : e ≠ it) (hef : e ∉ fp)
    (hQ : ∀ x h' tk, P i x → EnOut h' e it (c + 1) x0 T true → St (i + 1) h' → h'.get? s.heap.objs.size = some { cls := .type "tuple", data := .seq #[.int c tk, x] } → h'.objs.size = s.heap.objs.size + 1 →
      (∀ b o, b ≠ e → b ≠ it → s.heap.get? b = some o → h'.get? b = some o) → Q (.ref s.heap.objs.size) { s with heap := h', toks := tk + 1 }) :
    wpAny (model prog w) A (Builtin.«enumerate.__next__» ⟨[.ref e], []⟩) (fun fin s' => ∃ v, fin = .done (.ret v) ∧ Q v s') E s := by
  obtain ⟨hp, g, d, tk₀, os⟩ := s
  show wpAny _ _ (field (.ref e) 2 >>= _) _ _ _
  refine wpAny_bind (wpAny_field he rfl (x := .ref it) rfl ?_)
  refine wpAny_bind (D.item i _ _ _ hlt hst fun x h1 tk hPx st1 sb1 => ?_)
  replace sb1 : Heap.SameBut it hp h1 := sb1
  have he1 : EnOut h1 e it c x0 T f := (sb1.2 e hne).trans he
  show wpAny _ _ (field (.ref e) 3 >>= _) _ _ ⟨h1, g, d, tk, os⟩
  refine wpAny_bind (wpAny_field he1 rfl (x := rawInt c) rfl ?_)
  show wpAny _ _ (field (.ref e) 4 >>= _) _ _ ⟨h1, g, d, tk, os⟩
  refine wpAny_bind (wpAny_field he1 rfl (x := .none) rfl ?_)
  show wpAny _ _ (mkInt c >>= _) _ _ ⟨h1, g, d, tk, os⟩
  refine wpAny_bind (wpAny_mkInt ?_)
  show wpAny _ _ (setField (.ref e) 3 (rawInt (c + 1)) >>= _) _ _ ⟨h1, g, d, tk + 1, os⟩
  refine wpAny_bind (wpAny_setField_rec he1 (by simp) fun h2 he2 sb2 => ?_)
  replace sb2 : Heap.SameBut e h1 h2 := sb2
  replace he2 : EnOut h2 e it (c + 1) x0 T f := he2
  show wpAny _ _ (setField (.ref e) 4 .none >>= _) _ _ ⟨h2, g, d, tk + 1, os⟩
  refine wpAny_bind (wpAny_setField_rec he2 (by simp) fun h3 he3 sb3 => ?_)
  replace sb3 : Heap.SameBut e h2 h3 := sb3
  replace he3 : EnOut h3 e it (c + 1) x0 T f := he3
  show wpAny _ _ (newTuple [.int c tk, x] >>= _) _ _ ⟨h3, g, d, tk + 1, os⟩
  refine wpAny_bind (wpAny_newTuple ?_)
  have he4 : EnOut (h3.push { cls := .type "tuple", data := .seq #[.int c tk, x] }) e it (c + 1) x0 T f := Heap.get?_push_of_some _ he3
  generalize eh4 : h3.push { cls := .type "tuple", data := .seq #[.int c tk, x] } = h4 at he4
  have z3 : h3.objs.size = hp.objs.size := by rw [sb3.1, sb2.1, sb1.1]
  have lte : e < hp.objs.size := Heap.lt_size he
  have tup4 : h4.get? hp.objs.size = some { cls := .type "tuple", data := .seq #[.int c tk, x] } := by rw [← eh4, ← z3]; exact Heap.get?_push_size _ rfl
  have z4 : h4.objs.size = hp.objs.size + 1 := by rw [← eh4, Heap.size_push, z3]
  have kp4 : ∀ b o, b ≠ e → b ≠ it → hp.get? b = some o → h4.get? b = some o := fun b o n1 n2 hb => by
    rw [← eh4]; exact Heap.get?_push_of_some _ (sb3.extBut b o n1 (sb2.extBut b o n1 (sb1.extBut b o n2 hb)))
  have st4 : St (i + 1) h4 := D.frame _ _ _ st1 fun b hb o y => by
    have n1 : b ≠ e := fun q => hef (q ▸ hb)
    rw [← eh4]; exact Heap.get?_push_of_some _ (sb3.extBut b o n1 (sb2.extBut b o n1 y))
  show wpAny _ _ (Builtin.SmallTypes.ownedTupleIsFree (.ref e) >>= _) _ _ ⟨h4, g, d, tk + 1, os⟩
  rw [z3]
  clear eh4 he3 sb3 he2 sb2 he1 sb1 st1 z3 h3 h2 h1
  refine wpAny_bind ?_
  have hT4 : h4.get? T = some oa := kp4 T oa hTe hTi hT
  unfold Builtin.SmallTypes.ownedTupleIsFree
  refine wpAny_bind (wpAny_field he4 rfl (x := rawInt T) rfl ?_)
  show wpAny _ _ (loadIfAlive ((T : Int).toNat) >>= _) _ _ _
  rw [Int.toNat_natCast]
  refine wpAny_bind (PySem.W.kdx_alive hT4 ?_)
  simp only [Option.isNone_some, Bool.false_eq_true, if_false]
  refine wpAny_bind (wpAny_field he4 rfl (x := .bool f) rfl ?_)
  cases f with
  | true =>
    rw [if_neg (show ¬ ((Value.bool true != Value.bool true) = true) from Bool.false_ne_true)]
    refine wpAny_pure ?_
    simp only [Bool.false_eq_true, if_false]
    exact wpAny_pure ⟨_, rfl, hQ x h4 tk hPx he4 st4 tup4 z4 kp4⟩
  | false =>
    rw [if_pos (show (Value.bool false != Value.bool true) = true from rfl)]
    refine wpAny_bind (wpAny_setField_rec he4 (by simp) fun h5 he5 sb5 => ?_)
    replace sb5 : Heap.SameBut e h4 h5 := sb5
    replace he5 : EnOut h5 e it (c + 1) x0 T true := he5
    refine wpAny_pure ?_
    simp only [Bool.false_eq_true, if_false]
    refine wpAny_pure ⟨_, rfl, hQ x h5 tk hPx he5 ?_ ?_ ?_ ?_⟩
    · exact D.frame _ _ _ st4 fun b hb o y => sb5.extBut b o (fun q => hef (q ▸ hb)) y
    · exact sb5.extBut _ _ (Nat.ne_of_gt lte) tup4
    · rw [sb5.1, z4]
    · exact fun b o n1 n2 hb => sb5.extBut b o n1 (kp4 b o n1 n2 hb)
theorem pyNext_kept {e it T : Addr} {f : Bool} {oa : Obj} {fp : List Addr} {n i : Nat} {c : Int} {P : Nat → Value → Prop} {St : Nat → Heap → Prop} {x0 : Value} {Q : Option Value → Shared → Prop}
    (D : Draws prog w A.in1 it fp n P St) (he : EnOut s.heap e it c x0 T f) (hT : s.heap.get? T = some oa) (hTe : T ≠ e) (hTi : T ≠ it) (hst : St i s.heap) (hlt : i < n) (hne : e ≠ it) (hef : e ∉ fp)
    (hQ : ∀ x h' tk, P i x → EnOut h' e it (c + 1) x0 T true → St (i + 1) h' → h'.get? s.heap.objs.size = some { cls := .type "tuple", data := .seq #[.int c tk, x] } → h'.objs.size = s.heap.objs.size + 1 →
      (∀ b o, b ≠ e → b ≠ it → s.heap.get? b = some o → h'.get? b = some o) → Q (some (.ref s.heap.objs.size)) { s with heap := h', toks := tk + 1 }) :
    wpAny (model prog w) A (pyNext (.ref e)) Q E s := by
  have hTy : s.TypeIs (.ref e) "enumerate" := ⟨_, he, rfl⟩
  unfold pyNext
  exact wpAny_bind (wpAny_attempt (wpAny_callSpecial?_slot (name := Str.ofString "__next__") hTy PySem.F.slot_enumerate_next
    (wpAny_call_entry PySem.F.slot_enumerate_next hTy PySem.F.entry_enumerate_next
      (next_kept D he hT hTe hTi hst hlt hne hef fun x h' tk a b c d k q => wpAny_pure (hQ x h' tk a b c d k q)) (PySem.F.args_enumerate_next_1 _))))
theorem pyNext_over {e it T : Addr} {f : Bool} {fp : List Addr} {n : Nat} {c : Int} {P : Nat → Value → Prop} {St : Nat → Heap → Prop} {x0 : Value} {Q : Option Value → Shared → Prop}
    (D : Draws prog w A.in1 it fp n P St) (he : EnOut s.heap e it c x0 T f) (hst : St n s.heap)
    (hQ : ∀ h', Heap.ExtBut it s.heap h' → Q none { s with heap := h' }) : wpAny (model prog w) A (pyNext (.ref e)) Q E s := by
  have hTy : s.TypeIs (.ref e) "enumerate" := ⟨_, he, rfl⟩
  unfold pyNext
  refine wpAny_bind (wpAny_attempt (wpAny_callSpecial?_slot (name := Str.ofString "__next__") hTy PySem.F.slot_enumerate_next
    (wpAny_call_entry PySem.F.slot_enumerate_next hTy PySem.F.entry_enumerate_next ?_ (PySem.F.args_enumerate_next_1 _))))
  show wpAny _ _ (field (.ref e) 2 >>= _) _ _ _
  refine wpAny_bind (wpAny_field he rfl (x := .ref it) rfl ?_)
  refine wpAny_bind (D.done _ _ _ hst fun h' x he' hx' => ?_)
  obtain ⟨o, ho, hc⟩ := hx'
  refine wpAny_bind (wpAny_isInstance (T := "StopIteration") (b := true) ⟨o, ho, hc⟩ isSubtype_stop ?_)
  exact wpAny_pure (hQ _ he')
/-- the enumeration e stands at c; a pair that it remembers is alive -/
def EnAt (h : Heap) (e it S : Addr) (c : Int) : Prop := (∃ old, IsEnum h e it c old) ∨ ∃ T f x oa, EnOut h e it c x T f ∧ h.get? T = some oa ∧ T ≠ e ∧ T ≠ it ∧ T ≠ S
theorem EnAt.keep {h h' : Heap} {e it S : Addr} {c : Int} (a : EnAt h e it S c) (hk : ∀ b o, b ≠ S → h.get? b = some o → h'.get? b = some o) (he : e ≠ S) : EnAt h' e it S c := by
  rcases a with ⟨old, q⟩ | ⟨T, f, x, oa, q, qa, n1, n2, n3⟩
  · exact .inl ⟨old, hk _ _ he q⟩
  · exact .inr ⟨T, f, x, oa, hk _ _ he q, hk _ _ n3 qa, n1, n2, n3⟩
theorem en_next {e it S : Addr} {fp : List Addr} {n i : Nat} {c : Int} {P : Nat → Value → Prop} {St : Nat → Heap → Prop} {Q : Option Value → Shared → Prop}
    (D : Draws prog w A.in1 it fp n P St) (he : EnAt s.heap e it S c) (hS : S < s.heap.objs.size) (hst : St i s.heap) (hlt : i < n) (hne : e ≠ it) (hef : e ∉ fp)
    (hQ : ∀ x h' tk, P i x → EnAt h' e it S (c + 1) → St (i + 1) h' → h'.get? s.heap.objs.size = some { cls := .type "tuple", data := .seq #[.int c tk, x] } →
      (∀ b o, b ≠ e → b ≠ it → s.heap.get? b = some o → h'.get? b = some o) → Q (some (.ref s.heap.objs.size)) { s with heap := h', toks := tk + 1 }) :
    wpAny (model prog w) A (pyNext (.ref e)) Q E s := by
  rcases he with ⟨old, q⟩ | ⟨T, f, x0, oa, q, qa, n1, n2, n3⟩
  · refine wpAny_pyNext_enum_itemC D q hst hlt hne hef fun x h' tk hP ho st ht hz hk => hQ x h' tk hP (.inr ⟨_, false, x, _, ho, ht, ?_, ?_, Nat.ne_of_gt hS⟩) st ht hk
    · exact Nat.ne_of_gt (Heap.lt_size q)
    · obtain ⟨o, y⟩ := D.live _ _ hst
      exact Nat.ne_of_gt (Heap.lt_size y)
  · exact pyNext_kept D q qa n1 n2 hst hlt hne hef fun x h' tk hP ho st ht hz hk => hQ x h' tk hP (.inr ⟨T, true, x0, oa, ho, hk T oa n1 n2 qa, n1, n2, n3⟩) st ht hk
theorem en_over {e it S : Addr} {fp : List Addr} {n : Nat} {c : Int} {P : Nat → Value → Prop} {St : Nat → Heap → Prop} {Q : Option Value → Shared → Prop}
    (D : Draws prog w A.in1 it fp n P St) (he : EnAt s.heap e it S c) (hst : St n s.heap) (hQ : ∀ h', Heap.ExtBut it s.heap h' → Q none { s with heap := h' }) : wpAny (model prog w) A (pyNext (.ref e)) Q E s := by
  rcases he with ⟨old, q⟩ | ⟨T, f, x0, oa, q, qa, n1, n2, n3⟩
  · exact wpAny_pyNext_enum_endD D q hst hQ
  · exact pyNext_over D q hst hQ
/-- the pairs laid so far -/
structure Got (P : Nat → Value → Prop) (lo : Nat) (h : Heap) (Ts : List Addr) : Prop where
  nd : Ts.Nodup
  low : ∀ T ∈ Ts, lo ≤ T
  pair : ∀ (j : Nat) (T : Addr), Ts[j]? = some T → ∃ t x, P j x ∧ h.get? T = some { cls := .type "tuple", data := .seq #[.int (j : Nat) t, x] }
theorem Got.lt {P : Nat → Value → Prop} {lo : Nat} {h : Heap} {Ts : List Addr} (g : Got P lo h Ts) {T : Addr} (hT : T ∈ Ts) : T < h.objs.size := by
  obtain ⟨j, hj⟩ := List.mem_iff_getElem?.mp hT
  obtain ⟨_, _, _, y⟩ := g.pair j T hj
  exact Heap.lt_size y
end
section
variable {prog : Program} {w : World} {A : Around} {s : Shared} {R : Result → Shared → Prop}
abbrev lstO (acc : Array Value) (c : Nat) : Obj := { cls := .type "list", dict := none, data := .seq acc c, slots := #[] }
theorem loop {S e it : Addr} {fp : List Addr} {n lo : Nat} {P : Nat → Value → Prop} {St : Nat → Heap → Prop} {h0 : Heap} (res : Value)
    (D : Draws prog w A.in1.in1 it fp n P St) (hne : e ≠ it) (hef : e ∉ fp) (hSf : S ∉ fp) (hSe : S ≠ e) (hSi : S ≠ it) (hn : n ≤ sizeLine) (lS : S < lo) (le : e < lo) (li : it < lo)
    (hR : ∀ h' tk acc c Ts, (∀ b o, b ≠ S → b ≠ e → b ≠ it → h0.get? b = some o → h'.get? b = some o) → h'.get? S = some (lstO acc c) → acc.toList = Ts.map Value.ref → Ts.length = n → Got P lo h' Ts → R (.ok (.ret res)) { s with heap := h', toks := tk }) :
    ∀ (k i : Nat) (h : Heap) (tk c : Nat) (acc : Array Value) (Ts : List Addr), n - i = k → i ≤ n → EnAt h e it S (i : Nat) → St i h → (∀ b o, b ≠ S → b ≠ e → b ≠ it → h0.get? b = some o → h.get? b = some o) →
      h.get? S = some (lstO acc c) → acc.toList = Ts.map Value.ref → Ts.length = i → Got P lo h Ts → lo ≤ h.objs.size →
      codeAny (model prog w) A (.builtin "list.extend.loop" ⟨[.ref S, .ref e, res], []⟩) R { s with heap := h, toks := tk } := by
  intro k
  induction k with
  | zero =>
    intro i h tk c acc Ts hk hi he hst hkeep hS hacc hl hG hlo
    have ein : i = n := by omega
    subst ein
    refine codeAny_builtin PySem.F.entry_extend_loop ?_
    rw [Around.under_plainId PySem.F.plain_extend_loop _]
    show wpAny _ A.in1 (pyNext (.ref e) >>= _) _ _ _
    refine wpAny_bind (en_over (s := { s with heap := h, toks := tk }) (A := A.in1) D he hst fun h' hx => ?_)
    refine wpAny_pure (hR h' tk acc c Ts (fun b o n1 n2 n3 q => hx b o n3 (hkeep b o n1 n2 n3 q)) (hx S _ hSi hS) hacc hl ⟨hG.nd, hG.low, fun j T hj => ?_⟩)
    obtain ⟨t, x, p1, p2⟩ := hG.pair j T hj
    have := hG.low T (List.mem_of_getElem? hj)
    exact ⟨t, x, p1, hx T _ (Nat.ne_of_gt (Nat.lt_of_lt_of_le li this)) p2⟩
  | succ k ih =>
    intro i h tk c acc Ts hk hi he hst hkeep hS hacc hl hG hlo
    have hlt : i < n := by omega
    have hz : acc.size = i := by rw [← Array.length_toList, hacc, List.length_map, hl]
    refine codeAny_builtin PySem.F.entry_extend_loop ?_
    rw [Around.under_plainId PySem.F.plain_extend_loop _]
    show wpAny _ A.in1 (pyNext (.ref e) >>= _) _ _ _
    refine wpAny_bind (en_next (s := { s with heap := h, toks := tk }) (A := A.in1) D he (Heap.lt_size hS) hst hlt hne hef fun x h' tk' hP he' hst' ht hkp => ?_)
    dsimp only at ht hkp ⊢
    have hS' := hkp S _ hSe hSi hS
    have hSl : S < h.objs.size := Heap.lt_size hS
    have up : ∀ b o, b ≠ S → h'.get? b = some o → (h'.update S (Obj.mapSeq (·.push (Value.ref h.objs.size)))).get? b = some o := fun b o nb q => (Heap.get?_update_other _ _ (Ne.symm nb)).trans q
    have ht2 := up _ _ (Nat.ne_of_gt hSl) ht
    show wpAny _ A.in1 (updateSeq S (·.push (Value.ref h.objs.size)) >>= _) _ _ _
    refine wpAny_bind ?_
    refine wpAny_updateSeq hS' rfl (wpAny_pure ⟨plainId_quiet PySem.F.plain_extend_loop _, ?_⟩) (by rw [hz]; omega) (by show (acc.push (Value.ref h.objs.size)).size ≤ sizeLine + 1; rw [Array.size_push, hz]; omega)
    refine ih (i + 1) _ (tk' + 1) _ (acc.push (Value.ref h.objs.size)) (Ts ++ [h.objs.size]) (by omega) hlt (by have q := he'.keep up (Ne.symm hSe); rwa [show ((i + 1 : Nat) : Int) = (i : Int) + 1 by omega])
      (D.frame _ _ _ hst' fun b hb o q => up b o (fun z => hSf (z ▸ hb)) q) (fun b o n1 n2 n3 q => up b o n1 (hkp b o n2 n3 (hkeep b o n1 n2 n3 q))) (Heap.get?_update_self _ hS' rfl) (by rw [Array.toList_push, hacc, List.map_append]; rfl)
      (by rw [List.length_append, hl]; rfl) ⟨?_, ?_, ?_⟩ ?_
    · refine List.nodup_append.mpr ⟨hG.nd, by simp, fun a ha b hb z => ?_⟩
      rw [List.mem_singleton.mp hb] at z
      exact absurd (hG.lt ha) (by rw [z]; exact Nat.lt_irrefl _)
    · intro T hT
      rcases List.mem_append.mp hT with hT | hT
      · exact hG.low T hT
      · rw [List.mem_singleton.mp hT]; exact hlo
    · intro j T hj
      rcases Nat.lt_trichotomy j Ts.length with z | z | z
      · rw [List.getElem?_append_left z] at hj
        obtain ⟨t, x', p1, p2⟩ := hG.pair j T hj
        have lT := hG.low T (List.mem_of_getElem? hj)
        exact ⟨t, x', p1, up T _ (Nat.ne_of_gt (Nat.lt_of_lt_of_le lS lT)) (hkp T _ (Nat.ne_of_gt (Nat.lt_of_lt_of_le le lT)) (Nat.ne_of_gt (Nat.lt_of_lt_of_le li lT)) p2)⟩
      · subst z
        have eT : h.objs.size = T := by simpa using hj
        subst eT
        rw [hl]
        exact ⟨_, x, hP, ht2⟩
      · rw [List.getElem?_eq_none (by rw [List.length_append, List.length_singleton]; omega)] at hj
        cases hj
    · exact Nat.le_trans hlo (Nat.le_of_lt (Heap.lt_size ht2))
theorem no_len : typeLookup (.type "enumerate") "__len__" = pure none := by rw [typeLookup_type, builtinLookup_eq_fast]; kernel_rfl
theorem no_hint : typeLookup (.type "enumerate") "__length_hint__" = pure none := by rw [typeLookup_type, builtinLookup_eq_fast]; kernel_rfl
end
section
variable {prog : Program} {w : World} {A : Around} {E : Value → Shared → Prop} {s : Shared}
/-- list(e), e an enumeration that has just begun -/
theorem call_listEn {e it : Addr} {fp : List Addr} {n : Nat} {P : Nat → Value → Prop} {St : Nat → Heap → Prop} {Q : Value → Shared → Prop}
    (D : Draws prog w A.in1.in1.in1 it fp n P St) (he : IsEnum s.heap e it 0 .none) (hst : St 0 s.heap) (hne : e ≠ it) (hef : e ∉ fp) (hfp : ∀ b ∈ fp, b < s.heap.objs.size) (hn : n ≤ sizeLine)
    (hQ : ∀ h' tk acc c Ts, (∀ b o, b ≠ e → b ≠ it → s.heap.get? b = some o → h'.get? b = some o) → h'.get? s.heap.objs.size = some (lstO acc c) → acc.toList = Ts.map Value.ref → Ts.length = n → Got P (s.heap.objs.size + 1) h' Ts → Q (.ref s.heap.objs.size) { s with heap := h', toks := tk }) :
    wpAny (model prog w) A (call (.type "list") [.ref e]) Q E s := by
  have le : e < s.heap.objs.size := Heap.lt_size he
  have li : it < s.heap.objs.size := by obtain ⟨o, y⟩ := D.live _ _ hst; exact Heap.lt_size y
  have hSf : s.heap.objs.size ∉ fp := fun z => Nat.lt_irrefl _ (hfp _ z)
  have hSe : s.heap.objs.size ≠ e := Nat.ne_of_gt le
  refine callType_codes (Q₁ := fun obj s₁ => obj = .ref s.heap.objs.size ∧ s₁ = { s with heap := s.heap.push { cls := .type "list", data := .seq #[] } }) F.called_list (F.typeCall_list_1 _) F.entry_list_init
    (code_list_new _ ⟨rfl, rfl⟩) fun obj s₁ h₁ => ?_
  obtain ⟨rfl, rfl⟩ := h₁
  have hS : (s.heap.push { cls := .type "list", data := .seq #[] }).get? s.heap.objs.size = some { cls := .type "list", data := .seq #[] } := Heap.get?_push_size _ rfl
  refine ⟨⟨_, hS, rfl⟩, F.args_list_init_2 _ _, ?_⟩
  show wpAny _ A.in1.in1 (do let old ← Builtin.List.listItems (.ref s.heap.objs.size); Builtin.List.listUpdate (.ref s.heap.objs.size) (fun _ => #[]); letGo old.toList.reverse; Builtin.List.listExtendWith (.ref s.heap.objs.size) (.ref e) .none) _ _ _
  refine wpAny_bind ?_
  unfold Builtin.List.listItems
  refine wpAny_bind (wpAny_seqItems hS rfl (wpAny_pure ?_))
  show wpAny _ A.in1.in1 (updateSeq s.heap.objs.size (fun _ => #[]) >>= fun _ => letGo (#[] : Array Value).toList.reverse >>= fun _ => Builtin.List.listExtendWith (.ref s.heap.objs.size) (.ref e) .none) _ _ _
  refine wpAny_bind (wpAny_updateSeq hS rfl ?_)
  have hS2 := Heap.get?_update_self (Obj.mapSeq (fun _ => (#[] : Array Value))) hS rfl
  refine wpAny_bind (wpAny_letGo ?_)
  unfold Builtin.List.listExtendWith
  have up : ∀ (h : Heap) (f : Obj → Obj), (∀ b o, s.heap.get? b = some o → h.get? b = some o) → ∀ b o, s.heap.get? b = some o → (h.update s.heap.objs.size f).get? b = some o := fun h f q b o y =>
    (Heap.get?_update_other _ _ (Ne.symm (Nat.ne_of_lt (Heap.lt_size y)))).trans (q b o y)
  have k1 : ∀ b o, s.heap.get? b = some o → (s.heap.push { cls := .type "list", data := .seq #[] }).get? b = some o := fun b o y => Heap.get?_push_of_some _ y
  have k2 := up _ (Obj.mapSeq (fun _ => (#[] : Array Value))) k1
  have gty : ∀ {h : Heap}, (∀ b o, s.heap.get? b = some o → h.get? b = some o) → Shared.TypeIs { s with heap := h } (.ref e) "enumerate" := fun {h} q => ⟨_, q _ _ he, rfl⟩
  refine wpAny_bind (wpAny_typeOf (gty k2) ?_)
  have h1 : Builtin.List.listSameRef (.ref s.heap.objs.size) (.ref e) = false := by simp [Builtin.List.listSameRef, hSe]
  have h2 : (Value.type "enumerate" == Value.type "list") = false := by decide
  have h3 : (Value.type "enumerate" == Value.type "tuple") = false := by decide
  simp only [h1, h2, h3, Bool.or_false, Bool.false_eq_true, if_false]
  refine wpAny_bind (wpAny_pyIter_enum (s := { s with heap := _ }) (k2 _ _ he) ?_)
  refine wpAny_bind (wpAny_holding ?_)
  unfold Builtin.List.listLengthHint
  refine wpAny_bind (wpAny_specialOf (gty k2) no_len ?_)
  show wpAny _ A.in1.in1 (specialOf (Value.ref e) (Str.ofString "__length_hint__") >>= _) _ _ _
  refine wpAny_bind (wpAny_specialOf (gty k2) no_hint ?_)
  refine wpAny_pure ?_
  show wpAny _ A.in1.in1 (rule "list.extend.makes-room" >>= fun _ => Builtin.List.listTouch (.ref s.heap.objs.size) >>= fun _ =>
    again (.builtin "list.extend.loop" ⟨[.ref s.heap.objs.size, .ref e, .none], []⟩)) _ _ _
  refine wpAny_bind (wpAny_rule ?_)
  refine wpAny_bind ?_
  show wpAny _ A.in1.in1 (updateSeq s.heap.objs.size (·.push .none) >>= fun _ => updateSeq s.heap.objs.size (·.pop)) _ _ _
  refine wpAny_bind (wpAny_updateSeq hS2 rfl ?_)
  have hS3 := Heap.get?_update_self (Obj.mapSeq (·.push Value.none)) hS2 rfl
  refine wpAny_updateSeq (hz := by seq_fits) hS3 rfl ?_
  have hS4 := Heap.get?_update_self (Obj.mapSeq (·.pop)) hS3 rfl
  have k4 := up _ (Obj.mapSeq (·.pop)) (up _ (Obj.mapSeq (·.push Value.none)) k2)
  refine wpAny_pure ⟨plainId_quiet F.plain_extend_loop _, ?_⟩
  refine loop (prog := prog) (w := w) (A := A.in1) (s := { s with heap := _ }) (e := e) (it := it) (fp := fp) (n := n) (lo := s.heap.objs.size + 1) (P := P) (St := St) (h0 := s.heap) .none D hne hef hSf hSe (Nat.ne_of_gt li) hn (Nat.lt_succ_self _) (Nat.lt_succ_of_lt le) (Nat.lt_succ_of_lt li)
    (fun h' tk acc c Ts q1 q2 q3 q4 q5 => ⟨rfl, hQ h' tk acc c Ts (fun b o n1 n2 y => q1 b o (Nat.ne_of_lt (Heap.lt_size y)) n1 n2 y) q2 q3 q4 q5⟩) n 0 _ s.toks _ #[] [] (by omega) (Nat.zero_le _)
    (.inl ⟨.none, k4 _ _ he⟩) (D.frame _ _ _ hst fun b hb o y => k4 b o y) (fun b o _ _ _ y => k4 b o y) hS4 rfl rfl ⟨List.nodup_nil, (fun T hT => by cases hT), (fun j T hj => by simp at hj)⟩ ?_
  exact Heap.lt_size hS4
end
end LE

/-! the expression list(enumerate(e)), e a tuple or a list. -/
namespace LE
open PySem L2 PySem.Spec PyProof.Rows
open Sem (wp)
theorem new_any {v : Value} {o : Obj} {H : Heap → Prop} (B : Begins v o H) :
    Meets (Builtin.«enumerate.__new__» ⟨[.type "enumerate", v], []⟩) (fun _ R s => H s.heap ∧
      R (.ok (.ret (.ref (s.heap.push o).objs.size))) { s with heap := (s.heap.push o).push { cls := .type "enumerate", data := .fields #[.none, .bool false, .ref s.heap.objs.size, rawInt 0, .none, .none] } }) :=
  .of_wp fun prog w A R s h => by
    obtain ⟨hp, g, d, tk, os⟩ := s; obtain ⟨h1, h⟩ := h
    have hsub := sub_enumerate
    have q1 : ∀ {A' : Around} {E : Value → Shared → Prop} {Q : Value → Shared → Prop}, Q (.ref hp.objs.size) ⟨hp.push o, g, d, tk, os⟩ → wpAny (model prog w) A' (pyIter v) Q E ⟨hp, g, d, tk, os⟩ :=
      fun q => B.iter prog w _ _ ⟨hp, g, d, tk, os⟩ _ h1 q
    wp_walk using q1
    refine wpAny_stack_any fun st => wpAny_pure ?_
    split
    · rename_i c _ _ _ _ _
      cases (c == Value.type "enumerate")
      · wp_walk using q1
        exact ⟨_, rfl, h⟩
      · wp_walk using q1
        exact ⟨_, rfl, h⟩
    · wp_walk using q1
      exact ⟨_, rfl, h⟩
section
variable {prog : Program} {w : World} {A : Around} {E : Value → Shared → Prop} {s : Shared}
/-- enumerate(v) -/
theorem begins {v : Value} {o : Obj} {H : Heap → Prop} {Q : Value → Shared → Prop} (B : Begins v o H) (h1 : H s.heap)
    (h : ∀ h', IsEnum h' (s.heap.objs.size + 1) s.heap.objs.size 0 .none → h'.get? s.heap.objs.size = some o → h'.objs.size = s.heap.objs.size + 2 →
      (∀ b o, s.heap.get? b = some o → h'.get? b = some o) → Q (.ref (s.heap.objs.size + 1)) { s with heap := h' }) :
    wpAny (model prog w) A (call (.type "enumerate") [v]) Q E s := by
  refine callType_new F.called_enumerate (by decide) (F.typeCall_enumerate_1 _) (F.newCall_enumerate_1 _) (fun obj => F.args_object_init_2 obj _) F.entry_enumerate_new
    (new_any B) ⟨h1, ?_⟩
  have hz : (s.heap.push o).objs.size = s.heap.objs.size + 1 := Heap.size_push ..
  show _ ∧ _
  rw [hz]
  have he : IsEnum ((s.heap.push o).push { cls := .type "enumerate", data := .fields #[.none, .bool false, .ref s.heap.objs.size, rawInt 0, .none, .none] }) (s.heap.objs.size + 1) s.heap.objs.size 0 .none := by
    have := Heap.get?_push_size (s.heap.push o) (o := { cls := .type "enumerate", data := .fields #[.none, .bool false, .ref s.heap.objs.size, rawInt 0, .none, .none] }) rfl
    rw [hz] at this; exact this
  refine ⟨⟨_, he, rfl⟩, h _ he (Heap.get?_push_of_some _ (Heap.get?_push_size _ B.free)) (by rw [Heap.size_push, hz]) fun b o x => Heap.get?_push_of_some _ (Heap.get?_push_of_some _ x)⟩
end
/-- some new objects, all at once -/
theorem laidMany {X : Cx} {pins : List (Addr × Obj)} {σ : L2.St} {H H' : Hp} {s : Shared} {h' : Heap} {t' : Nat} (I : Inv X pins σ H s) (k : ∀ b u, s.heap.get? b = some u → h'.get? b = some u)
    (old : ∀ b, b < s.heap.objs.size → H' b = H b) (new : ∀ b u, s.heap.objs.size ≤ b → H' b = some u → ObjOk X.prog X.w H' h' b u) : Inv X pins σ H' { s with heap := h', toks := t' } := by
  have low : ∀ b u, H b = some u → H' b = some u := fun b u e => by
    by_cases hb : b < s.heap.objs.size
    · rw [old b hb]; exact e
    · rw [I.hok.fresh (Nat.le_of_not_lt hb)] at e; cases e
  refine I.step (g' := s.gens) (d' := s.drawn) (ch := []) (fun b hb => by cases hb) (fun b o _ _ _ e _ => k b o e) (fun b o _ _ _ e _ => ⟨o.slots, k b o e⟩) (fun b o _ e n => ?_) (fun b o _ e => ⟨o, k b o e⟩)
    (fun b xs e => low b _ e) (fun b o u e => low b _ e) (fun b ps e => ⟨#[], by rw [low b _ e]; simp⟩) (fun m hm => ?_) (fun b u e => ?_) I.bare
  · rw [old b (Heap.lt_size e)]; exact n
  · obtain ⟨o, es, ep, ho, r⟩ := hm
    exact ⟨o, es, ep, k _ o ho, r⟩
  · by_cases hb : b < s.heap.objs.size
    · rw [old b hb] at e
      exact (I.hok b u e).stay (fun c v _ q => k c v q) (fun c q => low c _ q) fun c xs q => low c _ q
    · exact new b u (Nat.le_of_not_lt hb) e
/-- behind list(enumerate(xs)): the list at L of the pairs at Ts -/
structure EnHp (H1 H2 : Hp) (L : Addr) (Ts : List Addr) (xs : List V) : Prop where
  nL : H1 L = none
  nT : ∀ T ∈ Ts, H1 T = none
  LT : L ∉ Ts
  nd : Ts.Nodup
  len : Ts.length = xs.length
  lst : H2 L = some (.lst (Ts.map V.ref))
  pair : ∀ j T x, Ts[j]? = some T → xs[j]? = some x → H2 T = some (.tup [.int (j : Nat), x])
  rest : ∀ b, b ≠ L → b ∉ Ts → H2 b = H1 b
theorem EnHp.same {H1 H2 : Hp} {L : Addr} {Ts : List Addr} {xs : List V} (x : EnHp H1 H2 L Ts xs) : ∀ b o, H1 b = some o → H2 b = some o := fun b o e => by
  rw [x.rest b (fun z => by rw [z, x.nL] at e; cases e) (fun z => by rw [x.nT b z] at e; cases e)]
  exact e
/-- the heap behind it -/
def enH (H1 : Hp) (L : Addr) (Ts : List Addr) (xs : List V) : Hp := fun b => if b = L then some (.lst (Ts.map V.ref)) else if b ∈ Ts then (xs[Ts.idxOf b]?).map fun x => .tup [.int (Ts.idxOf b : Nat), x] else H1 b
theorem en_hp {H1 : Hp} {L : Addr} {Ts : List Addr} {xs : List V} (nL : H1 L = none) (nT : ∀ T ∈ Ts, H1 T = none) (LT : L ∉ Ts) (nd : Ts.Nodup) (len : Ts.length = xs.length) : EnHp H1 (enH H1 L Ts xs) L Ts xs where
  nL := nL
  nT := nT
  LT := LT
  nd := nd
  len := len
  lst := if_pos rfl
  pair := fun j T x hj hx => by
    have hT : T ∈ Ts := List.mem_of_getElem? hj
    have e : Ts.idxOf T = j := by
      obtain ⟨hl, he⟩ := List.getElem?_eq_some_iff.mp hj
      subst he
      exact nd.idxOf_getElem j hl
    have nTL : T ≠ L := fun z => LT (by rw [← z]; exact hT)
    unfold enH
    rw [if_neg nTL, if_pos hT, e, hx]
    rfl
  rest := fun b h1 h2 => by
    unfold enH
    rw [if_neg h1, if_neg h2]
theorem refs_vals : ∀ Ts : List Addr, Vals (Ts.map V.ref) (Ts.map Value.ref)
  | [] => .nil
  | _ :: r => .cons rfl (refs_vals r)
def tLstEn (K : PySem.W.Frag) (te : TE) : TE := fun σ H Q => te σ H fun v H1 => ∃ (a : Addr) (xs : List V), v = .ref a ∧ SqT K H1 a xs ∧ ∀ L Ts H2, EnHp H1 H2 L Ts xs → Q (.ref L) H2
theorem pe_listEn {X : Cx} {e : Expr} {te : TE} {p p2 pos pos2 : Pos} (hc : X.calm = true) (hg : Gl X "list") (hm : X.mg "list" = none) (hg2 : Gl X "enumerate") (hm2 : X.mg "enumerate" = none) (he : PE X e te)
    (hs : starEach [e] X.env = (false, eval e X.env) :: starEach [] X.env := by rfl)
    (hs2 : starEach [.Call (.Name "enumerate" p2) [e] [] pos2] X.env = (false, eval (.Call (.Name "enumerate" p2) [e] [] pos2) X.env) :: starEach [] X.env := by rfl) :
    PE X (.Call (.Name "list" p) [.Call (.Name "enumerate" p2) [e] [] pos2] [] pos) (tLstEn X.K te) := by
  refine ⟨fun pins s σ H Q I h => ?_⟩
  refine Call_ (ld_blt I hg hm boot_list (PyProof.Rows.callWith_type1 (args_cons (Call_ (ld_blt I hg2 hm2 boot_enumerate (PyProof.Rows.callWith_type1 (args_cons (thn (he.run pins s σ H _ I h) fun u s1 ⟨v, H1, I1, r1, q1⟩ => args_nil ?_) hs) hs rfl))) hs2) hs2 rfl))
  obtain ⟨a, xs, ev, hq, q⟩ := q1
  subst ev
  obtain rfl : u = Value.ref a := r1
  obtain ⟨its, rv, ht, hz⟩ := I1.tuple hq
  have hln : its.toArray.size = xs.length := by rw [List.size_toArray, ← rv.length]
  refine begins (begins_tuple a its.toArray) ht fun h1 he1 hi1 hz1 hk1 => args_nil ?_
  have ht' : s1.heap.IsTuple a its.toArray := ht
  have hal : a < s1.heap.objs.size := by obtain ⟨o, y, _⟩ := ht; exact Heap.lt_size y
  have hh := I1.ok.hd hc
  have D : Draws X.prog X.w X.A.in1.in1.in1 s1.heap.objs.size [s1.heap.objs.size, a] its.toArray.size (fun i v => its.toArray[i]? = some v) (fun i h => h.IsTupleIter s1.heap.objs.size a i ∧ h.IsTuple a its.toArray) := Draws.tuple (show X.A.in1.in1.in1.handled = none from hh) s1.heap.objs.size a (Nat.ne_of_lt hal) its.toArray
  refine call_listEn (s := { s1 with heap := h1 }) (e := s1.heap.objs.size + 1) (it := s1.heap.objs.size) D he1 ⟨⟨_, hi1, rfl, rfl⟩, ht'.at fun o y => hk1 a o y⟩ (Nat.succ_ne_self _)
    (fun z => ?_) (fun b hb => ?_) (by rw [hln]; exact hz) fun h' tk acc c Ts keep hL hacc hTs hG => ?_
  · rcases List.mem_cons.mp z with z | z
    · exact absurd z (Nat.succ_ne_self _)
    · rw [← List.mem_singleton.mp z] at hal
      exact absurd hal (Nat.not_lt.mpr (Nat.le_succ _))
  · show b < h1.objs.size
    rw [hz1]
    rcases List.mem_cons.mp hb with z | z
    · rw [z]; exact Nat.lt_of_lt_of_le (Nat.lt_succ_self _) (Nat.le_succ _)
    · rw [List.mem_singleton.mp z]; exact Nat.lt_of_lt_of_le hal (Nat.le_add_right _ _)
  · have hz1' : ({ s1 with heap := h1 } : Shared).heap.objs.size = s1.heap.objs.size + 2 := hz1
    generalize hLs : ({ s1 with heap := h1 } : Shared).heap.objs.size = L at hL hG hz1'
    have lL : s1.heap.objs.size ≤ L := by rw [hz1']; exact Nat.le_add_right _ _
    have lT : ∀ T ∈ Ts, L < T := fun T hT => hG.low T hT
    have hE : EnHp H1 (enH H1 L Ts xs) L Ts xs := en_hp (I1.hok.fresh lL) (fun T hT => I1.hok.fresh (Nat.le_trans lL (Nat.le_of_lt (lT T hT)))) (fun z => Nat.lt_irrefl _ (lT L z)) hG.nd (hTs.trans hln)
    refine ⟨.ref L, _, laidMany (s := s1) (t' := tk) (H' := enH H1 L Ts xs) I1 (fun b u y => keep b u ?_ ?_ (hk1 b u y)) (fun b hb => hE.rest b ?_ ?_) (fun b u hb y => ?_), rfl, q L Ts _ hE⟩
    · exact Nat.ne_of_lt (Nat.lt_succ_of_lt (Heap.lt_size y))
    · exact Nat.ne_of_lt (Heap.lt_size y)
    · exact Nat.ne_of_lt (Nat.lt_of_lt_of_le hb lL)
    · exact fun z => Nat.lt_irrefl _ (Nat.lt_of_lt_of_le (Nat.lt_trans (lT b z) hb) lL)
    · by_cases bL : b = L
      · subst bL
        rw [hE.lst] at y
        cases y
        refine ⟨by rw [List.length_map, hTs, hln]; exact hz, Ts.map Value.ref, c, refs_vals Ts, ?_⟩
        rw [hL, ← hacc]
      · by_cases bT : b ∈ Ts
        · obtain ⟨j, hj⟩ := List.mem_iff_getElem?.mp bT
          obtain ⟨t, xv, p1, p2⟩ := hG.pair j b hj
          have hjl : j < xs.length := by rw [← hln, ← hTs]; exact (List.getElem?_eq_some_iff.mp hj).1
          rw [hE.pair j b xs[j] hj (List.getElem?_eq_getElem hjl)] at y
          cases y
          obtain ⟨xv', e1, e2⟩ := rv.get (List.getElem?_eq_getElem hjl)
          have p1' : its[j]? = some xv := by simpa using p1
          rw [p1'] at e1
          cases e1
          exact ⟨by show 2 ≤ sizeLine; decide, [.int (j : Nat) t, xv], .cons ⟨_, rfl⟩ (.cons e2 .nil), ⟨_, p2, rfl, _, rfl⟩⟩
        · rw [hE.rest b bL bT, I1.hok.fresh hb] at y
          cases y
end LE

/-! t[::-1] of a tuple; xs.extend(t), t a tuple. -/
namespace TB
open PySem L2 PySem.Spec PyProof.Rows
section
variable {prog : Program} {w : World} {A : Around} {E : Value → Shared → Prop} {s : Shared}
theorem adjust_back (n : Nat) : Builtin.Slice.sliceAdjust none none (-1) (n : Int) = ((n : Int) - 1, -1) := by
  unfold Builtin.Slice.sliceAdjust
  simp
theorem places_back (n : Nat) : Builtin.Slice.slicePlaces ((n : Int) - 1) (-1) (-1) = n := by
  unfold Builtin.Slice.slicePlaces
  rw [if_neg (by decide)]
  split
  · have : ((n : Int) - 1 - -1 - 1) / (- -1) = (n : Int) - 1 := by
      rw [show (- -1 : Int) = 1 by decide, Int.ediv_one]; omega
    rw [this]; omega
  · omega
theorem applied_back {sl : Addr} {vk : Value} {n : Nat} {Q : Int × Int × Nat → Shared → Prop} (hs : s.heap.IsSliceOf sl .none .none vk) (pk : IsPart vk (some (-1)))
    (h : Q ((n : Int) - 1, -1, n) s) : wpAny (model prog w) A (Builtin.Slice.sliceApplied (.ref sl) (pure (n : Int))) Q E s := by
  obtain ⟨os, hos, hcs, hds⟩ := id hs
  unfold Builtin.Slice.sliceApplied Builtin.Slice.sliceFields
  refine wpAny_bind (wpAny_bind (wpAny_field hos hds (x := .none) rfl (wpAny_bind (wpAny_field hos hds (x := .none) rfl (wpAny_bind (wpAny_field hos hds (x := vk) rfl (wpAny_pure ?_)))))))
  refine wpAny_bind (HT.slicePart_ pk ?_)
  show wpAny _ _ (if ((-1 : Int) == 0) = true then _ else _) _ _ s
  rw [if_neg (by decide)]
  refine wpAny_bind (slicePart_none (wpAny_bind (slicePart_none (wpAny_bind (wpAny_pure ?_)))))
  show wpAny _ _ (match Builtin.Slice.sliceAdjust none none (-1) (n : Int) with | (lo, hi) => pure (lo, (-1 : Int), Builtin.Slice.slicePlaces lo hi (-1))) _ _ s
  rw [adjust_back n]
  show wpAny _ _ (pure ((n : Int) - 1, (-1 : Int), Builtin.Slice.slicePlaces ((n : Int) - 1) (-1) (-1))) _ _ s
  rw [places_back]
  exact wpAny_pure h
theorem pick_back (xs : Array Value) : ((List.range xs.size).filterMap fun (m : Nat) => xs[((xs.size : Int) - 1 + (m : Int) * -1).toNat]?).toArray = xs.toList.reverse.toArray := by
  have e : (fun (m : Nat) => xs[((xs.size : Int) - 1 + (m : Int) * -1).toNat]?) = (fun k => xs[k]?) ∘ fun (m : Nat) => ((xs.size : Int) - 1 + (m : Int) * -1).toNat := rfl
  have e2 : (List.range xs.size).map (fun (m : Nat) => ((xs.size : Int) - 1 + (m : Int) * -1).toNat) = (List.range xs.size).map fun k => xs.size - 1 - k := by
    apply List.map_congr_left
    intro k hk
    have := List.mem_range.mp hk
    omega
  rw [e, ← List.filterMap_map, e2, PySem.W.krv_range, List.filterMap_reverse, PySem.W.krv_all]
theorem getItem_back {t sl : Addr} {items : Array Value} {vk : Value} {Q : Value → Shared → Prop} (ht : IsTup s.heap t items) (hs : s.heap.IsSliceOf sl .none .none vk) (pk : IsPart vk (some (-1)))
    (h : Q (.ref s.heap.objs.size) { s with heap := s.heap.push { cls := .type "tuple", data := .seq items.toList.reverse.toArray } }) (hsz : items.size ≤ sizeLine) : wpAny (model prog w) A (getItem (.ref t) (.ref sl)) Q E s := by
  have htake : sizeOk (.seq items.toList.reverse.toArray) := by
    show items.toList.reverse.toArray.size ≤ sizeLine
    rw [List.size_toArray, List.length_reverse, Array.length_toList]
    exact hsz
  obtain ⟨os, hos, hcs, hds⟩ := id hs
  have hTs : s.TypeIs (.ref sl) "slice" := ⟨os, hos, hcs⟩
  unfold getItem
  try with_reducible refine wpAny_holding ?_
  first | refine wpAny_bind (wpAny_pure ?_) | skip
  refine wpAny_bind (wpAny_sequenceKey ht.typeIs (by decide) ?_)
  refine wpAny_bind (wpAny_callSpecial?_slot (name := Str.ofString "__getitem__") ht.typeIs PyProof.Rows.slot_tuple_getitem
    (wpAny_call_entry PyProof.Rows.slot_tuple_getitem ht.typeIs entry_tuple_getitem ?_ (args_tuple_getitem _ _)))
  show wpAny _ _ (Builtin.Tuple.tupleItemsOf (.ref t) >>= _) _ _ s
  refine wpAny_bind (tupleItemsOf_ ht ?_)
  refine wpAny_bind (wpAny_typeOf hTs ?_)
  rw [if_pos (by decide)]
  refine wpAny_bind (applied_back hs pk ?_)
  have hno : ¬ ((((items.size : Int) - 1) == 0 && (-1 : Int) == 1 && items.size == items.size) = true) := by
    intro q
    rw [Bool.and_eq_true, Bool.and_eq_true] at q
    exact absurd q.1.2 (by decide)
  show wpAny _ _ (if (((items.size : Int) - 1) == 0 && (-1 : Int) == 1 && items.size == items.size) = true then _ else _) _ _ s
  rw [if_neg hno, pick_back]
  first
    | exact wpAny_bind (m := Builtin.Tuple.tupleExact _) (wpAny_newObj_type (wpAny_pure ⟨_, rfl, wpAny_pure h⟩) htake)
    | exact wpAny_bind (m := Builtin.Tuple.tupleExact _) (wpAny_newObj_type (wpAny_bind (wpAny_pure (wpAny_pure ⟨_, rfl, wpAny_pure h⟩))) htake)
    | exact wpAny_bind (wpAny_bind (m := Builtin.Tuple.tupleExact _) (wpAny_newObj_type (wpAny_pure (wpAny_pure ⟨_, rfl, wpAny_pure h⟩)) htake))
    | exact wpAny_bind (wpAny_bind (m := Builtin.Tuple.tupleExact _) (wpAny_newObj_type (wpAny_pure ⟨_, rfl, wpAny_pure h⟩) htake))
end
/-- t[::-1] -/
def tBack (K : PySem.W.Frag) (te : TE) (ts : TO) : TE := fun σ H Q => te σ H fun x H1 => ts σ H1 fun o H2 => o = some (-1) ∧ ∃ a xs, x = .ref a ∧ SqT K H2 a xs ∧ ∀ p, H2 p = none → Q (.ref p) (upd H2 p (.tup xs.reverse))
section
variable {X : Cx} {e : Expr} {te : TE} {st : Option Expr} {ts : TO} {pos p2 : Pos}
theorem pe_back (he : PE X e te) (hst : PO X st ts) (hsb : ∀ a b : Addr, ∃ ops, subscripted (.Slice none none st p2) false (.ref a) (.ref b) = operate ops (getItem (.ref a) (.ref b)) := by intros; exact ⟨_, by with_unfolding_all rfl⟩) : PE X (.Subscript e (.Slice none none st p2) pos) (tBack X.K te ts) := by
  refine ⟨fun pins s σ H Q I h => ?_⟩
  refine Subscript_ (thn (he.run pins s σ H _ I h) fun v s1 ⟨x, H1, I1, r1, q1⟩ => ?_)
  refine wpAny_Slice ?_
  rw [evalPart_none]
  refine wpAny_pure (wpAny_pure (thn (hst.run pins s1 σ H1 _ I1 q1) fun vk s2 ⟨o, H2, I2, pk, q2⟩ => ?_))
  obtain ⟨rfl, a, xs, rfl, hx, q⟩ := q2
  cases r1
  have I4 : Inv X pins σ H2 { s2 with heap := s2.heap.push { cls := .type "slice", data := .fields #[.none, .none, vk] } } := I2.kept (t' := s2.toks) fun b ob q => Heap.get?_push_of_some _ q
  obtain ⟨its, r, ht, hz⟩ := I4.tuple hx
  have hlen : its.toArray.size = xs.length := by rw [List.size_toArray]; exact r.length.symm
  show wpAny (model X.prog X.w) X.A (subscriptTail e (.Slice none none st p2) (.ref a) (.ref s2.heap.objs.size)) (EP X pins σ Q) X.xe { s2 with heap := s2.heap.push { cls := .type "slice", data := .fields #[.none, .none, vk] } }
  obtain ⟨ops, hop⟩ := hsb a s2.heap.objs.size
  refine tail_any (ops := ops) ht.typeIs PyProof.Rows.slot_tuple_getitem.lookup (getItem_back ht (Heap.IsSliceOf.new ..) pk ?_ (by rw [hlen]; exact hz)) hop
  refine ⟨.ref _, _, I4.laid (t' := s2.toks) (o := .tup xs.reverse) (fun b ob q => Heap.get?_push_of_some _ q) (Nat.le_refl _) ?_, rfl, q _ (I4.hok.fresh (Nat.le_refl _))⟩
  refine ⟨by rw [List.length_reverse]; exact hz, its.reverse, r.reverse, ?_⟩
  exact IsTup.new _ _
end
theorem extend_tuple (l : Addr) (items : Array Value) (n : Nat) (b : Addr) (items2 : Array Value) (n2 : Nat) (dct : Option Addr) (sl : Array (Option Value)) (hs0 : ¬(!items.isEmpty && Builtin.List.listTooLong (items.size + items2.size)) = true) (hs1 : items.size ≤ sizeLine)
    (hs2 : items.size + items2.size ≤ sizeLine + 1) :
    Meets (Builtin.«list.extend» ⟨[.ref l, .ref b], []⟩) (fun _ R s => s.heap.get? l = some { cls := .type "list", dict := none, data := .seq items n, slots := #[] } ∧ s.heap.get? b = some { cls := .type "tuple", dict := dct, data := .seq items2 n2, slots := sl } ∧ R (.ok (.ret Value.none)) { s with heap := s.heap.update l (Obj.mapSeq fun x => x ++ items2), toks := s.toks }) :=
  .of_wp fun prog w A R s h => by
    obtain ⟨hp, g, d, tk, os⟩ := s; obtain ⟨hl, hb, h⟩ := h
    have f1 := AutoSeq1.idx_int
    have f2 := AutoSeq1.sub_tuple_tuple
    have f3 := AutoSeq1.sub_list_list
    have f4 := AutoSeq1.sub_tuple_list
    have f5 := AutoSeq1.sub_list_tuple
    have hz' : (items ++ items2).size ≤ sizeLine + 1 := by rw [Array.size_append]; exact hs2
    wp_walk using (wpAny_updateSeq hl rfl (hz := hs1) (_hz' := hz')), AutoSeq1.wpAny_loadPart' hl, AutoSeq1.wpAny_loadPart' hb
    exact ⟨_, rfl, h⟩
def rExtendT (K : PySem.W.Frag) : V → List V → Hp → VK → Prop := fun x vs H Q => ∃ l b xs zs, x = .ref l ∧ vs = [.ref b] ∧ H l = some (.lst xs) ∧ SqT K H b zs ∧ xs.length + zs.length ≤ sizeLine ∧ Q .non (upd H l (.lst (xs ++ zs)))
theorem mt_extendT {X : Cx} : MtM X "list.extend" (rExtendT X.K) := by
  intro pins s σ H x vs v us Q I rx rv h
  obtain ⟨l, b, xs, zs, rfl, rfl, hH, hB, hz, q⟩ := h
  cases rx
  obtain ⟨u, rfl, ru⟩ := rv.one
  cases ru
  obtain ⟨z, its, n, r, hl, e⟩ := I.lstM hH
  obtain ⟨its2, r2, ⟨⟨c, dct, dt, sl⟩, e2, c2, n2, d2⟩, hl2⟩ := I.tuple hB
  replace c2 : c = .type "tuple" := c2
  replace d2 : dt = .seq its2.toArray n2 := d2
  subst c2 d2
  have hh := r2.length
  have hsz : its.toArray.size + its2.toArray.size ≤ sizeLine := by rw [List.size_toArray, List.size_toArray]; omega
  have hlong : ¬ (!its.toArray.isEmpty && Builtin.List.listTooLong (its.toArray.size + its2.toArray.size)) = true := by
    rw [notLongL hsz, Bool.and_false]
    exact Bool.false_ne_true
  refine call_meets F.slot_list_extend ⟨_, e, rfl⟩ F.entry_list_extend (F.args_list_extend_2 _ _)
    (extend_tuple l its.toArray n b its2.toArray n2 dct sl hlong (by rw [List.size_toArray]; omega) (by omega)) ⟨e, e2, ?_⟩
  refine ⟨.non, _, I.lset (its' := its ++ its2) hH e (by simp) (r.append r2) ?_, rfl, q⟩
  rw [List.length_append]
  omega
end TB

/-! k06, part h: the first bad place. -/
namespace K06
open PySem L2 PySem.Spec PyProof.Rows LE
abbrev sBadTerm : Stmt := top 26
/-- the terms beneath, with their places -/
def kids (p : List Nat) : List PyData → Nat → List (List Nat × PyData)
  | [], _ => []
  | d :: r, i => (p ++ [i], d) :: kids p r (i + 1)
theorem kids_length (p : List Nat) : ∀ (ds : List PyData) (i : Nat), (kids p ds i).length = ds.length
  | [], _ => rfl
  | d :: r, i => by
    show (kids p r (i + 1)).length + 1 = r.length + 1
    rw [kids_length p r]
/-- walking the terms: the first bad place comes out behind n steps -/
inductive BadN : Nat → List (List Nat × PyData) → Option (List Nat) → Prop
  | nil : BadN 0 [] none
  | bad {p : List Nat} {d : PyData} {r : List (List Nat × PyData)} : signD d = false → BadN 0 ((p, d) :: r) (some p)
  | ok {n : Nat} {p : List Nat} {d : PyData} {r : List (List Nat × PyData)} {o : Option (List Nat)} : signD d = true → p.length ≤ 900 → r.length ≤ 900 → BadN n (kids p (beneath d) 0 ++ r) o → BadN (n + 1) ((p, d) :: r) o
def plV (p : List Nat) : List V := p.map fun (k : Nat) => V.int k
/-- the stack's entries -/
inductive Items (H0 H : Hp) : List V → List (List Nat × PyData) → Prop
  | nil : Items H0 H [] []
  | cons {t pl : Addr} {v : V} {p : List Nat} {d : PyData} {xs : List V} {ps : List (List Nat × PyData)} : H t = some (.tup [.ref pl, v]) → H pl = some (.tup (plV p)) → Rp H0 v d → Items H0 H xs ps → Items H0 H (.ref t :: xs) ((p, d) :: ps)
theorem Items.mono {H0 H H' : Hp} (k : ∀ a xs, H a = some (.tup xs) → H' a = some (.tup xs)) : ∀ {xs : List V} {ps : List (List Nat × PyData)}, Items H0 H xs ps → Items H0 H' xs ps
  | _, _, .nil => .nil
  | _, _, .cons a b c d => .cons (k _ _ a) (k _ _ b) c (d.mono k)
theorem Items.length {H0 H : Hp} : ∀ {xs : List V} {ps : List (List Nat × PyData)}, Items H0 H xs ps → xs.length = ps.length
  | _, _, .nil => rfl
  | _, _, .cons a b c d => by rw [List.length_cons, List.length_cons, d.length]
theorem keep_upd {H : Hp} {a : Addr} {o : HO} (n : ∀ xs, H a ≠ some (.tup xs)) : ∀ b xs, H b = some (.tup xs) → upd H a o b = some (.tup xs) := fun b xs e => by
  have : b ≠ a := fun z => n xs (by rw [← z]; exact e)
  rw [upd_ne this]; exact e
def spBad : Sp := fun vs H Q _ => ∃ x d n o, vs = [x] ∧ Rp H x d ∧ BadN n [([], d)] o ∧ ∀ H', Same H H' → match o with
  | none => Q .non H'
  | some p => ∀ a, H' a = some (.tup (plV p)) → Q (.ref a) H'
section
variable {P : Program} {w : World} {K : PySem.W.Frag} {mg : Str → Option Value} {base : Heap}
theorem scBadTerm : FnScope ["plain", "stack", "place", "term", "k", "inner"] ["plain"] (defScope sBadTerm) := ⟨rfl, rfl, rfl, by decide +kernel, rfl, by decide +kernel, by decide +kernel⟩
theorem ok_badterm {f fs fb : Addr} {fd fds fdb : FuncData} (F : Fun K "bad_term" "bad_term" sBadTerm f fd) (N : Nms mg) (DS : Df K mg "is_sign" sIsSign ["term"] fs fds) (GS : FnOk P w K mg base CX0 3 fs fds ["term"] (spTest signD))
    (DB : Df K mg "beneath_sign" sBeneath ["term"] fb fdb) (GB : FnOk P w K mg base CX0 1 fb fdb ["term"] spBeneath) : FnOk P w K mg base CX0 4 f fd ["plain"] spBad := by
  refine F.ok scBadTerm (fun vs H Q E h => ?_) (fun cdv A outer s H vs Q E hr h => ?_)
  · obtain ⟨x, d, n, o, rfl, _⟩ := h
    rfl
  · obtain ⟨x, d, n, o, rfl, t, bd, k⟩ := h
    have r1 := hr.mono (show 1 ≤ 3 by decide)
    have nd := scBadTerm.nd
    refine ⟨_, pss_cons (ps_set (i := 1) nd rfl (Or.inl rfl) (pe_lst (pa_cons (pe_tup (pa_cons (pe_tup pa_nil) (pa_cons (pv 0) pa_nil))) pa_nil)))
      (pss_cons (ps_while PassesOwn.never (pt_truth (pv 1) (by intro _; rfl))
        (pss_cons (ps_asg (pe_bm0 PySem.F.plainAttrs_list PySem.F.slot_list_pop PySem.F.type_list_pop mt_pop (pv 1)) (pg_tup rfl (pgs_cons (pg_name (i := 2) nd rfl (Or.inl rfl)) (pgs_cons (pg_name (i := 3) nd rfl (Or.inl rfl)) pgs_nil))))
        (pss_cons (ps_if (pt_not (pt_val (pe_call GS hr rfl DS.g DS.F.kp DS.b .nil pass0 (pa_cons (pv 3) pa_nil)))) (pss_one (ps_ret (pv 2))) pss_nil)
        (pss_one (ps_for PassesOwn.never rfl (pi_reversed rfl N.reversed (pa_cons (pe_listEn rfl rfl N.list rfl N.enumerate (pe_call GB r1 rfl DB.g DB.F.kp DB.b .nil pass0 (pa_cons (pv 3) pa_nil))) pa_nil))
          (pg_tup rfl (pgs_cons (pg_name (i := 4) nd rfl (Or.inl rfl)) (pgs_cons (pg_name (i := 5) nd rfl (Or.inl rfl)) pgs_nil)))
          (pss_one (ps_expr (pe_bm PySem.F.plainAttrs_list PySem.F.slot_list_append PySem.F.type_list_append mt_append (pv 1)
            (pa_cons (pe_tup (pa_cons (pe_tup (StX.pa_star (pv 2) (pa_cons (pv 4) pa_nil))) (pa_cons (pv 5) pa_nil))) pa_nil)))))))))
      (pss_one (ps_ret pe_non))), ?_⟩
    refine ⟨Nat.zero_le _, fun p0 n0 => ⟨_, rfl, (by show 2 ≤ sizeLine; decide), fun t0 n1 => ⟨(by show 1 ≤ sizeLine; decide), fun S nS => ?_⟩⟩⟩
    have s1 : Same H (upd (upd (upd H p0 (.tup [])) t0 (.tup [.ref p0, x])) S (.lst [.ref t0])) := same_new (same_new (same_new Same.rfl' n0) n1) nS
    have nHS : H S = none := by
      cases e : H S with
      | none => rfl
      | some u =>
        rw [same_new (same_new Same.rfl' n0) n1 S u e] at nS
        cases nS
    refine ⟨fun m σ H1 => ∃ xs st a b c e, σ = [some x, some (.ref S), a, b, c, e] ∧ BadN m st o ∧ H1 S = some (.lst xs) ∧ Items H H1 xs.reverse st ∧ Same H H1, ⟨n, [.ref t0], [([], d)], none, none, none, none, rfl, bd, upd_same, ?_, s1⟩, ?_⟩
    · have e0 : upd (upd H p0 (.tup [])) t0 (.tup [.ref p0, x]) p0 = some (.tup []) := by
        have : p0 ≠ t0 := fun z => by rw [← z, upd_same] at n1; cases n1
        rw [upd_ne this, upd_same]
      have eS : ∀ b u, upd (upd H p0 (.tup [])) t0 (.tup [.ref p0, x]) b = some u → upd (upd (upd H p0 (.tup [])) t0 (.tup [.ref p0, x])) S (.lst [.ref t0]) b = some u := fun b u e => by
        rw [upd_ne (ne_of_none e nS)]; exact e
      exact .cons (eS _ _ upd_same) (eS _ _ e0) t .nil
    · rintro m σ H1 ⟨xs, st, a, b, c, e, rfl, bn, hS, it, sH⟩
      refine ⟨_, rfl, _, .inl ⟨xs, SqL.of hS, rfl⟩, ?_⟩
      cases st with
      | nil =>
        have hx : xs = [] := by
          have := it.length
          rw [List.length_reverse] at this
          exact List.eq_nil_of_length_eq_zero this
        subst hx
        refine iteF ?_
        cases bn
        exact k H1 sH
      | cons pd r =>
        obtain ⟨p, d1⟩ := pd
        obtain ⟨y, ys, rfl⟩ : ∃ y ys, xs = ys ++ [y] := by
          have := it.length
          rw [List.length_reverse] at this
          have hne : xs ≠ [] := fun z => by rw [z] at this; cases this
          exact ⟨xs.getLast hne, xs.dropLast, (List.dropLast_concat_getLast hne).symm⟩
        rw [List.reverse_append] at it
        replace it : Items H H1 (y :: ys.reverse) ((p, d1) :: r) := it
        cases it with
        | @cons t pl v _ _ _ _ ht hp hv it =>
          have hne : (!(ys ++ [V.ref t]).isEmpty) = true := by simp
          rw [hne]
          refine iteT ⟨fun σ' H' => ∃ m', m' < m ∧ ∃ xs st a b c e, σ' = [some x, some (.ref S), a, b, c, e] ∧ BadN m' st o ∧ H' S = some (.lst xs) ∧ Items H H' xs.reverse st ∧ Same H H', fun _ _ h => h, ?_⟩
          have hy : (ys ++ [V.ref t])[(ys ++ [V.ref t]).length - 1]? = some (V.ref t) := by simp
          refine ⟨_, rfl, .inl ⟨rfl, _, SqL.of hS⟩, S, _, .ref t, rfl, rfl, hS, hy, ?_⟩
          rw [List.dropLast_concat]
          have nt : ∀ xs', H1 S ≠ some (.tup xs') := fun xs' z => by rw [hS] at z; cases z
          have kp := keep_upd (o := .lst ys) nt
          have s2 : Same H (upd H1 S (.lst ys)) := same_put sH nHS
          refine ⟨t, _, rfl, SqT.of (kp _ _ ht), rfl, _, _, rfl, _, _, rfl, rfl, ?_⟩
          refine ⟨_, rfl, v, d1, rfl, hv.mono (Sq.of s2), fun H3 s3 => ⟨_, rfl, ?_⟩⟩
          have sH3 := sameT s2 s3
          have hS3 : H3 S = some (.lst ys) := s3 _ _ upd_same
          have kp3 : ∀ b u, H1 b = some (.tup u) → H3 b = some (.tup u) := fun b u e => s3 _ _ (kp b u e)
          have it3 := it.mono kp3
          have hp3 := kp3 _ _ hp
          clear s3 kp kp3 s2 hy hne ht it hp
          cases bn with
          | bad sg =>
            rw [sg]
            exact iteT ⟨_, rfl, k H3 sH3 pl hp3⟩
          | @ok m1 _ _ _ _ sg lp lr bn1 =>
            rw [sg]
            refine iteF ?_
            refine ⟨_, rfl, v, d1, H, rfl, hv, sH3, sg, fun q bs nq hbs => ⟨q, bs, rfl, SqT.of upd_same, fun L Ts H5 en => ⟨L, _, rfl, SqL.of en.lst, ?_⟩⟩⟩
            have sq : Same H3 (upd H3 q (.tup bs)) := same_new Same.rfl' nq
            have s35 : Same H3 H5 := sameT sq en.same
            have s5 : Same H H5 := sameT sH3 s35
            have hS5 := s35 _ _ hS3
            have hp5 := s35 _ _ hp3
            have it5 := it3.mono (fun b u e => s35 b _ e)
            have hLS : L ≠ S := fun z => by have := sq _ _ hS3; rw [← z, en.nL] at this; cases this
            have hbl : bs.length = (beneath d1).length := hbs.length
            have hTl : (Ts.map V.ref).length = bs.length := by rw [List.length_map]; exact en.len
            have hpr := en.pair
            have hL5 := en.lst
            clear sq en nq s35 it3 hp3 hS3 sH3
            refine for_it (walk_rev (K := K) (a := L) (xs := Ts.map V.ref)) (fun j σ H6 => ∃ xs c e, σ = [some x, some (.ref S), some (.ref pl), some v, c, e] ∧ H6 S = some (.lst xs) ∧ Items H H6 xs.reverse (kids p ((beneath d1).drop (bs.length - j)) (bs.length - j) ++ r) ∧ Same H H6 ∧
              H6 L = some (.lst (Ts.map V.ref)) ∧ ∀ b u, H5 b = some (.tup u) → H6 b = some (.tup u)) ⟨ys, _, _, rfl, hS5, ?_, s5, hL5, fun _ _ z => z⟩ (fun _ _ _ _ ⟨_, _, _, _, _, _, _, z, _⟩ => SqL.of z) ?_ ?_
            · rw [Nat.sub_zero, hbl, List.drop_length]
              exact it5
            · rintro i y σ6 H6 H7 hi ⟨xs6, c6, e6, rfl, hS6, it6, s6, hL6, kt6⟩ ⟨rfl, hy⟩
              rw [hTl] at hi hy
              have hix : bs.length - 1 - i < (beneath d1).length := by omega
              obtain ⟨T, hT, rfl⟩ : ∃ T, Ts[bs.length - 1 - i]? = some T ∧ y = V.ref T := by
                rw [List.getElem?_map] at hy
                cases e : Ts[bs.length - 1 - i]? with
                | none => rw [e] at hy; cases hy
                | some T => rw [e] at hy; exact ⟨T, rfl, (Option.some.inj hy).symm⟩
              obtain ⟨bv, hbv, rbv⟩ := hbs.get (List.getElem?_eq_getElem hix)
              have hTt := kt6 _ _ (hpr _ _ _ hT hbv)
              refine ⟨T, _, rfl, SqT.of hTt, rfl, _, _, rfl, _, _, rfl, rfl, ?_⟩
              refine ⟨_, rfl, .inl ⟨rfl, _, SqL.of hS6⟩, ?_⟩
              refine ⟨_, rfl, pl, plV p, rfl, .inl (SqT.of (kt6 _ _ hp5)), _, rfl, ?_, fun q1 nq1 => ⟨_, rfl, (by show 2 ≤ sizeLine; decide), fun q2 nq2 => ?_⟩⟩
              · rw [List.length_append, List.length_cons, List.length_nil]
                unfold plV
                rw [List.length_map]
                exact Nat.le_trans (show p.length + (0 + 1) ≤ 1000 by omega) (by decide)
              · have nS1 : q1 ≠ S := fun z => by rw [z, hS6] at nq1; cases nq1
                have q12 : q1 ≠ q2 := fun z => by rw [← z, upd_same] at nq2; cases nq2
                have nS2 : q2 ≠ S := fun z => by rw [z, upd_ne (Ne.symm nS1), hS6] at nq2; cases nq2
                have n2' : H7 q2 = none := by rw [upd_ne (Ne.symm q12)] at nq2; exact nq2
                have hSs : upd (upd H7 q1 (.tup (plV p ++ [V.int ((bs.length - 1 - i : Nat) : Int)]))) q2 (.tup [.ref q1, bv]) S = some (.lst xs6) := by rw [upd_ne (Ne.symm nS2), upd_ne (Ne.symm nS1)]; exact hS6
                have s9 := same_put (p := S) (o := .lst (xs6 ++ [.ref q2])) (same_new (o := .tup [.ref q1, bv]) (same_new (o := .tup (plV p ++ [V.int ((bs.length - 1 - i : Nat) : Int)])) s6 nq1) nq2) nHS
                have k9 : ∀ b u, H7 b = some (.tup u) → upd (upd (upd H7 q1 (.tup (plV p ++ [V.int ((bs.length - 1 - i : Nat) : Int)]))) q2 (.tup [.ref q1, bv])) S (.lst (xs6 ++ [.ref q2])) b = some (.tup u) := fun b u e => by
                  have b1 : b ≠ S := fun z => by rw [z, hS6] at e; cases e
                  rw [upd_ne b1, upd_ne (ne_of_none e n2'), upd_ne (ne_of_none e nq1)]
                  exact e
                have hl : xs6.length < sizeLine := by
                  have := it6.length
                  rw [List.length_reverse, List.length_append, kids_length, List.length_drop] at this
                  have h4 : (beneath d1).length ≤ 4 := by
                    obtain ⟨z, ds, n, m, rfl, ea, hn, hm, h4⟩ := sign_open sg
                    rw [beneath_eq ea, List.length_drop]
                    omega
                  exact small1000 (by omega)
                refine ⟨S, xs6, _, rfl, rfl, hSs, hl, xs6 ++ [.ref q2], _, _, rfl, upd_same, ?_, s9, ?_, fun b u e => k9 b u (kt6 b u e)⟩
                · rw [List.reverse_append]
                  have e1 : bs.length - (i + 1) = bs.length - 1 - i := by omega
                  have e2 : bs.length - i = bs.length - 1 - i + 1 := by omega
                  rw [e1, List.drop_eq_getElem_cons hix]
                  rw [e2] at it6
                  refine .cons (pl := q1) (p := p ++ [bs.length - 1 - i]) ?_ ?_ rbv (it6.mono k9)
                  · rw [upd_ne nS2, upd_same]
                  · rw [upd_ne nS1, upd_ne q12, upd_same]
                    unfold plV
                    rw [List.map_append]
                    rfl
                · rw [upd_ne hLS, upd_ne (ne_of_none hL6 n2'), upd_ne (ne_of_none hL6 nq1)]
                  exact hL6
            · rintro σ6 H6 ⟨xs6, c6, e6, rfl, hS6, it6, s6, hL6, kt6⟩
              rw [hTl, Nat.sub_self, List.drop_zero] at it6
              exact ⟨m1, Nat.lt_succ_self _, xs6, _, _, _, _, _, rfl, bn1, hS6, it6, s6⟩
end
end K06

/-! k06, part i: the terms in a term. -/
namespace K06
open PySem L2 PySem.Spec PyProof.Rows LE TB
abbrev sNodes : Stmt := top 28
/-- the walk over terms in n steps: the terms met -/
inductive NodesN : Nat → List PyData → List PyData → Prop
  | nil : NodesN 0 [] []
  | ok {n : Nat} {d : PyData} {r l : List PyData} : signD d = true → r.length ≤ 900 → NodesN n (beneath d ++ r) l → NodesN (n + 1) (d :: r) (d :: l)
theorem NodesN.length : ∀ {n : Nat} {r l : List PyData}, NodesN n r l → l.length = n
  | _, _, _, .nil => rfl
  | _, _, _, .ok _ _ h => by rw [List.length_cons, h.length]
theorem Rps.app {H : Hp} : ∀ {vs ws : List V} {ds es : List PyData}, Rps H vs ds → Rps H ws es → Rps H (vs ++ ws) (ds ++ es)
  | _, _, _, _, .nil, b => b
  | _, _, _, _, .cons r rs, b => .cons r (Rps.app rs b)
def spNodes : Sp := fun vs H Q _ => ∃ x d n l, vs = [x] ∧ Rp H x d ∧ NodesN n [d] l ∧ n ≤ 900 ∧ ∀ H' L xs, Same H H' → H L = none → H' L = some (.lst xs) → Rps H xs l → Q (.ref L) H'
section
variable {P : Program} {w : World} {K : PySem.W.Frag} {mg : Str → Option Value} {base : Heap}
theorem scNodes : FnScope ["plain", "out", "stack", "term"] ["plain"] (defScope sNodes) := ⟨rfl, rfl, rfl, by decide +kernel, rfl, by decide +kernel, by decide +kernel⟩
theorem ok_nodes {f fb : Addr} {fd fdb : FuncData} (F : Fun K "term_nodes" "term_nodes" sNodes f fd) (DB : Df K mg "beneath_sign" sBeneath ["term"] fb fdb) (GB : FnOk P w K mg base CX0 1 fb fdb ["term"] spBeneath) :
    FnOk P w K mg base CX0 2 f fd ["plain"] spNodes := by
  refine F.ok scNodes (fun vs H Q E h => ?_) (fun cdv A outer s H vs Q E hr h => ?_)
  · obtain ⟨x, d, n, l, rfl, _⟩ := h
    rfl
  · obtain ⟨x, d, n, l, rfl, t, nn, hn, k⟩ := h
    have nd := scNodes.nd
    refine ⟨_, pss_cons (ps_set (i := 1) nd rfl (Or.inl rfl) (pe_lst pa_nil))
      (pss_cons (ps_set (i := 2) nd rfl (Or.inl rfl) (pe_lst (pa_cons (pv 0) pa_nil)))
      (pss_cons (ps_while PassesOwn.never (pt_truth (pv 2) (by intro _; rfl))
        (pss_cons (ps_set (i := 3) nd rfl (Or.inl rfl) (pe_bm0 PySem.F.plainAttrs_list PySem.F.slot_list_pop PySem.F.type_list_pop mt_pop (pv 2)))
        (pss_cons (ps_expr (pe_bm PySem.F.plainAttrs_list PySem.F.slot_list_append PySem.F.type_list_append mt_append (pv 1) (pa_cons (pv 3) pa_nil)))
        (pss_one (ps_expr (pe_bm PySem.F.plainAttrs_list PySem.F.slot_list_extend PySem.F.type_list_extend mt_extendT (pv 2)
          (pa_cons (pe_back (pe_call GB hr rfl DB.g DB.F.kp DB.b .nil pass0 (pa_cons (pv 3) pa_nil)) (po_some (pe_un un_neg pe_int))) pa_nil)))))))
      (pss_one (ps_ret (pv 1))))), ?_⟩
    refine ⟨Nat.zero_le _, fun O nO => ⟨_, rfl, (by show 1 ≤ sizeLine; decide), fun S nS => ?_⟩⟩
    have s1 : Same H (upd (upd H O (.lst [])) S (.lst [x])) := same_new (same_new Same.rfl' nO) nS
    have nHS : H S = none := by
      cases e : H S with
      | none => rfl
      | some u =>
        rw [same_new Same.rfl' nO S u e] at nS
        cases nS
    have nOS : O ≠ S := fun z => by rw [← z, upd_same] at nS; cases nS
    refine ⟨fun m σ H1 => ∃ os xs st done rest a, σ = [some x, some (.ref O), some (.ref S), a] ∧ H1 O = some (.lst os) ∧ H1 S = some (.lst xs) ∧ Rps H os done ∧ Rps H xs.reverse st ∧ NodesN m st rest ∧ done ++ rest = l ∧ done.length + m ≤ 900 ∧ Same H H1,
      ⟨n, [], [x], [d], [], l, none, rfl, by rw [upd_ne nOS, upd_same], upd_same, .nil, .cons t .nil, nn, rfl, by simpa using hn, s1⟩, ?_⟩
    rintro m σ H1 ⟨os, xs, st, done, rest, a, rfl, hO, hS, ro, rx, nm, el, hm, sH⟩
    refine ⟨_, rfl, _, .inl ⟨xs, SqL.of hS, rfl⟩, ?_⟩
    cases nm with
    | nil =>
      have hx : xs = [] := by
        have := rx.length
        rw [List.length_reverse] at this
        exact List.eq_nil_of_length_eq_zero this
      subst hx
      rw [List.append_nil] at el
      subst el
      exact iteF ⟨_, rfl, k H1 O os sH nO hO ro⟩
    | @ok m1 d1 r l1 sg lr nm1 =>
      obtain ⟨y, ys, rfl⟩ : ∃ y ys, xs = ys ++ [y] := by
        have := rx.length
        rw [List.length_reverse] at this
        have hne : xs ≠ [] := fun z => by rw [z] at this; cases this
        exact ⟨xs.getLast hne, xs.dropLast, (List.dropLast_concat_getLast hne).symm⟩
      rw [List.reverse_append] at rx
      replace rx : Rps H (y :: ys.reverse) (d1 :: r) := rx
      cases rx with
      | cons ry rx =>
        have hne : (!(ys ++ [y]).isEmpty) = true := by simp
        rw [hne]
        refine iteT ⟨fun σ' H' => ∃ m', m' < m1 + 1 ∧ ∃ os xs st done rest a, σ' = [some x, some (.ref O), some (.ref S), a] ∧ H' O = some (.lst os) ∧ H' S = some (.lst xs) ∧ Rps H os done ∧ Rps H xs.reverse st ∧ NodesN m' st rest ∧ done ++ rest = l ∧ done.length + m' ≤ 900 ∧ Same H H', fun _ _ h => h, ?_⟩
        have hy : (ys ++ [y])[(ys ++ [y]).length - 1]? = some y := by simp
        refine ⟨_, rfl, .inl ⟨rfl, _, SqL.of hS⟩, S, _, y, rfl, rfl, hS, hy, ?_⟩
        rw [List.dropLast_concat]
        have hO2 : upd H1 S (.lst ys) O = some (.lst os) := by rw [upd_ne nOS]; exact hO
        have ho : os.length = done.length := ro.length
        refine ⟨_, rfl, .inl ⟨rfl, _, SqL.of hO2⟩, _, rfl, O, os, _, rfl, rfl, hO2, small1000 (by omega), ?_⟩
        have s3 : Same H (upd (upd H1 S (.lst ys)) O (.lst (os ++ [y]))) := same_put (same_put sH nHS) nO
        have hS3 : upd (upd H1 S (.lst ys)) O (.lst (os ++ [y])) S = some (.lst ys) := by rw [upd_ne (Ne.symm nOS), upd_same]
        refine ⟨_, rfl, .inl ⟨rfl, _, SqL.of hS3⟩, _, rfl, y, d1, H, rfl, ry, s3, sg, fun q bs nq hbs => ⟨_, rfl, _, rfl, rfl, q, bs, rfl, SqT.of upd_same, fun q2 nq2 => ?_⟩⟩
        have nq' : upd (upd H1 S (.lst ys)) O (.lst (os ++ [y])) q = none := nq
        have qS : S ≠ q := fun z => by rw [← z, hS3] at nq'; cases nq'
        have qO : O ≠ q := fun z => by rw [← z, upd_same] at nq'; cases nq'
        have q2S : S ≠ q2 := fun z => by rw [← z, upd_ne qS, hS3] at nq2; cases nq2
        have q2O : O ≠ q2 := fun z => by rw [← z, upd_ne qO, upd_same] at nq2; cases nq2
        have hyl : ys.length = r.length := by have := rx.length; rwa [List.length_reverse] at this
        have hbl := hbs.length
        have hb4 : (beneath d1).length ≤ 4 := by
          obtain ⟨z, ds, n, m, rfl, ea, hn, hm, h4⟩ := sign_open sg
          rw [beneath_eq ea, List.length_drop]
          omega
        refine ⟨S, q2, ys, bs.reverse, rfl, rfl, ?_, SqT.of upd_same, ?_, m1, Nat.lt_succ_self _, os ++ [y], ys ++ bs.reverse, beneath d1 ++ r, done ++ [d1], l1, _, rfl, ?_, upd_same, ro.app (.cons ry .nil), ?_, nm1, ?_, ?_, ?_⟩
        · rw [upd_ne q2S, upd_ne qS]; exact hS3
        · rw [List.length_reverse]
          exact Nat.le_of_lt (small1000 (by omega))
        · rw [upd_ne nOS, upd_ne q2O, upd_ne qO, upd_same]
        · rw [List.reverse_append, List.reverse_reverse]
          exact hbs.app rx
        · rw [List.append_assoc]; exact el
        · rw [List.length_append, List.length_singleton]; omega
        · exact same_put (same_new (same_new s3 nq) nq2) nHS
end
end K06

/-! k06, part j: each once. -/
namespace K06
open PySem L2 PySem.Spec PyProof.Rows LE TB
abbrev sOnce : Stmt := top 29
/-- each once, in the order of the first -/
def onceL (zs : List Str) : List Str := zs.foldl (fun acc z => if z ∈ acc then acc else acc ++ [z]) []
theorem onceL_take {zs : List Str} {i : Nat} {z : Str} (h : zs[i]? = some z) : onceL (zs.take (i + 1)) = if z ∈ onceL (zs.take i) then onceL (zs.take i) else onceL (zs.take i) ++ [z] := by
  unfold onceL
  rw [List.take_add_one, h]
  show ((zs.take i) ++ [z]).foldl _ [] = _
  rw [List.foldl_append]
  rfl
theorem onceL_len (zs : List Str) : (onceL zs).length ≤ zs.length := by
  unfold onceL
  suffices ∀ (zs acc : List Str), (zs.foldl (fun acc z => if z ∈ acc then acc else acc ++ [z]) acc).length ≤ acc.length + zs.length by simpa using this zs []
  intro zs
  induction zs with
  | nil => intro acc; simp
  | cons z r ih =>
    intro acc
    refine Nat.le_trans (ih _) ?_
    rw [List.length_cons]
    have : (if z ∈ acc then acc else acc ++ [z]).length ≤ acc.length + 1 := by
      by_cases h : z ∈ acc
      · rw [if_pos h]; omega
      · rw [if_neg h, List.length_append, List.length_singleton]; exact Nat.le_refl _
    show (if z ∈ acc then acc else acc ++ [z]).length + r.length ≤ _
    omega
/-- a comprehension that makes a dict, over any walk -/
theorem dc_it {J : It} {n : Nat} {G : Hp → Prop} {Y : Nat → Hp → V → Hp → Prop} (w : Walk J n G Y) {g : TG} {tt : TT} {tk tv : TE} {vs : List Nat} {σ : L2.St} {H1 : Hp} {D : Addr} {Qd : Hp → Prop} (Pv : Nat → Hp → Prop) (h0 : Pv 0 (upd H1 D (.dK []))) (hG : ∀ i H, i ≤ n → Pv i H → G H)
    (hs : ∀ i x H H', i < n → Pv i H → Y i H x H' → g x (wipe σ vs) H' fun σ2 H2 => wipe σ2 vs = wipe σ vs ∧ tt σ2 H2 fun b H3 =>
      if b = true then tk σ2 H3 fun y H4 => tv σ2 H4 fun z H5 => ∃ kvs k, y = kV k ∧ H5 D = some (.dK kvs) ∧ kvs.length < sizeLine ∧ Pv (i + 1) (upd H5 D (.dK (putK kvs k z))) else Pv (i + 1) H3) (hd : ∀ H, Pv n H → Qd H) :
    ∃ W : Nat → Nat → Hp → Prop, (∃ m, W 0 m (upd H1 D (.dK []))) ∧ ∀ i m H, W i m H →
      (J.stop i H ∧ Qd H) ∨ (J.go i H ∧ ∃ Nx : Hp → Prop, (∀ H', Nx H' → ∃ m', m' < m ∧ W (i + 1) m' H') ∧ ∀ x H', J.yld i H x H' → g x (wipe σ vs) H' fun σ2 H2 => wipe σ2 vs = wipe σ vs ∧ tt σ2 H2 fun b H3 =>
        if b = true then tk σ2 H3 fun y H4 => tv σ2 H4 fun z H5 => ∃ kvs k, y = kV k ∧ H5 D = some (.dK kvs) ∧ kvs.length < sizeLine ∧ Nx (upd H5 D (.dK (putK kvs k z))) else Nx H3) := by
  refine ⟨fun i m H => m = n - i ∧ i ≤ n ∧ Pv i H, ⟨n, by simp, Nat.zero_le _, h0⟩, ?_⟩
  rintro i m H ⟨rfl, hi, p⟩
  have q := hG i H hi p
  by_cases hlt : i < n
  · exact .inr ⟨w.goes i H hlt q, Pv (i + 1), fun H' p' => ⟨n - (i + 1), by omega, rfl, hlt, p'⟩, fun x H' y => hs i x H H' hlt p (w.yields i H x H' hlt q y)⟩
  · have e : i = n := by omega
    subst e
    exact .inl ⟨w.stops H q, hd H p⟩
/-- the keys of such a dict -/
def KeysOf (kvs : List (Key × V)) (zs : List Str) : Prop := kvs.map (fun kv => kv.1) = zs.map Sum.inr
theorem keys_put {kvs : List (Key × V)} {zs : List Str} {z : Str} {v : V} (h : KeysOf kvs zs) : KeysOf (putK kvs (Sum.inr z) v) (if z ∈ zs then zs else zs ++ [z]) := by
  have e : (kvs.any fun kv => decide (kv.1 = Sum.inr z)) = decide (z ∈ zs) := by
    have e1 : (kvs.any fun kv => decide (kv.1 = Sum.inr z)) = (kvs.map fun kv => kv.1).any fun k => decide (k = Sum.inr z) := by rw [List.any_map]; rfl
    have h' : (kvs.map fun kv => kv.1) = zs.map Sum.inr := h
    rw [e1, h', List.any_map, Bool.eq_iff_iff, List.any_eq_true, decide_eq_true_iff]
    constructor
    · rintro ⟨a, ha, q⟩
      have q2 : (Sum.inr a : Key) = Sum.inr z := of_decide_eq_true q
      injection q2 with q3
      rw [← q3]; exact ha
    · intro hz
      exact ⟨z, hz, decide_eq_true rfl⟩
  unfold putK KeysOf
  rw [e]
  by_cases hz : z ∈ zs
  · rw [if_pos (decide_eq_true hz), if_pos hz, List.map_map]
    refine Eq.trans (List.map_congr_left fun kv _ => ?_) h
    show (if kv.1 = Sum.inr z then (kv.1, v) else kv).1 = kv.1
    by_cases q : kv.1 = Sum.inr z
    · rw [if_pos q]
    · rw [if_neg q]
  · rw [if_neg (by rw [decide_eq_false hz]; exact Bool.false_ne_true), if_neg hz, List.map_append, List.map_append]
    have h' : (kvs.map fun kv => kv.1) = zs.map Sum.inr := h
    rw [h']
    rfl
theorem KeysOf.len {kvs : List (Key × V)} {zs : List Str} (h : KeysOf kvs zs) : kvs.length = zs.length := by
  have := congrArg List.length h
  rwa [List.length_map, List.length_map] at this
theorem KeysOf.vals {kvs : List (Key × V)} {zs : List Str} (h : KeysOf kvs zs) : (kvs.map fun kv => kV kv.1) = zs.map V.str := by
  have e : (kvs.map fun kv => kV kv.1) = (kvs.map fun kv => kv.1).map kV := by rw [List.map_map]; rfl
  have h' : (kvs.map fun kv => kv.1) = zs.map Sum.inr := h
  rw [e, h', List.map_map]
  rfl
def spOnce : Sp := fun vs H Q _ => ∃ a zs, vs = [.ref a] ∧ H a = some (.lst (zs.map V.str)) ∧ zs.length ≤ 900 ∧ ∀ H' L, Same H H' → H L = none → H' L = some (.lst ((onceL zs).map V.str)) → Q (.ref L) H'
section
variable {P : Program} {w : World} {K : PySem.W.Frag} {mg : Str → Option Value} {base : Heap}
theorem scOnce : FnScope ["things", "thing"] ["things"] (defScope sOnce) := ⟨rfl, rfl, rfl, by decide +kernel, rfl, by decide +kernel, by decide +kernel⟩
theorem ok_once {f : Addr} {fd : FuncData} (F : Fun K "once" "once" sOnce f fd) (N : Nms mg) : FnOk P w K mg base CX0 1 f fd ["things"] spOnce := by
  refine F.ok scOnce (fun vs H Q E h => ?_) (fun cdv A outer s H vs Q E hr h => ?_)
  · obtain ⟨a, zs, rfl, _⟩ := h
    rfl
  · obtain ⟨a, zs, rfl, ha, hz, k⟩ := h
    have nd := scOnce.nd
    refine ⟨_, pss_one (ps_ret (pe_callTy (call_listD rfl) (by rfl) N.list (by decide +kernel) (pa_cons
      (pe_dc (own := [("thing", 1)]) (g := gName 1) (tt := tYes) rfl nd (pi_list (pv 0)) (blkOk_by (N := ["things", "thing"]) (sc := defScope sOnce) (by decide +kernel)) (fun _ _ _ _ _ => pg_name (i := 1) nd rfl (Or.inl rfl)) (fun _ _ _ _ _ => pts_nil)
        (fun _ _ _ _ _ => pv 1) (fun _ _ _ _ _ => pe_bl)) pa_nil))), ?_⟩
    refine ⟨_, rfl, a, rfl, ⟨_, SqL.of ha⟩, fun D hD => ?_⟩
    refine dc_it (walk_list (K := K) (a := a) (xs := zs.map V.str)) (fun i H2 => Same H H2 ∧ ∃ kvs, H2 D = some (.dK kvs) ∧ KeysOf kvs (onceL (zs.take i))) ⟨same_new Same.rfl' hD, [], upd_same, rfl⟩ (fun i H2 _ ⟨s2, _⟩ => SqL.of (s2 _ _ ha)) ?_ ?_
    · rintro i x H1 H2 hi ⟨s1, kvs, hk, ks⟩ ⟨rfl, hx⟩
      obtain ⟨z, hzi, rfl⟩ : ∃ z, zs[i]? = some z ∧ x = V.str z := by
        rw [List.getElem?_map] at hx
        cases e : zs[i]? with
        | none => rw [e] at hx; cases hx
        | some z => rw [e] at hx; exact ⟨z, rfl, (Option.some.inj hx).symm⟩
      refine ⟨rfl, yesT ⟨_, rfl, kvs, Sum.inr z, rfl, hk, ?_, same_put s1 hD, _, upd_same, ?_⟩⟩
      · have := ks.len
        have h2 := onceL_len (zs.take i)
        rw [List.length_take] at h2
        exact small1000 (by omega)
      · rw [onceL_take hzi]
        exact keys_put ks
    · rintro H2 ⟨s2, kvs, hk, ks⟩
      rw [List.take_of_length_le (by rw [List.length_map]; exact Nat.le_refl _)] at ks
      refine ⟨D, kvs, rfl, .inl hk, fun p hp => k _ p (same_new s2 hp) ?_ ?_⟩
      · cases e : H p with
        | none => rfl
        | some u => rw [s2 p u e] at hp; cases hp
      · rw [upd_same, ks.vals]
end
end K06

/-! k06, part k: the names and the headings in a term. -/
namespace K06
open PySem L2 PySem.Spec PyProof.Rows LE TB
abbrev sNamesIn : Stmt := top 30
abbrev sHeadsIn : Stmt := top 31
abbrev fourV : List V := [.str "form", .str "state", .str "over", .str "from"]
/-- the word of a term's tuple -/
def wordOf : PyData → Str
  | .tuple (.str z :: _) => z
  | _ => ""
/-- its second entry, a text -/
def textOf : PyData → Str
  | .tuple (_ :: .str z :: _) => z
  | _ => ""
def namesL (l : List PyData) : List Str := (l.filter fun d => inV (.str (wordOf d)) fourV).map textOf
def headsL (l : List PyData) : List Str := (l.filter fun d => decide (V.str (wordOf d) = V.str "falls")).map textOf
theorem NodesN.signs : ∀ {n : Nat} {r l : List PyData}, NodesN n r l → ∀ d ∈ l, signD d = true
  | _, _, _, .nil, d, h => by cases h
  | _, _, _, .ok s _ q, d, h => by
    rcases List.mem_cons.mp h with z | z
    · rw [z]; exact s
    · exact q.signs d z
theorem restD_of {z : Str} {ds : List PyData} (h : signD (.tuple (.str z :: ds)) = true) : restD z ds = true := by
  cases e : arity z with
  | none =>
    have : signD (.tuple (.str z :: ds)) = false := by
      show (match arity z with | some (n, _) => decide (ds.length + 1 = n) && restD z ds | none => false) = false
      rw [e]
    rw [this] at h; cases h
  | some r =>
    obtain ⟨n, m⟩ := r
    have : signD (.tuple (.str z :: ds)) = (decide (ds.length + 1 = n) && restD z ds) := by
      show (match arity z with | some (n, _) => decide (ds.length + 1 = n) && restD z ds | none => false) = _
      rw [e]
    rw [this] at h
    exact (Bool.and_eq_true_iff.mp h).2
theorem nmD_str {d : PyData} (h : nmD d = true) : ∃ z, d = .str z ∧ nmS z = true := by
  cases d <;> first | exact ⟨_, rfl, h⟩ | cases h
theorem hdD_str {d : PyData} (h : hdD d = true) : ∃ z, d = .str z ∧ hdS z = true := by
  cases d <;> first | exact ⟨_, rfl, h⟩ | cases h
theorem getD_cons {ds : List PyData} {z : Str} (h : ds.getD 0 .none = .str z) : ∃ r, ds = .str z :: r := by
  cases ds with
  | nil => cases h
  | cons a r => exact ⟨r, by rw [show a = .str z from h]⟩
/-- a right term that names something has the name as its second entry -/
theorem named_open {d : PyData} (h : signD d = true) (e : inV (.str (wordOf d)) fourV = true) : ∃ w z r, d = .tuple (.str w :: .str z :: r) := by
  obtain ⟨w, ds, n, m, rfl, ea, hn, hm, h4⟩ := sign_open h
  have hr := restD_of h
  have e' : inV (.str w) fourV = true := e
  unfold restD at hr
  cases e3 : inV (.str w) namedV with
  | true =>
    rw [e3, if_pos rfl] at hr
    obtain ⟨z, hz, _⟩ := nmD_str hr
    obtain ⟨r, rfl⟩ := getD_cons hz
    exact ⟨w, z, r, rfl⟩
  | false =>
    have e4 : inV (.str w) sharesV = true := by
      have hm := arity_mem ea
      have : ∀ p ∈ arities, inV (.str p.1) fourV = true → inV (.str p.1) namedV = false → inV (.str p.1) sharesV = true := by decide +kernel
      exact this _ hm e' e3
    rw [e3, e4, if_neg Bool.false_ne_true, if_pos rfl] at hr
    obtain ⟨z, hz, _⟩ := nmD_str (Bool.and_eq_true_iff.mp hr).1
    obtain ⟨r, rfl⟩ := getD_cons hz
    exact ⟨w, z, r, rfl⟩
theorem falls_open {d : PyData} (h : signD d = true) (e : decide (V.str (wordOf d) = V.str "falls") = true) : ∃ w z r, d = .tuple (.str w :: .str z :: r) := by
  obtain ⟨w, ds, n, m, rfl, ea, hn, hm, h4⟩ := sign_open h
  have hr := restD_of h
  have e' : decide (V.str w = V.str "falls") = true := e
  have ew : w = "falls" := by have := of_decide_eq_true e'; injection this
  subst ew
  have hr2 : hdD (ds.getD 0 .none) = true := by
    have : restD "falls" ds = hdD (ds.getD 0 .none) := by
      unfold restD
      rw [show inV (.str "falls") namedV = false by decide, show inV (.str "falls") sharesV = false by decide, show decide (V.str "falls" = V.str "parts") = false by decide, show decide (V.str "falls" = V.str "falls") = true by decide]
      rfl
    rw [← this]; exact hr
  obtain ⟨z, hz, _⟩ := hdD_str hr2
  obtain ⟨r, rfl⟩ := getD_cons hz
  exact ⟨_, z, r, rfl⟩
theorem filt_take {α : Type} {l : List α} {i : Nat} {d : α} (p : α → Bool) (h : l[i]? = some d) : (l.take (i + 1)).filter p = if p d = true then (l.take i).filter p ++ [d] else (l.take i).filter p := by
  rw [List.take_add_one, h]
  show ((l.take i) ++ [d]).filter p = _
  rw [List.filter_append]
  cases e : p d with
  | true => rw [if_pos rfl, List.filter_cons_of_pos e]; rfl
  | false => rw [if_neg Bool.false_ne_true, List.filter_cons_of_neg (by rw [e]; exact Bool.false_ne_true)]; simp
theorem Rps.got {H : Hp} : ∀ {vs : List V} {ds : List PyData}, Rps H vs ds → ∀ {i : Nat} {v : V}, vs[i]? = some v → ∃ d, ds[i]? = some d ∧ Rp H v d
  | _, _, .nil, i, v, h => by cases i <;> cases h
  | _, _, .cons r rs, 0, v, h => by cases h; exact ⟨_, rfl, r⟩
  | _, _, .cons r rs, i + 1, v, h => Rps.got rs h
def spNames (g : List PyData → List Str) : Sp := fun vs H Q _ => ∃ x d n l, vs = [x] ∧ Rp H x d ∧ NodesN n [d] l ∧ n ≤ 900 ∧ ∀ H' L, Same H H' → H L = none → H' L = some (.lst ((onceL (g l)).map V.str)) → Q (.ref L) H'
section
variable {P : Program} {w : World} {K : PySem.W.Frag} {mg : Str → Option Value} {base : Heap}
theorem scNamesIn : FnScope ["plain", "term"] ["plain"] (defScope sNamesIn) := ⟨rfl, rfl, rfl, by decide +kernel, rfl, by decide +kernel, by decide +kernel⟩
theorem scHeadsIn : FnScope ["plain", "term"] ["plain"] (defScope sHeadsIn) := ⟨rfl, rfl, rfl, by decide +kernel, rfl, by decide +kernel, by decide +kernel⟩
theorem ok_names {f fn fo : Addr} {fd fdn fdo : FuncData} (F : Fun K "names_in" "names_in" sNamesIn f fd) (DN : Df K mg "term_nodes" sNodes ["plain"] fn fdn) (GN : FnOk P w K mg base CX0 2 fn fdn ["plain"] spNodes)
    (DO : Df K mg "once" sOnce ["things"] fo fdo) (GO : FnOk P w K mg base CX0 1 fo fdo ["things"] spOnce) : FnOk P w K mg base CX0 3 f fd ["plain"] (spNames namesL) := by
  refine F.ok scNamesIn (fun vs H Q E h => ?_) (fun cdv A outer s H vs Q E hr h => ?_)
  · obtain ⟨x, d, n, l, rfl, _⟩ := h
    rfl
  · obtain ⟨x, d, n, l, rfl, t, nn, hn, k⟩ := h
    have nd := scNamesIn.nd
    have r1 := hr.mono (show 1 ≤ 2 by decide)
    refine ⟨_, pss_one (ps_ret (pe_call GO r1 rfl DO.g DO.F.kp DO.b .nil pass0 (pa_cons
      (pe_lc (own := [("term", 1)]) (g := gName 1) (tt := tTest (tOp (rIn K false) (tOp (rIxT K) (tVar 1) (tC (.int 0))) (tTup (tCons (tC (.str "form")) (tCons (tC (.str "state")) (tCons (tC (.str "over")) (tCons (tC (.str "from")) tNil)))))))
        (te := tOp (rIxT K) (tVar 1) (tC (.int 1))) rfl nd (pi_list (pe_call GN hr rfl DN.g DN.F.kp DN.b .nil pass0 (pa_cons (pv 0) pa_nil))) (blkOk_by (N := ["plain", "term"]) (sc := defScope sNamesIn) (by decide +kernel)) (fun _ _ _ _ _ => pg_name (i := 1) nd rfl (Or.inl rfl))
        (fun _ _ _ _ _ => pts_one (pt_cmpR op_in_seq (pe_ix ix_tup (pv 1) pe_int (fun _ _ => rfl)) (pe_tup (pa_cons pe_str (pa_cons pe_str (pa_cons pe_str (pa_cons pe_str pa_nil))))) rfl))
        (fun _ _ _ _ _ => pe_ix ix_tup (pv 1) pe_int (fun _ _ => rfl))) pa_nil))), ?_⟩
    refine ⟨_, rfl, x, d, n, l, rfl, t, nn, hn, fun H1 L xs sH nL hL rx => ⟨L, rfl, ⟨_, SqL.of hL⟩, fun D hD => ?_⟩⟩
    have hll := nn.length
    refine lc_it (walk_list (K := K) (a := L) (xs := xs)) (fun i H2 => Same H1 H2 ∧ H2 D = some (.lst ((((l.take i).filter (fun d => inV (.str (wordOf d)) fourV)).map textOf).map V.str))) ⟨same_new Same.rfl' hD, upd_same⟩ (fun i H2 _ ⟨s2, _⟩ => SqL.of (s2 _ _ hL)) ?_ ?_
    · rintro i y H2 H3 hi ⟨s2, hd2⟩ ⟨rfl, hy⟩
      obtain ⟨di, hdi, rdi⟩ := rx.got hy
      have sg := nn.signs di (List.mem_of_getElem? hdi)
      have sg' := sg
      have ft := filt_take (fun d => inV (.str (wordOf d)) fourV) hdi
      have lt : ((l.take i).filter (fun d => inV (.str (wordOf d)) fourV)).length ≤ i := Nat.le_trans (List.length_filter_le _ _) (by rw [List.length_take]; exact Nat.min_le_left _ _)
      have li : i < l.length := (List.getElem?_eq_some_iff.mp hdi).1
      obtain ⟨w0, ds0, n0, m0, rfl, ea, _, _, _⟩ := sign_open sg
      cases rdi with
      | @tup a _ _ e r =>
        cases r with
        | @cons v vs _ _ tv tvs =>
          cases tv with
          | str _ hz =>
            have e2 := s2 _ _ (sH _ _ e)
            refine ⟨rfl, ⟨_, rfl, a, _, 0, .str w0, rfl, rfl, SqT.of e2, at0, (by show 4 ≤ sizeLine; decide), fun p np => ⟨p, fourV, rfl, .inr (SqT.of upd_same), rfl, by decide, _, rfl, ?_⟩⟩⟩
            show if inV (.str w0) fourV = true then _ else _
            have s3 : Same H1 (upd H3 p (.tup fourV)) := same_new s2 np
            have e3 := s3 _ _ (sH _ _ e)
            have d3 : upd H3 p (.tup fourV) D = some (.lst ((((l.take i).filter fun d => inV (.str (wordOf d)) fourV).map textOf).map V.str)) := by rw [upd_ne (ne_of_none hd2 np)]; exact hd2
            cases ei : inV (.str w0) fourV with
            | true =>
              obtain ⟨w1, z1, r1', q⟩ := named_open sg' ei
              cases q
              cases tvs with
              | @cons v1 vs1 _ _ tv1 tvs1 =>
                cases tv1 with
                | str _ hz1 =>
                  refine iteT ⟨_, rfl, a, _, 1, .str z1, rfl, rfl, SqT.of e3, at1, _, d3, ?_, ?_, ?_⟩
                  · rw [List.length_map, List.length_map]
                    exact small1000 (by omega)
                  · exact same_put s3 hD
                  · rw [upd_same, ft]
                    rw [show inV (V.str (wordOf (PyData.tuple (.str w0 :: .str z1 :: r1')))) fourV = true from ei, if_pos rfl, List.map_append, List.map_append]
                    rfl
            | false =>
              refine iteF ⟨s3, ?_⟩
              rw [ft, show inV (V.str (wordOf (PyData.tuple (.str w0 :: ds0)))) fourV = false from ei, if_neg Bool.false_ne_true]
              exact d3
    · rintro H2 ⟨s2, hd2⟩
      have hxl : xs.length = l.length := rx.length
      rw [List.take_of_length_le (by rw [hxl]; exact Nat.le_refl _)] at hd2
      refine ⟨D, namesL l, rfl, hd2, ?_, fun H3 L3 s3 n3 h3 => k H3 L3 (sameT (sameT sH s2) s3) ?_ h3⟩
      · show (((l.filter (fun d => inV (.str (wordOf d)) fourV)).map textOf)).length ≤ 900
        rw [List.length_map]
        exact Nat.le_trans (List.length_filter_le _ _) (by omega)
      · cases e : H L3 with
        | none => rfl
        | some u => rw [sameT sH s2 L3 u e] at n3; cases n3
theorem ok_heads {f fn fo : Addr} {fd fdn fdo : FuncData} (F : Fun K "headings_in" "headings_in" sHeadsIn f fd) (DN : Df K mg "term_nodes" sNodes ["plain"] fn fdn) (GN : FnOk P w K mg base CX0 2 fn fdn ["plain"] spNodes)
    (DO : Df K mg "once" sOnce ["things"] fo fdo) (GO : FnOk P w K mg base CX0 1 fo fdo ["things"] spOnce) : FnOk P w K mg base CX0 3 f fd ["plain"] (spNames headsL) := by
  refine F.ok scHeadsIn (fun vs H Q E h => ?_) (fun cdv A outer s H vs Q E hr h => ?_)
  · obtain ⟨x, d, n, l, rfl, _⟩ := h
    rfl
  · obtain ⟨x, d, n, l, rfl, t, nn, hn, k⟩ := h
    have nd := scHeadsIn.nd
    have r1 := hr.mono (show 1 ≤ 2 by decide)
    refine ⟨_, pss_one (ps_ret (pe_call GO r1 rfl DO.g DO.F.kp DO.b .nil pass0 (pa_cons
      (pe_lc (own := [("term", 1)]) (g := gName 1) (tt := tTest (tOp rEq (tOp (rIxT K) (tVar 1) (tC (.int 0))) (tC (.str "falls"))))
        (te := tOp (rIxT K) (tVar 1) (tC (.int 1))) rfl nd (pi_list (pe_call GN hr rfl DN.g DN.F.kp DN.b .nil pass0 (pa_cons (pv 0) pa_nil))) (blkOk_by (N := ["plain", "term"]) (sc := defScope sHeadsIn) (by decide +kernel)) (fun _ _ _ _ _ => pg_name (i := 1) nd rfl (Or.inl rfl))
        (fun _ _ _ _ _ => pts_one (pt_cmpR op_eq (pe_ix ix_tup (pv 1) pe_int (fun _ _ => rfl)) pe_str (nomark _)))
        (fun _ _ _ _ _ => pe_ix ix_tup (pv 1) pe_int (fun _ _ => rfl))) pa_nil))), ?_⟩
    refine ⟨_, rfl, x, d, n, l, rfl, t, nn, hn, fun H1 L xs sH nL hL rx => ⟨L, rfl, ⟨_, SqL.of hL⟩, fun D hD => ?_⟩⟩
    have hll := nn.length
    refine lc_it (walk_list (K := K) (a := L) (xs := xs)) (fun i H2 => Same H1 H2 ∧ H2 D = some (.lst ((((l.take i).filter (fun d => decide (V.str (wordOf d) = V.str "falls"))).map textOf).map V.str))) ⟨same_new Same.rfl' hD, upd_same⟩ (fun i H2 _ ⟨s2, _⟩ => SqL.of (s2 _ _ hL)) ?_ ?_
    · rintro i y H2 H3 hi ⟨s2, hd2⟩ ⟨rfl, hy⟩
      obtain ⟨di, hdi, rdi⟩ := rx.got hy
      have sg := nn.signs di (List.mem_of_getElem? hdi)
      have sg' := sg
      have ft := filt_take (fun d => decide (V.str (wordOf d) = V.str "falls")) hdi
      have lt : ((l.take i).filter (fun d => decide (V.str (wordOf d) = V.str "falls"))).length ≤ i := Nat.le_trans (List.length_filter_le _ _) (by rw [List.length_take]; exact Nat.min_le_left _ _)
      have li : i < l.length := (List.getElem?_eq_some_iff.mp hdi).1
      obtain ⟨w0, ds0, n0, m0, rfl, ea, _, _, _⟩ := sign_open sg
      cases rdi with
      | @tup a _ _ e r =>
        cases r with
        | @cons v vs _ _ tv tvs =>
          cases tv with
          | str _ hz =>
            have e2 := s2 _ _ (sH _ _ e)
            refine ⟨rfl, ⟨_, rfl, a, _, 0, .str w0, rfl, rfl, SqT.of e2, at0, rfl, _, rfl, ?_⟩⟩
            show if decide (V.str w0 = V.str "falls") = true then _ else _
            cases ei : decide (V.str w0 = V.str "falls") with
            | true =>
              obtain ⟨w1, z1, r1', q⟩ := falls_open sg' ei
              cases q
              cases tvs with
              | @cons v1 vs1 _ _ tv1 tvs1 =>
                cases tv1 with
                | str _ hz1 =>
                  refine iteT ⟨_, rfl, a, _, 1, .str z1, rfl, rfl, SqT.of e2, at1, _, hd2, ?_, ?_, ?_⟩
                  · rw [List.length_map, List.length_map]
                    exact small1000 (by omega)
                  · exact same_put s2 hD
                  · rw [upd_same, ft]
                    rw [show decide (V.str (wordOf (PyData.tuple (.str w0 :: .str z1 :: r1'))) = V.str "falls") = true from ei, if_pos rfl, List.map_append, List.map_append]
                    rfl
            | false =>
              refine iteF ⟨s2, ?_⟩
              rw [ft, show decide (V.str (wordOf (PyData.tuple (.str w0 :: ds0))) = V.str "falls") = false from ei, if_neg Bool.false_ne_true]
              exact hd2
    · rintro H2 ⟨s2, hd2⟩
      have hxl : xs.length = l.length := rx.length
      rw [List.take_of_length_le (by rw [hxl]; exact Nat.le_refl _)] at hd2
      refine ⟨D, headsL l, rfl, hd2, ?_, fun H3 L3 s3 n3 h3 => k H3 L3 (sameT (sameT sH s2) s3) ?_ h3⟩
      · show (((l.filter (fun d => decide (V.str (wordOf d) = V.str "falls"))).map textOf)).length ≤ 900
        rw [List.length_map]
        exact Nat.le_trans (List.length_filter_le _ _) (by omega)
      · cases e : H L3 with
        | none => rfl
        | some u => rw [sameT sH s2 L3 u e] at n3; cases n3
end
end K06

/-! k06, part p: the look of a term. -/
namespace K06
open PySem L2 PySem.Spec PyProof.Rows LE TB
abbrev sLookOf : Stmt := top 35
abbrev psV : List V := [.str "some", .str "each", .str "main"]
/-- how many part signs stand above the terms beneath -/
def hereOf (d : PyData) (a : Int) : Int := if inV (.str (wordOf d)) psV = true then a + 1 else a
def up (g h : Int) : Int := if h > g then h else g
/-- the walk that tells the look, from a stack and the greatest so far -/
inductive LookN : Nat → List (PyData × Int) → Int → Int → Prop
  | nil {g : Int} : LookN 0 [] g g
  | ok {n : Nat} {d : PyData} {a g f : Int} {r : List (PyData × Int)} : signD d = true → r.length ≤ 900 → LookN n (((beneath d).map fun e => (e, hereOf d a)).reverse ++ r) (up g (hereOf d a)) f → LookN (n + 1) ((d, a) :: r) g f
inductive LIts (H0 H : Hp) : List V → List (PyData × Int) → Prop
  | nil : LIts H0 H [] []
  | cons {t : Addr} {v : V} {d : PyData} {a : Int} {xs : List V} {ps : List (PyData × Int)} : H t = some (.tup [v, .int a]) → Rp H0 v d → LIts H0 H xs ps → LIts H0 H (.ref t :: xs) ((d, a) :: ps)
theorem LIts.mono {H0 H H' : Hp} (k : ∀ a xs, H a = some (.tup xs) → H' a = some (.tup xs)) : ∀ {xs : List V} {ps : List (PyData × Int)}, LIts H0 H xs ps → LIts H0 H' xs ps
  | _, _, .nil => .nil
  | _, _, .cons a c d => .cons (k _ _ a) c (d.mono k)
theorem LIts.length {H0 H : Hp} : ∀ {xs : List V} {ps : List (PyData × Int)}, LIts H0 H xs ps → xs.length = ps.length
  | _, _, .nil => rfl
  | _, _, .cons a c d => by rw [List.length_cons, List.length_cons, d.length]
def spLook : Sp := fun vs H Q _ => ∃ x d n g, vs = [x] ∧ Rp H x d ∧ LookN n [(d, 0)] 0 g ∧ ∀ H', Same H H' → Q (.int g) H'
section
variable {P : Program} {w : World} {K : PySem.W.Frag} {mg : Str → Option Value} {base : Heap}
theorem scLookOf : FnScope ["plain", "greatest", "stack", "term", "above", "here", "inner"] ["plain"] (defScope sLookOf) := ⟨rfl, rfl, rfl, by decide +kernel, rfl, by decide +kernel, by decide +kernel⟩
theorem ok_lookof {f fb aP : Addr} {fd fdb : FuncData} (F : Fun K "look_of" "look_of" sLookOf f fd) (N : Nms mg) (mP : mg "PART_SIGNS" = some (.ref aP)) (sP : ∀ H, SqT K H aP psV)
    (DB : Df K mg "beneath_sign" sBeneath ["term"] fb fdb) (GB : FnOk P w K mg base CX0 1 fb fdb ["term"] spBeneath) : FnOk P w K mg base CX0 2 f fd ["plain"] spLook := by
  refine F.ok scLookOf (fun vs H Q E h => ?_) (fun cdv A outer s H vs Q E hr h => ?_)
  · obtain ⟨x, d, n, g, rfl, _⟩ := h
    rfl
  · obtain ⟨x, d, n, g, rfl, t, ln, k⟩ := h
    have nd := scLookOf.nd
    refine ⟨_, pss_cons (ps_set (i := 1) nd rfl (Or.inl rfl) pe_int)
      (pss_cons (ps_set (i := 2) nd rfl (Or.inl rfl) (pe_lst (pa_cons (pe_tup (pa_cons (pv 0) (pa_cons pe_int pa_nil))) pa_nil)))
      (pss_cons (ps_while PassesOwn.never (pt_truth (pv 2) (by intro _; rfl))
        (pss_cons (ps_asg (pe_bm0 PySem.F.plainAttrs_list PySem.F.slot_list_pop PySem.F.type_list_pop mt_pop (pv 2)) (pg_tup rfl (pgs_cons (pg_name (i := 3) nd rfl (Or.inl rfl)) (pgs_cons (pg_name (i := 4) nd rfl (Or.inl rfl)) pgs_nil))))
        (pss_cons (ps_set (i := 5) nd rfl (Or.inl rfl) (pe_ifExp (pt_cmpR op_in_seq (pe_ix ix_tup (pv 3) pe_int (fun _ _ => rfl)) (pe_glob (v := .ref aP) rfl mP rfl) rfl) (pe_op op_add (pv 4) pe_int) (pv 4)))
        (pss_cons (ps_set (i := 1) nd rfl (Or.inl rfl) (pe_callB (call_max2 rfl) (by rfl) N.max (by decide +kernel) (pa_cons (pv 1) (pa_cons (pv 5) pa_nil))))
        (pss_one (ps_for PassesOwn.never rfl (pi_tup (pe_call GB hr rfl DB.g DB.F.kp DB.b .nil pass0 (pa_cons (pv 3) pa_nil))) (pg_name (i := 6) nd rfl (Or.inl rfl))
          (pss_one (ps_expr (pe_bm PySem.F.plainAttrs_list PySem.F.slot_list_append PySem.F.type_list_append mt_append (pv 2) (pa_cons (pe_tup (pa_cons (pv 6) (pa_cons (pv 5) pa_nil))) pa_nil))))))))))
      (pss_one (ps_ret (pv 1))))), ?_⟩
    refine ⟨_, rfl, (by show 2 ≤ sizeLine; decide), fun t0 n1 => ⟨(by show 1 ≤ sizeLine; decide), fun S nS => ?_⟩⟩
    have s1 : Same H (upd (upd H t0 (.tup [x, .int 0])) S (.lst [.ref t0])) := same_new (same_new Same.rfl' n1) nS
    have nHS : H S = none := by
      cases e : H S with
      | none => rfl
      | some u =>
        rw [same_new Same.rfl' n1 S u e] at nS
        cases nS
    refine ⟨fun m σ H1 => ∃ xs st cur a b c e, σ = [some x, some (.int cur), some (.ref S), a, b, c, e] ∧ LookN m st cur g ∧ H1 S = some (.lst xs) ∧ LIts H H1 xs.reverse st ∧ Same H H1, ⟨n, [.ref t0], [(d, 0)], 0, none, none, none, none, rfl, ln, upd_same, ?_, s1⟩, ?_⟩
    · exact .cons (by rw [upd_ne (ne_of_none upd_same nS), upd_same]) t .nil
    rintro m σ H1 ⟨xs, st, cur, a, b, c, e, rfl, bn, hS, it, sH⟩
    refine ⟨_, rfl, _, .inl ⟨xs, SqL.of hS, rfl⟩, ?_⟩
    cases bn with
    | nil =>
      have hx : xs = [] := by
        have := it.length
        rw [List.length_reverse] at this
        exact List.eq_nil_of_length_eq_zero this
      subst hx
      exact iteF ⟨_, rfl, k H1 sH⟩
    | @ok m1 d1 a1 _ _ r sg lr ln1 =>
      obtain ⟨y, ys, rfl⟩ : ∃ y ys, xs = ys ++ [y] := by
        have := it.length
        rw [List.length_reverse] at this
        have hne : xs ≠ [] := fun z => by rw [z] at this; cases this
        exact ⟨xs.getLast hne, xs.dropLast, (List.dropLast_concat_getLast hne).symm⟩
      rw [List.reverse_append] at it
      replace it : LIts H H1 (y :: ys.reverse) ((d1, a1) :: r) := it
      cases it with
      | @cons t v _ _ _ _ ht hv it =>
        have hne : (!(ys ++ [V.ref t]).isEmpty) = true := by simp
        rw [hne]
        refine iteT ⟨fun σ' H' => ∃ m', m' < m1 + 1 ∧ ∃ xs st cur a b c e, σ' = [some x, some (.int cur), some (.ref S), a, b, c, e] ∧ LookN m' st cur g ∧ H' S = some (.lst xs) ∧ LIts H H' xs.reverse st ∧ Same H H', fun _ _ h => h, ?_⟩
        have hy : (ys ++ [V.ref t])[(ys ++ [V.ref t]).length - 1]? = some (V.ref t) := by simp
        refine ⟨_, rfl, .inl ⟨rfl, _, SqL.of hS⟩, S, _, .ref t, rfl, rfl, hS, hy, ?_⟩
        rw [List.dropLast_concat]
        have nt : ∀ xs', H1 S ≠ some (.tup xs') := fun xs' z => by rw [hS] at z; cases z
        have kp := keep_upd (o := .lst ys) nt
        have s2 : Same H (upd H1 S (.lst ys)) := same_put sH nHS
        refine ⟨t, _, rfl, SqT.of (kp _ _ ht), rfl, _, _, rfl, _, _, rfl, rfl, ?_⟩
        have hS2 : upd H1 S (.lst ys) S = some (.lst ys) := upd_same
        have it2 := it.mono kp
        generalize upd H1 S (.lst ys) = H2 at s2 hS2 it2
        obtain ⟨w0, ds0, n0, m0, rfl, ea, _, _, _⟩ := sign_open sg
        cases hv with
        | @tup p1 ps1 _ e1 r1 =>
          have hv' : Rp H (.ref p1) (.tuple (.str w0 :: ds0)) := .tup e1 r1
          cases r1 with
          | @cons v vs _ _ tv tvs =>
            cases tv with
            | str _ hz =>
              refine ⟨_, rfl, p1, _, 0, .str w0, rfl, rfl, SqT.of (s2 _ _ e1), at0, aP, psV, rfl, .inr (sP _), rfl, by decide, _, rfl, ?_⟩
              have eh : hereOf (.tuple (.str w0 :: ds0)) a1 = if inV (.str w0) psV = true then a1 + 1 else a1 := rfl
              show if inV (.str w0) psV = true then _ else _
              cases ei : inV (.str w0) psV
              all_goals rw [ei] at eh
              · rw [if_neg Bool.false_ne_true] at eh
                rw [eh] at ln1
                refine iteF ⟨_, rfl, ?_⟩
                refine ⟨_, rfl, _, rfl, cur, a1, rfl, ?_⟩
                refine ⟨_, rfl, .ref p1, _, H, rfl, hv', s2, sg, fun q bs nq hbs => ⟨q, rfl, ⟨_, SqT.of upd_same⟩, ?_⟩⟩
                have sq : Same H2 (upd H2 q (.tup bs)) := same_new Same.rfl' nq
                have s5 := sameT s2 sq
                have hS5 := sq _ _ hS2
                have it5 := it2.mono (fun b u e => sq b _ e)
                have hbl := hbs.length
                have qS : q ≠ S := fun z => by rw [z, hS2] at nq; cases nq
                have hq5 : upd H2 q (.tup bs) q = some (.tup bs) := upd_same
                generalize upd H2 q (.tup bs) = H5 at s5 hS5 it5 hq5
                clear sq it2 s2 hS2 nq
                refine for_it (walk_tup (K := K) (a := q) (xs := bs)) (fun j σ H6 => ∃ xs e, σ = [some x, some (.int (up cur a1)), some (.ref S), some (.ref p1), some (.int a1), some (.int a1), e] ∧ H6 S = some (.lst xs) ∧
                  LIts H H6 xs.reverse ((((beneath (.tuple (.str w0 :: ds0))).take j).map fun e => (e, a1)).reverse ++ r) ∧ Same H H6 ∧ H6 q = some (.tup bs)) ⟨ys, _, rfl, hS5, it5, s5, hq5⟩ (fun _ _ _ _ ⟨_, _, _, _, _, _, z⟩ => SqT.of z) ?_ ?_
                · rintro i y σ6 H6 H7 hi ⟨xs6, e6, rfl, hS6, it6, s6, hq6⟩ ⟨rfl, hy⟩
                  obtain ⟨di, hdi, rdi⟩ := hbs.got hy
                  refine ⟨_, rfl, .inl ⟨rfl, _, SqL.of hS6⟩, ?_⟩
                  refine ⟨_, rfl, _, rfl, (by show 2 ≤ sizeLine; decide), fun q2 nq2 => ?_⟩
                  have q2S : S ≠ q2 := fun z => by rw [← z, hS6] at nq2; cases nq2
                  have hS7 : upd H7 q2 (.tup [y, .int a1]) S = some (.lst xs6) := by rw [upd_ne q2S]; exact hS6
                  have hl : xs6.length < sizeLine := by
                    have := it6.length
                    rw [List.length_reverse, List.length_append, List.length_reverse, List.length_map, List.length_take] at this
                    have h4 : (beneath (.tuple (.str w0 :: ds0))).length ≤ 4 := by
                      obtain ⟨z, ds, n, m, q, ea, hn, hm, h4⟩ := sign_open sg
                      rw [q, beneath_eq ea, List.length_drop]
                      omega
                    exact small1000 (by omega)
                  have k9 : ∀ b u, H7 b = some (.tup u) → upd (upd H7 q2 (.tup [y, .int a1])) S (.lst (xs6 ++ [.ref q2])) b = some (.tup u) := fun b u e => by
                    have b1 : b ≠ S := fun z => by rw [z, hS6] at e; cases e
                    rw [upd_ne b1, upd_ne (ne_of_none e nq2)]
                    exact e
                  refine ⟨S, xs6, _, rfl, rfl, hS7, hl, xs6 ++ [.ref q2], _, rfl, upd_same, ?_, same_put (same_new s6 nq2) nHS, k9 _ _ hq6⟩
                  rw [List.reverse_append, List.take_add_one, hdi, List.map_append, List.reverse_append]
                  refine .cons (a := a1) ?_ rdi (it6.mono k9)
                  rw [upd_ne (Ne.symm q2S), upd_same]
                · rintro σ6 H6 ⟨xs6, e6, rfl, hS6, it6, s6, hq6⟩
                  rw [List.take_of_length_le (by rw [hbl]; exact Nat.le_refl _)] at it6
                  exact ⟨m1, Nat.lt_succ_self _, xs6, _, _, _, _, _, _, rfl, ln1, hS6, it6, s6⟩
              · rw [if_pos rfl] at eh
                rw [eh] at ln1
                refine iteT ⟨_, rfl, _, _, rfl, rfl, ?_⟩
                refine ⟨_, rfl, _, rfl, cur, a1 + 1, rfl, ?_⟩
                refine ⟨_, rfl, .ref p1, _, H, rfl, hv', s2, sg, fun q bs nq hbs => ⟨q, rfl, ⟨_, SqT.of upd_same⟩, ?_⟩⟩
                have sq : Same H2 (upd H2 q (.tup bs)) := same_new Same.rfl' nq
                have s5 := sameT s2 sq
                have hS5 := sq _ _ hS2
                have it5 := it2.mono (fun b u e => sq b _ e)
                have hbl := hbs.length
                have qS : q ≠ S := fun z => by rw [z, hS2] at nq; cases nq
                have hq5 : upd H2 q (.tup bs) q = some (.tup bs) := upd_same
                generalize upd H2 q (.tup bs) = H5 at s5 hS5 it5 hq5
                clear sq it2 s2 hS2 nq
                refine for_it (walk_tup (K := K) (a := q) (xs := bs)) (fun j σ H6 => ∃ xs e, σ = [some x, some (.int (up cur (a1 + 1))), some (.ref S), some (.ref p1), some (.int a1), some (.int (a1 + 1)), e] ∧ H6 S = some (.lst xs) ∧
                  LIts H H6 xs.reverse ((((beneath (.tuple (.str w0 :: ds0))).take j).map fun e => (e, (a1 + 1))).reverse ++ r) ∧ Same H H6 ∧ H6 q = some (.tup bs)) ⟨ys, _, rfl, hS5, it5, s5, hq5⟩ (fun _ _ _ _ ⟨_, _, _, _, _, _, z⟩ => SqT.of z) ?_ ?_
                · rintro i y σ6 H6 H7 hi ⟨xs6, e6, rfl, hS6, it6, s6, hq6⟩ ⟨rfl, hy⟩
                  obtain ⟨di, hdi, rdi⟩ := hbs.got hy
                  refine ⟨_, rfl, .inl ⟨rfl, _, SqL.of hS6⟩, ?_⟩
                  refine ⟨_, rfl, _, rfl, (by show 2 ≤ sizeLine; decide), fun q2 nq2 => ?_⟩
                  have q2S : S ≠ q2 := fun z => by rw [← z, hS6] at nq2; cases nq2
                  have hS7 : upd H7 q2 (.tup [y, .int (a1 + 1)]) S = some (.lst xs6) := by rw [upd_ne q2S]; exact hS6
                  have hl : xs6.length < sizeLine := by
                    have := it6.length
                    rw [List.length_reverse, List.length_append, List.length_reverse, List.length_map, List.length_take] at this
                    have h4 : (beneath (.tuple (.str w0 :: ds0))).length ≤ 4 := by
                      obtain ⟨z, ds, n, m, q, ea, hn, hm, h4⟩ := sign_open sg
                      rw [q, beneath_eq ea, List.length_drop]
                      omega
                    exact small1000 (by omega)
                  have k9 : ∀ b u, H7 b = some (.tup u) → upd (upd H7 q2 (.tup [y, .int (a1 + 1)])) S (.lst (xs6 ++ [.ref q2])) b = some (.tup u) := fun b u e => by
                    have b1 : b ≠ S := fun z => by rw [z, hS6] at e; cases e
                    rw [upd_ne b1, upd_ne (ne_of_none e nq2)]
                    exact e
                  refine ⟨S, xs6, _, rfl, rfl, hS7, hl, xs6 ++ [.ref q2], _, rfl, upd_same, ?_, same_put (same_new s6 nq2) nHS, k9 _ _ hq6⟩
                  rw [List.reverse_append, List.take_add_one, hdi, List.map_append, List.reverse_append]
                  refine .cons (a := (a1 + 1)) ?_ rdi (it6.mono k9)
                  rw [upd_ne (Ne.symm q2S), upd_same]
                · rintro σ6 H6 ⟨xs6, e6, rfl, hS6, it6, s6, hq6⟩
                  rw [List.take_of_length_le (by rw [hbl]; exact Nat.le_refl _)] at it6
                  exact ⟨m1, Nat.lt_succ_self _, xs6, _, _, _, _, _, _, rfl, ln1, hS6, it6, s6⟩
end
end K06

/-! k06, part x: an own error whose __init__ says super().__init__(f'..{place}') and keeps the place. -/
namespace K06X
open PySem PySem.W PySem.Calls PyProof.Rows PySem.HandSPX
abbrev eA (f : Str) (p1 p2 : Pos) : Arguments := { posonlyargs := [], args := [{ arg := "self", annotation := none, pos := p1 }, { arg := f, annotation := none, pos := p2 }], vararg := none, kwonlyargs := [], kw_defaults := [], kwarg := none, defaults := [] }
abbrev eB (f msg : Str) (a1 a2 a3 a4 a5 a6 a7 a8 a9 b1 b2 b3 b4 : Pos) : List Stmt :=
  [.Expr (.Call (.Attribute (.Call (.Name "super" a1) [] [] a2) "__init__" a3) [.JoinedStr [.Constant (.str msg) 0 a4, .FormattedValue (.Name f a5) (-1) none a6] a7] [] a8) a9,
   .Assign [.Attribute (.Name "self" b1) f b2] (.Name f b3) b4]
abbrev eS (f : Str) : Scope := { kind := .function, names := [("self", .local), (f, .local), ("__class__", .free), ("super", .globalImplicit)], isGenerator := false, isCoroutine := false, more := [] }
/-- what the written part says of such an error's class, at C, and of its __init__, at fI -/
structure ErrTxt (prog : Program) (K : Frag) (mg : Str → Option Value) (C fI : Addr) (cn qual f msg : Str) : Prop where
  gC : mg cn = some (.ref C)
  cls : ∃ nm q N bs bm sn sub ab col dd k0 k1 k2 k3 k5, K.lookup C = some (excClassObj nm q C N bs bm true sn sub ab col dd k0 k1 k2 k3 k5 "ValueError.__new__") ∧ refsVE bm = true
  sa : findIn K (.ref C) "__setattr__" = some (some (.builtin "object.__setattr__"))
  ga : findIn K (.ref C) "__getattribute__" = some (some (.builtin "BaseException.__getattribute__"))
  gg : findIn K (.ref C) "__getattr__" = some none
  noN : findIn K (.ref C) f = some none
  iC : findIn K (.ref C) "__init__" = some (some (.ref fI))
  tC : typeIn K (.ref fI) = some (.type "function")
  kC : keepIn K (.ref C) = true
  exC : subIn K (.ref C) (.type "BaseException") = some true
  tyC : typeIn K (.ref C) = some (.type "type")
  hdC : hasDictIn K C = true
  te : exmOne K (.ref C) (.ref C) = some true
  ve : subIn K (.ref C) (.type "ValueError") = some true
  su : ks_superIn K C C "__init__" = some (some (.builtin "ValueError.__init__"))
  me : mroIn K C (.ref C) = some true
  tp : nsIn K cStatics "thirdparty.any" = some none
  gs : mg "super" = none
  fn : ∃ (oc : Value) (od : Option Addr) (doc pm : Value) (an : Option Addr) (cda cc : Addr) (ct : Value) (osl : Array (Option Value)) (p1 p2 a1 a2 a3 a4 a5 a6 a7 a8 a9 b1 b2 b3 b4 : Pos)
    (ccl : Value) (cdd : Option Addr) (vs : Array Value) (ccs : Array (Option Value)) (file : Str) (tf : Tok) (cl : Value) (cld : Option Addr) (csl : Array (Option Value)),
    K.lookup fI = some ⟨oc, od, .func (ksFn "__init__" qual (eA f p1 p2) (eB f msg a1 a2 a3 a4 a5 a6 a7 a8 a9 b1 b2 b3 b4) (eS f) .none .none doc pm an (.ref cda) ct cc), osl⟩ ∧ codeIn K (.ref cda) qual = true ∧
    K.lookup cda = some ⟨ccl, cdd, .fields vs, ccs⟩ ∧ vs[2]? = some (.str file tf) ∧ ((prog.main.file : Str) == file) = true ∧ K.lookup cc = some ⟨cl, cld, .cell (some (.ref C)), csl⟩ ∧ (a3.endLine == a8.line) = true
/-- the text of v in an f-string has at most n signs, whatever comes to the heap -/
def Rep (prog : Program) (w : World) (n : Nat) (h : Heap) (v : Value) : Prop :=
  ∀ (A : Around) (E : Value → Shared → Prop) (Q : Value → Shared → Prop) (s : Shared), (∀ b o, h.get? b = some o → s.heap.get? b = some o) → A.units + 64 < cLine →
    (∀ (z : Str) (tk : Tok) (t' : Nat), z.length ≤ n → Q (.str z tk) { s with toks := t' }) → wpAny (model prog w) A (formatField v Str.empty) Q E s
theorem Rep.keeps {prog : Program} {w : World} {n : Nat} {h h' : Heap} {v : Value} (r : Rep prog w n h v) (k : ∀ b o, h.get? b = some o → h'.get? b = some o) : Rep prog w n h' v :=
  fun A E Q s ks hu hq => r A E Q s (fun b o e => ks b o (k b o e)) hu hq
theorem mc_eq (env : Env) (o : Expr) (n : Str) (a3 a8 : Pos) (e : Expr) (hp : (a3.endLine == a8.line) = true) (hs : starEach [e] env = [(false, eval e env)]) : eval (.Call (.Attribute o n a3) [e] [] a8) env = (do
      let ov ← attributeBase o n env (eval o env)
      standAt a3.atName
      let (f, first) ← holding [ov] (getMethod ov n (do return (← importBound o env).getD true))
      callWith a8 f first (backTo a8 (starEach [e] env)) []) := by
  have h0 : eval (.Call (.Attribute o n a3) [e] [] a8) env = (do
      let ov ← attributeBase o n env (eval o env)
      standAt a3.atName
      methodCall o n a3 a8 env ov 1 (backTo a8 (starEach [e] env)) []) := by first | rfl | with_unfolding_all rfl
  have few : methodCallForm 1 (backTo a8 (starEach [e] env)) [] = true := by rw [hs]; rfl
  have h1 : ∀ ov, methodCall o n a3 a8 env ov 1 (backTo a8 (starEach [e] env)) [] = (do
      let (f, first) ← holding [ov] (getMethod ov n (do return (← importBound o env).getD true))
      callWith a8 f first (backTo a8 (starEach [e] env)) []) := fun ov => by
    unfold methodCall
    rw [few]
    unfold calleeOf methodCallPos
    simp only [hp, Bool.not_true, Bool.false_or, if_true, pure_bind]
  rw [h0]
  simp only [h1]
section
variable {prog : Program} {w : World} {A : Around} {E : Value → Shared → Prop} {h : Heap} {g : Array GenState} {d : Drawn} {t : Nat} {os : OsState}
variable {nm q : Str} {C N : Addr} {bs bm : List Value} {hdct : Bool} {sn : List Str} {sub : List Value} {ab : Bool} {col : Option Bool} {dd : Option Addr} {k0 k1 k2 k3 k5 : Option Value}
/-- ValueError.__init__ bound to an error, called -/
theorem call_mw {u e t0 : Addr} {rest : List Value} {Q : Value → Shared → Prop}
    (hC : h.get? C = some (excClassObj nm q C N bs bm hdct sn sub ab col dd k0 k1 k2 k3 k5 "ValueError.__new__")) (he : h.get? e = some (excO C t0)) (hu : h.get? u = some (kxs_mw "ValueError.__init__" e)) (hl : rest.length ≤ sizeLine)
    (fin : ∀ h' t1, (∀ b o, b ≠ e → h.get? b = some o → h'.get? b = some o) → h'.get? e = some (excO C t1) → Q .none ⟨h', g, d, t, os⟩) :
    wpAny (model prog w) A (call (.ref u) rest) Q E ⟨h, g, d, t, os⟩ := by
  refine wpAny_call (codeAny_of_tree ?_)
  show wpAny _ A.in1 (callAny (.ref u) ⟨rest, []⟩) _ _ _
  simp only [callAny]
  refine wpAny_bind (wpAny_load hu ?_)
  simp only [kxs_mw, show (Value.type "method-wrapper" == Value.type "method" || Value.type "method-wrapper" == Value.type "builtin_function_or_method" || Value.type "method-wrapper" == Value.type "method-wrapper") = true by decide, if_true]
  refine KFB.if_so (by decide) ?_
  refine wpAny_bind (PySem.ESX.check_bound F.excBase_ValueError hC he rfl ?_)
  refine wpAny_bind (wpAny_pure (wpAny_pure ?_))
  refine ⟨Code.quiet_builtin _ (by decide +kernel), codeAny_builtin F.excBase_ValueError.initEntry ?_⟩
  rw [Around.under_plainId F.excBase_ValueError.init.plain _]
  wp_walk
  refine fin _ h.objs.size (fun b o hb ho => ?_) ?_
  · rw [Heap.get?_update_other _ _ (Ne.symm hb)]
    exact Heap.get?_push_of_some _ ho
  · rw [Heap.get?_update_self _ (Heap.get?_push_of_some _ he) rfl]
    rfl
end
/-- what __init__ leaves of a fresh error at x -/
structure Left (f : Str) (h h' : Heap) (x C dx t1 : Addr) (v : Value) : Prop where
  keep : ∀ b o, b ≠ x → h.get? b = some o → h'.get? b = some o
  obj : h'.get? x = some { cls := .ref C, dict := some dx, data := .fields #[.ref t1, .none, .none, .none, .bool false, .none] }
  big : h.objs.size ≤ dx
  ne : dx ≠ x
  ns : h'.Ns1 dx (fun y => if y = f then some v else none)
theorem noClass (f : Str) : ((f : Str) == ("__class__" : Str)) = true ∨ ((f : Str) == ("__class__" : Str)) = false := by cases (f == ("__class__" : Str)) <;> simp
section
variable {prog : Program} {w : World} {A : Around} {R : Result → Shared → Prop} {s : Shared} {K : Frag} {mg : Str → Option Value} {C fI : Addr} {cn qual f msg : Str}
theorem init_of (T : ErrTxt prog K mg C fI cn qual f msg) (hf1 : (f == ("self" : Str)) = false) (hf2 : (f == ("__class__" : Str)) = false) (hf3 : (f == ("super" : Str)) = false) (hf4 : (f == ("__debug__" : Str)) = false) (hm : msg.length ≤ 1000)
    {x t0 : Addr} {v : Value} (X : K.In s.heap) (G : s.heap.Ns mainGlobals mg) (B : ∃ mb, s.heap.Ns builtinsNs mb ∧ mb "super" = some (.type "super")) (hlim : s.heap.NoLimit)
    (hx : s.heap.get? x = some (excO C t0)) (hnx : K.lookup x = none) (hroom : A.depth < recursionLimit) (hun : ∀ env, (A.deeper env).units + 64 < cLine) (htop : (prog.main.scope.names.lookup ("super" : Str)).isSome = false) (rep : Rep prog w 100000 s.heap v)
    (hbd : ∀ doc pm an cda cc ct p1 p2 body, bindArgs (ksFn "__init__" qual (eA f p1 p2) body (eS f) .none .none doc pm an cda ct cc) ⟨[.ref x, v], []⟩ = pure [(("self" : Str), Value.ref x), (f, v)])
    (hq : ∀ h' d' tk dx t1, Left f s.heap h' x C dx t1 v → R (.ok (.ret .none)) { s with heap := h', drawn := d', toks := tk }) :
    codeAny (model prog w) A (.call (.ref fI) ⟨[.ref x, v], []⟩) R s := by
  obtain ⟨oc, od, doc, pm, an, cda, cc, ct, osl, p1, p2, a1, a2, a3, a4, a5, a6, a7, a8, a9, b1, b2, b3, b4, ccl, cdd, vs, ccs, file, tf, cl, cld, csl, ho, hcd, hcda, hvs, hfile, hcell, hps⟩ := T.fn
  obtain ⟨nm, q, N, bs, bm, sn, sub, ab, col, dd, k0, k1, k2, k3, k5, hC, hbm⟩ := T.cls
  obtain ⟨mb, Bn, hmb⟩ := B
  have hcl : clsIn K C = some { name := nm, bases := bs, mro := .ref C :: bm, ns := N, qualname := q, hasDict := true, slotNames := sn, subclasses := sub, abstract := ab, collection := col, hasDel := false } := by
    unfold clsIn
    rw [hC] <;> rfl
  have lk : (eS f).names.lookup f = some .local := by simp [List.lookup, hf1]
  refine ks_codeAny_call_defAt (fd := ksFn "__init__" qual (eA f p1 p2) (eB f msg a1 a2 a3 a4 a5 a6 a7 a8 a9 b1 b2 b3 b4) (eS f) .none .none doc pm an (.ref cda) ct cc) (body := eB f msg a1 a2 a3 a4 a5 a6 a7 a8 a9 b1 b2 b3 b4)
    (binds := [("self", .ref x), (f, v)]) hroom (X _ _ ho) rfl hlim (codeRec_of X hcd) rfl (BindsTo.of_eq ?_) ?_ ?_ (fun h1 hns kp1 => ?_) rfl rfl rfl
  · exact hbd _ _ _ _ _ _ _ _ _
  · intro y hy
    simp only [List.mem_cons, List.not_mem_nil, or_false] at hy
    rcases hy with rfl | rfl | rfl | rfl <;> simp
  · intro y hy
    simp only [List.mem_cons, List.not_mem_nil, or_false] at hy
    rcases hy with rfl | rfl
    · rfl
    · exact lk
  · have ne0 : (("self" : Str) == f) = false := by
      have z : f ≠ ("self" : Str) := by simpa using hf1
      simpa using fun y => z y.symm
    have vs0 : ([(("self" : Str), Value.ref x), (f, v)].reverse).lookup ("self" : Str) = some (.ref x) := by
      show (match ("self" : Str) == f with | true => some v | false => _) = _
      rw [ne0]
      rfl
    have vf : ([(("self" : Str), Value.ref x), (f, v)].reverse).lookup f = some v := by
      show (match f == f with | true => some v | false => _) = _
      rw [beq_self_eq_true]
    have ne1 : (("__class__" : Str) == f) = false := by
      have z : f ≠ ("__class__" : Str) := by simpa using hf2
      simpa using fun y => z y.symm
    have ne2 : (("super" : Str) == f) = false := by
      have z : f ≠ ("super" : Str) := by simpa using hf3
      simpa using fun y => z y.symm
    have kc : (eS f).names.lookup ("__class__" : Str) = some .free := by
      show (match ("__class__" : Str) == "self" with | true => some NameKind.local | false => match ("__class__" : Str) == f with | true => some NameKind.local | false => _) = _
      rw [ne1]
      rfl
    have kl : (eS f).names.lookup ("super" : Str) = some .globalImplicit := by
      show (match ("super" : Str) == "self" with | true => some NameKind.local | false => match ("super" : Str) == f with | true => some NameKind.local | false => _) = _
      rw [ne2]
      rfl
    let env : Env := ksEnv qual (eS f) s.heap.objs.size fI (.ref cda) cc
    have X1 : K.In h1 := X.keeps kp1
    have hx1 := kp1 _ _ hx
    have xC : x ≠ C := fun z => by
      have e := X _ _ hC
      rw [← z, hx] at e
      cases e
    have hC1 := X1 _ _ hC
    show PySem.wpAt _ (A.deeper env) (.func _ env) (execs (_ :: _) env) _ _ _
    refine ks_wpAt_execs_cons (ks_wpAt_Expr_any (ks_wpAt_MethodCall ?_ (mc_eq env _ _ a3 a8 _ hps rfl)) rfl rfl)
    refine ks_wpAt_super_base (env := env) (oc := ⟨ccl, cdd, .fields vs, ccs⟩) kl kc rfl rfl (X1 _ _ ho) rfl rfl rfl (X1 _ _ hcda) rfl hvs hfile htop ?_
    have G1 : h1.Ns mainGlobals mg := G.keeps kp1
    have B1 : h1.Ns builtinsNs mb := Bn.keeps kp1
    refine ks_loadName_global rfl kl (loadGlobal_builtin (env := env) G1 T.gs B1 hmb ⟨rfl, ?_⟩)
    refine wpAny_loadName_free rfl kc rfl ⟨_, X1 _ _ hcell, rfl⟩ ?_
    refine wpAny_loadName_local rfl rfl hns vs0 ?_
    refine ks_wpAny_isType_cls hC1 rfl ⟨rfl, ?_⟩
    refine ks_wpAny_call_super hC1 rfl hx1 rfl (fun c e => by cases e) (looks_mroIn X1 T.me) (fun h2 e2 kp2 => ?_)
    have X2 : K.In h2 := X1.keeps kp2
    have hx2 := kp2 _ _ hx1
    have I2 : InstAt h2 x (excO C t0) C none := ⟨hx2, rfl, rfl, trivial⟩
    have isVE : Looks (model prog w) h2 (isInstance (.ref x) (.type "ValueError")) true := I2.type.andThen (looks_subIn X2 T.ve)
    have su : alongIn K "__init__" (((Value.ref C :: bm).dropWhile (· != .ref C)).drop 1) = some (some (.builtin "ValueError.__init__")) := by
      have z := T.su
      unfold ks_superIn at z
      rw [hcl] at z
      exact z
    have mro2 : Looks (model prog w) h2 (mroOf (.ref C)) (Value.ref C :: bm) := (looks_clsIn X2 hcl).andThen (f := fun cd => pure cd.mro) .now
    refine kxs_getMethod kxs_ValueError e2 (looks_opaque X2 T.tp) mro2 rfl X2 su isVE xC rfl ?_
    have hu3 : (h2.push (kxs_mw "ValueError.__init__" x)).get? h2.objs.size = some (kxs_mw "ValueError.__init__" x) := Heap.get?_push_at rfl rfl
    have kp3 : ∀ b o, h2.get? b = some o → (h2.push (kxs_mw "ValueError.__init__" x)).get? b = some o := fun b o e => Heap.get?_push_of_some _ e
    show wpAny _ _ (callWith a8 (.ref h2.objs.size) [] ((false, eval _ env) :: backTo a8 (starEach [] env)) []) _ _ _
    refine kxs_callWith (i := "ValueError.__init__") (x := x) rfl (evalArgs_plain (spliced_cons ?_))
    -- f'..{thing!r}'
    refine wpAny_JoinedStr ?_
    have ev0 : evalEach [Expr.Constant (Const.str msg) 0 a4, (Expr.Name f a5).FormattedValue (-1) none a6] env = [eval (.Constant (.str msg) 0 a4) env, eval (.FormattedValue (.Name f a5) (-1) none a6) env] := by first | rfl | simp [evalEach]
    rw [ev0]
    have hns3 := (hns.keeps kp2).keeps kp3
    have len0 : (Str.empty ++ msg).length = msg.length := by
      rw [Str.length_append]
      show 0 + msg.length = _
      omega
    have line : (200000 : Nat) ≤ sizeLine := by rw [sizeLine_eq]; decide
    refine wpAny_Constant_str ⟨msg, _, rfl, by rw [len0]; omega, ?_⟩
    refine wpAny_FormattedValue_plain (PySem.ESX.ldL (env := env) hns3 vf ?_ rfl lk hf4)
    refine rep _ _ _ _ (fun b o e => kp3 _ _ (kp2 _ _ (kp1 _ _ e))) (hun _) (fun z tk t4 hz => ?_)
    have X4 : K.In (h2.push (kxs_mw "ValueError.__init__" x)) := X2.keeps kp3
    have lz : (Str.empty ++ msg ++ z).length ≤ sizeLine := by
      rw [Str.length_append, len0]
      omega
    have hx4 := kp3 _ _ hx2
    · refine ⟨z, _, rfl, lz, lz, spliced_nil ⟨hu3, ?_⟩⟩
      refine call_mw (X4 _ _ hC) hx4 hu3 (by show 1 ≤ sizeLine; omega) (fun h5 t1 kp5 hx5 => ?_)
      have X5 : K.In h5 := fun a o e => kp5 a o (fun y => by rw [y, hnx] at e; cases e) (X4 _ _ e)
      have Lx : s.heap.objs.size ≠ x := Nat.ne_of_gt (Heap.lt_size hx)
      have hns5 : h5.Ns env.locals _ := hns3.at (h' := h5) (fun o e => kp5 _ o Lx e)
      show PySem.wpAt _ _ _ (execs [_] env) _ _ _
      refine ks_wpAt_execs_cons (ks_wpAt_Assign_Attr (wpAt_of_wpAny (PySem.ESX.ldL (env := env) hns5 vf ?_ rfl lk hf4)) rfl)
      refine PySem.ESX.ldL (env := env) hns5 vs0 ?_ rfl rfl
      refine set_plain X5 (ox := excO C t1) (od := none) ⟨hx5, rfl, rfl, trivial⟩ T.sa ?_
      refine exc_osa X5 hx5 hcl (show refsVE (.ref C :: bm) = true from hbm) rfl T.noN (fun h6 tk6 dx kp6 dn dne hx6 hn6 => ?_)
      have lt5 : s.heap.objs.size < h5.objs.size := hns5.lt
      show PySem.wpAt _ _ _ (execs [] env) _ _ _
      refine wpAt_of_wpAny (wpAny_execs_nil ?_)
      exact hq h6 _ tk6 dx t1 ⟨fun b o hb e => kp6 b o hb (kp5 b o hb (kp3 _ _ (kp2 _ _ (kp1 _ _ e)))), hx6, Nat.le_trans (Nat.le_of_lt lt5) dn, dne, hn6⟩
end
end K06X

/-! k06, part y: such an error made, raised, and read. -/
namespace K06X
open PySem PySem.W PySem.Calls PyProof.Rows PySem.HandSPX
/-- a made error -/
structure Made (f : Str) (h h' : Heap) (e C d : Addr) (v : Value) : Prop where
  keep : ∀ b o, h.get? b = some o → h'.get? b = some o
  new : h.objs.size ≤ e
  obj : ∃ oe vs, h'.get? e = some oe ∧ oe.cls = .ref C ∧ oe.dict = some d ∧ oe.data = .fields vs ∧ vs[1]? = some .none
  big : h.objs.size ≤ d
  ne : d ≠ e
  ns : h'.Ns1 d (fun y => if y = f then some v else none)
/-- the names that the law's proof needs of a field's name -/
structure FldOk (f msg : Str) : Prop where
  f1 : (f == ("self" : Str)) = false
  f2 : (f == ("__class__" : Str)) = false
  f3 : (f == ("super" : Str)) = false
  f4 : (f == ("__debug__" : Str)) = false
  m : msg.length ≤ 1000
section
variable {prog : Program} {w : World} {A : Around} {R : Result → Shared → Prop} {s : Shared} {K : Frag} {mg : Str → Option Value} {C fI : Addr} {cn qual f msg : Str}
theorem made_of (T : ErrTxt prog K mg C fI cn qual f msg) (O : FldOk f msg) {v : Value} (X : K.In s.heap) (G : s.heap.Ns mainGlobals mg) (B : ∃ mb, s.heap.Ns builtinsNs mb ∧ mb "super" = some (.type "super")) (hlim : s.heap.NoLimit)
    (hroom : A.depth + 1 < recursionLimit) (hun : ∀ us env, ((A.under (.builtin "type.__call__" ⟨.ref C :: us, []⟩)).deeper env).units + 64 < cLine) (htop : (prog.main.scope.names.lookup ("super" : Str)).isSome = false) (rep : Rep prog w 100000 s.heap v)
    (hbd : ∀ x doc pm an cda cc ct p1 p2 body, bindArgs (ksFn "__init__" qual (eA f p1 p2) body (eS f) .none .none doc pm an cda ct cc) ⟨[.ref x, v], []⟩ = pure [(("self" : Str), Value.ref x), (f, v)])
    (hq : ∀ h' d' tk e d, Made f s.heap h' e C d v → R (.ok (.ret (.ref e))) { s with heap := h', drawn := d', toks := tk }) :
    codeAny (model prog w) A (.call (.ref C) ⟨[v], []⟩) R s := by
  obtain ⟨nm, q, N, bs, bm, sn, sub, ab, col, dd, k0, k1, k2, k3, k5, hC, hbm⟩ := T.cls
  obtain ⟨hp, g, dr, tk, os⟩ := s
  have kp : ∀ b o, hp.get? b = some o → ((hp.push (kdv_tup [v])).push (excO C hp.objs.size)).get? b = some o := fun b o e => Heap.get?_push_of_some _ (Heap.get?_push_of_some _ e)
  have at1 : ((hp.push (kdv_tup [v])).push (excO C hp.objs.size)).get? (hp.objs.size + 1) = some (excO C hp.objs.size) := by heap_get
  have hnx : K.lookup (hp.objs.size + 1) = none := by
    cases e : K.lookup (hp.objs.size + 1) with
    | none => rfl
    | some o =>
      have z : hp.get? (hp.objs.size + 1) = some o := X _ _ e
      exact absurd (Nat.lt_of_succ_lt (Heap.lt_size z)) (Nat.lt_irrefl _)
  obtain ⟨mb, Bn, hmb⟩ := B
  refine call_own F.excBase_ValueError (fun X => refsVE_contains X bm hbm) (X _ _ hC) (looks_findIn X T.iC) (fun self => bind_fn X self T.tC) (by show 1 ≤ sizeLine; rw [sizeLine_eq]; decide) ?_
  refine init_of (s := ⟨(hp.push (kdv_tup [v])).push (excO C hp.objs.size), g, dr, tk, os⟩) T O.f1 O.f2 O.f3 O.f4 O.m (X.keeps kp) (G.keeps kp) ⟨mb, Bn.keeps kp, hmb⟩ (hlim.keeps kp) at1 hnx ?_ (hun _) htop (rep.keeps kp) (hbd _) fun h' d' tk' dx t1 ⟨k', hx, dn, dne, hns⟩ => ?_
  · show A.depth + 1 < recursionLimit
    exact hroom
  · have old : ∀ b o, hp.get? b = some o → h'.get? b = some o := fun b o e => k' b o (Nat.ne_of_lt (Nat.lt_succ_of_lt (Heap.lt_size e))) (kp b o e)
    have z : hp.objs.size + 1 + 1 ≤ dx := by
      first
        | (simpa only [Heap.size_push] using dn)
        | exact dn
        | (have q := dn; rw [Heap.size_push, Heap.size_push] at q; exact q)
    exact ⟨rfl, hq h' d' tk' (hp.objs.size + 1) dx ⟨old, Nat.le_succ _, ⟨_, _, hx, rfl, rfl, rfl, rfl⟩, Nat.le_trans (Nat.le_trans (Nat.le_succ _) (Nat.le_succ _)) z, dne, hns⟩⟩
end
end K06X
namespace K06
open PySem L2 PySem.Spec PyProof.Rows K06X
theorem relO_one {v : V} {v' : Value} (n : Str) (r : RelV v v') (f : Str) : RelO (List.lookup f [(n, v)]) (if f = n then some v' else none) := by
  by_cases hw : f = n
  · subst hw
    rw [if_pos rfl]
    have q : List.lookup f [(f, v)] = some v := by simp [List.lookup]
    rw [q]
    exact r
  · rw [if_neg hw]
    have qw : (f == n) = false := by simpa using hw
    have q2 : List.lookup f [(n, v)] = none := by simp [List.lookup, qw]
    rw [q2]
    trivial
theorem inv_drawn {X : Cx} {pins : List (Addr × Obj)} {σ : L2.St} {H : Hp} {s : Shared} (I : Inv X pins σ H s) (d' : Drawn) : Inv X pins σ H { s with drawn := d' } :=
  ⟨I.ok, I.os, I.bare, I.base, I.loc, I.cell, I.free, I.freeC, I.pin, I.hok, I.len⟩
/-- repr of the value is a text, whatever heap holds H -/
def RepV (P : Program) (w : World) (K : PySem.W.Frag) (H : Hp) (x : V) : Prop := ∀ (h : Heap) (u : Value), HOk P w H h → K.In h → RelV x u → Rep P w 100000 h u
section
variable {X : Cx} {C fI : Addr} {cn qual f msg : Str}
/-- Err(e) -/
def tMkE (P : Program) (w : World) (K : PySem.W.Frag) (C : Addr) (f : Str) (ta : TA) : L2.St → Hp → XK → Prop := fun σ H Q => ta σ H fun vs H1 => ∃ v, vs = [v] ∧ RepV P w K H1 v ∧ ∀ d, H1 d = none → Q (.ref C) (some d) (upd H1 d (.xd [(f, v)]))
theorem pmk_err {a : Expr} {ta : TA} {p pos : Pos} {k : Nat} (T : ErrTxt X.prog X.K X.mg C fI cn qual f msg) (O : FldOk f msg) (hr : Room (k + 2) X.A) (htop : (X.prog.main.scope.names.lookup ("super" : Str)).isSome = false)
    (hbd : ∀ x v doc pm an cda cc ct p1 p2 body, bindArgs (PySem.W.ksFn "__init__" qual (eA f p1 p2) body (eS f) .none .none doc pm an cda ct cc) ⟨[.ref x, v], []⟩ = pure [(("self" : Str), Value.ref x), (f, v)])
    (ha : PA X [a] ta) (hg : Gl X cn) (hdb : (cn == ("__debug__" : Str)) = false)
    (he : starEach (a :: []) X.env = (false, eval a X.env) :: starEach [] X.env := by rfl) (hpl : (backTo pos (starEach [] X.env)).any (·.1) = false := by rfl) :
    PMk X (.Call (.Name cn p) [a] [] pos) (tMkE X.prog X.w X.K C f ta) := by
  intro pins s σ H Q I h
  refine wpAny_Call_Name_kw (ld_glob I hg T.gC ?_ hdb)
  refine PySem.W.callWith_K (h₀ := X.base) I.ok.mod.kin T.kC (thn (ha.run pos pins s σ H _ I h) fun us s1 hh => ?_) he hpl
  obtain ⟨vs, H1, I1, r1, v, ev, rp, q1⟩ := hh
  subst ev
  refine ⟨I1.kIn, ?_⟩
  cases r1 with
  | cons rv rn =>
    rename_i v' us'
    cases rn
    show wpAny _ _ (call (.ref C) [v']) _ _ _
    have hlim := I1.nolimit
    have rep := rp s1.heap v' I1.hok I1.kIn rv
    obtain ⟨mb, Bn, hb⟩ := I1.mod.blt
    have hroom : X.A.depth + 1 < recursionLimit := by have := hr.dp; omega
    have hun : ∀ us env, ((X.A.under (.builtin "type.__call__" ⟨.ref C :: us, []⟩)).deeper env).units + 64 < cLine := fun us env => by
      have z : Room (k + 2) X.A := hr
      have z1 : Room (k + 1) (X.A.under (.builtin "type.__call__" ⟨.ref C :: us, []⟩)) := Room.make z C us []
      exact (Room.deeper z1 env).units
    have G := I1.mod.glob.keeps I1.bk
    have B := Bn.keeps I1.bk
    obtain ⟨hp, g, dr, tk, os⟩ := s1
    refine wpAny_call (made_of T O I1.kIn G ⟨mb, B, (hb _ (by decide)).trans (by decide +kernel)⟩ hlim hroom hun htop rep (fun x => hbd x _) fun h' d' tk' e d M => ?_)
    show MkP X pins σ Q (.ref e) ⟨h', g, d', tk', os⟩
    obtain ⟨oe, fv, hoe, hc, hd, hdat, h1⟩ := M.obj
    have hns := M.ns
    obtain ⟨G', g1, g2⟩ := restrict h' fun b => decide (b ≠ e)
    have gk : ∀ b, b ≠ e → G'.get? b = h'.get? b := fun b hb => g1 b (decide_eq_true hb)
    have ge : G'.get? e = none := g2 e (by simp)
    have old : ∀ b o, hp.get? b = some o → G'.get? b = some o := fun b o q => (gk b (Nat.ne_of_lt (Nat.lt_of_lt_of_le (Heap.lt_size q) M.new))).trans (M.keep b o q)
    have ob : ObjOk X.prog X.w (upd H1 d (.xd [(f, v)])) G' d (.xd [(f, v)]) := ⟨_, hns.at (fun o q => (gk d M.ne).trans q), fun n => relO_one f rv n⟩
    have J0 : Inv X pins σ (upd H1 d (.xd [(f, v)])) ⟨G', g, dr, tk', os⟩ := I1.laid (t' := tk') old M.big ob
    have J : Inv X pins σ (upd H1 d (.xd [(f, v)])) ⟨G', g, d', tk', os⟩ := inv_drawn J0 d'
    refine ⟨e, oe, fv, ⟨G', g, d', tk', os⟩, _, .ref C, some d, rfl, J, fun b o q => ?_, ge, hoe, ⟨hc, hd⟩, hdat, h1, ?_, rfl, I1.bare, raises_own T.exC T.tyC, q1 d (I1.hok.fresh M.big)⟩
    · by_cases hb : b = e
      · have q' : G'.get? b = some o := q
        rw [hb, ge] at q'; cases q'
      · exact (gk b hb).symm.trans q
    · rw [upd_ne (Ne.symm M.ne)]
      exact I1.hok.fresh M.new
/-- raise Err(e) -/
def tRaiseE (P : Program) (w : World) (K : PySem.W.Frag) (C : Addr) (f : Str) (W : WX) (ta : TA) : TS := fun _ σ H => tMkE P w K C f ta σ H fun cls d H' => W cls d σ H'
theorem ps_raiseE {a : Expr} {ta : TA} {W : WX} {p pos pos2 : Pos} {k : Nat} (hc : X.calm = true) (T : ErrTxt X.prog X.K X.mg C fI cn qual f msg) (O : FldOk f msg) (hr : Room (k + 2) X.A) (htop : (X.prog.main.scope.names.lookup ("super" : Str)).isSome = false)
    (hbd : ∀ x v doc pm an cda cc ct p1 p2 body, bindArgs (PySem.W.ksFn "__init__" qual (eA f p1 p2) body (eS f) .none .none doc pm an cda ct cc) ⟨[.ref x, v], []⟩ = pure [(("self" : Str), Value.ref x), (f, v)])
    (tk : Takes X W) (ha : PA X [a] ta) (hg : Gl X cn) (hdb : (cn == ("__debug__" : Str)) = false)
    (he : starEach (a :: []) X.env = (false, eval a X.env) :: starEach [] X.env := by rfl) (hpl : (backTo pos (starEach [] X.env)).any (·.1) = false := by rfl) :
    PS X (.Raise (some (.Call (.Name cn p) [a] [] pos)) none pos2) (tRaiseE X.prog X.w X.K C f W ta) := ps_raise hc tk (pmk_err T O hr htop hbd ha hg hdb he hpl)
/-- err.f, err the error that the suite holds (at a; its class cls, its dict d) -/
def tByE (C : Addr) (f : Str) (a : Addr) (cls : Value) (d : Option Addr) (te : TE) : TE := fun σ H Q => te σ H fun x H1 => x = .ref a ∧ cls = .ref C ∧ ∃ (dd : Addr) (v : V), d = some dd ∧ H1 dd = some (.xd [(f, v)]) ∧ Q v H1
theorem pe_byE {a : Addr} {oe : Obj} {cls : Value} {d : Option Addr} {pn : List (Addr × Obj)} {e : Expr} {te : TE} {pos : Pos} (T : ErrTxt X.prog X.K X.mg C fI cn qual f msg) (hz : Zc cls d oe) (hf : ∃ vs, oe.data = .fields vs) (he : PE (X.suite a ((a, oe) :: pn)) e te)
    (hb : attributeBase e f X.env (eval e X.env) = eval e X.env) :
    PE (X.suite a ((a, oe) :: pn)) (.Attribute e f pos) (tByE C f a cls d te) := by
  refine ⟨fun pins s σ H Q I h => ?_⟩
  refine attr_of hb (thn (he.run pins s σ H _ I h) fun u s1 hh => ?_)
  obtain ⟨x, H1, I1, rx, ex, ec, dd, v, ed, ea, q⟩ := hh
  subst ex
  obtain rfl : u = Value.ref a := rx
  subst ec
  subst ed
  obtain ⟨ha, _⟩ := I1.pin (a, oe) (List.mem_append_left _ List.mem_cons_self)
  obtain ⟨vs, hd⟩ := hf
  have hx : ObjOk X.prog X.w H1 s1.heap dd (.xd [(f, v)]) := I1.hok dd _ ea
  obtain ⟨mA, hns, hr⟩ := hx
  obtain ⟨od, ho, hl⟩ := lookIn_ns hns
  have l : List.lookup f [(f, v)] = some v := by simp [List.lookup]
  obtain ⟨u, hu, ru⟩ := RelO.some_of (v := v) (o := mA f) (by rw [← l]; exact hr f)
  have J : PySem.W.InstAt s1.heap a oe C (some od) := ⟨ha, hz.1, by unfold PySem.W.notCls; rw [hd] <;> rfl, by rw [hz.2]; exact ho⟩
  exact HandSPX.exc_get I1.kIn J T.ga T.gg T.exC (PySem.W.findObj_own T.hdC T.noN rfl (by rw [hl, hu])) (handed_of ru) ⟨v, H1, I1.tok _, ru, q⟩
end
end K06

/-! k06, part z: a place's text; places are small. -/
namespace K06
open PySem L2 PySem.Spec PyProof.Rows K06X
abbrev intTxt (k : Nat) : Str := ((toString (k : Int) : String) : Str)
theorem int_one {k : Nat} (h : k ≤ 9) : (intTxt k).length ≤ 1 := by
  have : ∀ k, k < 10 → (intTxt k).length ≤ 1 := by decide +kernel
  exact this k (by omega)
theorem piled_places : ∀ {p : List Nat}, (∀ k ∈ p, k ≤ 9) → piled (p.map intTxt) ≤ 3 * p.length
  | [], _ => Nat.zero_le _
  | k :: r, h => by
    have h1 := int_one (h k List.mem_cons_self)
    have h2 := piled_places fun a ha => h a (List.mem_cons_of_mem _ ha)
    rw [List.map_cons, piled_cons, List.length_cons]
    omega
theorem repr_places {prog : Program} {w : World} : ∀ {p : List Nat} {its : List Value}, Vals (plV p) its → (∀ k ∈ p, k ≤ 9) → ReprAll prog w its (p.map intTxt)
  | [], _, r, _ => by
    cases r
    exact .nil
  | k :: p, _, r, h => by
    cases r with
    | cons r1 r2 =>
      obtain ⟨t, rfl⟩ := r1
      have hk := h k List.mem_cons_self
      refine .cons (ReprIs.int t ?_) (repr_places r2 fun a ha => h a (List.mem_cons_of_mem _ ha))
      have : ∀ k : Nat, k < 10 → ((k : Nat) : Int).natAbs.log2 < 1920 := by decide +kernel
      exact this k (by omega)
theorem rep_place {P : Program} {w : World} {K : PySem.W.Frag} {H : Hp} {pl : Addr} {p : List Nat} (e : H pl = some (.tup (plV p))) (hl : p.length ≤ 1000) (hk : ∀ k ∈ p, k ≤ 9) : RepV P w K H (.ref pl) := by
  intro h u ok kin r
  cases r
  obtain ⟨z, its, rv, o, ho, hc, n, hd⟩ := ok pl _ e
  intro A E Q s ks hu hq
  have hp := piled_places hk
  have ht := fmt_text (p.map intTxt)
  have line : (100000 : Nat) ≤ sizeLine := by rw [sizeLine_eq]; decide
  exact fmt_tuple (ts := p.map intTxt) (by omega) (ks _ _ ho) hc hd (repr_places rv hk) (by omega) fun m u tk hm => hq m u tk (by omega)
/-- the place that comes out is small -/
theorem BadN.small : ∀ {n : Nat} {st : List (List Nat × PyData)} {p : List Nat}, BadN n st (some p) → (∀ q ∈ st, q.1.length ≤ 901 ∧ ∀ k ∈ q.1, k ≤ 9) → p.length ≤ 901 ∧ ∀ k ∈ p, k ≤ 9
  | _, _, _, .bad _, h => h _ List.mem_cons_self
  | _, _, _, @BadN.ok _ p0 d _ _ sg lp _ b, h => by
    refine b.small fun q hq => ?_
    rcases List.mem_append.mp hq with hq | hq
    · have h4 : (beneath d).length ≤ 4 := by
        obtain ⟨z, ds, n, m, rfl, ea, hn, hm, h4⟩ := sign_open sg
        rw [beneath_eq ea, List.length_drop]
        omega
      have key : ∀ (ds : List PyData) (i : Nat), i + ds.length ≤ 4 → ∀ q ∈ kids p0 ds i, q.1.length ≤ 901 ∧ ∀ k ∈ q.1, k ≤ 9 := by
        intro ds
        induction ds with
        | nil => intro i _ q hq; cases hq
        | cons a r ih =>
          intro i hi q hq
          rw [List.length_cons] at hi
          rcases List.mem_cons.mp hq with rfl | hq
          · refine ⟨by show (p0 ++ [i]).length ≤ 901; rw [List.length_append, List.length_singleton]; omega, fun k hk => ?_⟩
            rcases List.mem_append.mp hk with hk | hk
            · exact (h _ List.mem_cons_self).2 k hk
            · rw [List.mem_singleton.mp hk]; omega
          · exact ih (i + 1) (by omega) q hq
      exact key _ 0 (by omega) q hq
    · exact h q (List.mem_cons_of_mem _ hq)
end K06

/-! k06, part t: the class Term. -/
namespace K06
open PySem L2 PySem.Spec PyProof.Rows K06X
abbrev sTerm : Stmt := top 51
abbrev sTInit : Stmt := inClass sTerm 0
abbrev sTSize : Stmt := inClass sTerm 1
abbrev sTLook : Stmt := inClass sTerm 2
abbrev sTNames : Stmt := inClass sTerm 3
abbrev sTFalls : Stmt := inClass sTerm 4
abbrev sTEq : Stmt := inClass sTerm 8
/-- the class of terms, as the top has made it -/
structure TermC (K : PySem.W.Frag) (C : Addr) : Prop where
  cl : Cls K C
  nP : NoAttr K C "plain"
  nS : NoAttr K C "_sheet"
abbrev termFs (v : V) : List (Str × V) := [("plain", v), ("_sheet", .non)]
/-- Term.__init__ -/
def spInit (CT CB : Addr) : Sp := fun vs H Q E => ∃ x dx v d n o, vs = [.ref x, v] ∧ H x = some (.ins CT dx []) ∧ (∀ a, v = .ref a → a ≠ x) ∧ Rp H v d ∧ BadN n [([], d)] o ∧ match o with
  | none => ∀ H', (∀ b u, b ≠ x → H b = some u → H' b = some u) → H' x = some (.ins CT dx (termFs v)) → Q .non H'
  | some p => ∀ H' dd pl, Same H H' → H dd = none → H' dd = some (.xd [("place", .ref pl)]) → H' pl = some (.tup (plV p)) → E (.ref CB) (some dd) H'
def spSize (CT : Addr) : Sp := fun vs H Q _ => ∃ a dx v d n l, vs = [.ref a] ∧ H a = some (.ins CT dx (termFs v)) ∧ Rp H v d ∧ NodesN n [d] l ∧ n ≤ 900 ∧ ∀ H', Same H H' → Q (.int (l.length : Nat)) H'
def spTLook (CT : Addr) : Sp := fun vs H Q _ => ∃ a dx v d n g, vs = [.ref a] ∧ H a = some (.ins CT dx (termFs v)) ∧ Rp H v d ∧ LookN n [(d, 0)] 0 g ∧ ∀ H', Same H H' → Q (.int g) H'
def spTNames (CT : Addr) (g : List PyData → List Str) : Sp := fun vs H Q _ => ∃ a dx v d n l, vs = [.ref a] ∧ H a = some (.ins CT dx (termFs v)) ∧ Rp H v d ∧ NodesN n [d] l ∧ n ≤ 900 ∧ ∀ H' L, Same H H' → H' L = some (.tup ((onceL (g l)).map V.str)) → Q (.ref L) H'
theorem mem0 (k : Nat) (h : k ∈ ([] : List Nat)) : k ≤ 9 := by cases h
section
variable {P : Program} {w : World} {K : PySem.W.Frag} {mg : Str → Option Value} {base : Heap}
theorem scTInit : FnScope ["self", "plain", "place"] ["self", "plain"] (defScope sTInit) := ⟨rfl, rfl, rfl, by decide +kernel, rfl, by decide +kernel, by decide +kernel⟩
theorem scTSize : FnScope ["self"] ["self"] (defScope sTSize) := ⟨rfl, rfl, rfl, by decide +kernel, rfl, by decide +kernel, by decide +kernel⟩
theorem scTLook : FnScope ["self"] ["self"] (defScope sTLook) := ⟨rfl, rfl, rfl, by decide +kernel, rfl, by decide +kernel, by decide +kernel⟩
theorem scTNames : FnScope ["self"] ["self"] (defScope sTNames) := ⟨rfl, rfl, rfl, by decide +kernel, rfl, by decide +kernel, by decide +kernel⟩
theorem scTFalls : FnScope ["self"] ["self"] (defScope sTFalls) := ⟨rfl, rfl, rfl, by decide +kernel, rfl, by decide +kernel, by decide +kernel⟩
theorem badO : FldOk "place" "no term at " := ⟨rfl, rfl, rfl, rfl, by decide⟩
theorem ok_tinit {f fb CT CB fI : Addr} {fd fdb : FuncData} (F : Fun K "__init__" "Term.__init__" sTInit f fd) (T : TermC K CT) (htop : (P.main.scope.names.lookup ("super" : Str)).isSome = false) (TB : ErrTxt P K mg CB fI "BadTerm" "BadTerm.__init__" "place" "no term at ")
    (DB : Df K mg "bad_term" sBadTerm ["plain"] fb fdb) (GB : FnOk P w K mg base CX0 4 fb fdb ["plain"] spBad) : FnOk P w K mg base (L2.CX P w) 5 f fd ["self", "plain"] (spInit CT CB) := by
  refine F.okX scTInit (fun vs H Q E h => ?_) (fun cdv A outer s H vs Q E hr h => ?_)
  · obtain ⟨x, dx, v, d, n, o, rfl, _⟩ := h
    rfl
  · obtain ⟨x, dx, v, d, n, o, rfl, hx, hv, t, bd, k⟩ := h
    have nd := scTInit.nd
    refine ⟨_, pss_cons (ps_set (i := 2) nd rfl (Or.inl rfl) (pe_call GB hr rfl DB.g DB.F.kp DB.b .nil pass0 (pa_cons (pv 1) pa_nil)))
      (pss_cons (ps_if (pt_cmpR op_notN (pv 2) pe_non (nomark _)) (pss_one (ps_raiseE (k := 2) rfl TB badO hr htop (by intros; rfl) (takes_of rfl rfl rfl rfl) (pa_cons (pv 2) pa_nil) rfl rfl)) pss_nil)
      (pss_cons (ps_fld (pv 0) (pv 1) rfl) (pss_one (ps_fld (pv 0) pe_non rfl)))), ?_⟩
    refine ⟨_, rfl, v, d, n, o, rfl, t, bd, fun H1 s1 => ?_⟩
    cases o with
    | none =>
      refine ⟨_, rfl, rfl, _, rfl, ?_⟩
      refine iteF ?_
      refine ⟨_, rfl, _, rfl, x, CT, dx, [], rfl, s1 _ _ hx, T.cl, T.nP, (by show 0 < 1000; decide), _, rfl, x, CT, dx, _, rfl, upd_same, T.cl, T.nS, (by show 1 < 1000; decide), ?_⟩
      refine k _ (fun b u nb e => ?_) ?_
      · rw [upd_ne nb, upd_ne nb]; exact s1 _ _ e
      · rw [upd_same]; rfl
    | some p =>
      intro pl hpl
      refine ⟨_, rfl, rfl, _, rfl, ?_⟩
      obtain ⟨p1, p2⟩ := bd.small (fun q hq => by rw [List.mem_singleton.mp hq]; exact ⟨Nat.zero_le _, mem0⟩)
      refine iteT ⟨_, rfl, _, rfl, rep_place hpl (by omega) p2, fun dd hd => ?_⟩
      refine k _ dd pl (same_new s1 hd) ?_ upd_same (by rw [upd_ne (ne_of_none hpl hd)]; exact hpl)
      cases e : H dd with
      | none => rfl
      | some u => rw [s1 _ _ e] at hd; cases hd
theorem ok_tsize {f fn CT : Addr} {fd fdn : FuncData} (F : Fun K "size" "Term.size" sTSize f fd) (N : Nms mg) (T : TermC K CT) (DN : Df K mg "term_nodes" sNodes ["plain"] fn fdn) (GN : FnOk P w K mg base CX0 2 fn fdn ["plain"] spNodes) :
    FnOk P w K mg base CX0 3 f fd ["self"] (spSize CT) := by
  refine F.ok scTSize (fun vs H Q E h => ?_) (fun cdv A outer s H vs Q E hr h => ?_)
  · obtain ⟨a, dx, v, d, n, l, rfl, _⟩ := h
    rfl
  · obtain ⟨a, dx, v, d, n, l, rfl, ha, t, nn, hn, k⟩ := h
    refine ⟨_, pss_one (ps_ret (pe_callB call_len_seq (by rfl) N.len PySem.boot_len (pa_cons (pe_call GN hr rfl DN.g DN.F.kp DN.b .nil pass0 (pa_cons (pe_fld (pv 0) rfl) pa_nil)) pa_nil))), ?_⟩
    refine ⟨_, rfl, a, CT, dx, _, v, rfl, ha, T.cl, T.nP, rfl, v, d, n, l, rfl, t, nn, hn, fun H1 L xs s1 nL hL rx => ⟨L, xs, rfl, .inl (SqL.of hL), ?_⟩⟩
    rw [rx.length]
    exact k H1 s1
theorem ok_tlook {f fn CT : Addr} {fd fdn : FuncData} (F : Fun K "look" "Term.look" sTLook f fd) (N : Nms mg) (T : TermC K CT) (DN : Df K mg "look_of" sLookOf ["plain"] fn fdn) (GN : FnOk P w K mg base CX0 2 fn fdn ["plain"] spLook) :
    FnOk P w K mg base CX0 3 f fd ["self"] (spTLook CT) := by
  refine F.ok scTLook (fun vs H Q E h => ?_) (fun cdv A outer s H vs Q E hr h => ?_)
  · obtain ⟨a, dx, v, d, n, g, rfl, _⟩ := h
    rfl
  · obtain ⟨a, dx, v, d, n, g, rfl, ha, t, ln, k⟩ := h
    refine ⟨_, pss_one (ps_ret (pe_call GN hr rfl DN.g DN.F.kp DN.b .nil pass0 (pa_cons (pe_fld (pv 0) rfl) pa_nil))), ?_⟩
    exact ⟨_, rfl, a, CT, dx, _, v, rfl, ha, T.cl, T.nP, rfl, v, d, n, g, rfl, t, ln, fun H1 s1 => k H1 s1⟩
theorem ok_tnames {f fn CT : Addr} {fd fdn : FuncData} (F : Fun K "names" "Term.names" sTNames f fd) (N : Nms mg) (T : TermC K CT) (DN : Df K mg "names_in" sNamesIn ["plain"] fn fdn) (GN : FnOk P w K mg base CX0 3 fn fdn ["plain"] (spNames namesL)) :
    FnOk P w K mg base CX0 4 f fd ["self"] (spTNames CT namesL) := by
  refine F.ok scTNames (fun vs H Q E h => ?_) (fun cdv A outer s H vs Q E hr h => ?_)
  · obtain ⟨a, dx, v, d, n, l, rfl, _⟩ := h
    rfl
  · obtain ⟨a, dx, v, d, n, l, rfl, ha, t, nn, hn, k⟩ := h
    refine ⟨_, pss_one (ps_ret (pe_callTy call_tuple_of (by rfl) N.tuple (by decide +kernel) (pa_cons (pe_call GN hr rfl DN.g DN.F.kp DN.b .nil pass0 (pa_cons (pe_fld (pv 0) rfl) pa_nil)) pa_nil))), ?_⟩
    refine ⟨_, rfl, a, CT, dx, _, v, rfl, ha, T.cl, T.nP, rfl, v, d, n, l, rfl, t, nn, hn, fun H1 L s1 nL hL => ⟨L, _, rfl, .inl ⟨SqL.of hL, fun q nq => k _ q (same_new s1 nq) upd_same⟩⟩⟩
theorem ok_tfalls {f fn CT : Addr} {fd fdn : FuncData} (F : Fun K "falls" "Term.falls" sTFalls f fd) (N : Nms mg) (T : TermC K CT) (DN : Df K mg "headings_in" sHeadsIn ["plain"] fn fdn) (GN : FnOk P w K mg base CX0 3 fn fdn ["plain"] (spNames headsL)) :
    FnOk P w K mg base CX0 4 f fd ["self"] (spTNames CT headsL) := by
  refine F.ok scTFalls (fun vs H Q E h => ?_) (fun cdv A outer s H vs Q E hr h => ?_)
  · obtain ⟨a, dx, v, d, n, l, rfl, _⟩ := h
    rfl
  · obtain ⟨a, dx, v, d, n, l, rfl, ha, t, nn, hn, k⟩ := h
    refine ⟨_, pss_one (ps_ret (pe_callTy call_tuple_of (by rfl) N.tuple (by decide +kernel) (pa_cons (pe_call GN hr rfl DN.g DN.F.kp DN.b .nil pass0 (pa_cons (pe_fld (pv 0) rfl) pa_nil)) pa_nil))), ?_⟩
    refine ⟨_, rfl, a, CT, dx, _, v, rfl, ha, T.cl, T.nP, rfl, v, d, n, l, rfl, t, nn, hn, fun H1 L s1 nL hL => ⟨L, _, rfl, .inl ⟨SqL.of hL, fun q nq => k _ q (same_new s1 nq) upd_same⟩⟩⟩
end
end K06

/-! k06, part q: == of terms. -/
namespace K06
open PySem L2 PySem.Spec PyProof.Rows
/-- what isinstance and == ask of the class of terms -/
structure TermI (K : PySem.W.Frag) (C : Addr) : Prop where
  ha : PySem.W.findIn K (.ref C) "__class__" = some (some (.builtin "object.__class__"))
  hn : PySem.W.specialIn K (.builtin "object.__class__") "__get__" = some (some (.builtin "getset_descriptor.__get__"))
  htk : PySem.W.takesIn K (.builtin "object.__class__") = some true
  hm : PySem.W.mroIn K C (.type "object") = some true
  rTup : PySem.W.kitOne K (.type "tuple") (.ref C) = some false
  nTup : PySem.W.subIn K (.type "tuple") (.ref C) = some false
theorem ep_back {X : Cx} {pins : List (Addr × Obj)} {σ : L2.St} {Q : VK} {u : Value} {s' : Shared} (h : EP X pins σ Q u s') : PySem.W.CmpBack (EP X pins σ Q) u s' := by
  obtain ⟨v, H', I, r, q⟩ := id h
  cases u with
  | notImplemented => cases v <;> first | (cases r; done) | (obtain ⟨_, e⟩ := r; cases e)
  | _ => exact h
section
variable {X : Cx} {CX : CXT} {k : Nat} {f C : Addr} {fd : FuncData} {ps : List Str} {sp : Sp} {E : XK}
/-- a == b: a of the class at C; b of it, too, or a tuple -/
def rTermEq (K : PySem.W.Frag) (C : Addr) (sp : Sp) (E : XK) : R2 := fun x y H Q => ∃ a dx fs b, x = .ref a ∧ y = .ref b ∧ H a = some (.ins C dx fs) ∧ ((∃ dy gs, H b = some (.ins C dy gs)) ∨ ∃ xs, SqT K H b xs) ∧ sp [x, y] H Q E
theorem op_termEq (T : TermI X.K C) (hm : Meth X.K C "__eq__" f) (F : FnOk X.prog X.w X.K X.mg X.base CX k f fd ps sp) (hr : Room k X.A) (hb : Binds X.K fd ps []) (hx : Passes CX X E) : OpR X (compareOp .Eq) (rTermEq X.K C sp E) := by
  intro pins s σ H x y v u Q I rx ry h
  obtain ⟨a, dx, fs, b, rfl, rfl, ha, hy, q⟩ := h
  cases rx
  obtain ⟨mA, O, _⟩ := ins_get I.hok ha
  obtain ⟨od, J, _⟩ := O.look
  obtain ⟨m, fr⟩ := I.fr
  have go : wpAny (model X.prog X.w) X.A (call (.ref f) [.ref a, u]) (PySem.W.CmpBack (EP X pins σ Q)) X.xe s :=
    wpAny_mono (run_fn (us := [.ref a, u]) (vs := [.ref a, .ref b]) F hr hb .nil hx I (.cons rfl (.cons ry .nil)) q) (fun _ _ z => ep_back z) fun _ _ z => z
  refine PySem.W.cmp_ofEq ?_
  cases ry
  rcases hy with ⟨dy, gs, hb2⟩ | ⟨xs, hb2⟩
  · obtain ⟨mB, O2, _⟩ := ins_get I.hok hb2
    obtain ⟨od2, J2, _⟩ := O2.look
    exact PySem.W.cmp_K (op := .Eq) (tb := .ref C) hr.units0 fr I.ok.mod.kin J J2.type (by simp [PySem.W.notFirst]) hm.at_ hm.fn go
  · obtain ⟨its, rv, ⟨o, ho, hc, _⟩, _⟩ := I.tuple hb2
    have lk : PySem.W.Looks (model X.prog X.w) s.heap (typeOf (.ref b)) (.type "tuple") := hc ▸ (PySem.W.Looks.ld ho).andThen .now
    exact PySem.W.cmp_K (op := .Eq) (tb := .type "tuple") hr.units0 fr I.ok.mod.kin J lk (by unfold PySem.W.notFirst; rw [T.nTup]; simp) hm.at_ hm.fn go
end
/-- Term.__eq__ -/
def spTEq (CT : Addr) : Sp := fun vs H Q _ => ∃ a dx v d b, vs = [.ref a, .ref b] ∧ H a = some (.ins CT dx (termFs v)) ∧ Rp H v d ∧
  ((∃ dy u e, H b = some (.ins CT dy (termFs u)) ∧ Rp H u e ∧ min d.depth e.depth ≤ 64 ∧ Q (.bl (PyData.eqv d e)) H) ∨ ∃ xs, H b = some (.tup xs) ∧ Q (.bl false) H)
section
variable {P : Program} {w : World} {K : PySem.W.Frag} {mg : Str → Option Value} {base : Heap}
theorem scTEq : FnScope ["self", "other"] ["self", "other"] (defScope sTEq) := ⟨rfl, rfl, rfl, by decide +kernel, rfl, by decide +kernel, by decide +kernel⟩
theorem ok_teq {f CT : Addr} {fd : FuncData} (F : Fun K "__eq__" "Term.__eq__" sTEq f fd) (N : Nms mg) (T : TermC K CT) (I : TermI K CT) (mT : mg "Term" = some (.ref CT)) : FnOk P w K mg base CX0 1 f fd ["self", "other"] (spTEq CT) := by
  refine F.ok scTEq (fun vs H Q E h => ?_) (fun cdv A outer s H vs Q E hr h => ?_)
  · obtain ⟨a, dx, v, d, b, rfl, _⟩ := h
    rfl
  · obtain ⟨a, dx, v, d, b, rfl, ha, t, hb⟩ := h
    refine ⟨_, pss_one (ps_ret (pe_and (pe_callB call_isi (by rfl) N.isi (by decide +kernel) (pa_cons (pv 1) (pa_cons (pe_glob (v := .ref CT) rfl mT rfl) pa_nil))) (pe_one (pe_cmpR (op_eqM hr.units) (pe_fld (pv 0) rfl) (pe_fld (pv 1) rfl) (nomark _))))), ?_⟩
    rcases hb with ⟨dy, u, e, hb, te, hm, k⟩ | ⟨xs, hb, k⟩
    · refine ⟨_, rfl, _, _, .ref CT, _, _, rfl, .own _, .base (.ins hb T.cl I.ha I.hn I.htk I.hm), (by unfold PySem.W.kitOne; rw [if_pos (by simp)]), _, rfl, ?_⟩
      refine iteT ⟨_, rfl, a, CT, dx, _, v, rfl, ha, T.cl, T.nP, rfl, _, rfl, b, CT, dy, _, u, rfl, hb, T.cl, T.nP, rfl, d, e, t.dp, te.dp, t.lay, te.lay, hm, k⟩
    · refine ⟨_, rfl, _, _, .type "tuple", _, _, rfl, .own _, .base (.tup hb), I.rTup, _, rfl, ?_⟩
      exact iteF k
end
end K06

/-! k06, the law, part a: drawn words. -/
namespace K06
open PySem L2 PySem.Spec PyProof.Rows
abbrev sLetters : Stmt := top 58
/-- behind draws: a bag again, and what stood but the bag stands -/
structure Dr (b l : Addr) (H H' : Hp) : Prop where
  bag : BagL H' b l
  but : But b H H'
theorem Dr.refl {b l : Addr} {H : Hp} (B : BagL H b l) : Dr b l H H := ⟨B, But.refl b H⟩
theorem Dr.trans {b l : Addr} {H H1 H2 : Hp} (x : Dr b l H H1) (y : Dr b l H1 H2) : Dr b l H H2 := ⟨y.bag, x.but.trans y.but⟩
theorem Dr.new {b l p : Addr} {H H1 : Hp} {o : HO} (x : Dr b l H H1) (n : H1 p = none) : Dr b l H (upd H1 p o) := ⟨x.bag.same (same_new Same.rfl' n), fun c u e nb => by
  have q := x.but c u e nb
  rw [upd_ne (ne_of_none q n)]
  exact q⟩
theorem BagL.ne_b {H : Hp} {b l p : Addr} (B : BagL H b l) (e : H p = none) : p ≠ b := by
  obtain ⟨ns, a, r, m, c, h, _⟩ := B
  intro z
  rw [z, h] at e
  cases e
theorem BagL.ne_l {H : Hp} {b l p : Addr} (B : BagL H b l) (e : H p = none) : p ≠ l := by
  obtain ⟨ns, a, r, m, c, _, h, _⟩ := B
  intro z
  rw [z, h] at e
  cases e
/-- a store to an object that was not there at first and is no part of the bag -/
theorem Dr.put {b l p : Addr} {H H1 : Hp} {o : HO} (x : Dr b l H H1) (n : H p = none) (nb : p ≠ b) (nl : p ≠ l) : Dr b l H (upd H1 p o) := by
  obtain ⟨⟨ns, a, r, m, c, h1, h2, h3⟩, bt⟩ := x
  refine ⟨⟨ns, a, r, m, c, by rw [upd_ne (Ne.symm nb)]; exact h1, by rw [upd_ne (Ne.symm nl)]; exact h2, h3⟩, fun c u e nc => ?_⟩
  rw [upd_ne (fun z => by rw [← z, e] at n; cases n)]
  exact bt c u e nc
/-- all signs of a text -/
def AllIn (p : Nat → Bool) (z : Str) : Prop := ∀ c ∈ z.cps.toList, p c = true
theorem allIn_app {p : Nat → Bool} {x y : Str} (hx : AllIn p x) (hy : AllIn p y) : AllIn p (x ++ y) := by
  intro c hc
  have e : (x ++ y).cps.toList = x.cps.toList ++ y.cps.toList := Array.toList_append
  rw [e] at hc
  rcases List.mem_append.mp hc with h | h
  · exact hx c h
  · exact hy c h
theorem join_signs {p : Nat → Bool} : ∀ {ys : List Str}, (∀ y ∈ ys, y.length = 1 ∧ AllIn p y) → (Str.join "" ys).length = ys.length ∧ AllIn p (Str.join "" ys)
  | [], _ => ⟨rfl, fun c hc => by cases hc⟩
  | [x], h => ⟨(h x List.mem_cons_self).1, (h x List.mem_cons_self).2⟩
  | x :: y :: r, h => by
    obtain ⟨h1, h2⟩ := join_signs (ys := y :: r) fun a ha => h a (List.mem_cons_of_mem _ ha)
    obtain ⟨g1, g2⟩ := h x List.mem_cons_self
    have e : Str.join "" (x :: y :: r) = x ++ "" ++ Str.join "" (y :: r) := rfl
    rw [e]
    refine ⟨?_, allIn_app (allIn_app g2 fun c hc => by cases hc) h2⟩
    rw [Str.length_append, Str.length_append, g1, h1]
    show 1 + 0 + (r.length + 1) = r.length + 1 + 1
    omega
theorem join_eq' (ys : List Str) : Txt.join "" ys = Str.join "" ys := PySem.StrLaws.glued_eq_join "" ys
def spLetters : Sp := fun vs H Q _ => ∃ (b l : Addr) (m : Nat), vs = [.ref b, .int (m : Nat)] ∧ m ≤ 20 ∧ BagL H b l ∧ ∀ z H', z.length = m → AllIn isLet z → Dr b l H H' → Q (.str z) H'
section
variable {P : Program} {w : World} {K : PySem.W.Frag} {mg : Str → Option Value} {base : Heap}
theorem scLetters : FnScope ["_law_bag_here", "_law_many", "_law_k"] ["_law_bag_here", "_law_many"] (defScope sLetters) := ⟨rfl, rfl, rfl, by decide +kernel, rfl, by decide +kernel, by decide +kernel⟩
theorem ok_letters {f fp : Addr} {fd fdp : FuncData} (F : Fun K "_law_letters" "_law_letters" sLetters f fd) (N : Nms mg) (DP : Df K mg "_law_pick" sPick ["_law_bag_here", "_law_many"] fp fdp) (GP : FnOk P w K mg base CX0 1 fp fdp ["_law_bag_here", "_law_many"] spPick) :
    FnOk P w K mg base CX0 2 f fd ["_law_bag_here", "_law_many"] spLetters := by
  refine F.ok scLetters (fun vs H Q E h => ?_) (fun cdv A outer s H vs Q E hr h => ?_)
  · obtain ⟨b, l, m, rfl, _⟩ := h
    rfl
  · obtain ⟨b, l, m, rfl, hm, B, k⟩ := h
    have nd := scLetters.nd
    refine ⟨_, pss_one (ps_ret (pe_join pe_str (pe_lc (own := [("_law_k", 2)]) (g := gName 2) (tt := tYes) (te := tOp rIxS (tC (.str letters)) (tCall spPick [] E0 (tCons (tVar 0) (tCons (tC (.int 26)) tNil)))) rfl nd (pi_range1 rfl N.range (pa_cons (pv 1) pa_nil))
      (blkOk_by (N := ["_law_bag_here", "_law_many", "_law_k"]) (sc := defScope sLetters) (by decide +kernel)) (fun _ _ _ _ _ => pg_name (i := 2) nd rfl (Or.inl rfl)) (fun _ _ _ _ _ => pts_nil)
      (fun _ _ _ _ _ => pe_ix ix_str pe_str (pe_call GP hr rfl DP.g DP.F.kp DP.b .nil pass0 (pa_cons (pv 0) (pa_cons pe_int pa_nil))) (fun _ _ => rfl))))), ?_⟩
    refine ⟨⟨_, rfl⟩, _, rfl, _, rfl, by omega, by omega, fun D hD => ?_⟩
    have nDb := B.ne_b hD
    have nDl := B.ne_l hD
    refine lc_range (lo := 0) (n := (m : Int).toNat) (fun i H2 => Dr b l H H2 ∧ ∃ ys : List Str, H2 D = some (.lst (ys.map V.str)) ∧ ys.length = i ∧ ∀ y ∈ ys, y.length = 1 ∧ AllIn isLet y) ⟨(Dr.refl B).new hD, [], upd_same, rfl, fun y hy => by cases hy⟩ ?_ ?_
    · rintro i H2 hi ⟨d2, ys, h2, hl, hy⟩
      refine ⟨rfl, yesT ?_⟩
      refine ⟨_, rfl, b, l, 26, rfl, by decide, by decide, d2.bag, fun r H3 r0 r1 B3 bt nw => ?_⟩
      obtain ⟨j, rfl⟩ := Int.eq_ofNat_of_zero_le r0
      have hj : j < letters.cps.toList.length := by
        have : letters.cps.toList.length = 26 := by decide
        omega
      have h3 : H3 D = some (.lst (ys.map V.str)) := bt _ _ h2 nDb
      refine ⟨letters, _, letters.cps.toList[j], rfl, rfl, by decide, atI_nat (List.getElem?_eq_getElem hj), ys.map V.str, h3, ?_, (d2.trans ⟨B3, bt⟩).put hD nDb nDl, ys ++ [⟨#[letters.cps.toList[j]]⟩], ?_, ?_, ?_⟩
      · rw [List.length_map, hl]; exact small1000 (by omega)
      · rw [upd_same, List.map_append]; rfl
      · rw [List.length_append, hl]; rfl
      · intro y hy2
        rcases List.mem_append.mp hy2 with z | z
        · exact hy y z
        · rw [List.mem_singleton.mp z]
          refine ⟨rfl, fun c hc => ?_⟩
          have : c = letters.cps.toList[j] := List.mem_singleton.mp hc
          rw [this]
          exact decide_eq_true (List.getElem_mem hj)
    · rintro H2 ⟨d2, ys, h2, hl, hy⟩
      obtain ⟨j1, j2⟩ := join_signs hy
      refine ⟨"", D, ys, rfl, rfl, .inl (SqL.of h2), ?_, ?_⟩
      · have : ∀ l : List Str, (∀ y ∈ l, y.length = 1 ∧ AllIn isLet y) → (l.map (·.length)).sum = l.length := by
          intro l
          induction l with
          | nil => intro _; rfl
          | cons a r ih =>
            intro h
            rw [List.map_cons, List.sum_cons, (h a List.mem_cons_self).1, ih fun y hy => h y (List.mem_cons_of_mem _ hy), List.length_cons]
            omega
        rw [this ys hy]
        show ys.length + ys.length * 0 ≤ _
        omega
      · rw [join_eq']
        exact k _ _ (by omega) j2 d2
end
end K06

/-! k06, the law, part b: words and titles. -/
namespace K06
open PySem L2 PySem.Spec PyProof.Rows
abbrev sReserved : Stmt := top 60
abbrev sWord : Stmt := top 69
abbrev sTitle : Stmt := top 70
theorem in_res {z : Str} (h : inV (.str z) resV = true) : z ∈ reserved := by
  unfold inV at h
  rw [List.any_map, List.any_eq_true] at h
  obtain ⟨y, hy, e⟩ := h
  have : (y == z) = true := e
  rw [← eq_of_beq this]
  exact hy
theorem let_small {c : Nat} (h : isLet c = true) : c < 0x110000 := by
  have h' : c ∈ letters.cps.toList := of_decide_eq_true h
  have : ∀ c ∈ letters.cps.toList, c < 0x110000 := by decide
  exact this c h'
theorem fig_small {c : Nat} (h : (isLet c || isFig c) = true) : c < 0x110000 := by
  rcases Bool.or_eq_true_iff.mp h with h | h
  · exact let_small h
  · have h' : c ∈ figures.cps.toList := of_decide_eq_true h
    have : ∀ c ∈ figures.cps.toList, c < 0x110000 := by decide
    exact this c h'
theorem sh_of {p : Nat → Bool} (hp : ∀ c, p c = true → c < 0x110000) {z : Str} (h : AllIn p z) (hl : z.length ≤ 1000) : Sh z := by
  refine ⟨hl, ?_⟩
  unfold PyData.strOk
  rw [Array.all_eq_true_iff_forall_mem]
  intro c hc
  exact decide_eq_true (hp c (h c (Array.mem_toList_iff.mpr hc)))
theorem nm_of {z : Str} (h1 : 1 ≤ z.length) (h2 : z.length ≤ 12) (h3 : AllIn isLet z) (h4 : inV (.str z) resV = false) : nmS z = true := by
  unfold nmS
  rw [decide_eq_true (by omega), decide_eq_true (by omega), h4, List.all_eq_true.mpr h3]
  rfl
theorem hd_of {z : Str} (h1 : 1 ≤ z.length) (h2 : z.length ≤ 8) (h3 : AllIn (fun c => isLet c || isFig c) z) (h4 : inV (.str z) resV = false) : hdS z = true := by
  unfold hdS
  rw [decide_eq_true (by omega), decide_eq_true (by omega), h4, List.all_eq_true.mpr h3]
  rfl
theorem nm_let {z : Str} (h : nmS z = true) : AllIn isLet z := by
  unfold nmS at h
  exact List.all_eq_true.mp (Bool.and_eq_true_iff.mp (Bool.and_eq_true_iff.mp h).2).1
theorem nm_len {z : Str} (h : nmS z = true) : z.length ≤ 12 := by
  unfold nmS at h
  have := of_decide_eq_true (Bool.and_eq_true_iff.mp (Bool.and_eq_true_iff.mp h).1).2
  omega
theorem nm_sh {z : Str} (h : nmS z = true) : Sh z := sh_of (fun _ => let_small) (nm_let h) (Nat.le_trans (nm_len h) (by decide))
theorem hd_sh {z : Str} (h : hdS z = true) : Sh z := by
  unfold hdS at h
  have h1 := Bool.and_eq_true_iff.mp h
  have h2 := of_decide_eq_true (Bool.and_eq_true_iff.mp (Bool.and_eq_true_iff.mp h1.1).1).2
  exact sh_of (fun _ => fig_small) (List.all_eq_true.mp h1.2) (by omega)
def spReserved : Sp := fun vs H Q _ => vs = [] ∧ ∀ L, H L = none → Q (.ref L) (upd H L (.lst resV))
def spWord : Sp := fun vs H Q _ => ∃ (b l : Addr), vs = [.ref b] ∧ BagL H b l ∧ ∀ z H', nmS z = true → Dr b l H H' → Q (.str z) H'
def spTitle : Sp := fun vs H Q _ => ∃ (b l : Addr), vs = [.ref b] ∧ BagL H b l ∧ ∀ z H', hdS z = true → Dr b l H H' → Q (.str z) H'
theorem word_q : ∀ z ∈ reserved, nmS (z ++ "q") = true := by decide +kernel
theorem title_7 : ∀ z ∈ reserved, hdS (z ++ "7") = true := by decide +kernel
section
variable {P : Program} {w : World} {K : PySem.W.Frag} {mg : Str → Option Value} {base : Heap}
theorem scReserved : FnScope [] [] (defScope sReserved) := ⟨rfl, rfl, rfl, by decide +kernel, rfl, by decide +kernel, by decide +kernel⟩
theorem scWord : FnScope ["_law_bag_here", "_law_told"] ["_law_bag_here"] (defScope sWord) := ⟨rfl, rfl, rfl, by decide +kernel, rfl, by decide +kernel, by decide +kernel⟩
theorem ok_reserved {f : Addr} {fd : FuncData} (F : Fun K "_law_reserved" "_law_reserved" sReserved f fd) : FnOk P w K mg base CX0 1 f fd [] spReserved := by
  refine F.ok scReserved (fun vs H Q E h => ?_) (fun cdv A outer s H vs Q E hr h => ?_)
  · obtain ⟨rfl, _⟩ := h
    rfl
  · obtain ⟨rfl, k⟩ := h
    refine ⟨_, pss_one (ps_ret (pe_split pe_str pe_str)), ?_⟩
    refine ⟨⟨_, rfl⟩, _, _, rfl, rfl, rfl, by decide, fun p np => ?_⟩
    have e : Txt.split "any none mix form state over from parts some each main falls not and or two ring open" " " = reserved := by decide +kernel
    rw [e]
    exact k p np
theorem ok_word {f fp fl fr : Addr} {fd fdp fdl fdr : FuncData} (F : Fun K "_law_word" "_law_word" sWord f fd) (N : Nms mg) (DP : Df K mg "_law_pick" sPick ["_law_bag_here", "_law_many"] fp fdp) (GP : FnOk P w K mg base CX0 1 fp fdp ["_law_bag_here", "_law_many"] spPick)
    (DL : Df K mg "_law_letters" sLetters ["_law_bag_here", "_law_many"] fl fdl) (GL : FnOk P w K mg base CX0 2 fl fdl ["_law_bag_here", "_law_many"] spLetters) (DR : Df K mg "_law_reserved" sReserved [] fr fdr) (GR : FnOk P w K mg base CX0 1 fr fdr [] spReserved) :
    FnOk P w K mg base CX0 3 f fd ["_law_bag_here"] spWord := by
  refine F.ok scWord (fun vs H Q E h => ?_) (fun cdv A outer s H vs Q E hr h => ?_)
  · obtain ⟨b, l, rfl, _⟩ := h
    rfl
  · obtain ⟨b, l, rfl, B, k⟩ := h
    have nd := scWord.nd
    have r1 := hr.mono (show 1 ≤ 2 by decide)
    refine ⟨_, pss_cons (ps_set (i := 1) nd rfl (Or.inl rfl) (pe_call GL hr rfl DL.g DL.F.kp DL.b .nil pass0 (pa_cons (pv 0) (pa_cons (pe_op op_add pe_int (pe_call GP r1 rfl DP.g DP.F.kp DP.b .nil pass0 (pa_cons (pv 0) (pa_cons pe_int pa_nil)))) pa_nil))))
      (pss_cons (ps_if (pt_cmpR op_in_seq (pv 1) (pe_call0 GR r1 rfl DR.g DR.F.kp DR.b .nil pass0) rfl) (pss_one (ps_set (i := 1) nd rfl (Or.inl rfl) (pe_op op_add_str (pv 1) pe_str))) pss_nil)
      (pss_one (ps_ret (pv 1)))), ?_⟩
    refine ⟨_, rfl, _, rfl, b, l, 12, rfl, by decide, by decide, B, fun r H1 r0 r1' B1 bt nw => ?_⟩
    obtain ⟨j, rfl⟩ := Int.eq_ofNat_of_zero_le r0
    refine ⟨_, _, rfl, rfl, ?_⟩
    refine ⟨b, l, 1 + j, by rw [Int.natCast_add]; rfl, by omega, B1, fun z H2 hz hi D2 => ?_⟩
    refine ⟨_, rfl, rfl, fun L nL => ⟨L, resV, rfl, .inl (SqL.of upd_same), rfl, by decide, _, rfl, ?_⟩⟩
    have D1 : Dr b l H H1 := ⟨B1, bt⟩
    have D3 := (D1.trans D2).new (o := .lst resV) nL
    show if inV (.str z) resV = true then _ else _
    cases e : inV (.str z) resV with
    | true =>
      have hzr := in_res e
      have ql := nm_len (word_q z hzr)
      rw [Str.length_append] at ql
      refine iteT ⟨_, rfl, _, _, rfl, rfl, ?_, _, rfl, k _ _ (word_q z hzr) D3⟩
      have line : (1000 : Nat) ≤ sizeLine := by rw [sizeLine_eq]; decide
      omega
    | false => exact iteF ⟨_, rfl, k _ _ (nm_of (by omega) (by omega) hi e) D3⟩
theorem scTitle : FnScope ["_law_bag_here", "_law_signs_here", "_law_told", "_law_k"] ["_law_bag_here"] (defScope sTitle) := ⟨rfl, rfl, rfl, by decide +kernel, rfl, by decide +kernel, by decide +kernel⟩
def signs36 : Str := "abcdefghijklmnopqrstuvwxyz0123456789"
theorem ok_title {f fp fr : Addr} {fd fdp fdr : FuncData} (F : Fun K "_law_title" "_law_title" sTitle f fd) (N : Nms mg) (DP : Df K mg "_law_pick" sPick ["_law_bag_here", "_law_many"] fp fdp) (GP : FnOk P w K mg base CX0 1 fp fdp ["_law_bag_here", "_law_many"] spPick)
    (DR : Df K mg "_law_reserved" sReserved [] fr fdr) (GR : FnOk P w K mg base CX0 1 fr fdr [] spReserved) : FnOk P w K mg base CX0 2 f fd ["_law_bag_here"] spTitle := by
  refine F.ok scTitle (fun vs H Q E h => ?_) (fun cdv A outer s H vs Q E hr h => ?_)
  · obtain ⟨b, l, rfl, _⟩ := h
    rfl
  · obtain ⟨b, l, rfl, B, k⟩ := h
    have nd := scTitle.nd
    refine ⟨_, pss_cons (ps_set (i := 1) nd rfl (by first | exact Or.inl rfl | exact Or.inr rfl) pe_str)
      (pss_cons (ps_set (i := 2) nd rfl (Or.inl rfl) (pe_join pe_str (pe_lc (own := [("_law_k", 3)]) (g := gName 3) (tt := tYes) (te := tOp rIxS (tVar 1) (tCall spPick [] E0 (tCons (tVar 0) (tCons (tC (.int 36)) tNil)))) rfl nd
        (pi_range1 rfl N.range (pa_cons (pe_op op_add pe_int (pe_call GP hr rfl DP.g DP.F.kp DP.b .nil pass0 (pa_cons (pv 0) (pa_cons pe_int pa_nil)))) pa_nil))
        (blkOk_by (N := ["_law_bag_here", "_law_signs_here", "_law_told", "_law_k"]) (sc := defScope sTitle) (by decide +kernel)) (fun _ _ _ _ _ => pg_name (i := 3) nd rfl (Or.inl rfl)) (fun _ _ _ _ _ => pts_nil)
        (fun _ _ _ _ _ => pe_ix ix_str (pv 1) (pe_call GP hr rfl DP.g DP.F.kp DP.b .nil pass0 (pa_cons (pv 0) (pa_cons pe_int pa_nil))) (fun _ _ => rfl)))))
      (pss_cons (ps_if (pt_cmpR op_in_seq (pv 2) (pe_call0 GR hr rfl DR.g DR.F.kp DR.b .nil pass0) rfl) (pss_one (ps_set (i := 2) nd rfl (Or.inl rfl) (pe_op op_add_str (pv 2) pe_str))) pss_nil)
      (pss_one (ps_ret (pv 2))))), ?_⟩
    refine ⟨⟨_, rfl⟩, _, rfl, b, l, 8, rfl, by decide, by decide, B, fun r H1 r0 r1' B1 bt nw => ?_⟩
    obtain ⟨j, rfl⟩ := Int.eq_ofNat_of_zero_le r0
    have D1 : Dr b l H H1 := ⟨B1, bt⟩
    refine ⟨_, _, rfl, rfl, _, rfl, by omega, by omega, fun D hD => ?_⟩
    have nDb := B1.ne_b hD
    have nDl := B1.ne_l hD
    refine lc_range (lo := 0) (n := (1 + (j : Int)).toNat) (fun i H2 => Dr b l H1 H2 ∧ ∃ ys : List Str, H2 D = some (.lst (ys.map V.str)) ∧ ys.length = i ∧ ∀ y ∈ ys, y.length = 1 ∧ AllIn (fun c => isLet c || isFig c) y) ⟨(Dr.refl B1).new hD, [], upd_same, rfl, fun y hy => by cases hy⟩ ?_ ?_
    · rintro i H2 hi ⟨d2, ys, h2, hl, hy⟩
      refine ⟨rfl, yesT ?_⟩
      refine ⟨_, rfl, _, rfl, b, l, 36, rfl, by decide, by decide, d2.bag, fun r H3 r0 r1 B3 bt nw => ?_⟩
      obtain ⟨j2, rfl⟩ := Int.eq_ofNat_of_zero_le r0
      have hj : j2 < signs36.cps.toList.length := by
        have : signs36.cps.toList.length = 36 := by decide
        omega
      have h3 : H3 D = some (.lst (ys.map V.str)) := bt _ _ h2 nDb
      refine ⟨signs36, _, signs36.cps.toList[j2], rfl, rfl, by decide, atI_nat (List.getElem?_eq_getElem hj), ys.map V.str, h3, ?_, (d2.trans ⟨B3, bt⟩).put hD nDb nDl, ys ++ [⟨#[signs36.cps.toList[j2]]⟩], ?_, ?_, ?_⟩
      · rw [List.length_map, hl]; exact small1000 (by omega)
      · rw [upd_same, List.map_append]; rfl
      · rw [List.length_append, hl]; rfl
      · intro y hy2
        rcases List.mem_append.mp hy2 with z | z
        · exact hy y z
        · rw [List.mem_singleton.mp z]
          refine ⟨rfl, fun c hc => ?_⟩
          have : c = signs36.cps.toList[j2] := List.mem_singleton.mp hc
          rw [this]
          have all : ∀ c ∈ signs36.cps.toList, (isLet c || isFig c) = true := by decide
          exact all _ (List.getElem_mem hj)
    · rintro H2 ⟨d2, ys, h2, hl, hy⟩
      obtain ⟨j1, j2⟩ := join_signs hy
      refine ⟨"", D, ys, rfl, rfl, .inl (SqL.of h2), ?_, ?_⟩
      · have : ∀ l : List Str, (∀ y ∈ l, y.length = 1 ∧ AllIn (fun c => isLet c || isFig c) y) → (l.map (·.length)).sum = l.length := by
          intro l
          induction l with
          | nil => intro _; rfl
          | cons a r ih =>
            intro h
            rw [List.map_cons, List.sum_cons, (h a List.mem_cons_self).1, ih fun y hy => h y (List.mem_cons_of_mem _ hy), List.length_cons]
            omega
        rw [this ys hy]
        show ys.length + ys.length * 0 ≤ _
        omega
      · rw [join_eq']
        generalize Str.join "" ys = z at j1 j2
        refine ⟨_, rfl, rfl, fun L nL => ⟨L, resV, rfl, .inl (SqL.of upd_same), rfl, by decide, _, rfl, ?_⟩⟩
        have D3 := (D1.trans d2).new (o := .lst resV) nL
        show if inV (.str z) resV = true then _ else _
        cases e : inV (.str z) resV with
        | true =>
          have hzr := in_res e
          have ql : (z ++ "7").length ≤ 8 := by
            have h := title_7 z hzr
            unfold hdS at h
            have := of_decide_eq_true (Bool.and_eq_true_iff.mp (Bool.and_eq_true_iff.mp (Bool.and_eq_true_iff.mp h).1).1).2
            omega
          rw [Str.length_append] at ql
          refine iteT ⟨_, rfl, _, _, rfl, rfl, ?_, _, rfl, k _ _ (title_7 z hzr) D3⟩
          have line : (1000 : Nat) ≤ sizeLine := by rw [sizeLine_eq]; decide
          omega
        | false => exact iteF ⟨_, rfl, k _ _ (hd_of (by omega) (by omega) j2 e) D3⟩
end
end K06

/-! k06, the law, part c: the pool of names; shares. -/
namespace K06
open PySem L2 PySem.Spec PyProof.Rows
abbrev sPool : Stmt := top 71
abbrev sGcd : Stmt := top 61
abbrev sAnyShare : Stmt := top 63
def poolK (lw lt : Addr) : List (Key × V) := [(Sum.inr "words", .ref lw), (Sum.inr "titles", .ref lt)]
structure PoolAt (H : Hp) (p : Addr) : Prop where
  ex : ∃ (lw lt : Addr) (ws ts : List Str), H p = some (.dK (poolK lw lt)) ∧ H lw = some (.lst (ws.map V.str)) ∧ H lt = some (.lst (ts.map V.str)) ∧ ws.length = 3 ∧ ts.length = 2 ∧ (∀ z ∈ ws, nmS z = true) ∧ ∀ z ∈ ts, hdS z = true
theorem PoolAt.but {H H' : Hp} {p b l : Addr} (B : BagL H b l) (x : PoolAt H p) (s : But b H H') (n : p ≠ b) : PoolAt H' p := by
  obtain ⟨lw, lt, ws, ts, h1, h2, h3, r⟩ := x.ex
  obtain ⟨ns, a, r', m, c, hb, _⟩ := B
  exact ⟨lw, lt, ws, ts, s _ _ h1 n, s _ _ h2 (ne_of h2 hb (by intro z; cases z)), s _ _ h3 (ne_of h3 hb (by intro z; cases z)), r⟩
def spPool : Sp := fun vs H Q _ => ∃ (b l : Addr), vs = [.ref b] ∧ BagL H b l ∧ ∀ p H', PoolAt H' p → p ≠ b → Dr b l H H' → Q (.ref p) H'
section
variable {P : Program} {w : World} {K : PySem.W.Frag} {mg : Str → Option Value} {base : Heap}
theorem scPool : FnScope ["_law_bag_here", "_law_called", "_law_titles", "_law_k"] ["_law_bag_here"] (defScope sPool) := ⟨rfl, rfl, rfl, by decide +kernel, rfl, by decide +kernel, by decide +kernel⟩
theorem ok_pool {f fw ft : Addr} {fd fdw fdt : FuncData} (F : Fun K "_law_pool" "_law_pool" sPool f fd) (N : Nms mg) (DW : Df K mg "_law_word" sWord ["_law_bag_here"] fw fdw) (GW : FnOk P w K mg base CX0 3 fw fdw ["_law_bag_here"] spWord)
    (DT : Df K mg "_law_title" sTitle ["_law_bag_here"] ft fdt) (GT : FnOk P w K mg base CX0 2 ft fdt ["_law_bag_here"] spTitle) : FnOk P w K mg base CX0 4 f fd ["_law_bag_here"] spPool := by
  refine F.ok scPool (fun vs H Q E h => ?_) (fun cdv A outer s H vs Q E hr h => ?_)
  · obtain ⟨b, l, rfl, _⟩ := h
    rfl
  · obtain ⟨b, l, rfl, B, k⟩ := h
    have nd := scPool.nd
    have r2 := hr.mono (show 2 ≤ 3 by decide)
    refine ⟨_, pss_cons (ps_setLc (i := 1) (own := [("_law_k", 3)]) (g := gName 3) (tt := tYes) (te := tCall spWord [] E0 (tCons (tVar 0) tNil)) rfl nd rfl rfl (sw_true rfl rfl rfl (by decide +kernel)) (pi_range1 rfl N.range (pa_cons pe_int pa_nil))
        (blkOk_by (N := ["_law_bag_here", "_law_called", "_law_titles", "_law_k"]) (sc := defScope sPool) (by decide +kernel)) (fun _ _ _ _ _ => pg_name (i := 3) nd rfl (Or.inl rfl)) (fun _ _ _ _ _ => pts_nil)
        (fun _ _ _ _ _ => pe_call GW hr rfl DW.g DW.F.kp DW.b .nil pass0 (pa_cons (pv 0) pa_nil)))
      (pss_cons (ps_setLc (i := 2) (own := [("_law_k", 3)]) (g := gName 3) (tt := tYes) (te := tCall spTitle [] E0 (tCons (tVar 0) tNil)) rfl nd rfl rfl (sw_true rfl rfl rfl (by decide +kernel)) (pi_range1 rfl N.range (pa_cons pe_int pa_nil))
        (blkOk_by (N := ["_law_bag_here", "_law_called", "_law_titles", "_law_k"]) (sc := defScope sPool) (by decide +kernel)) (fun _ _ _ _ _ => pg_name (i := 3) nd rfl (Or.inl rfl)) (fun _ _ _ _ _ => pts_nil)
        (fun _ _ _ _ _ => pe_call GT r2 rfl DT.g DT.F.kp DT.b .nil pass0 (pa_cons (pv 0) pa_nil)))
      (pss_one (ps_ret (pe_disp (pps_cons pe_str (pv 1) (pps_cons pe_str (pv 2) pps_nil)) (by rfl) (by rfl) (fun z => by cases z) (by decide))))), ?_⟩
    refine ⟨3, rfl, by decide, by decide, fun D hD => ?_⟩
    have nDb := B.ne_b hD
    have nDl := B.ne_l hD
    refine lc_range (lo := 0) (n := 3) (fun i H2 => Dr b l H H2 ∧ ∃ ys : List Str, H2 D = some (.lst (ys.map V.str)) ∧ ys.length = i ∧ ∀ y ∈ ys, nmS y = true) ⟨(Dr.refl B).new hD, [], upd_same, rfl, fun y hy => by cases hy⟩ ?_ ?_
    · rintro i H2 hi ⟨d2, ys, h2, hl, hy⟩
      refine ⟨rfl, yesT ?_⟩
      refine ⟨_, rfl, b, l, rfl, d2.bag, fun z H3 hz d3 => ?_⟩
      have h3 : H3 D = some (.lst (ys.map V.str)) := d3.but _ _ h2 nDb
      refine ⟨ys.map V.str, h3, ?_, (d2.trans d3).put hD nDb nDl, ys ++ [z], ?_, ?_, ?_⟩
      · rw [List.length_map, hl]; exact small1000 (by omega)
      · rw [upd_same, List.map_append]; rfl
      · rw [List.length_append, hl]; rfl
      · intro y hy2
        rcases List.mem_append.mp hy2 with q | q
        · exact hy y q
        · rw [List.mem_singleton.mp q]; exact hz
    rintro H2 ⟨d2, ws, hw, lw, hws⟩
    refine ⟨2, rfl, by decide, by decide, fun D2 hD2 => ?_⟩
    have nDb2 := d2.bag.ne_b hD2
    have nDl2 := d2.bag.ne_l hD2
    refine lc_range (lo := 0) (n := 2) (fun i H3 => Dr b l H2 H3 ∧ ∃ ys : List Str, H3 D2 = some (.lst (ys.map V.str)) ∧ ys.length = i ∧ ∀ y ∈ ys, hdS y = true) ⟨(Dr.refl d2.bag).new hD2, [], upd_same, rfl, fun y hy => by cases hy⟩ ?_ ?_
    · rintro i H3 hi ⟨d3, ys, h2, hl, hy⟩
      refine ⟨rfl, yesT ?_⟩
      refine ⟨_, rfl, b, l, rfl, d3.bag, fun z H4 hz d4 => ?_⟩
      have h3 : H4 D2 = some (.lst (ys.map V.str)) := d4.but _ _ h2 nDb2
      refine ⟨ys.map V.str, h3, ?_, (d3.trans d4).put hD2 nDb2 nDl2, ys ++ [z], ?_, ?_, ?_⟩
      · rw [List.length_map, hl]; exact small1000 (by omega)
      · rw [upd_same, List.map_append]; rfl
      · rw [List.length_append, hl]; rfl
      · intro y hy2
        rcases List.mem_append.mp hy2 with q | q
        · exact hy y q
        · rw [List.mem_singleton.mp q]; exact hz
    rintro H3 ⟨d3, ts, ht, lt, hts⟩
    have hw3 := d3.but _ _ hw nDb
    intro p np
    refine ⟨_, rfl, _, rfl, upd_same, poolK D D2, rfl, Nat.le_of_ble_eq_true rfl, ?_⟩
    have d5 := ((d2.trans d3).new (o := .dK []) np)
    have pD : D ≠ p := fun z => by rw [z, np] at hw3; cases hw3
    have pD2 : D2 ≠ p := fun z => by rw [z, np] at ht; cases ht
    have npH : H p = none := by
      cases e : H p with
      | none => rfl
      | some u =>
        have := (d2.trans d3).but p u e (d3.bag.ne_b np)
        rw [np] at this; cases this
    refine k p _ ⟨D, D2, ws, ts, upd_same, ?_, ?_, lw, lt, hws, hts⟩ (d3.bag.ne_b np) (d5.put npH (d3.bag.ne_b np) (d3.bag.ne_l np))
    · rw [upd_ne pD, upd_ne pD]; exact hw3
    · rw [upd_ne pD2, upd_ne pD2]; exact ht
end
/-- a step of the law's own gcd -/
def gStep (x : Nat × Nat) : Nat × Nat := if x.2 = 0 then x else (x.2, x.1 % x.2)
def gIter : Nat → Nat × Nat → Nat × Nat
  | 0, x => x
  | n + 1, x => gStep (gIter n x)
theorem gIter_gcd (x : Nat × Nat) : ∀ n, Nat.gcd (gIter n x).1 (gIter n x).2 = Nat.gcd x.1 x.2
  | 0 => rfl
  | n + 1 => by
    have ih := gIter_gcd x n
    show Nat.gcd (gStep (gIter n x)).1 (gStep (gIter n x)).2 = _
    unfold gStep
    by_cases h : (gIter n x).2 = 0
    · rw [if_pos h]; exact ih
    · rw [if_neg h]
      show Nat.gcd (gIter n x).2 ((gIter n x).1 % (gIter n x).2) = _
      rw [← ih, Nat.gcd_comm (gIter n x).2, ← Nat.gcd_rec, Nat.gcd_comm]
theorem gIter_end : ∀ p, p < 21 → ∀ q, q < 21 → (gIter (2 * Builtin.Int.intBits (p : Nat) + 2 * Builtin.Int.intBits (q : Nat) + 4) (p, q)).2 = 0 := by decide +kernel
def spGcd : Sp := fun vs H Q _ => ∃ p q : Nat, vs = [.int (p : Nat), .int (q : Nat)] ∧ p < 21 ∧ q < 21 ∧ Q (.int (Nat.gcd p q : Nat)) H
section
variable {P : Program} {w : World} {K : PySem.W.Frag} {mg : Str → Option Value} {base : Heap}
theorem scGcd : FnScope ["_law_first", "_law_second", "_law_step", "_law_rest"] ["_law_first", "_law_second"] (defScope sGcd) := ⟨rfl, rfl, rfl, by decide +kernel, rfl, by decide +kernel, by decide +kernel⟩
theorem ok_gcd {f : Addr} {fd : FuncData} (F : Fun K "_law_gcd" "_law_gcd" sGcd f fd) (N : Nms mg) : FnOk P w K mg base CX0 1 f fd ["_law_first", "_law_second"] spGcd := by
  refine F.ok scGcd (fun vs H Q E h => ?_) (fun cdv A outer s H vs Q E hr h => ?_)
  · obtain ⟨p, q, rfl, _⟩ := h
    rfl
  · obtain ⟨p, q, rfl, hp, hq, k⟩ := h
    have nd := scGcd.nd
    refine ⟨_, pss_cons (ps_for PassesOwn.never rfl (pi_range1 rfl N.range (pa_cons (pe_op op_add (pe_op op_add (pe_op op_mul pe_int (pe_bits (pv 0))) (pe_op op_mul pe_int (pe_bits (pv 1)))) pe_int) pa_nil)) (pg_name (i := 2) nd rfl (Or.inl rfl))
        (pss_cons (ps_if (pt_cmpR op_eq (pv 1) pe_int (nomark _)) (pss_one ps_break) pss_nil)
        (pss_cons (ps_set (i := 3) nd rfl (Or.inl rfl) (pe_op op_modN (pe_callTy call_int1 (by rfl) N.int (by decide +kernel) (pa_cons (pv 0) pa_nil)) (pv 1)))
        (pss_cons (ps_set (i := 0) nd rfl (Or.inl rfl) (pv 1))
        (pss_one (ps_set (i := 1) nd rfl (Or.inl rfl) (pv 3)))))))
      (pss_one (ps_ret (pv 0))), ?_⟩
    have bp : ∀ p, p < 21 → Builtin.Int.intBits (p : Nat) ≤ 5 := by decide +kernel
    have hbp := bp p hp
    have hbq := bp q hq
    refine ⟨_, rfl, _, rfl, _, _, rfl, rfl, .inl ⟨by decide, by decide⟩, _, rfl, _, rfl, _, _, rfl, rfl, .inl ⟨by decide, by decide⟩, _, _, rfl, rfl, _, _, rfl, rfl, _, rfl, by omega, by omega, ?_⟩
    refine for_range (lo := 0) (n := 2 * Builtin.Int.intBits (p : Nat) + 2 * Builtin.Int.intBits (q : Nat) + 4) (fun i σ H2 => ∃ c d, σ = [some (.int (gIter i (p, q)).1), some (.int (gIter i (p, q)).2), c, d] ∧ H2 = H) ⟨none, none, rfl, rfl⟩ ?_ ?_
    · rintro i σ H2 hi ⟨c, d, rfl, rfl⟩
      refine ⟨_, rfl, rfl, _, rfl, ?_⟩
      have g := gIter_gcd (p, q) i
      by_cases hb : (gIter i (p, q)).2 = 0
      · have e0 : decide (V.int ((gIter i (p, q)).2 : Nat) = V.int 0) = true := decide_eq_true (by rw [hb]; rfl)
        show if decide (V.int ((gIter i (p, q)).2 : Nat) = V.int 0) = true then _ else _
        rw [e0]
        refine iteT ⟨_, rfl, ?_⟩
        have e1 : (gIter i (p, q)).1 = Nat.gcd p q := by rw [hb, Nat.gcd_zero_right] at g; exact g
        rw [e1]
        exact k
      · have e0 : decide (V.int ((gIter i (p, q)).2 : Nat) = V.int 0) = false := decide_eq_false (fun z => by injection z with z; omega)
        show if decide (V.int ((gIter i (p, q)).2 : Nat) = V.int 0) = true then _ else _
        rw [e0]
        refine iteF ⟨_, rfl, .inl ⟨_, rfl, _, rfl, _, _, rfl, rfl, by omega, ?_⟩⟩
        refine ⟨_, rfl, _, rfl, some (V.int (0 + (i : Int))), some (V.int ((((gIter i (p, q)).1 : Nat) : Int).fmod (((gIter i (p, q)).2 : Nat) : Int))), ?_, rfl⟩
        have e2 : gIter (i + 1) (p, q) = ((gIter i (p, q)).2, (gIter i (p, q)).1 % (gIter i (p, q)).2) := by
          show gStep (gIter i (p, q)) = _
          unfold gStep
          rw [if_neg hb]
        have e3 : (((gIter i (p, q)).1 : Nat) : Int).fmod ((gIter i (p, q)).2 : Nat) = (((gIter i (p, q)).1 % (gIter i (p, q)).2 : Nat) : Int) := by
          rw [Int.fmod_eq_emod_of_nonneg _ (by omega)]
          exact (Int.natCast_emod _ _).symm
        rw [e2]
        show _ = [some (V.int (((gIter i (p, q)).2 : Nat) : Int)), some (V.int (((gIter i (p, q)).1 % (gIter i (p, q)).2 : Nat) : Int)), _, _]
        rw [← e3]
        rfl
    · rintro σ H2 ⟨c, d, rfl, rfl⟩
      refine ⟨_, rfl, ?_⟩
      have g := gIter_gcd (p, q) (2 * Builtin.Int.intBits (p : Nat) + 2 * Builtin.Int.intBits (q : Nat) + 4)
      rw [gIter_end p hp q hq, Nat.gcd_zero_right] at g
      rw [g]
      exact k
end
end K06

/-! k06, the law, part d: right terms; leaves drawn. -/
namespace K06
open PySem L2 PySem.Spec PyProof.Rows
abbrev sFreeAtom : Stmt := top 72
/-- a term: a leaf, or a sign over one or two terms -/
inductive Tm where
  | leaf (w : Str) (ds : List PyData)
  | one (w : Str) (t : Tm)
  | two (w : Str) (t u : Tm)
def Tm.data : Tm → PyData
  | .leaf w ds => .tuple (.str w :: ds)
  | .one w t => .tuple [.str w, t.data]
  | .two w t u => .tuple [.str w, t.data, u.data]
def ones : List Str := ["some", "each", "main", "not"]
def twos : List Str := ["and", "or"]
/-- a right term -/
def Tm.Ok : Tm → Prop
  | .leaf w ds => signD (.tuple (.str w :: ds)) = true ∧ (∃ n, arity w = some (n, 0)) ∧ (∀ d ∈ ds, d.depth ≤ 1)
  | .one w t => w ∈ ones ∧ t.Ok
  | .two w t u => w ∈ twos ∧ t.Ok ∧ u.Ok
def Tm.height : Tm → Nat
  | .leaf _ _ => 0
  | .one _ t => t.height + 1
  | .two _ t u => max t.height u.height + 1
def Tm.many : Tm → Nat
  | .leaf _ _ => 1
  | .one _ t => t.many + 1
  | .two _ t u => t.many + u.many + 1
/-- at v a right term is to be read, of such a height and so many nodes at most -/
def TmAt (H : Hp) (v : V) (k n : Nat) : Prop := ∃ t : Tm, t.Ok ∧ t.height ≤ k ∧ t.many ≤ n ∧ Rp H v t.data
theorem sh_word {z : Str} (h : z.length ≤ 1000) (o : PyData.strOk z = true) : Sh z := ⟨h, o⟩
theorem BagL.lst_ne {H : Hp} {b l p : Addr} {xs : List V} (B : BagL H b l) (e : H p = some (.lst xs)) : p ≠ b := by
  obtain ⟨ns, a, r, m, c, hb, _⟩ := B
  exact ne_of e hb (by intro z; cases z)
theorem Dr.sq {b l : Addr} {H H' : Hp} (B : BagL H b l) (d : Dr b l H H') : Sq H H' := Sq.but B d.but
def spShareD : Sp := fun vs H Q _ => ∃ (b l lw : Addr) (ws : List Str), vs = [.ref b, .ref lw] ∧ H lw = some (.lst (ws.map V.str)) ∧ ws.length = 3 ∧ (∀ z ∈ ws, nmS z = true) ∧ BagL H b l ∧ ∀ v H', TmAt H' v 0 1 → Dr b l H H' → Q v H'
theorem share_sign {w z : Str} {p q : Nat} (hw : w ∈ (["over", "from"] : List Str)) (hz : nmS z = true) (hq1 : 1 ≤ q) (hq : q ≤ 20) (hp : p ≤ q) (hg : Nat.gcd p q = 1) : signD (.tuple [.str w, .str z, .int (p : Nat), .int (q : Nat)]) = true := by
  have hs : shD (.int (p : Nat)) (.int (q : Nat)) = true := by
    rw [shD_ints, decide_eq_true (by omega), decide_eq_true (by omega), decide_eq_true (by omega), decide_eq_true (by omega), Int.natAbs_natCast, Int.natAbs_natCast, hg]
    rfl
  have key : ∀ w ∈ (["over", "from"] : List Str), arity w = some (4, 0) ∧ inV (.str w) namedV = false ∧ inV (.str w) sharesV = true := by decide +kernel
  obtain ⟨k1, k2, k3⟩ := key w hw
  show (match arity w with | some (n, _) => decide (([PyData.str z, .int (p : Nat), .int (q : Nat)] : List PyData).length + 1 = n) && restD w [.str z, .int (p : Nat), .int (q : Nat)] | none => false) = true
  rw [k1]
  show (decide (3 + 1 = 4) && restD w [.str z, .int (p : Nat), .int (q : Nat)]) = true
  unfold restD
  rw [k2, k3, if_neg Bool.false_ne_true, if_pos rfl]
  show (decide (3 + 1 = 4) && (nmS z && shD (.int (p : Nat)) (.int (q : Nat)))) = true
  rw [hz, hs]
  rfl
section
variable {P : Program} {w : World} {K : PySem.W.Frag} {mg : Str → Option Value} {base : Heap}
theorem scAnyShare : FnScope ["_law_bag_here", "_law_stuffs", "_law_low", "_law_top", "_law_shared"] ["_law_bag_here", "_law_stuffs"] (defScope sAnyShare) := ⟨rfl, rfl, rfl, by decide +kernel, rfl, by decide +kernel, by decide +kernel⟩
theorem ok_anyshare {f fp fg fc : Addr} {fd fdp fdg fdc : FuncData} (F : Fun K "_law_any_share" "_law_any_share" sAnyShare f fd) (DP : Df K mg "_law_pick" sPick ["_law_bag_here", "_law_many"] fp fdp) (GP : FnOk P w K mg base CX0 1 fp fdp ["_law_bag_here", "_law_many"] spPick)
    (DG : Df K mg "_law_gcd" sGcd ["_law_first", "_law_second"] fg fdg) (GG : FnOk P w K mg base CX0 1 fg fdg ["_law_first", "_law_second"] spGcd) (DC : Df K mg "_law_choice" sChoice ["_law_bag_here", "_law_things"] fc fdc) (GC : FnOk P w K mg base CX0 2 fc fdc ["_law_bag_here", "_law_things"] (spChoice K)) :
    FnOk P w K mg base CX0 3 f fd ["_law_bag_here", "_law_stuffs"] spShareD := by
  refine F.ok scAnyShare (fun vs H Q E h => ?_) (fun cdv A outer s H vs Q E hr h => ?_)
  · obtain ⟨b, l, lw, ws, rfl, _⟩ := h
    rfl
  · obtain ⟨b, l, lw, ws, rfl, hlw, hw3, hws, B, k⟩ := h
    have nd := scAnyShare.nd
    have r1 := hr.mono (show 1 ≤ 2 by decide)
    refine ⟨_, pss_cons (ps_set (i := 2) nd rfl (Or.inl rfl) (pe_op op_add pe_int (pe_call GP r1 rfl DP.g DP.F.kp DP.b .nil pass0 (pa_cons (pv 0) (pa_cons pe_int pa_nil)))))
      (pss_cons (ps_set (i := 3) nd rfl (Or.inl rfl) (pe_call GP r1 rfl DP.g DP.F.kp DP.b .nil pass0 (pa_cons (pv 0) (pa_cons (pe_op op_add (pv 2) pe_int) pa_nil))))
      (pss_cons (ps_set (i := 4) nd rfl (Or.inl rfl) (pe_call GG r1 rfl DG.g DG.F.kp DG.b .nil pass0 (pa_cons (pv 3) (pa_cons (pv 2) pa_nil))))
      (pss_one (ps_ret (pe_tup (pa_cons (pe_call GC hr rfl DC.g DC.F.kp DC.b .nil pass0 (pa_cons (pv 0) (pa_cons (pe_lst (pa_cons pe_str (pa_cons pe_str pa_nil))) pa_nil)))
        (pa_cons (pe_call GC hr rfl DC.g DC.F.kp DC.b .nil pass0 (pa_cons (pv 0) (pa_cons (pv 1) pa_nil))) (pa_cons (pe_op op_fdivN (pv 3) (pv 4)) (pa_cons (pe_op op_fdivN (pv 2) (pv 4)) pa_nil))))))))), ?_⟩
    refine ⟨_, rfl, b, l, 20, rfl, by decide, by decide, B, fun r H1 r0 r1' B1 bt1 _ => ?_⟩
    obtain ⟨j, rfl⟩ := Int.eq_ofNat_of_zero_le r0
    have D1 : Dr b l H H1 := ⟨B1, bt1⟩
    refine ⟨_, _, rfl, rfl, ?_⟩
    refine ⟨_, rfl, _, rfl, _, _, rfl, rfl, b, l, _, rfl, by omega, by omega, B1, fun r H2 r2 r3 B2 bt2 _ => ?_⟩
    obtain ⟨p, rfl⟩ := Int.eq_ofNat_of_zero_le r2
    have D2 := D1.trans ⟨B2, bt2⟩
    have eq1 : (1 : Int) + (j : Int) = ((1 + j : Nat) : Int) := by omega
    refine ⟨_, rfl, _, rfl, p, 1 + j, by show [V.int (p : Nat), V.int (1 + (j : Int))] = _; rw [eq1], by omega, by omega, ?_⟩
    refine ⟨_, rfl, (by show 2 ≤ sizeLine; decide), fun L nL => ⟨b, l, L, _, rfl, upd_same, ?_, by decide, by decide, (D2.new nL).bag, fun x H3 hx B3 bt3 _ => ?_⟩⟩
    · exact B2.ne_b nL
    have D3 := (D2.new (o := .lst [.str "over", .str "from"]) nL).trans ⟨B3, bt3⟩
    have lwb : lw ≠ b := B.lst_ne hlw
    have hlw3 := D3.but _ _ hlw lwb
    refine ⟨_, rfl, _, rfl, b, l, lw, _, rfl, hlw3, lwb, by rw [List.length_map, hw3]; decide, by rw [List.length_map, hw3]; decide, B3, fun y H4 hy B4 bt4 _ => ?_⟩
    have D4 := D3.trans ⟨B4, bt4⟩
    obtain ⟨z, hz, rfl⟩ := List.mem_map.mp hy
    have hg0 : 0 < Nat.gcd p (1 + j) := Nat.gcd_pos_of_pos_right _ (by omega)
    have hg1 : Nat.gcd p (1 + j) ≤ 1 + j := Nat.le_of_dvd (by omega) (Nat.gcd_dvd_right _ _)
    generalize hgg : Nat.gcd p (1 + j) = g at hg0 hg1
    refine ⟨_, rfl, _, rfl, _, _, rfl, rfl, ⟨by omega, by omega⟩, _, rfl, _, rfl, _, _, rfl, rfl, ⟨by omega, by omega⟩, (by show 4 ≤ sizeLine; decide), fun t nt => ?_⟩
    have ew : ∃ w0 : Str, x = .str w0 ∧ w0 ∈ (["over", "from"] : List Str) := by
      rcases List.mem_cons.mp hx with q | q
      · exact ⟨"over", q, List.mem_cons_self⟩
      · exact ⟨"from", List.mem_singleton.mp q, List.mem_cons_of_mem _ List.mem_cons_self⟩
    obtain ⟨w0, rfl, hw0⟩ := ew
    have f1 : ((p : Nat) : Int).fdiv (g : Nat) = ((p / g : Nat) : Int) := by
      rw [Int.fdiv_eq_ediv_of_nonneg _ (by omega)]
      exact (Int.natCast_ediv _ _).symm
    have f2 : ((1 : Int) + (j : Nat)).fdiv (g : Nat) = (((1 + j) / g : Nat) : Int) := by
      rw [eq1, Int.fdiv_eq_ediv_of_nonneg _ (by omega)]
      exact (Int.natCast_ediv _ _).symm
    have cop : Nat.gcd (p / g) ((1 + j) / g) = 1 := by
      rw [Nat.gcd_div (by rw [← hgg]; exact Nat.gcd_dvd_left _ _) (by rw [← hgg]; exact Nat.gcd_dvd_right _ _), hgg]
      exact Nat.div_self hg0
    have le2 : (1 + j) / g ≤ 20 := Nat.le_trans (Nat.div_le_self _ _) (by omega)
    have ge1 : 1 ≤ (1 + j) / g := (Nat.one_le_div_iff hg0).mpr hg1
    have lep : p / g ≤ (1 + j) / g := Nat.div_le_div_right (by omega)
    have key : ∀ w ∈ (["over", "from"] : List Str), arity w = some (4, 0) ∧ w.length ≤ 1000 ∧ PyData.strOk w = true := by decide +kernel
    obtain ⟨k1, k2, k3⟩ := key w0 hw0
    refine k (.ref t) _ ⟨.leaf w0 [.str z, .int ((p / g : Nat) : Int), .int (((1 + j) / g : Nat) : Int)], ⟨share_sign hw0 (hws z hz) ge1 le2 lep cop, ⟨4, k1⟩, ?_⟩, Nat.le_refl _, Nat.le_refl _, ?_⟩ (D4.new nt)
    · intro d hd
      simp only [List.mem_cons, List.not_mem_nil, or_false] at hd
      rcases hd with rfl | rfl | rfl <;> simp [PyData.depth]
    · refine .tup upd_same (.cons (.str w0 ⟨k2, k3⟩) (.cons (.str z (nm_sh (hws z hz))) (.cons ?_ (.cons ?_ .nil))))
      · show Rp _ (.int (((p : Nat) : Int).fdiv (g : Nat))) _
        rw [f1]; exact .int _
      · show Rp _ (.int (((1 : Int) + (j : Nat)).fdiv (g : Nat))) _
        rw [f2]; exact .int _
end
end K06

/-! k06, the law, part e: a drawn leaf. -/
namespace K06
open PySem L2 PySem.Spec PyProof.Rows
theorem pool_words {H : Hp} {p lw lt : Addr} (h : H p = some (.dK (poolK lw lt))) : DGet H p (.str "words") (some (.ref lw)) := DGet.k (k := Sum.inr "words") h
theorem pool_titles {H : Hp} {p lw lt : Addr} (h : H p = some (.dK (poolK lw lt))) : DGet H p (.str "titles") (some (.ref lt)) := DGet.k (k := Sum.inr "titles") h
theorem named_sign {w z : Str} (hw : w ∈ (["form", "state"] : List Str)) (hz : nmS z = true) : signD (.tuple [.str w, .str z]) = true := by
  have key : ∀ w ∈ (["form", "state"] : List Str), arity w = some (2, 0) ∧ inV (.str w) namedV = true := by decide +kernel
  obtain ⟨k1, k2⟩ := key w hw
  show (match arity w with | some (n, _) => decide (([PyData.str z] : List PyData).length + 1 = n) && restD w [.str z] | none => false) = true
  rw [k1]
  show (decide (1 + 1 = 2) && restD w [.str z]) = true
  unfold restD
  rw [k2, if_pos rfl]
  exact hz
theorem parts_sign {n : Nat} (h1 : 1 ≤ n) (h2 : n ≤ 4) : signD (.tuple [.str "parts", .int (n : Nat)]) = true := by
  have : ∀ n, n < 5 → 1 ≤ n → signD (.tuple [.str "parts", .int (n : Nat)]) = true := by decide +kernel
  exact this n (by omega) h1
theorem falls_sign {z : Str} (hz : hdS z = true) : signD (.tuple [.str "falls", .str z]) = true := by
  show (match arity "falls" with | some (n, _) => decide (([PyData.str z] : List PyData).length + 1 = n) && restD "falls" [.str z] | none => false) = true
  rw [show arity "falls" = some (2, 0) by decide +kernel]
  show (decide (1 + 1 = 2) && restD "falls" [.str z]) = true
  unfold restD
  rw [show inV (.str "falls") namedV = false by decide, show inV (.str "falls") sharesV = false by decide, show decide (V.str "falls" = V.str "parts") = false by decide, show decide (V.str "falls" = V.str "falls") = true by decide]
  exact hz
def spAtom : Sp := fun vs H Q _ => ∃ (b l p : Addr), vs = [.ref b, .ref p] ∧ PoolAt H p ∧ p ≠ b ∧ BagL H b l ∧ ∀ v H', TmAt H' v 0 1 → Dr b l H H' → Q v H'
/-- a leaf of two entries, laid at t -/
theorem leaf2 {H : Hp} {t : Addr} {w : Str} {v : V} {d : PyData} (hw : Sh w) (ar : ∃ n, arity w = some (n, 0)) (sg : signD (.tuple [.str w, d]) = true) (dp : d.depth ≤ 1) (r : Rp H v d) (ht : H t = some (.tup [.str w, v])) : TmAt H (.ref t) 0 1 :=
  ⟨.leaf w [d], ⟨sg, ar, fun e he => by rw [List.mem_singleton.mp he]; exact dp⟩, Nat.le_refl _, Nat.le_refl _, .tup ht (.cons (.str w hw) (.cons r .nil))⟩
theorem leaf1 {H : Hp} {t : Addr} {w : Str} (hw : w ∈ (["any", "none", "mix"] : List Str)) (ht : H t = some (.tup [.str w])) : TmAt H (.ref t) 0 1 := by
  have key : ∀ w ∈ (["any", "none", "mix"] : List Str), signD (.tuple [.str w]) = true ∧ arity w = some (1, 0) ∧ w.length ≤ 1000 ∧ PyData.strOk w = true := by decide +kernel
  obtain ⟨k1, k2, k3, k4⟩ := key w hw
  exact ⟨.leaf w [], ⟨k1, ⟨1, k2⟩, fun e he => by cases he⟩, Nat.le_refl _, Nat.le_refl _, .tup ht (.cons (.str w ⟨k3, k4⟩) .nil)⟩
section
variable {P : Program} {w : World} {K : PySem.W.Frag} {mg : Str → Option Value} {base : Heap}
theorem scFreeAtom : FnScope ["_law_bag_here", "_law_pool_here", "_law_way"] ["_law_bag_here", "_law_pool_here"] (defScope sFreeAtom) := ⟨rfl, rfl, rfl, by decide +kernel, rfl, by decide +kernel, by decide +kernel⟩
theorem ok_freeatom {f fp fs fc : Addr} {fd fdp fds fdc : FuncData} (F : Fun K "_law_free_atom" "_law_free_atom" sFreeAtom f fd) (DP : Df K mg "_law_pick" sPick ["_law_bag_here", "_law_many"] fp fdp) (GP : FnOk P w K mg base CX0 1 fp fdp ["_law_bag_here", "_law_many"] spPick)
    (DS : Df K mg "_law_any_share" sAnyShare ["_law_bag_here", "_law_stuffs"] fs fds) (GS : FnOk P w K mg base CX0 3 fs fds ["_law_bag_here", "_law_stuffs"] spShareD) (DC : Df K mg "_law_choice" sChoice ["_law_bag_here", "_law_things"] fc fdc) (GC : FnOk P w K mg base CX0 2 fc fdc ["_law_bag_here", "_law_things"] (spChoice K)) :
    FnOk P w K mg base CX0 4 f fd ["_law_bag_here", "_law_pool_here"] spAtom := by
  refine F.ok scFreeAtom (fun vs H Q E h => ?_) (fun cdv A outer s H vs Q E hr h => ?_)
  · obtain ⟨b, l, p, rfl, _⟩ := h
    rfl
  · obtain ⟨b, l, p, rfl, hp, npb, B, k⟩ := h
    have nd := scFreeAtom.nd
    have hu := hu_of hr
    have r1 := hr.mono (show 1 ≤ 3 by decide)
    have r2 := hr.mono (show 2 ≤ 3 by decide)
    refine ⟨_, pss_cons (ps_set (i := 2) nd rfl (Or.inl rfl) (pe_call GP r1 rfl DP.g DP.F.kp DP.b .nil pass0 (pa_cons (pv 0) (pa_cons pe_int pa_nil))))
      (pss_cons (ps_if (pt_cmpR op_lt (pv 2) pe_int (nomark _)) (pss_one (ps_ret (pe_tup (pa_cons pe_str (pa_cons (pe_call GC r2 rfl DC.g DC.F.kp DC.b .nil pass0 (pa_cons (pv 0) (pa_cons (pe_dget hu (pv 1) pe_str (fun _ _ => rfl)) pa_nil))) pa_nil))))) pss_nil)
      (pss_cons (ps_if (pt_cmpR op_eq (pv 2) pe_int (nomark _)) (pss_one (ps_ret (pe_tup (pa_cons pe_str (pa_cons (pe_call GC r2 rfl DC.g DC.F.kp DC.b .nil pass0 (pa_cons (pv 0) (pa_cons (pe_dget hu (pv 1) pe_str (fun _ _ => rfl)) pa_nil))) pa_nil))))) pss_nil)
      (pss_cons (ps_if (pt_cmpR op_lt (pv 2) pe_int (nomark _)) (pss_one (ps_ret (pe_call GS hr rfl DS.g DS.F.kp DS.b .nil pass0 (pa_cons (pv 0) (pa_cons (pe_dget hu (pv 1) pe_str (fun _ _ => rfl)) pa_nil))))) pss_nil)
      (pss_cons (ps_if (pt_cmpR op_eq (pv 2) pe_int (nomark _)) (pss_one (ps_ret (pe_tup (pa_cons pe_str (pa_cons (pe_op op_add pe_int (pe_call GP r1 rfl DP.g DP.F.kp DP.b .nil pass0 (pa_cons (pv 0) (pa_cons pe_int pa_nil)))) pa_nil))))) pss_nil)
      (pss_cons (ps_if (pt_cmpR op_eq (pv 2) pe_int (nomark _)) (pss_one (ps_ret (pe_tup (pa_cons pe_str (pa_cons (pe_call GC r2 rfl DC.g DC.F.kp DC.b .nil pass0 (pa_cons (pv 0) (pa_cons (pe_dget hu (pv 1) pe_str (fun _ _ => rfl)) pa_nil))) pa_nil))))) pss_nil)
      (pss_one (ps_ret (pe_call GC r2 rfl DC.g DC.F.kp DC.b .nil pass0 (pa_cons (pv 0) (pa_cons (pe_lst (pa_cons (pe_tup (pa_cons pe_str pa_nil)) (pa_cons (pe_tup (pa_cons pe_str pa_nil)) (pa_cons (pe_tup (pa_cons pe_str pa_nil)) pa_nil)))) pa_nil)))))))))), ?_⟩
    refine ⟨_, rfl, b, l, 10, rfl, by decide, by decide, B, fun r H1 r0 r1' B1 bt1 _ => ?_⟩
    have D1 : Dr b l H H1 := ⟨B1, bt1⟩
    obtain ⟨lw, lt, ws, ts, h1, h2, h3, w3, t2, hws, hts⟩ := (hp.but B bt1 npb).ex
    have lwb := B1.lst_ne h2
    have ltb := B1.lst_ne h3
    have word : ∀ (w0 : Str) (R : V → Hp → Prop), Sh w0 → (∃ n, arity w0 = some (n, 0)) → (∀ z ∈ ws, signD (.tuple [.str w0, .str z]) = true) → (∀ v H', TmAt H' v 0 1 → Dr b l H H' → R v H') →
        ∀ (x : V) (H2 : Hp), x ∈ ws.map V.str → BagL H2 b l → But b H1 H2 → ∀ t, H2 t = none → R (.ref t) (upd H2 t (.tup [.str w0, x])) := fun w0 R hw ar sg kk x H2 hx B2 bt2 t nt => by
      obtain ⟨z, hz, rfl⟩ := List.mem_map.mp hx
      exact kk _ _ (leaf2 hw ar (sg z hz) (by simp [PyData.depth]) (.str z (nm_sh (hws z hz))) upd_same) ((D1.trans ⟨B2, bt2⟩).new nt)
    refine ⟨_, rfl, _, _, rfl, rfl, _, rfl, ?_⟩
    refine ite2 (fun _ => ?_) (fun c1 => ?_)
    · refine ⟨_, rfl, _, rfl, p, .ref lw, rfl, pool_words h1, b, l, lw, _, rfl, h2, lwb, by rw [List.length_map, w3]; decide, by rw [List.length_map, w3]; decide, B1, fun x H2 hx B2 bt2 _ => ⟨(by show 2 ≤ sizeLine; decide), fun t nt => ?_⟩⟩
      exact word "form" Q ⟨by decide +kernel, by decide +kernel⟩ ⟨2, by decide +kernel⟩ (fun z hz => named_sign (by decide) (hws z hz)) k x H2 hx B2 bt2 t nt
    refine ⟨_, rfl, rfl, _, rfl, ?_⟩
    refine ite2 (fun _ => ?_) (fun c2 => ?_)
    · refine ⟨_, rfl, _, rfl, p, .ref lw, rfl, pool_words h1, b, l, lw, _, rfl, h2, lwb, by rw [List.length_map, w3]; decide, by rw [List.length_map, w3]; decide, B1, fun x H2 hx B2 bt2 _ => ⟨(by show 2 ≤ sizeLine; decide), fun t nt => ?_⟩⟩
      exact word "state" Q ⟨by decide +kernel, by decide +kernel⟩ ⟨2, by decide +kernel⟩ (fun z hz => named_sign (by decide) (hws z hz)) k x H2 hx B2 bt2 t nt
    refine ⟨_, rfl, _, _, rfl, rfl, _, rfl, ?_⟩
    refine ite2 (fun _ => ?_) (fun c3 => ?_)
    · refine ⟨_, rfl, _, rfl, p, .ref lw, rfl, pool_words h1, b, l, lw, ws, rfl, h2, w3, hws, B1, fun v H2 tv D2 => ?_⟩
      exact k v H2 tv (D1.trans D2)
    refine ⟨_, rfl, rfl, _, rfl, ?_⟩
    refine ite2 (fun _ => ?_) (fun c4 => ?_)
    · refine ⟨_, rfl, b, l, 4, rfl, by decide, by decide, B1, fun r H2 q0 q1 B2 bt2 _ => ⟨_, _, rfl, rfl, (by show 2 ≤ sizeLine; decide), fun t nt => ?_⟩⟩
      obtain ⟨j, rfl⟩ := Int.eq_ofNat_of_zero_le q0
      have e1 : (1 : Int) + (j : Nat) = ((1 + j : Nat) : Int) := by omega
      refine k _ _ (leaf2 (d := .int ((1 + j : Nat) : Int)) ⟨by decide +kernel, by decide +kernel⟩ ⟨2, by decide +kernel⟩ (parts_sign (by omega) (by omega)) (by simp [PyData.depth]) ?_ upd_same) ((D1.trans ⟨B2, bt2⟩).new nt)
      show Rp _ (.int (1 + (j : Nat))) _
      rw [e1]; exact .int _
    refine ⟨_, rfl, rfl, _, rfl, ?_⟩
    refine ite2 (fun _ => ?_) (fun c5 => ?_)
    · refine ⟨_, rfl, _, rfl, p, .ref lt, rfl, pool_titles h1, b, l, lt, _, rfl, h3, ltb, by rw [List.length_map, t2]; decide, by rw [List.length_map, t2]; decide, B1, fun x H2 hx B2 bt2 _ => ⟨(by show 2 ≤ sizeLine; decide), fun t nt => ?_⟩⟩
      obtain ⟨z, hz, rfl⟩ := List.mem_map.mp hx
      exact k _ _ (leaf2 ⟨by decide +kernel, by decide +kernel⟩ ⟨2, by decide +kernel⟩ (falls_sign (hts z hz)) (by simp [PyData.depth]) (.str z (hd_sh (hts z hz))) upd_same) ((D1.trans ⟨B2, bt2⟩).new nt)
    refine ⟨_, rfl, (by show 1 ≤ sizeLine; decide), fun a1 n1 => ⟨(by show 1 ≤ sizeLine; decide), fun a2 n2 => ⟨(by show 1 ≤ sizeLine; decide), fun a3 n3 => ⟨(by show 3 ≤ sizeLine; decide), fun L nL => ?_⟩⟩⟩⟩
    have D2 := (((D1.new (o := .tup [.str "any"]) n1).new (o := .tup [.str "none"]) n2).new (o := .tup [.str "mix"]) n3).new (o := .lst [.ref a1, .ref a2, .ref a3]) nL
    have sL := same_new (o := .lst [.ref a1, .ref a2, .ref a3]) Same.rfl' nL
    have t3 := sL _ _ (upd_same (H := upd (upd H1 a1 (.tup [.str "any"])) a2 (.tup [.str "none"])) (a := a3) (o := .tup [.str "mix"]))
    have s3 := same_new (o := .tup [.str "mix"]) Same.rfl' n3
    have t2' := sL _ _ (s3 _ _ (upd_same (H := upd H1 a1 (.tup [.str "any"])) (a := a2) (o := .tup [.str "none"])))
    have s2 := same_new (o := .tup [.str "none"]) Same.rfl' n2
    have t1 := sL _ _ (s3 _ _ (s2 _ _ (upd_same (H := H1) (a := a1) (o := .tup [.str "any"]))))
    refine ⟨b, l, L, _, rfl, upd_same, D2.bag.lst_ne upd_same, (by show 0 < 3; decide), (by show 3 < 1000; decide), D2.bag, fun x H2 hx B2 bt2 _ => ?_⟩
    have sq := Sq.but D2.bag bt2
    have D3 := D2.trans ⟨B2, bt2⟩
    simp only [List.mem_cons, List.not_mem_nil, or_false] at hx
    rcases hx with rfl | rfl | rfl
    · exact k _ _ (leaf1 (by decide) (sq.1 _ _ t1)) D3
    · exact k _ _ (leaf1 (by decide) (sq.1 _ _ t2')) D3
    · exact k _ _ (leaf1 (by decide) (sq.1 _ _ t3)) D3
end
end K06

/-! k06, the law, part f: drawn terms. -/
namespace K06
open PySem L2 PySem.Spec PyProof.Rows
abbrev sFreeTerm : Stmt := top 73
theorem TmAt.mono {H H' : Hp} (s : Sq H H') {v : V} {k n k' n' : Nat} (h : TmAt H v k n) (hk : k ≤ k') (hn : n ≤ n') : TmAt H' v k' n' := by
  obtain ⟨t, a, b, c, d⟩ := h
  exact ⟨t, a, Nat.le_trans b hk, Nat.le_trans c hn, d.mono s⟩
theorem one_word {w : Str} (h : w ∈ ones) : Sh w ∧ arity w = some (2, 1) := by
  have : ∀ w ∈ ones, (w.length ≤ 1000 ∧ PyData.strOk w = true) ∧ arity w = some (2, 1) := by decide +kernel
  exact this w h
theorem two_word {w : Str} (h : w ∈ twos) : Sh w ∧ arity w = some (3, 2) := by
  have : ∀ w ∈ twos, (w.length ≤ 1000 ∧ PyData.strOk w = true) ∧ arity w = some (3, 2) := by decide +kernel
  exact this w h
theorem tm_one {H : Hp} {t : Addr} {w : Str} {v : V} {k n : Nat} (hw : w ∈ ones) (h : TmAt H v k n) (ht : H t = some (.tup [.str w, v])) : TmAt H (.ref t) (k + 1) (n + 1) := by
  obtain ⟨x, a, b, c, d⟩ := h
  exact ⟨.one w x, ⟨hw, a⟩, Nat.succ_le_succ b, Nat.succ_le_succ c, .tup ht (.cons (.str w (one_word hw).1) (.cons d .nil))⟩
theorem tm_two {H : Hp} {t : Addr} {w : Str} {v u : V} {k n m : Nat} (hw : w ∈ twos) (h : TmAt H v k n) (g : TmAt H u k m) (ht : H t = some (.tup [.str w, v, u])) : TmAt H (.ref t) (k + 1) (n + m + 1) := by
  obtain ⟨x, a, b, c, d⟩ := h
  obtain ⟨y, a2, b2, c2, d2⟩ := g
  exact ⟨.two w x y, ⟨hw, a, a2⟩, Nat.succ_le_succ (Nat.max_le.mpr ⟨b, b2⟩), Nat.succ_le_succ (Nat.add_le_add c c2), .tup ht (.cons (.str w (two_word hw).1) (.cons d (.cons d2 .nil)))⟩
/-- drawn terms of depth below n -/
def spTm (n : Nat) : Sp := fun vs H Q _ => ∃ (b l p : Addr) (k : Nat), vs = [.ref b, .ref p, .int (k : Nat)] ∧ k < n ∧ PoolAt H p ∧ p ≠ b ∧ BagL H b l ∧ ∀ v H', TmAt H' v k (2 ^ (k + 1) - 1) → Dr b l H H' → Q v H'
theorem PoolAt.dr {H H' : Hp} {p b l : Addr} (B : BagL H b l) (x : PoolAt H p) (d : Dr b l H H') (n : p ≠ b) : PoolAt H' p := x.but B d.but n
theorem pow1 (k : Nat) : 1 ≤ 2 ^ (k + 1) - 1 := by
  have : 1 ≤ 2 ^ k := Nat.one_le_two_pow
  have e : 2 ^ (k + 1) = 2 ^ k * 2 := Nat.pow_succ 2 k
  omega
theorem pow_one (e : Nat) : 2 ^ (e + 1) - 1 + 1 ≤ 2 ^ (e + 1 + 1) - 1 := by
  have : 1 ≤ 2 ^ (e + 1) := Nat.one_le_two_pow
  have e : 2 ^ (e + 1 + 1) = 2 ^ (e + 1) * 2 := Nat.pow_succ 2 (e + 1)
  omega
theorem pow_two' (e : Nat) : (2 ^ (e + 1) - 1) + (2 ^ (e + 1) - 1) + 1 ≤ 2 ^ (e + 1 + 1) - 1 := by
  have : 1 ≤ 2 ^ (e + 1) := Nat.one_le_two_pow
  have e : 2 ^ (e + 1 + 1) = 2 ^ (e + 1) * 2 := Nat.pow_succ 2 (e + 1)
  omega
section
variable {P : Program} {w : World} {K : PySem.W.Frag} {mg : Str → Option Value} {base : Heap}
theorem fn_false {k : Nat} {f : Addr} {fd : FuncData} {ps : List Str} {sp : Sp} (h : ∀ vs H Q E, ¬ sp vs H Q E) : FnOk P w K mg base CX0 k f fd ps sp where
  len := fun vs H Q E q => (h vs H Q E q).elim
  run := fun A outer s H args us vs Q E _ _ _ _ q => (h _ _ _ _ q).elim
theorem scFreeTerm : FnScope ["_law_bag_here", "_law_pool_here", "_law_depth", "_law_way", "_law_first"] ["_law_bag_here", "_law_pool_here", "_law_depth"] (defScope sFreeTerm) := ⟨rfl, rfl, rfl, by decide +kernel, rfl, by decide +kernel, by decide +kernel⟩
theorem ok_freeterm {f fp fa fo fc : Addr} {fd fdp fda fdo fdc : FuncData} (DF : Df K mg "_law_free_term" sFreeTerm ["_law_bag_here", "_law_pool_here", "_law_depth"] f fd) (DP : Df K mg "_law_pick" sPick ["_law_bag_here", "_law_many"] fp fdp) (GP : FnOk P w K mg base CX0 1 fp fdp ["_law_bag_here", "_law_many"] spPick)
    (DA : Df K mg "_law_free_atom" sFreeAtom ["_law_bag_here", "_law_pool_here"] fa fda) (GA : FnOk P w K mg base CX0 4 fa fda ["_law_bag_here", "_law_pool_here"] spAtom) (DO : Df K mg "_law_one_in" sOneIn ["_law_bag_here", "_law_many"] fo fdo) (GO : FnOk P w K mg base CX0 2 fo fdo ["_law_bag_here", "_law_many"] spOneIn)
    (DC : Df K mg "_law_choice" sChoice ["_law_bag_here", "_law_things"] fc fdc) (GC : FnOk P w K mg base CX0 2 fc fdc ["_law_bag_here", "_law_things"] (spChoice K)) :
    ∀ n, FnOk P w K mg base CX0 (4 + n) f fd ["_law_bag_here", "_law_pool_here", "_law_depth"] (spTm n)
  | 0 => fn_false fun vs H Q E ⟨_, _, _, _, _, h, _⟩ => absurd h (Nat.not_lt_zero _)
  | n + 1 => by
    have GR := ok_freeterm DF DP GP DA GA DO GO DC GC n
    refine DF.F.ok (k := 4 + n) scFreeTerm (fun vs H Q E h => ?_) (fun cdv A outer s H vs Q E hr h => ?_)
    · obtain ⟨b, l, p, k, rfl, _⟩ := h
      rfl
    · obtain ⟨b, l, p, dp, rfl, hd, hp, npb, B, k⟩ := h
      have nd := scFreeTerm.nd
      have r1 := hr.mono (show 1 ≤ 4 + n by omega)
      have r2 := hr.mono (show 2 ≤ 4 + n by omega)
      have r4 := hr.mono (show 4 ≤ 4 + n by omega)
      refine ⟨_, pss_cons (ps_if (PW.pt (pw_or (pt_cmpR op_eq (pv 2) pe_int (nomark _)) (pw_or1 (pt_val (pe_call GO r2 rfl DO.g DO.F.kp DO.b .nil pass0 (pa_cons (pv 0) (pa_cons pe_int pa_nil))))))) (pss_one (ps_ret (pe_call GA r4 rfl DA.g DA.F.kp DA.b .nil pass0 (pa_cons (pv 0) (pa_cons (pv 1) pa_nil))))) pss_nil)
        (pss_cons (ps_set (i := 3) nd rfl (Or.inl rfl) (pe_call GP r1 rfl DP.g DP.F.kp DP.b .nil pass0 (pa_cons (pv 0) (pa_cons pe_int pa_nil))))
        (pss_cons (ps_if (pt_cmpR op_lt (pv 3) pe_int (nomark _)) (pss_one (ps_ret (pe_tup (pa_cons (pe_call GC r2 rfl DC.g DC.F.kp DC.b .nil pass0 (pa_cons (pv 0) (pa_cons (pe_lst (pa_cons pe_str (pa_cons pe_str (pa_cons pe_str pa_nil)))) pa_nil)))
            (pa_cons (pe_call GR hr rfl DF.g DF.F.kp DF.b .nil pass0 (pa_cons (pv 0) (pa_cons (pv 1) (pa_cons (pe_op op_sub (pv 2) pe_int) pa_nil)))) pa_nil))))) pss_nil)
        (pss_cons (ps_if (pt_cmpR op_lt (pv 3) pe_int (nomark _)) (pss_one (ps_ret (pe_tup (pa_cons pe_str (pa_cons (pe_call GR hr rfl DF.g DF.F.kp DF.b .nil pass0 (pa_cons (pv 0) (pa_cons (pv 1) (pa_cons (pe_op op_sub (pv 2) pe_int) pa_nil)))) pa_nil))))) pss_nil)
        (pss_cons (ps_set (i := 4) nd rfl (Or.inl rfl) (pe_call GR hr rfl DF.g DF.F.kp DF.b .nil pass0 (pa_cons (pv 0) (pa_cons (pv 1) (pa_cons (pe_op op_sub (pv 2) pe_int) pa_nil)))))
        (pss_one (ps_ret (pe_tup (pa_cons (pe_call GC r2 rfl DC.g DC.F.kp DC.b .nil pass0 (pa_cons (pv 0) (pa_cons (pe_lst (pa_cons pe_str (pa_cons pe_str pa_nil))) pa_nil)))
            (pa_cons (pv 4) (pa_cons (pe_call GR hr rfl DF.g DF.F.kp DF.b .nil pass0 (pa_cons (pv 0) (pa_cons (pv 1) (pa_cons (pe_op op_sub (pv 2) pe_int) pa_nil)))) pa_nil)))))))))), ?_⟩
      have lw : ∀ (H1 : Hp) (D1 : Dr b l H H1), PoolAt H1 p := fun H1 D1 => hp.dr B D1 npb
      refine ⟨_, rfl, rfl, _, rfl, ?_⟩
      refine ite2 (fun _ => ?_) (fun c0 => ?_)
      · exact ⟨_, rfl, _, rfl, b, l, p, rfl, hp, npb, B, fun v H1 tv D1 => k v H1 (tv.mono (Sq.refl _) (Nat.zero_le _) (pow1 dp)) D1⟩
      obtain ⟨e, rfl⟩ : ∃ e, dp = e + 1 := by
        cases dp with
        | zero => exact absurd (decide_eq_true rfl) c0
        | succ e => exact ⟨e, rfl⟩
      have he : e < n := by omega
      have sub1 : ((e + 1 : Nat) : Int) - 1 = (e : Nat) := by omega
      refine ⟨_, rfl, b, l, 6, rfl, by decide, by decide, B, fun r H1 B1 bt1 _ => ⟨_, rfl, ?_⟩⟩
      have D1 : Dr b l H H1 := ⟨B1, bt1⟩
      refine ite2 (fun _ => ?_) (fun _ => ?_)
      · exact ⟨_, rfl, _, rfl, b, l, p, rfl, lw _ D1, npb, B1, fun v H2 tv D2 => k v H2 (tv.mono (Sq.refl _) (Nat.zero_le _) (pow1 _)) (D1.trans D2)⟩
      refine ⟨_, rfl, b, l, 9, rfl, by decide, by decide, B1, fun r H2 _ _ B2 bt2 _ => ?_⟩
      have D2 := D1.trans ⟨B2, bt2⟩
      refine ⟨_, rfl, _, _, rfl, rfl, _, rfl, ?_⟩
      refine ite2 (fun _ => ?_) (fun _ => ?_)
      · refine ⟨_, rfl, (by show 3 ≤ sizeLine; decide), fun L nL => ⟨b, l, L, _, rfl, upd_same, B2.ne_b nL, (by show 0 < 3; decide), (by show 3 < 1000; decide), (D2.new nL).bag, fun x H3 hx B3 bt3 _ => ?_⟩⟩
        have D3 := (D2.new (o := .lst [.str "some", .str "each", .str "main"]) nL).trans ⟨B3, bt3⟩
        refine ⟨_, rfl, _, rfl, _, rfl, _, _, rfl, rfl, b, l, p, e, by show [V.ref b, V.ref p, V.int (((e + 1 : Nat) : Int) - 1)] = _; rw [sub1], he, lw _ D3, npb, B3, fun v H4 tv D4 => ⟨(by show 2 ≤ sizeLine; decide), fun t nt => ?_⟩⟩
        obtain ⟨w0, rfl, hw0⟩ : ∃ w0 : Str, x = .str w0 ∧ w0 ∈ ones := by
          simp only [List.mem_cons, List.not_mem_nil, or_false] at hx
          rcases hx with rfl | rfl | rfl
          · exact ⟨_, rfl, by decide⟩
          · exact ⟨_, rfl, by decide⟩
          · exact ⟨_, rfl, by decide⟩
        have D5 := (D3.trans D4).new (o := .tup [.str w0, v]) nt
        exact k _ _ (TmAt.mono (Sq.refl _) (tm_one hw0 (tv.mono (Sq.of (same_new Same.rfl' nt)) (Nat.le_refl _) (Nat.le_refl _)) upd_same) (Nat.le_refl _) (pow_one e)) D5
      refine ⟨_, rfl, _, _, rfl, rfl, _, rfl, ?_⟩
      refine ite2 (fun _ => ?_) (fun _ => ?_)
      · refine ⟨_, rfl, _, rfl, _, rfl, _, _, rfl, rfl, b, l, p, e, by show [V.ref b, V.ref p, V.int (((e + 1 : Nat) : Int) - 1)] = _; rw [sub1], he, lw _ D2, npb, B2, fun v H4 tv D4 => ⟨(by show 2 ≤ sizeLine; decide), fun t nt => ?_⟩⟩
        have D5 := (D2.trans D4).new (o := .tup [.str "not", v]) nt
        exact k _ _ (TmAt.mono (Sq.refl _) (tm_one (w := "not") (by decide) (tv.mono (Sq.of (same_new Same.rfl' nt)) (Nat.le_refl _) (Nat.le_refl _)) upd_same) (Nat.le_refl _) (pow_one e)) D5
      refine ⟨_, rfl, _, rfl, _, rfl, _, _, rfl, rfl, b, l, p, e, by show [V.ref b, V.ref p, V.int (((e + 1 : Nat) : Int) - 1)] = _; rw [sub1], he, lw _ D2, npb, B2, fun v H3 tv D3 => ?_⟩
      have D3' := D2.trans D3
      refine ⟨_, rfl, (by show 2 ≤ sizeLine; decide), fun L nL => ⟨b, l, L, _, rfl, upd_same, D3.bag.ne_b nL, (by show 0 < 2; decide), (by show 2 < 1000; decide), (D3'.new nL).bag, fun x H4 hx B4 bt4 _ => ?_⟩⟩
      have D4 := (D3'.new (o := .lst [.str "and", .str "or"]) nL).trans ⟨B4, bt4⟩
      have sq34 : Sq H3 H4 := (Sq.of (same_new Same.rfl' nL)).trans (Sq.but (D3'.new nL).bag bt4)
      refine ⟨_, rfl, _, rfl, _, rfl, _, rfl, _, _, rfl, rfl, b, l, p, e, by show [V.ref b, V.ref p, V.int (((e + 1 : Nat) : Int) - 1)] = _; rw [sub1], he, lw _ D4, npb, B4, fun u H5 tu D5 => ⟨(by show 3 ≤ sizeLine; decide), fun t nt => ?_⟩⟩
      obtain ⟨w0, rfl, hw0⟩ : ∃ w0 : Str, x = .str w0 ∧ w0 ∈ twos := by
        simp only [List.mem_cons, List.not_mem_nil, or_false] at hx
        rcases hx with rfl | rfl
        · exact ⟨_, rfl, by decide⟩
        · exact ⟨_, rfl, by decide⟩
      have D6 := (D4.trans D5).new (o := .tup [.str w0, v, u]) nt
      have sn := Sq.of (same_new (o := .tup [.str w0, v, u]) (Same.rfl' (H := H5)) nt)
      exact k _ _ (TmAt.mono (Sq.refl _) (tm_two hw0 (tv.mono ((sq34.trans (D5.sq B4)).trans sn) (Nat.le_refl _) (Nat.le_refl _)) (tu.mono sn (Nat.le_refl _) (Nat.le_refl _)) upd_same) (Nat.le_refl _) (pow_two' e)) D6
end
end K06

/-! k06, the law, part g: right terms walked; the first bad place of a spoilt one. -/
namespace K06
open PySem L2 PySem.Spec PyProof.Rows
theorem one_rest {w : Str} (h : w ∈ ones) (ds : List PyData) : restD w ds = true := by
  have : ∀ w ∈ ones, inV (.str w) namedV = false ∧ inV (.str w) sharesV = false ∧ decide (V.str w = V.str "parts") = false ∧ decide (V.str w = V.str "falls") = false := by decide +kernel
  obtain ⟨a, b, c, d⟩ := this w h
  unfold restD
  rw [a, b, c, d]
  rfl
theorem two_rest {w : Str} (h : w ∈ twos) (ds : List PyData) : restD w ds = true := by
  have : ∀ w ∈ twos, inV (.str w) namedV = false ∧ inV (.str w) sharesV = false ∧ decide (V.str w = V.str "parts") = false ∧ decide (V.str w = V.str "falls") = false := by decide +kernel
  obtain ⟨a, b, c, d⟩ := this w h
  unfold restD
  rw [a, b, c, d]
  rfl
theorem sign_eq {w : Str} {ds : List PyData} {n m : Nat} (h : arity w = some (n, m)) : signD (.tuple (.str w :: ds)) = (decide (ds.length + 1 = n) && restD w ds) := by
  show (match arity w with | some (n, _) => decide (ds.length + 1 = n) && restD w ds | none => false) = _
  rw [h]
theorem one_sign {w : Str} (h : w ∈ ones) (d : PyData) : signD (.tuple [.str w, d]) = true := by
  rw [sign_eq (one_word h).2, one_rest h]
  rfl
theorem two_sign {w : Str} (h : w ∈ twos) (d e : PyData) : signD (.tuple [.str w, d, e]) = true := by
  rw [sign_eq (two_word h).2, two_rest h]
  rfl
theorem one_beneath {w : Str} (h : w ∈ ones) (d : PyData) : beneath (.tuple [.str w, d]) = [d] := by
  rw [beneath_eq (one_word h).2]
  rfl
theorem two_beneath {w : Str} (h : w ∈ twos) (d e : PyData) : beneath (.tuple [.str w, d, e]) = [d, e] := by
  rw [beneath_eq (two_word h).2]
  rfl
theorem leaf_beneath {w : Str} {ds : List PyData} (h : ∃ n, arity w = some (n, 0)) : beneath (.tuple (.str w :: ds)) = [] := by
  obtain ⟨n, h⟩ := h
  rw [beneath_eq h, Nat.sub_zero, List.drop_length]
/-- the terms in a right term, in the order of a walk -/
def Tm.walk : Tm → List PyData
  | .leaf w ds => [.tuple (.str w :: ds)]
  | .one w t => .tuple [.str w, t.data] :: t.walk
  | .two w t u => .tuple [.str w, t.data, u.data] :: (t.walk ++ u.walk)
theorem Tm.walk_len : ∀ t : Tm, t.walk.length = t.many
  | .leaf _ _ => rfl
  | .one w t => by show t.walk.length + 1 = t.many + 1; rw [t.walk_len]
  | .two w t u => by show (t.walk ++ u.walk).length + 1 = t.many + u.many + 1; rw [List.length_append, t.walk_len, u.walk_len]
theorem Tm.pos : ∀ t : Tm, 1 ≤ t.many
  | .leaf _ _ => Nat.le_refl _
  | .one w t => Nat.le_add_left _ _
  | .two w t u => Nat.le_add_left _ _
theorem Tm.nodes : ∀ (t : Tm), t.Ok → ∀ {n : Nat} {r l : List PyData}, r.length + t.many ≤ 900 → NodesN n r l → NodesN (n + t.many) (t.data :: r) (t.walk ++ l)
  | .leaf w ds, ⟨a, b, _⟩, n, r, l, hr, h => by
    have hr' : r.length + 1 ≤ 900 := hr
    refine .ok a (by omega) ?_
    rw [show beneath (Tm.leaf w ds).data = [] from leaf_beneath b]
    exact h
  | .one w t, ⟨a, b⟩, n, r, l, hr, h => by
    have hr' : r.length + (t.many + 1) ≤ 900 := hr
    refine NodesN.ok (n := n + t.many) (one_sign a _) (by omega) ?_
    rw [show beneath (Tm.one w t).data = [t.data] from one_beneath a _]
    exact Tm.nodes t b (r := r) (by omega) h
  | .two w t u, ⟨a, b, c⟩, n, r, l, hr, h => by
    have hr' : r.length + (t.many + u.many + 1) ≤ 900 := hr
    have e : n + (t.many + u.many + 1) = (n + u.many + t.many) + 1 := by omega
    show NodesN (n + (t.many + u.many + 1)) _ (.tuple [.str w, t.data, u.data] :: ((t.walk ++ u.walk) ++ l))
    rw [e, List.append_assoc]
    refine NodesN.ok (two_sign a _ _) (by omega) ?_
    rw [show beneath (Tm.two w t u).data = [t.data, u.data] from two_beneath a _ _]
    exact Tm.nodes t b (by show r.length + 1 + t.many ≤ 900; omega) (Tm.nodes u c (r := r) (by omega) h)
/-- a right term with its place on the stack: the walk goes past it -/
theorem Tm.past : ∀ (t : Tm), t.Ok → ∀ {n : Nat} {r : List (List Nat × PyData)} {p : List Nat} {o : Option (List Nat)}, r.length + t.many ≤ 900 → p.length + t.height ≤ 900 → BadN n r o → BadN (n + t.many) ((p, t.data) :: r) o
  | .leaf w ds, ⟨a, b, _⟩, n, r, p, o, hr, hp, h => by
    have hr' : r.length + 1 ≤ 900 := hr
    refine BadN.ok (n := n) a (by omega) (by omega) ?_
    rw [show beneath (Tm.leaf w ds).data = [] from leaf_beneath b]
    exact h
  | .one w t, ⟨a, b⟩, n, r, p, o, hr, hp, h => by
    have hr' : r.length + (t.many + 1) ≤ 900 := hr
    have hp' : p.length + (t.height + 1) ≤ 900 := hp
    refine BadN.ok (n := n + t.many) (one_sign a _) (by omega) (by omega) ?_
    rw [show beneath (Tm.one w t).data = [t.data] from one_beneath a _]
    exact Tm.past t b (r := r) (by omega) (by rw [List.length_append, List.length_singleton]; omega) h
  | .two w t u, ⟨a, b, c⟩, n, r, p, o, hr, hp, h => by
    have hr' : r.length + (t.many + u.many + 1) ≤ 900 := hr
    have hp' : p.length + (max t.height u.height + 1) ≤ 900 := hp
    have e : n + (t.many + u.many + 1) = (n + u.many + t.many) + 1 := by omega
    show BadN (n + (t.many + u.many + 1)) _ _
    rw [e]
    refine BadN.ok (two_sign a _ _) (by omega) (by omega) ?_
    rw [show beneath (Tm.two w t u).data = [t.data, u.data] from two_beneath a _ _]
    have l1 : (p ++ [0]).length + t.height ≤ 900 := by rw [List.length_append, List.length_singleton]; omega
    have l2 : (p ++ [1]).length + u.height ≤ 900 := by rw [List.length_append, List.length_singleton]; omega
    exact Tm.past t b (by show r.length + 1 + t.many ≤ 900; omega) l1 (Tm.past u c (r := r) (by omega) l2 h)
/-- how many part signs stand above one another -/
def Tm.look : Tm → Nat
  | .leaf _ _ => 0
  | .one w t => if inV (.str w) psV = true then t.look + 1 else t.look
  | .two _ t u => max t.look u.look
theorem leaf_here {w : Str} {ds : List PyData} (h : ∃ n, arity w = some (n, 0)) (a : Int) : hereOf (.tuple (.str w :: ds)) a = a := by
  obtain ⟨n, h⟩ := h
  have key : ∀ p ∈ arities, p.2.2 = 0 → inV (.str p.1) psV = false := by decide +kernel
  have := key _ (arity_mem h) rfl
  show (if inV (.str w) psV = true then a + 1 else a) = a
  rw [this, if_neg Bool.false_ne_true]
theorem two_here {w : Str} {ds : List PyData} (h : w ∈ twos) (a : Int) : hereOf (.tuple (.str w :: ds)) a = a := by
  have key : ∀ w ∈ twos, inV (.str w) psV = false := by decide +kernel
  show (if inV (.str w) psV = true then a + 1 else a) = a
  rw [key w h, if_neg Bool.false_ne_true]
theorem up_eq (g h : Int) : up g h = max g h := by
  unfold up
  split <;> omega
theorem Tm.looks : ∀ (t : Tm), t.Ok → ∀ {n : Nat} {r : List (PyData × Int)} {a g f : Int}, r.length + t.many ≤ 900 → LookN n r (max g (a + (t.look : Nat))) f → LookN (n + t.many) ((t.data, a) :: r) g f
  | .leaf w ds, ⟨s, b, _⟩, n, r, a, g, f, hr, h => by
    have hr' : r.length + 1 ≤ 900 := hr
    refine LookN.ok (n := n) s (by omega) ?_
    rw [show beneath (Tm.leaf w ds).data = [] from leaf_beneath b, up_eq]
    rw [show hereOf (Tm.leaf w ds).data a = a from leaf_here b a]
    have e : (a + ((Tm.leaf w ds).look : Nat) : Int) = a := by show a + ((0 : Nat) : Int) = a; omega
    rw [e] at h
    exact h
  | .one w t, ⟨s, b⟩, n, r, a, g, f, hr, h => by
    have hr' : r.length + (t.many + 1) ≤ 900 := hr
    refine LookN.ok (n := n + t.many) (one_sign s _) (by omega) ?_
    rw [show beneath (Tm.one w t).data = [t.data] from one_beneath s _]
    refine Tm.looks t b (r := r) (a := hereOf (.tuple [.str w, t.data]) a) (by omega) ?_
    have e : max (up g (hereOf (.tuple [.str w, t.data]) a)) (hereOf (.tuple [.str w, t.data]) a + (t.look : Nat)) = max g (a + ((Tm.one w t).look : Nat)) := by
      rw [up_eq]
      show max (max g (if inV (.str w) psV = true then a + 1 else a)) ((if inV (.str w) psV = true then a + 1 else a) + (t.look : Nat)) = max g (a + ((if inV (.str w) psV = true then t.look + 1 else t.look : Nat) : Int))
      split <;> omega
    show LookN n r (max (up g (hereOf (.tuple [.str w, t.data]) a)) (hereOf (.tuple [.str w, t.data]) a + (t.look : Nat))) f
    rw [e]
    exact h
  | .two w t u, ⟨s, b, c⟩, n, r, a, g, f, hr, h => by
    have hr' : r.length + (t.many + u.many + 1) ≤ 900 := hr
    have e : n + (t.many + u.many + 1) = (n + t.many + u.many) + 1 := by omega
    show LookN (n + (t.many + u.many + 1)) _ _ _
    rw [e]
    refine LookN.ok (two_sign s _ _) (by omega) ?_
    rw [show beneath (Tm.two w t u).data = [t.data, u.data] from two_beneath s _ _]
    rw [show hereOf (Tm.two w t u).data a = a from two_here s a, up_eq]
    refine Tm.looks u c (a := a) (by show r.length + 1 + u.many ≤ 900; omega) (Tm.looks t b (r := r) (a := a) (by omega) ?_)
    have e : max (max (max g a) (a + (u.look : Nat))) (a + (t.look : Nat)) = max g (a + ((Tm.two w t u).look : Nat)) := by
      show _ = max g (a + ((max t.look u.look : Nat) : Int))
      omega
    rw [e]
    exact h
end K06

/-! k06, the law, part h: spoilt terms. -/
namespace K06
open PySem L2 PySem.Spec PyProof.Rows
/-- at the place p of t the term s stands -/
inductive Has : Tm → List Nat → Tm → Prop
  | here (t : Tm) : Has t [] t
  | one {w : Str} {t s : Tm} {p : List Nat} : Has t p s → Has (.one w t) (0 :: p) s
  | left {w : Str} {t u s : Tm} {p : List Nat} : Has t p s → Has (.two w t u) (0 :: p) s
  | right {w : Str} {t u s : Tm} {p : List Nat} : Has u p s → Has (.two w t u) (1 :: p) s
/-- the data with something else at a place -/
def setD : List Nat → PyData → PyData → PyData
  | [], _, x => x
  | k :: p, .tuple ds, x => .tuple (ds.set (k + 1) (setD p (ds.getD (k + 1) .none) x))
  | _ :: _, d, _ => d
inductive PathD : PyData → List Nat → Prop
  | nil (d : PyData) : PathD d []
  | cons {ds : List PyData} {k : Nat} {e : PyData} {p : List Nat} : ds[k + 1]? = some e → PathD e p → PathD (.tuple ds) (k :: p)
/-- the first bad place in the walk over d is p -/
inductive Spoil : Nat → PyData → List Nat → Prop
  | here {n : Nat} {d : PyData} : signD d = false → Spoil n d []
  | one {n : Nat} {w : Str} {d : PyData} {p : List Nat} : w ∈ ones → Spoil n d p → Spoil (n + 1) (.tuple [.str w, d]) (0 :: p)
  | left {n : Nat} {w : Str} {d e : PyData} {p : List Nat} : w ∈ twos → Spoil n d p → Spoil (n + 1) (.tuple [.str w, d, e]) (0 :: p)
  | right {n : Nat} {w : Str} {t : Tm} {e : PyData} {p : List Nat} : w ∈ twos → t.Ok → t.many ≤ n → Spoil n e p → Spoil (n + 1) (.tuple [.str w, t.data, e]) (1 :: p)
theorem Spoil.mono : ∀ {n m : Nat} {d : PyData} {p : List Nat}, Spoil n d p → n ≤ m → Spoil m d p
  | _, _, _, _, .here h, _ => .here h
  | _, 0, _, _, .one h s, l => absurd l (Nat.not_succ_le_zero _)
  | _, m + 1, _, _, .one h s, l => .one h (s.mono (Nat.le_of_succ_le_succ l))
  | _, 0, _, _, .left h s, l => absurd l (Nat.not_succ_le_zero _)
  | _, m + 1, _, _, .left h s, l => .left h (s.mono (Nat.le_of_succ_le_succ l))
  | _, 0, _, _, .right h o k s, l => absurd l (Nat.not_succ_le_zero _)
  | _, m + 1, _, _, .right h o k s, l => .right h o (Nat.le_trans k (Nat.le_of_succ_le_succ l)) (s.mono (Nat.le_of_succ_le_succ l))
theorem Tm.height_lt : ∀ t : Tm, t.height < t.many
  | .leaf _ _ => Nat.zero_lt_one
  | .one w t => Nat.succ_lt_succ t.height_lt
  | .two w t u => by
    have a := t.height_lt
    have b := u.height_lt
    show max t.height u.height + 1 < t.many + u.many + 1
    omega
theorem Spoil.first : ∀ {n : Nat} {d : PyData} {p : List Nat}, Spoil n d p → ∀ {r : List (List Nat × PyData)} {q : List Nat}, r.length + n ≤ 900 → q.length + n ≤ 900 → ∃ m, BadN m ((q, d) :: r) (some (q ++ p))
  | _, _, _, .here h, r, q, _, _ => ⟨0, by rw [List.append_nil]; exact .bad h⟩
  | _, _, _, @Spoil.one n w d p h s, r, q, h1, h2 => by
    obtain ⟨m, hm⟩ := s.first (r := r) (q := q ++ [0]) (by omega) (by rw [List.length_append, List.length_singleton]; omega)
    refine ⟨m + 1, .ok (one_sign h _) (by omega) (by omega) ?_⟩
    rw [one_beneath h]
    rw [List.append_assoc] at hm
    exact hm
  | _, _, _, @Spoil.left n w d e p h s, r, q, h1, h2 => by
    obtain ⟨m, hm⟩ := s.first (r := (q ++ [1], e) :: r) (q := q ++ [0]) (by rw [List.length_cons]; omega) (by rw [List.length_append, List.length_singleton]; omega)
    refine ⟨m + 1, .ok (two_sign h _ _) (by omega) (by omega) ?_⟩
    rw [two_beneath h]
    rw [List.append_assoc] at hm
    exact hm
  | _, _, _, @Spoil.right n w t e p h o k s, r, q, h1, h2 => by
    obtain ⟨m, hm⟩ := s.first (r := r) (q := q ++ [1]) (by omega) (by rw [List.length_append, List.length_singleton]; omega)
    have hh := t.height_lt
    refine ⟨m + t.many + 1, .ok (two_sign h _ _) (by omega) (by omega) ?_⟩
    rw [two_beneath h]
    rw [List.append_assoc] at hm
    exact Tm.past t o (r := (q ++ [1], e) :: r) (by rw [List.length_cons]; omega) (by rw [List.length_append, List.length_singleton]; omega) hm
theorem Has.path : ∀ {t s : Tm} {p : List Nat}, Has t p s → PathD t.data p
  | _, _, _, .here t => .nil _
  | _, _, _, .one h => .cons rfl h.path
  | _, _, _, .left h => .cons rfl h.path
  | _, _, _, .right h => .cons rfl h.path
theorem Has.ok : ∀ {t s : Tm} {p : List Nat}, Has t p s → t.Ok → s.Ok
  | _, _, _, .here t, o => o
  | _, _, _, .one h, o => h.ok o.2
  | _, _, _, .left h, o => h.ok o.2.1
  | _, _, _, .right h, o => h.ok o.2.2
theorem Has.small : ∀ {t s : Tm} {p : List Nat}, Has t p s → p.length ≤ t.height
  | _, _, _, .here t => Nat.zero_le _
  | _, _, _, .one h => Nat.succ_le_succ h.small
  | _, _, _, @Has.left w t u s p h => Nat.succ_le_succ (Nat.le_trans h.small (Nat.le_max_left _ _))
  | _, _, _, @Has.right w t u s p h => Nat.succ_le_succ (Nat.le_trans h.small (Nat.le_max_right _ _))
theorem spoil1 {x : PyData} (hx : signD x = false) : ∀ {t s : Tm} {p : List Nat}, Has t p s → t.Ok → Spoil t.many (setD p t.data x) p
  | _, _, _, .here t, o => .here hx
  | _, _, _, .one h, o => .one o.1 (spoil1 hx h o.2)
  | _, _, _, @Has.left w t u s p h, o => .left o.1 ((spoil1 hx h o.2.1).mono (Nat.le_add_right _ _))
  | _, _, _, @Has.right w t u s p h, o => .right o.1 o.2.1 (Nat.le_add_right _ _) ((spoil1 hx h o.2.2).mono (Nat.le_add_left _ _))
abbrev ivs (p : List Nat) : List Int := p.map fun (k : Nat) => (k : Int)
/-- a second place, not ahead of the first one -/
theorem spoil2 {x y : PyData} (hx : signD x = false) : ∀ {t s : Tm} {p : List Nat}, Has t p s → ∀ {s' : Tm} {q : List Nat}, Has t q s' → HT.lexLt (ivs q) (ivs p) = false → t.Ok →
    Spoil t.many (setD p (setD q t.data y) x) p ∧ PathD (setD q t.data y) p
  | _, _, _, .here t, _, _, g, l, o => ⟨.here hx, .nil _⟩
  | _, _, _, .one h, _, _, .here _, l, o => absurd (show true = false from l) (by decide)
  | _, _, _, .one h, _, _, .one g, l, o => by
    obtain ⟨a, b⟩ := spoil2 (y := y) hx h g l o.2
    exact ⟨.one o.1 a, .cons rfl b⟩
  | _, _, _, .left h, _, _, .here _, l, o => absurd (show true = false from l) (by decide)
  | _, _, _, @Has.left w t u s p h, _, _, .left g, l, o => by
    obtain ⟨a, b⟩ := spoil2 (y := y) hx h g l o.2.1
    exact ⟨.left o.1 (a.mono (Nat.le_add_right _ _)), .cons rfl b⟩
  | _, _, _, @Has.left w t u s p h, _, _, .right g, l, o => ⟨.left o.1 ((spoil1 hx h o.2.1).mono (Nat.le_add_right _ _)), .cons rfl h.path⟩
  | _, _, _, .right h, _, _, .here _, l, o => absurd (show true = false from l) (by decide)
  | _, _, _, .right h, _, _, .left g, l, o => absurd (show true = false from l) (by decide)
  | _, _, _, @Has.right w t u s p h, _, _, .right g, l, o => by
    obtain ⟨a, b⟩ := spoil2 (y := y) hx h g l o.2.2
    exact ⟨.right o.1 o.2.1 (Nat.le_add_right _ _) (a.mono (Nat.le_add_left _ _)), .cons rfl b⟩
end K06

/-! k06, the law, part i: its own walk over a term. -/
namespace K06
open PySem L2 PySem.Spec PyProof.Rows
abbrev sBeneaths : Stmt := top 59
abbrev sWalk : Stmt := top 65
abbrev onesV : List V := [.str "some", .str "each", .str "main", .str "not"]
abbrev twosV : List V := [.str "and", .str "or"]
def Tm.word : Tm → Str
  | .leaf w _ => w
  | .one w _ => w
  | .two w _ _ => w
def Tm.rest : Tm → List PyData
  | .leaf _ ds => ds
  | .one _ t => [t.data]
  | .two _ t u => [t.data, u.data]
def Tm.kids : Tm → List Tm
  | .leaf _ _ => []
  | .one _ t => [t]
  | .two _ t u => [t, u]
theorem Tm.data_eq (t : Tm) : t.data = .tuple (.str t.word :: t.rest) := by cases t <;> rfl
theorem Rp.tm {H : Hp} {v : V} {t : Tm} (r : Rp H v t.data) : ∃ a xs, v = .ref a ∧ H a = some (.tup (.str t.word :: xs)) ∧ Rps H xs t.rest := by
  rw [t.data_eq] at r
  cases r with
  | @tup a _ _ e r =>
    cases r with
    | @cons v vs _ _ tv tvs =>
      cases tv with
      | str _ hz => exact ⟨a, vs, rfl, e, tvs⟩
theorem Tm.kid_ok {t : Tm} (h : t.Ok) : ∀ u ∈ t.kids, u.Ok ∧ u.height < t.height ∧ u.many < t.many := by
  cases t with
  | leaf w ds => intro u hu; cases hu
  | one w s =>
    intro u hu
    rw [show u = s from List.mem_singleton.mp hu]
    exact ⟨h.2, Nat.lt_succ_self _, Nat.lt_succ_self _⟩
  | two w s r =>
    intro u hu
    have e : u = s ∨ u = r := by
      rcases List.mem_cons.mp hu with q | q
      · exact .inl q
      · exact .inr (List.mem_singleton.mp q)
    have m1 : max s.height r.height + 1 = (Tm.two w s r).height := rfl
    have m2 : s.many + r.many + 1 = (Tm.two w s r).many := rfl
    rcases e with rfl | rfl
    · exact ⟨h.2.1, by omega, by omega⟩
    · exact ⟨h.2.2, by omega, by omega⟩
theorem Tm.walk_kids (t : Tm) : t.walk = t.data :: t.kids.flatMap Tm.walk := by
  cases t with
  | leaf w ds => rfl
  | one w s => simp [Tm.walk, Tm.data, Tm.kids]
  | two w s r => simp [Tm.walk, Tm.data, Tm.kids]
/-- _law_beneaths(term) -/
def spBeneaths : Sp := fun vs H Q _ => ∃ v t H0, vs = [v] ∧ Rp H0 v (Tm.data t) ∧ Same H0 H ∧ t.Ok ∧ ∀ H' L xs, Same H H' → H L = none → H' L = some (.lst xs) → Rps H0 xs (t.kids.map Tm.data) → Q (.ref L) H'
theorem none_of {H H' : Hp} {L : Addr} (s : Same H H') (n : H' L = none) : H L = none := by
  cases e : H L with
  | none => rfl
  | some u => rw [s L u e] at n; cases n
section
variable {P : Program} {w : World} {K : PySem.W.Frag} {mg : Str → Option Value} {base : Heap}
theorem scBeneaths : FnScope ["_law_term"] ["_law_term"] (defScope sBeneaths) := ⟨rfl, rfl, rfl, by decide +kernel, rfl, by decide +kernel, by decide +kernel⟩
theorem ok_beneaths {f : Addr} {fd : FuncData} (F : Fun K "_law_beneaths" "_law_beneaths" sBeneaths f fd) : FnOk P w K mg base CX0 1 f fd ["_law_term"] spBeneaths := by
  refine F.ok scBeneaths (fun vs H Q E h => ?_) (fun cdv A outer s H vs Q E hr h => ?_)
  · obtain ⟨v, t, H0, rfl, _⟩ := h
    rfl
  · obtain ⟨v, t, H0, rfl, r, s0, ok, k⟩ := h
    refine ⟨_, pss_cons (ps_if (pt_cmpR op_in_seq (pe_ix ix_tup (pv 0) pe_int (fun _ _ => rfl)) (pe_lst (pa_cons pe_str (pa_cons pe_str (pa_cons pe_str (pa_cons pe_str pa_nil))))) rfl)
        (pss_one (ps_ret (pe_lst (pa_cons (pe_ix ix_tup (pv 0) pe_int (fun _ _ => rfl)) pa_nil)))) pss_nil)
      (pss_cons (ps_if (pt_cmpR op_in_seq (pe_ix ix_tup (pv 0) pe_int (fun _ _ => rfl)) (pe_lst (pa_cons pe_str (pa_cons pe_str pa_nil))) rfl)
        (pss_one (ps_ret (pe_lst (pa_cons (pe_ix ix_tup (pv 0) pe_int (fun _ _ => rfl)) (pa_cons (pe_ix ix_tup (pv 0) pe_int (fun _ _ => rfl)) pa_nil))))) pss_nil)
      (pss_one (ps_ret (pe_lst pa_nil)))), ?_⟩
    obtain ⟨a, xs, rfl, ha', rx⟩ := r.tm
    have ha := s0 _ _ ha'
    refine ⟨_, rfl, a, _, 0, .str t.word, rfl, rfl, SqT.of ha, at0, (by show 4 ≤ sizeLine; decide), fun p np => ⟨p, onesV, rfl, .inl (SqL.of upd_same), rfl, by decide, _, rfl, ?_⟩⟩
    show if inV (.str t.word) onesV = true then _ else _
    have s1 := same_new (o := .lst onesV) Same.rfl' np
    have h1 := s1 _ _ ha
    cases t with
    | one u s =>
      have : ∀ w ∈ ones, inV (.str w) onesV = true := by decide +kernel
      rw [show inV (.str (Tm.one u s).word) onesV = true from this u ok.1]
      cases rx with
      | @cons v1 vs1 _ _ tv1 tvs1 =>
        cases tvs1
        refine iteT ⟨_, rfl, a, _, 1, v1, rfl, rfl, SqT.of h1, at1, (by show 1 ≤ sizeLine; decide), fun L nL => ?_⟩
        exact k _ L [v1] (same_new s1 nL) (none_of s1 nL) upd_same (.cons tv1 .nil)
    | two u s s' =>
      have : ∀ w ∈ twos, inV (.str w) onesV = false ∧ inV (.str w) twosV = true := by decide +kernel
      rw [show inV (.str (Tm.two u s s').word) onesV = false from (this u ok.1).1]
      refine iteF ⟨_, rfl, a, _, 0, .str u, rfl, rfl, SqT.of h1, at0, (by show 2 ≤ sizeLine; decide), fun p2 np2 => ⟨p2, twosV, rfl, .inl (SqL.of upd_same), rfl, by decide, _, rfl, ?_⟩⟩
      show if inV (.str u) twosV = true then _ else _
      rw [(this u ok.1).2]
      have s2 := same_new (o := .lst twosV) s1 np2
      have h2 := s2 _ _ ha
      cases rx with
      | @cons v1 vs1 _ _ tv1 tvs1 =>
        cases tvs1 with
        | @cons v2 vs2 _ _ tv2 tvs2 =>
          cases tvs2
          refine iteT ⟨_, rfl, a, _, 1, v1, rfl, rfl, SqT.of h2, at1, _, rfl, a, _, 2, v2, rfl, rfl, SqT.of h2, at2, (by show 2 ≤ sizeLine; decide), fun L nL => ?_⟩
          exact k _ L [v1, v2] (same_new s2 nL) (none_of s2 nL) upd_same (.cons tv1 (.cons tv2 .nil))
    | leaf u ds =>
      obtain ⟨n, hn⟩ := ok.2.1
      have key : ∀ p ∈ arities, p.2.2 = 0 → inV (.str p.1) onesV = false ∧ inV (.str p.1) twosV = false := by decide +kernel
      obtain ⟨k1, k2⟩ := key _ (arity_mem hn) rfl
      rw [show inV (.str (Tm.leaf u ds).word) onesV = false from k1]
      refine iteF ⟨_, rfl, a, _, 0, .str u, rfl, rfl, SqT.of h1, at0, (by show 2 ≤ sizeLine; decide), fun p2 np2 => ⟨p2, twosV, rfl, .inl (SqL.of upd_same), rfl, by decide, _, rfl, ?_⟩⟩
      show if inV (.str u) twosV = true then _ else _
      rw [show inV (.str u) twosV = false from k2]
      have s2 := same_new (o := .lst twosV) s1 np2
      refine iteF ⟨Nat.zero_le _, fun L nL => ?_⟩
      exact k _ L [] (same_new s2 nL) (none_of s2 nL) upd_same .nil
/-- _law_walk(term), of height below n -/
def spWalk (n : Nat) : Sp := fun vs H Q _ => ∃ v t H0, vs = [v] ∧ Rp H0 v (Tm.data t) ∧ Same H0 H ∧ t.Ok ∧ t.height < n ∧ t.many ≤ 900 ∧ ∀ H' L xs, Same H H' → H L = none → H' L = some (.lst xs) → Rps H0 xs t.walk → Q (.ref L) H'
theorem scWalk : FnScope ["_law_term", "_law_rows", "_law_one"] ["_law_term"] (defScope sWalk) := ⟨rfl, rfl, rfl, by decide +kernel, rfl, by decide +kernel, by decide +kernel⟩
theorem ok_walk {f fb : Addr} {fd fdb : FuncData} (DF : Df K mg "_law_walk" sWalk ["_law_term"] f fd) (DB : Df K mg "_law_beneaths" sBeneaths ["_law_term"] fb fdb) (GB : FnOk P w K mg base CX0 1 fb fdb ["_law_term"] spBeneaths) :
    ∀ n, FnOk P w K mg base CX0 (1 + n) f fd ["_law_term"] (spWalk n)
  | 0 => fn_false fun vs H Q E ⟨_, _, _, _, _, _, _, h, _⟩ => absurd h (Nat.not_lt_zero _)
  | n + 1 => by
    have GR := ok_walk DF DB GB n
    refine DF.F.ok (k := 1 + n) scWalk (fun vs H Q E h => ?_) (fun cdv A outer s H vs Q E hr h => ?_)
    · obtain ⟨v, t, H0, rfl, _⟩ := h
      rfl
    · obtain ⟨v, t, H0, rfl, r, s0, ok, hh, hm, k⟩ := h
      have nd := scWalk.nd
      have r1 := hr.mono (show 1 ≤ 1 + n by omega)
      refine ⟨_, pss_cons (ps_set (i := 1) nd rfl (Or.inl rfl) (pe_lst (pa_cons (pv 0) pa_nil)))
        (pss_cons (ps_for PassesOwn.never rfl (pi_list (pe_call GB r1 rfl DB.g DB.F.kp DB.b .nil pass0 (pa_cons (pv 0) pa_nil))) (pg_name (i := 2) nd rfl (Or.inl rfl))
          (pss_one (ps_expr (pe_bm PySem.F.plainAttrs_list PySem.F.slot_list_extend PySem.F.type_list_extend mt_extend (pv 1) (pa_cons (pe_call GR hr rfl DF.g DF.F.kp DF.b .nil pass0 (pa_cons (pv 2) pa_nil)) pa_nil)))))
        (pss_one (ps_ret (pv 1)))), ?_⟩
      refine ⟨_, rfl, (by show 1 ≤ sizeLine; decide), fun R nR => ?_⟩
      have sR := same_new (o := .lst [v]) Same.rfl' nR
      refine ⟨_, rfl, v, t, H0, rfl, r, sameT s0 sR, ok, fun H1 L xs s1 nL hL rx => ⟨L, rfl, ⟨_, SqL.of hL⟩, ?_⟩⟩
      have sH1 := sameT sR s1
      have hlen : xs.length = t.kids.length := by rw [rx.length, List.length_map]
      have hkm := t.kid_ok ok
      have hwl : ∀ i, (t.data :: (t.kids.take i).flatMap Tm.walk).length ≤ t.many := fun i => by
        rw [← t.walk_len, t.walk_kids, List.length_cons, List.length_cons]
        refine Nat.succ_le_succ ?_
        have e : t.kids.flatMap Tm.walk = (t.kids.take i).flatMap Tm.walk ++ (t.kids.drop i).flatMap Tm.walk := by rw [← List.flatMap_append, List.take_append_drop]
        rw [e, List.length_append]
        exact Nat.le_add_right _ _
      have nRL : R ≠ L := fun z => by rw [← z, upd_same] at nL; cases nL
      refine for_it (walk_list (K := K) (a := L) (xs := xs)) (fun i σ H2 => ∃ c ys, σ = [some v, some (.ref R), c] ∧ H2 R = some (.lst ys) ∧ Rps H0 ys (t.data :: (t.kids.take i).flatMap Tm.walk) ∧ Same H H2 ∧ H2 L = some (.lst xs))
        ⟨none, [v], rfl, s1 _ _ upd_same, .cons r .nil, sH1, hL⟩ (fun _ _ _ _ ⟨_, _, _, _, _, _, z⟩ => SqL.of z) ?_ ?_
      · rintro i y σ H2 H3 hi ⟨c, ys, rfl, hR, ry, s2, hL2⟩ ⟨rfl, hy⟩
        have hi' : i < t.kids.length := by rw [← hlen]; exact hi
        obtain ⟨d, hd, rd⟩ := rx.got hy
        have ed : d = (t.kids[i]).data := by
          rw [List.getElem?_map, List.getElem?_eq_getElem hi'] at hd
          exact (Option.some.inj hd).symm
        subst ed
        obtain ⟨ko, kh, km⟩ := hkm _ (List.getElem_mem hi')
        refine ⟨_, rfl, .inl ⟨rfl, _, SqL.of hR⟩, ?_⟩
        refine ⟨_, rfl, y, t.kids[i], H0, rfl, rd, sameT s0 s2, ko, by omega, by omega, fun H4 L2 zs s4 nL2 hL2' rz => ?_⟩
        have ap := ry.app rz
        have et : (t.data :: (t.kids.take i).flatMap Tm.walk) ++ (t.kids[i]).walk = t.data :: (t.kids.take (i + 1)).flatMap Tm.walk := by
          rw [List.take_succ_eq_append_getElem hi', List.flatMap_append, List.cons_append]
          simp
        rw [et] at ap
        have hln : ys.length + zs.length ≤ sizeLine := by
          have := ap.length
          rw [List.length_append] at this
          have := hwl (i + 1)
          exact Nat.le_trans (show ys.length + zs.length ≤ 1000 by omega) (by decide)
        refine ⟨R, L2, ys, zs, rfl, rfl, s4 _ _ hR, hL2', hln, some y, ys ++ zs, rfl, upd_same, ap, same_put (sameT s2 s4) nR, ?_⟩
        rw [upd_ne (Ne.symm nRL)]
        exact s4 _ _ hL2
      · rintro σ H2 ⟨c, ys, rfl, hR, ry, s2, hL2⟩
        rw [hlen, List.take_length, ← t.walk_kids] at ry
        exact ⟨_, rfl, k H2 R ys s2 nR hR ry⟩
end
end K06

/-! k06, the law, part j: all places of a term; what stands at one. -/
namespace K06
open PySem L2 PySem.Spec PyProof.Rows
abbrev sSpots : Stmt := top 66
abbrev sThere : Stmt := top 67
/-- a place as data -/
def plD (p : List Nat) : PyData := .tuple (p.map fun (k : Nat) => PyData.int k)
theorem rps_pl (H : Hp) : ∀ p : List Nat, Rps H (plV p) (p.map fun (k : Nat) => PyData.int k)
  | [] => .nil
  | k :: p => .cons (.int k) (rps_pl H p)
theorem rps_pl_of {H : Hp} : ∀ {xs : List V} {p : List Nat}, Rps H xs (p.map fun (k : Nat) => PyData.int k) → xs = plV p
  | [], [], .nil => rfl
  | _ :: _, k :: p, .cons (.int _) r => by rw [rps_pl_of r]; rfl
theorem Rp.pl {H : Hp} {v : V} {p : List Nat} (r : Rp H v (plD p)) : ∃ a, v = .ref a ∧ H a = some (.tup (plV p)) := by
  unfold plD at r
  cases r with
  | @tup a xs _ e r =>
    rw [rps_pl_of r] at e
    exact ⟨a, rfl, e⟩
theorem Rp.of_pl {H : Hp} {a : Addr} {p : List Nat} (e : H a = some (.tup (plV p))) : Rp H (.ref a) (plD p) := .tup e (rps_pl H p)
/-- the places in a list, each a tuple -/
inductive Pls (H : Hp) : List V → List (List Nat) → Prop
  | nil : Pls H [] []
  | cons {a : Addr} {p : List Nat} {vs : List V} {ps : List (List Nat)} : H a = some (.tup (plV p)) → Pls H vs ps → Pls H (.ref a :: vs) (p :: ps)
theorem Pls.mono {H H' : Hp} (k : ∀ a xs, H a = some (.tup xs) → H' a = some (.tup xs)) : ∀ {vs : List V} {ps : List (List Nat)}, Pls H vs ps → Pls H' vs ps
  | _, _, .nil => .nil
  | _, _, .cons e r => .cons (k _ _ e) (r.mono k)
theorem Pls.app {H : Hp} : ∀ {vs ws : List V} {ps qs : List (List Nat)}, Pls H vs ps → Pls H ws qs → Pls H (vs ++ ws) (ps ++ qs)
  | _, _, _, _, .nil, b => b
  | _, _, _, _, .cons r rs, b => .cons r (rs.app b)
theorem Pls.length {H : Hp} : ∀ {vs : List V} {ps : List (List Nat)}, Pls H vs ps → vs.length = ps.length
  | _, _, .nil => rfl
  | _, _, .cons _ rs => by rw [List.length_cons, List.length_cons, rs.length]
theorem Pls.got {H : Hp} : ∀ {vs : List V} {ps : List (List Nat)}, Pls H vs ps → ∀ {i : Nat} {v : V}, vs[i]? = some v → ∃ a p, v = .ref a ∧ ps[i]? = some p ∧ H a = some (.tup (plV p))
  | _, _, .nil, i, v, h => by cases i <;> cases h
  | _, _, .cons r rs, 0, v, h => by cases h; exact ⟨_, _, rfl, rfl, r⟩
  | _, _, .cons r rs, i + 1, v, h => rs.got h
def spotsOf (f : Tm → List (List Nat)) : List Tm → Nat → List (List Nat)
  | [], _ => []
  | u :: us, i => (f u).map (fun p => i :: p) ++ spotsOf f us (i + 1)
/-- all places of a right term -/
def Tm.spots : Tm → List (List Nat)
  | .leaf _ _ => [[]]
  | .one _ t => [] :: t.spots.map (fun p => 0 :: p)
  | .two _ t u => [] :: (t.spots.map (fun p => 0 :: p) ++ u.spots.map (fun p => 1 :: p))
theorem Tm.spots_eq (t : Tm) : t.spots = [] :: spotsOf Tm.spots t.kids 0 := by
  cases t <;> simp [Tm.spots, Tm.kids, spotsOf]
theorem spotsOf_app (f : Tm → List (List Nat)) : ∀ (us : List Tm) (u : Tm) (i : Nat), spotsOf f (us ++ [u]) i = spotsOf f us i ++ (f u).map (fun p => (i + us.length) :: p)
  | [], u, i => by simp [spotsOf]
  | a :: us, u, i => by
    show (f a).map _ ++ spotsOf f (us ++ [u]) (i + 1) = ((f a).map _ ++ spotsOf f us (i + 1)) ++ _
    rw [spotsOf_app f us u (i + 1), List.append_assoc, List.length_cons]
    have e : i + 1 + us.length = i + (us.length + 1) := by omega
    rw [e]
theorem Tm.spots_has : ∀ {t : Tm} {p : List Nat}, p ∈ t.spots → ∃ s, Has t p s
  | .leaf w ds, p, h => ⟨.leaf w ds, by rw [List.mem_singleton.mp h]; exact .here _⟩
  | .one w t, p, h => by
    rcases List.mem_cons.mp h with rfl | h
    · exact ⟨_, .here _⟩
    · obtain ⟨q, hq, rfl⟩ := List.mem_map.mp h
      obtain ⟨s, hs⟩ := Tm.spots_has hq
      exact ⟨s, .one hs⟩
  | .two w t u, p, h => by
    rcases List.mem_cons.mp h with rfl | h
    · exact ⟨_, .here _⟩
    · rcases List.mem_append.mp h with h | h
      · obtain ⟨q, hq, rfl⟩ := List.mem_map.mp h
        obtain ⟨s, hs⟩ := Tm.spots_has hq
        exact ⟨s, .left hs⟩
      · obtain ⟨q, hq, rfl⟩ := List.mem_map.mp h
        obtain ⟨s, hs⟩ := Tm.spots_has hq
        exact ⟨s, .right hs⟩
theorem Tm.spots_len : ∀ t : Tm, t.spots.length = t.many
  | .leaf _ _ => rfl
  | .one w t => by show (t.spots.map _).length + 1 = t.many + 1; rw [List.length_map, t.spots_len]
  | .two w t u => by show (t.spots.map _ ++ u.spots.map _).length + 1 = t.many + u.many + 1; rw [List.length_append, List.length_map, List.length_map, t.spots_len, u.spots_len]
theorem spots_pre (t : Tm) (i : Nat) : ([] :: spotsOf Tm.spots (t.kids.take i) 0).length ≤ t.many := by
  rw [← t.spots_len, t.spots_eq, List.length_cons, List.length_cons]
  refine Nat.succ_le_succ ?_
  have key : ∀ (us : List Tm) (i k : Nat), (spotsOf Tm.spots (us.take i) k).length ≤ (spotsOf Tm.spots us k).length := by
    intro us
    induction us with
    | nil => intro i k; rw [List.take_nil]; exact Nat.le_refl _
    | cons a us ih =>
      intro i k
      cases i with
      | zero => exact Nat.zero_le _
      | succ i =>
        rw [List.take_succ_cons]
        show (_ ++ spotsOf Tm.spots (us.take i) (k + 1)).length ≤ (_ ++ spotsOf Tm.spots us (k + 1)).length
        rw [List.length_append, List.length_append]
        exact Nat.add_le_add_left (ih i (k + 1)) _
  exact key _ _ _
/-- _law_spots(term), of height below n -/
def spSpots (n : Nat) : Sp := fun vs H Q _ => ∃ v t H0, vs = [v] ∧ Rp H0 v (Tm.data t) ∧ Same H0 H ∧ t.Ok ∧ t.height < n ∧ t.many ≤ 900 ∧ ∀ H' L xs, Same H H' → H L = none → H' L = some (.lst xs) → Pls H' xs t.spots → Q (.ref L) H'
theorem Same.sq {H H' : Hp} (s : Same H H') : Sq H H' := Sq.of s
section
variable {P : Program} {w : World} {K : PySem.W.Frag} {mg : Str → Option Value} {base : Heap}
theorem scSpots : FnScope ["_law_term", "_law_rows", "_law_beneath", "_law_k", "_law_spot"] ["_law_term"] (defScope sSpots) := ⟨rfl, rfl, rfl, by decide +kernel, rfl, by decide +kernel, by decide +kernel⟩
theorem ok_spots {f fb : Addr} {fd fdb : FuncData} (N : Nms mg) (DF : Df K mg "_law_spots" sSpots ["_law_term"] f fd) (DB : Df K mg "_law_beneaths" sBeneaths ["_law_term"] fb fdb) (GB : FnOk P w K mg base CX0 1 fb fdb ["_law_term"] spBeneaths) :
    ∀ n, FnOk P w K mg base CX0 (1 + n) f fd ["_law_term"] (spSpots n)
  | 0 => fn_false fun vs H Q E ⟨_, _, _, _, _, _, _, h, _⟩ => absurd h (Nat.not_lt_zero _)
  | n + 1 => by
    have GR := ok_spots N DF DB GB n
    refine DF.F.ok (k := 1 + n) scSpots (fun vs H Q E h => ?_) (fun cdv A outer s H vs Q E hr h => ?_)
    · obtain ⟨v, t, H0, rfl, _⟩ := h
      rfl
    · obtain ⟨v, t, H0, rfl, r, s0, ok, hh, hm, k⟩ := h
      have nd := scSpots.nd
      have r1 := hr.mono (show 1 ≤ 1 + n by omega)
      refine ⟨_, pss_cons (ps_set (i := 1) nd rfl (Or.inl rfl) (pe_lst (pa_cons (pe_tup pa_nil) pa_nil)))
        (pss_cons (ps_set (i := 2) nd rfl (Or.inl rfl) (pe_call GB r1 rfl DB.g DB.F.kp DB.b .nil pass0 (pa_cons (pv 0) pa_nil)))
        (pss_cons (ps_for PassesOwn.never rfl (pi_range1 rfl N.range (pa_cons (pe_callB call_len_seq (by rfl) N.len PySem.boot_len (pa_cons (pv 2) pa_nil)) pa_nil)) (pg_name (i := 3) nd rfl (Or.inr rfl))
          (pss_one (ps_expr (pe_bm PySem.F.plainAttrs_list PySem.F.slot_list_extend PySem.F.type_list_extend mt_extend (pv 1) (pa_cons
            (pe_lc (own := [("_law_spot", 4)]) (g := gName 4) (tt := tYes) (te := tOp (rCatT K) (tTup (tCons (tVar 3) tNil)) (tVar 4)) rfl nd
              (pi_list (pe_call GR hr rfl DF.g DF.F.kp DF.b .nil pass0 (pa_cons (pe_ix ix_list (pv 2) (pv 3) (fun _ _ => rfl)) pa_nil))) (blkOk_by (N := ["_law_term", "_law_rows", "_law_beneath", "_law_k", "_law_spot"]) (sc := defScope sSpots) (by decide +kernel))
              (fun _ _ _ _ _ => pg_name (i := 4) nd rfl (Or.inl rfl)) (fun _ _ _ _ _ => pts_nil) (fun _ _ _ _ _ => pe_op op_catT (pe_tup (pa_cons (pv 3) pa_nil)) (pv 4))) pa_nil)))))
        (pss_one (ps_ret (pv 1))))), ?_⟩
      refine ⟨Nat.zero_le _, fun t0 n0 => ⟨(by show 1 ≤ sizeLine; decide), fun R nR => ?_⟩⟩
      have sR := same_new (o := .lst [.ref t0]) (same_new (o := .tup []) Same.rfl' n0) nR
      refine ⟨_, rfl, v, t, H0, rfl, r, sameT s0 sR, ok, fun H1 L xs s1 nL hL rx => ?_⟩
      have sH1 := sameT sR s1
      have nR0 : H R = none := none_of (same_new (o := .tup []) Same.rfl' n0) nR
      have hlen : xs.length = t.kids.length := by rw [rx.length, List.length_map]
      have hkm := t.kid_ok ok
      have nRL : R ≠ L := fun z => by rw [← z, upd_same] at nL; cases nL
      have hk2 : t.kids.length ≤ 2 := by cases t <;> simp [Tm.kids]
      have tR : upd (upd H t0 (.tup [])) R (.lst [.ref t0]) t0 = some (.tup []) := by
        rw [upd_ne (ne_of_none upd_same nR), upd_same]
      refine ⟨_, rfl, L, xs, rfl, .inl (SqL.of hL), _, rfl, by omega, by omega, ?_⟩
      refine for_range (lo := 0) (n := ((xs.length : Nat) : Int).toNat) (fun i σ H2 => ∃ c ys, σ = [some v, some (.ref R), some (.ref L), c, none] ∧ H2 R = some (.lst ys) ∧ Pls H2 ys (([] : List Nat) :: spotsOf Tm.spots (t.kids.take i) 0) ∧ Same H H2 ∧ H2 L = some (.lst xs))
        ⟨none, [.ref t0], rfl, s1 _ _ upd_same, .cons (p := []) (s1 _ _ tR) .nil, sH1, hL⟩ ?_ ?_
      · rintro i σ H2 hi ⟨c, ys, rfl, hR, ry, s2, hL2⟩
        have hi' : i < t.kids.length := by omega
        have hix : i < xs.length := by omega
        obtain ⟨d, hd, rd⟩ := rx.got (List.getElem?_eq_getElem hix)
        have ed : d = (t.kids[i]).data := by
          rw [List.getElem?_map, List.getElem?_eq_getElem hi'] at hd
          exact (Option.some.inj hd).symm
        subst ed
        obtain ⟨ko, kh, km⟩ := hkm _ (List.getElem_mem hi')
        have ei : ((0 : Int) + (i : Nat)) = ((i : Nat) : Int) := Int.zero_add _
        refine ⟨_, rfl, .inl ⟨rfl, _, SqL.of hR⟩, ?_⟩
        refine ⟨_, rfl, _, rfl, L, xs, _, xs[i], rfl, rfl, SqL.of hL2, by rw [ei]; exact atI_nat (List.getElem?_eq_getElem hix), ?_⟩
        refine ⟨_, t.kids[i], H0, rfl, rd, sameT s0 s2, ko, by omega, by omega, fun H4 L2 zs s4 nL2 hL4 rz => ⟨L2, rfl, ⟨_, SqL.of hL4⟩, fun D hD => ?_⟩⟩
        have hzl := rz.length
        have hsl := (t.kids[i]).spots_len
        refine lc_it (walk_list (K := K) (a := L2) (xs := zs)) (fun j H5 => Same H4 H5 ∧ ∃ ws, H5 D = some (.lst ws) ∧ Pls H5 ws (((t.kids[i]).spots.take j).map fun p => i :: p)) ⟨same_new Same.rfl' hD, [], upd_same, .nil⟩ (fun j H5 _ ⟨s5, _⟩ => SqL.of (s5 _ _ hL4)) ?_ ?_
        · rintro j z H5 H6 hj ⟨s5, ws, hD5, rw5⟩ ⟨rfl, hz⟩
          obtain ⟨pa, p, rfl, hp, hpa⟩ := rz.got hz
          have hpa5 := s5 _ _ hpa
          have hjl : j < (t.kids[i]).spots.length := (List.getElem?_eq_some_iff.mp hp).1
          have fin : ∀ (H7 : Hp) (q : Addr), Same H6 H7 → H7 q = some (.tup (plV (i :: p))) → ∃ acc, H7 D = some (.lst acc) ∧ acc.length < sizeLine ∧ (Same H4 (upd H7 D (.lst (acc ++ [.ref q]))) ∧ ∃ ws, upd H7 D (.lst (acc ++ [.ref q])) D = some (.lst ws) ∧ Pls (upd H7 D (.lst (acc ++ [.ref q]))) ws (((t.kids[i]).spots.take (j + 1)).map fun p => i :: p)) := fun H7 q s7 hq => by
            have hD7 := s7 _ _ hD5
            have nt : ∀ xs', H7 D ≠ some (.tup xs') := fun xs' z => by rw [hD7] at z; cases z
            have kp := keep_upd (o := .lst (ws ++ [.ref q])) nt
            refine ⟨ws, hD7, ?_, same_put (sameT s5 s7) hD, ws ++ [.ref q], upd_same, ?_⟩
            · rw [rw5.length, List.length_map, List.length_take]
              exact small1000 (by omega)
            · have e : ((t.kids[i]).spots.take (j + 1)).map (fun p => i :: p) = ((t.kids[i]).spots.take j).map (fun p => i :: p) ++ [i :: p] := by
                rw [List.take_succ, hp, List.map_append]; rfl
              rw [e]
              exact (rw5.mono fun a u e => kp _ _ (s7 _ _ e)).app (.cons (kp _ _ hq) .nil)
          refine ⟨rfl, yesT ?_⟩
          refine ⟨_, rfl, (by show 1 ≤ sizeLine; decide), fun q nq => ⟨_, rfl, q, pa, [.int ((0 : Int) + (i : Nat))], plV p, rfl, rfl, SqT.of upd_same, SqT.of (same_new Same.rfl' nq _ _ hpa5), by simp, ?_, fun e => ?_, fun ne q2 nq2 => ?_⟩⟩
          · show 1 + (plV p).length ≤ sizeLine
            obtain ⟨s', hs'⟩ := Tm.spots_has (List.mem_of_getElem? hp)
            have h1 := hs'.small
            have h2 := (t.kids[i]).height_lt
            have h3 : (plV p).length = p.length := List.length_map _
            exact Nat.le_trans (show 1 + (plV p).length ≤ 1000 by omega) (by decide)
          · refine fin _ q (same_new Same.rfl' nq) ?_
            rw [upd_same, ei]
            have : p = [] := by cases p with
              | nil => rfl
              | cons a r => cases e
            rw [this]; rfl
          · refine fin _ q2 (same_new (same_new Same.rfl' nq) nq2) ?_
            rw [upd_same, ei]; rfl
        · rintro H5 ⟨s5, ws, hD5, rw5⟩
          rw [hzl, List.take_length] at rw5
          have s25 := sameT s4 s5
          have hR5 := s25 _ _ hR
          have ap := (ry.mono fun a u e => s25 _ _ e).app rw5
          have et : (([] : List Nat) :: spotsOf Tm.spots (t.kids.take i) 0) ++ (t.kids[i]).spots.map (fun p => i :: p) = ([] : List Nat) :: spotsOf Tm.spots (t.kids.take (i + 1)) 0 := by
            rw [List.take_succ_eq_append_getElem hi', spotsOf_app, List.cons_append, List.length_take, Nat.zero_add, Nat.min_eq_left (Nat.le_of_lt hi')]
          rw [et] at ap
          have hln : ys.length + ws.length ≤ sizeLine := by
            have := ap.length
            rw [List.length_append] at this
            have := spots_pre t (i + 1)
            exact Nat.le_trans (show ys.length + ws.length ≤ 1000 by omega) (by decide)
          have nt : ∀ xs', H5 R ≠ some (.tup xs') := fun xs' z => by rw [hR5] at z; cases z
          refine ⟨R, D, ys, ws, rfl, rfl, hR5, hD5, hln, _, ys ++ ws, rfl, upd_same, ap.mono (keep_upd nt), same_put (sameT s2 s25) nR0, ?_⟩
          rw [upd_ne (Ne.symm nRL)]
          exact s25 _ _ hL2
      · rintro σ H2 ⟨c, ys, rfl, hR, ry, s2, hL2⟩
        rw [show ((xs.length : Nat) : Int).toNat = t.kids.length by omega, List.take_length, ← t.spots_eq] at ry
        exact ⟨_, rfl, k H2 R ys s2 nR0 hR ry⟩
end
end K06

/-! k06, the law, part k: what stands at a place; something else set there. -/
namespace K06
open PySem L2 PySem.Spec PyProof.Rows
abbrev sSet : Stmt := top 68
theorem Has.step {H : Hp} {v : V} {t s : Tm} {k : Nat} {p : List Nat} (r : Rp H v t.data) (h : Has t (k :: p) s) : ∃ a xs x u, v = .ref a ∧ H a = some (.tup xs) ∧ xs[k + 1]? = some x ∧ Rp H x (Tm.data u) ∧ Has u p s := by
  obtain ⟨a, xs, rfl, ha, rx⟩ := r.tm
  cases h with
  | one h =>
    cases rx with
    | @cons v1 vs1 _ _ tv1 tvs1 => exact ⟨a, _, v1, _, rfl, ha, rfl, tv1, h⟩
  | left h =>
    cases rx with
    | @cons v1 vs1 _ _ tv1 tvs1 => exact ⟨a, _, v1, _, rfl, ha, rfl, tv1, h⟩
  | right h =>
    cases rx with
    | @cons v1 vs1 _ _ tv1 tvs1 =>
      cases tvs1 with
      | @cons v2 vs2 _ _ tv2 tvs2 => exact ⟨a, _, v2, _, rfl, ha, rfl, tv2, h⟩
theorem ixn {n j : Nat} (h : j < n) : ixN n (j : Int) = some j := by
  unfold ixN
  rw [if_pos (by omega), if_pos (by omega), Int.toNat_natCast]
/-- _law_there(term, place) -/
def spThere : Sp := fun vs H Q _ => ∃ v sp t s p, vs = [v, .ref sp] ∧ Rp H v (Tm.data t) ∧ H sp = some (.tup (plV p)) ∧ Has t p s ∧ ∀ x, Rp H x (Tm.data s) → Q x H
theorem Rps.set {H : Hp} {x : V} {d : PyData} (r : Rp H x d) : ∀ {vs : List V} {ds : List PyData} (i : Nat), Rps H vs ds → Rps H (vs.set i x) (ds.set i d)
  | _, _, _, .nil => .nil
  | _, _, 0, .cons _ q => .cons r q
  | _, _, i + 1, .cons a q => .cons a (Rps.set r i q)
theorem eqv_pl_nil (p : List Nat) : PyData.eqv (plD p) (.tuple []) = decide (p = []) := by
  cases p <;> rfl
theorem pl_lay (p : List Nat) : PyData.canLayAll0 (p.map fun (k : Nat) => PyData.int k) = true := by
  induction p with
  | nil => simp only [List.map_nil, PyData.canLayAll0]
  | cons k p ih => simp only [List.map_cons, PyData.canLayAll0, PyData.canLay0, ih, Bool.and_self]
/-- _law_set(term, place, new), of places shorter than n -/
def spSet (n : Nat) : Sp := fun vs H Q _ => ∃ v sp x d p y H0, vs = [v, .ref sp, x] ∧ Rp H0 v d ∧ H sp = some (.tup (plV p)) ∧ PathD d p ∧ Rp H0 x y ∧ Same H0 H ∧ p.length < n ∧ p.length ≤ 900 ∧ ∀ H' v' H0', Same H0 H0' → Same H0' H' → Same H H' → (∀ a, H0 a = none → H a ≠ none → H0' a = none) → Rp H0' v' (setD p d y) → Q v' H'
section
variable {P : Program} {w : World} {K : PySem.W.Frag} {mg : Str → Option Value} {base : Heap}
theorem scThere : FnScope ["_law_term", "_law_spot", "_law_k"] ["_law_term", "_law_spot"] (defScope sThere) := ⟨rfl, rfl, rfl, by decide +kernel, rfl, by decide +kernel, by decide +kernel⟩
theorem ok_there {f : Addr} {fd : FuncData} (F : Fun K "_law_there" "_law_there" sThere f fd) : FnOk P w K mg base CX0 1 f fd ["_law_term", "_law_spot"] spThere := by
  refine F.ok scThere (fun vs H Q E h => ?_) (fun cdv A outer s H vs Q E hr h => ?_)
  · obtain ⟨v, sp, t, s, p, rfl, _⟩ := h
    rfl
  · obtain ⟨v, sp, t, s, p, rfl, r, hp, hs, k⟩ := h
    have nd := scThere.nd
    refine ⟨_, pss_cons (ps_for PassesOwn.never rfl (pi_tup (pv 1)) (pg_name (i := 2) nd rfl (Or.inl rfl))
        (pss_one (ps_set (i := 0) nd rfl (Or.inl rfl) (pe_ix ix_tup (pv 0) (pe_op op_add (pv 2) pe_int) (fun _ _ => rfl)))))
      (pss_one (ps_ret (pv 0))), ?_⟩
    refine ⟨_, rfl, sp, rfl, ⟨_, SqT.of hp⟩, ?_⟩
    refine for_tup (K := K) (a := sp) (xs := plV p) (fun i σ H2 => ∃ cur c u, σ = [some cur, some (.ref sp), c] ∧ H2 = H ∧ Rp H cur (Tm.data u) ∧ Has u (p.drop i) s) ⟨v, none, t, rfl, rfl, r, hs⟩ (fun i σ H2 _ ⟨_, _, _, _, e, _⟩ => by rw [e]; exact SqT.of hp) ?_ ?_
    · rintro i y σ H2 hy ⟨cur, c, u, rfl, rfl, ru, hu⟩
      obtain ⟨ki, hk, rfl⟩ : ∃ ki : Nat, p[i]? = some ki ∧ y = .int ki := by
        unfold plV at hy
        rw [List.getElem?_map] at hy
        cases e : p[i]? with
        | none => rw [e] at hy; cases hy
        | some ki => rw [e] at hy; exact ⟨ki, rfl, (Option.some.inj hy).symm⟩
      have hi : i < p.length := (List.getElem?_eq_some_iff.mp hk).1
      have e : p.drop i = ki :: p.drop (i + 1) := by
        rw [List.drop_eq_getElem_cons hi]
        rw [List.getElem?_eq_getElem hi] at hk
        rw [Option.some.inj hk]
      rw [e] at hu
      obtain ⟨a, xs, x, u2, rfl, ha, hx, rx, hu2⟩ := hu.step ru
      have e1 : ((ki : Nat) : Int) + 1 = ((ki + 1 : Nat) : Int) := by omega
      exact ⟨_, rfl, _, rfl, _, _, rfl, rfl, a, xs, _, x, rfl, rfl, SqT.of ha, by rw [e1]; exact atI_nat hx, x, _, u2, rfl, rfl, rx, hu2⟩
    · rintro σ H2 ⟨cur, c, u, rfl, rfl, ru, hu⟩
      rw [show (plV p).length = p.length from List.length_map _, List.drop_length] at hu
      cases hu
      exact ⟨_, rfl, k _ ru⟩
theorem scSet : FnScope ["_law_term", "_law_spot", "_law_new", "_law_row"] ["_law_term", "_law_spot", "_law_new"] (defScope sSet) := ⟨rfl, rfl, rfl, by decide +kernel, rfl, by decide +kernel, by decide +kernel⟩
theorem ok_set {f : Addr} {fd : FuncData} (N : Nms mg) (DF : Df K mg "_law_set" sSet ["_law_term", "_law_spot", "_law_new"] f fd) :
    ∀ n, FnOk P w K mg base CX0 (1 + n) f fd ["_law_term", "_law_spot", "_law_new"] (spSet n)
  | 0 => fn_false fun vs H Q E ⟨_, _, _, _, _, _, _, _, _, _, _, _, _, h, _⟩ => absurd h (Nat.not_lt_zero _)
  | n + 1 => by
    have GR := ok_set N DF n
    refine DF.F.ok (k := 1 + n) scSet (fun vs H Q E h => ?_) (fun cdv A outer s H vs Q E hr h => ?_)
    · obtain ⟨v, sp, x, d, p, y, H0, rfl, _⟩ := h
      rfl
    · obtain ⟨v, sp, x, d, p, y, H0, rfl, rv, hp, pd, rx, s0, hn, h9, k⟩ := h
      have nd := scSet.nd
      have hu := hu_of hr
      refine ⟨_, pss_cons (ps_if (pt_cmpR (op_eqM hr.units) (pv 1) (pe_tup pa_nil) (nomark _)) (pss_one (ps_ret (pv 2))) pss_nil)
        (pss_cons (ps_set (i := 3) nd rfl (Or.inl rfl) (pe_callTy call_list_of (by rfl) N.list (by decide +kernel) (pa_cons (pv 0) pa_nil)))
        (pss_cons (ps_asg (pe_call GR hr rfl DF.g DF.F.kp DF.b .nil pass0 (pa_cons (pe_ix ix_tup (pv 0) (pe_op op_add (pe_ix ix_tup (pv 1) pe_int (fun _ _ => rfl)) pe_int) (fun _ _ => rfl)) (pa_cons (pe_slice sl_tup (pv 1) (po_some pe_int) po_none) (pa_cons (pv 2) pa_nil))))
            (pg_sub (pv 3) (pe_op op_add (pe_ix ix_tup (pv 1) pe_int (fun _ _ => rfl)) pe_int) set_list))
        (pss_one (ps_ret (pe_callTy call_tuple_of (by rfl) N.tuple (by decide +kernel) (pa_cons (pv 3) pa_nil)))))), ?_⟩
      have e0 := eqv_pl_nil p
      refine ⟨_, rfl, Nat.zero_le _, fun z nz => ?_⟩
      have sz := same_new (o := .tup []) Same.rfl' nz
      refine ⟨plD p, .tuple [], (Rp.of_pl (sz _ _ hp)).dp, (Rp.tup upd_same .nil).dp, by unfold plD; simp only [PyData.canLay0]; exact pl_lay p, by simp only [PyData.canLay0, PyData.canLayAll0], ?_, ?_⟩
      · exact Nat.le_trans (Nat.min_le_right _ _) (by decide)
      refine ⟨_, rfl, ?_⟩
      rw [e0]
      cases pd with
      | nil => exact iteT ⟨_, rfl, k _ x H0 (fun _ _ e => e) (sameT s0 sz) sz (fun a e _ => e) rx⟩
      | @cons ds i e p' he pd =>
        refine iteF ?_
        cases rv with
        | @tup a xs _ ha rxs =>
          have haH := sz _ _ (s0 _ _ ha)
          obtain ⟨xi, hxi, rxi⟩ := rxs.get he
          refine ⟨_, rfl, a, xs, rfl, .inr (SqT.of haH), fun L nL => ?_⟩
          have sL := same_new (o := .lst xs) sz nL
          have hpL := sL _ _ hp
          have haL := same_new (o := .lst xs) Same.rfl' nL _ _ haH
          have e1 : ((i : Nat) : Int) + 1 = ((i + 1 : Nat) : Int) := by omega
          refine ⟨_, rfl, _, rfl, sp, plV (i :: p'), 0, .int (i : Nat), rfl, rfl, SqT.of hpL, at0, _, _, rfl, rfl, a, xs, _, xi, rfl, rfl, SqT.of haL, by rw [e1]; exact atI_nat hxi, ?_⟩
          refine ⟨_, rfl, _, rfl, sp, plV (i :: p'), rfl, SqT.of hpL, ?_, fun q nq => ?_⟩
          · rw [show ((1 : Int)) = ((1 : Nat) : Int) from rfl, HT.sIx_nat]
            rintro ⟨h, _⟩
            have : (plV (i :: p')).length = p'.length + 1 := by show (List.map _ _).length = _; rw [List.length_map, List.length_cons]
            omega
          have hcut : cutV (plV (i :: p')) (some 1) none = plV p' := by
            have : (plV (i :: p')).length = p'.length + 1 := by show (List.map _ _).length = _; rw [List.length_map, List.length_cons]
            have l2 : (plV p').length = p'.length := List.length_map _
            unfold cutV
            rw [show ((1 : Int)) = ((1 : Nat) : Int) from rfl, HT.sIx_nat, HT.sIx_none, this, Nat.min_eq_left (by omega)]
            show (plV p').take (p'.length + 1 - 1) = plV p'
            rw [List.take_of_length_le (by rw [l2]; omega)]
          rw [hcut]
          have sq := same_new (o := .tup (plV p')) sL nq
          refine ⟨_, rfl, xi, q, x, e, p', y, H0, rfl, rxi, upd_same, pd, rx, sameT s0 sq, by rw [List.length_cons] at hn; omega, by rw [List.length_cons] at h9; omega, fun H2 v' H0' s00 s02 s2 fresh rv' => ?_⟩
          have nHL : H L = none := none_of sz nL
          have nHq : H q = none := none_of sL nq
          have n0L : H0 L = none := none_of s0 nHL
          have hL2 : H2 L = some (.lst xs) := s2 _ _ (same_new Same.rfl' nq _ _ upd_same)
          have f0L : H0' L = none := fresh L n0L (by rw [same_new Same.rfl' nq _ _ upd_same]; exact fun z => by cases z)
          have s2' := sameT sq s2
          have hp2 := s2' _ _ hp
          have hi1 : i + 1 < xs.length := (List.getElem?_eq_some_iff.mp hxi).1
          refine ⟨_, rfl, _, rfl, sp, plV (i :: p'), 0, .int (i : Nat), rfl, rfl, SqT.of hp2, at0, _, _, rfl, rfl, L, xs, _, i + 1, rfl, rfl, hL2, by rw [e1]; exact ixn hi1, ?_⟩
          refine ⟨_, rfl, L, xs.set (i + 1) v', rfl, .inl ⟨SqL.of upd_same, fun T nT => ?_⟩⟩
          have s3 : Same H0' (upd H2 L (.lst (xs.set (i + 1) v'))) := same_put s02 f0L
          have sH3 : Same H (upd H2 L (.lst (xs.set (i + 1) v'))) := same_put s2' nHL
          have f0T : H0' T = none := none_of s3 nT
          have nHT : H T = none := none_of sH3 nT
          have n3T : upd H2 L (.lst (xs.set (i + 1) v')) T = none := nT
          have s0T := same_new (o := .tup (xs.set (i + 1) v')) (Same.rfl' (H := H0')) f0T
          refine k _ (.ref T) (upd H0' T (.tup (xs.set (i + 1) v'))) (sameT s00 s0T) ?_ (same_new sH3 nT) (fun b e0 e => ?_) ?_
          · intro b u eb
            by_cases hb : b = T
            · rw [hb, upd_same] at eb ⊢; exact eb
            · rw [upd_ne hb] at eb ⊢; exact s3 _ _ eb
          · have hbT : b ≠ T := fun z => e (by rw [z]; exact nHT)
            rw [upd_ne hbT]
            refine fresh b e0 (fun z => e ?_)
            exact none_of sq z
          · have ed : setD (i :: p') (.tuple ds) y = .tuple (ds.set (i + 1) (setD p' e y)) := by
              show PyData.tuple (ds.set (i + 1) (setD p' (ds.getD (i + 1) .none) y)) = _
              rw [show ds.getD (i + 1) .none = e by rw [List.getD_eq_getElem?_getD, he]; rfl]
            rw [ed]
            exact .tup upd_same ((Rps.set rv' (i + 1) (rxs.mono (Sq.of s00))).mono (Sq.of s0T))
end
end K06

/-! k06, the law, part l: signs put in front; the look and each once, as the law tells them. -/
namespace K06
open PySem L2 PySem.Spec PyProof.Rows
abbrev sSigns : Stmt := top 64
abbrev sLook : Stmt := top 77
abbrev sLOnce : Stmt := top 78
/-- _law_signs(bag, term, most) -/
def spSigns : Sp := fun vs H Q _ => ∃ (b l : Addr) (v : V) (m k n : Nat), vs = [.ref b, v, .int (m : Nat)] ∧ m ≤ 20 ∧ TmAt H v k n ∧ BagL H b l ∧ ∀ v' H', TmAt H' v' (k + m) (n + m) → Dr b l H H' → Q v' H'
/-- _law_look(term), of height below n -/
def spLLook (n : Nat) : Sp := fun vs H Q _ => ∃ v t H0, vs = [v] ∧ Rp H0 v (Tm.data t) ∧ Same H0 H ∧ t.Ok ∧ t.height < n ∧ ∀ H', Same H H' → Q (.int (t.look : Nat)) H'
theorem Tm.look_kids {t : Tm} (h : t.Ok) : ∀ {m : Int}, m ∈ ((0 : Int) :: t.kids.map fun u => ((u.look : Nat) : Int)) → (∀ x ∈ ((0 : Int) :: t.kids.map fun u => ((u.look : Nat) : Int)), x ≤ m) →
    (if inV (.str t.word) psV = true then m + 1 else m) = (t.look : Nat) := by
  intro m hm hx
  cases t with
  | leaf w ds =>
    have e : m = 0 := by simpa [Tm.kids] using hm
    obtain ⟨n, hn⟩ := h.2.1
    have key : ∀ p ∈ arities, p.2.2 = 0 → inV (.str p.1) psV = false := by decide +kernel
    have := key _ (arity_mem hn) rfl
    show (if inV (.str w) psV = true then m + 1 else m) = ((0 : Nat) : Int)
    rw [this, if_neg Bool.false_ne_true, e]
    rfl
  | one w s =>
    have h1 : m = 0 ∨ m = (s.look : Nat) := by simpa [Tm.kids] using hm
    have h2 := hx 0 List.mem_cons_self
    have h3 := hx (s.look : Nat) (by simp [Tm.kids])
    have e : m = (s.look : Nat) := by omega
    show (if inV (.str w) psV = true then m + 1 else m) = ((if inV (.str w) psV = true then s.look + 1 else s.look : Nat) : Int)
    split <;> omega
  | two w s u =>
    have h1 : m = 0 ∨ m = (s.look : Nat) ∨ m = (u.look : Nat) := by simpa [Tm.kids] using hm
    have h2 := hx 0 List.mem_cons_self
    have h3 := hx (s.look : Nat) (by simp [Tm.kids])
    have h4 := hx (u.look : Nat) (by simp [Tm.kids])
    have key : ∀ w ∈ twos, inV (.str w) psV = false := by decide +kernel
    show (if inV (.str w) psV = true then m + 1 else m) = ((max s.look u.look : Nat) : Int)
    rw [key w h.1, if_neg Bool.false_ne_true]
    omega
def spLOnce : Sp := fun vs H Q _ => ∃ a zs, vs = [.ref a] ∧ H a = some (.lst (zs.map V.str)) ∧ zs.length ≤ 900 ∧ ∀ H' L, Same H H' → H' L = some (.tup ((onceL zs).map V.str)) → Q (.ref L) H'
theorem in_strs (z : Str) : ∀ zs : List Str, inV (.str z) (zs.map V.str) = decide (z ∈ zs)
  | [] => rfl
  | y :: zs => by
    have ih := in_strs z zs
    show (eqV (.str y) (.str z) || inV (.str z) (zs.map V.str)) = _
    rw [ih]
    have e : eqV (.str y) (.str z) = decide (z = y) := by
      show decide (y = z) = _
      by_cases h : y = z
      · rw [decide_eq_true h, decide_eq_true h.symm]
      · rw [decide_eq_false h, decide_eq_false (fun q => h q.symm)]
    rw [e]
    by_cases h : z = y
    · subst h; rw [decide_eq_true rfl, decide_eq_true (List.mem_cons_self (a := z) (l := zs))]; rfl
    · rw [decide_eq_false h, Bool.false_or]
      by_cases g : z ∈ zs
      · rw [decide_eq_true g, decide_eq_true (List.mem_cons_of_mem _ g)]
      · rw [decide_eq_false g, decide_eq_false (fun q => by rcases List.mem_cons.mp q with q | q; exact h q; exact g q)]
theorem flat_strs (zs : List Str) : (zs.map V.str).all flatV = true := by
  rw [List.all_eq_true]
  intro x hx
  obtain ⟨z, _, rfl⟩ := List.mem_map.mp hx
  rfl
section
variable {P : Program} {w : World} {K : PySem.W.Frag} {mg : Str → Option Value} {base : Heap}
theorem scSigns : FnScope ["_law_bag_here", "_law_term", "_law_most", "_law_k"] ["_law_bag_here", "_law_term", "_law_most"] (defScope sSigns) := ⟨rfl, rfl, rfl, by decide +kernel, rfl, by decide +kernel, by decide +kernel⟩
theorem ok_signs {f fp fc : Addr} {fd fdp fdc : FuncData} (F : Fun K "_law_signs" "_law_signs" sSigns f fd) (N : Nms mg) (DP : Df K mg "_law_pick" sPick ["_law_bag_here", "_law_many"] fp fdp) (GP : FnOk P w K mg base CX0 1 fp fdp ["_law_bag_here", "_law_many"] spPick)
    (DC : Df K mg "_law_choice" sChoice ["_law_bag_here", "_law_things"] fc fdc) (GC : FnOk P w K mg base CX0 2 fc fdc ["_law_bag_here", "_law_things"] (spChoice K)) : FnOk P w K mg base CX0 3 f fd ["_law_bag_here", "_law_term", "_law_most"] spSigns := by
  refine F.ok scSigns (fun vs H Q E h => ?_) (fun cdv A outer s H vs Q E hr h => ?_)
  · obtain ⟨b, l, v, m, k, n, rfl, _⟩ := h
    rfl
  · obtain ⟨b, l, v, m, kk, n, rfl, hm, tv, B, k⟩ := h
    have nd := scSigns.nd
    have r1 := hr.mono (show 1 ≤ 2 by decide)
    refine ⟨_, pss_cons (ps_for PassesOwn.never rfl (pi_range1 rfl N.range (pa_cons (pe_call GP r1 rfl DP.g DP.F.kp DP.b .nil pass0 (pa_cons (pv 0) (pa_cons (pe_op op_add (pv 2) pe_int) pa_nil))) pa_nil)) (pg_name (i := 3) nd rfl (Or.inl rfl))
        (pss_one (ps_set (i := 1) nd rfl (Or.inl rfl) (pe_tup (pa_cons (pe_call GC hr rfl DC.g DC.F.kp DC.b .nil pass0 (pa_cons (pv 0) (pa_cons (pe_lst (pa_cons pe_str (pa_cons pe_str (pa_cons pe_str (pa_cons pe_str (pa_cons pe_str pa_nil)))))) pa_nil))) (pa_cons (pv 1) pa_nil))))))
      (pss_one (ps_ret (pv 1))), ?_⟩
    have e1 : ((m : Nat) : Int) + 1 = ((m + 1 : Nat) : Int) := by omega
    refine ⟨_, rfl, _, rfl, _, _, rfl, rfl, b, l, _, rfl, by omega, by omega, B, fun r H1 r0 r1' B1 bt1 _ => ?_⟩
    obtain ⟨j, rfl⟩ := Int.eq_ofNat_of_zero_le r0
    have hj : j ≤ m := by omega
    have D1 : Dr b l H H1 := ⟨B1, bt1⟩
    refine ⟨_, rfl, by omega, by omega, ?_⟩
    refine for_range (lo := 0) (n := ((j : Nat) : Int).toNat) (fun i σ H2 => ∃ cur c, σ = [some (.ref b), some cur, some (.int (m : Nat)), c] ∧ TmAt H2 cur (kk + i) (n + i) ∧ Dr b l H H2) ⟨v, none, rfl, tv.mono (D1.sq B) (Nat.le_refl _) (Nat.le_refl _), D1⟩ ?_ ?_
    · rintro i σ H2 hi ⟨cur, c, rfl, tc, D2⟩
      refine ⟨_, rfl, (by show 5 ≤ sizeLine; decide), fun L nL => ⟨b, l, L, _, rfl, upd_same, D2.bag.ne_b nL, (by show 0 < 5; decide), (by show 5 < 1000; decide), (D2.new nL).bag, fun x H3 hx B3 bt3 _ => ?_⟩⟩
      have D3 := (D2.new (o := .lst [.str "not", .str "some", .str "each", .str "main", .str "not"]) nL).trans ⟨B3, bt3⟩
      refine ⟨_, rfl, (by show 2 ≤ sizeLine; decide), fun t nt => ?_⟩
      obtain ⟨w0, rfl, hw0⟩ : ∃ w0 : Str, x = .str w0 ∧ w0 ∈ ones := by
        simp only [List.mem_cons, List.not_mem_nil, or_false] at hx
        rcases hx with rfl | rfl | rfl | rfl | rfl
        · exact ⟨_, rfl, by decide⟩
        · exact ⟨_, rfl, by decide⟩
        · exact ⟨_, rfl, by decide⟩
        · exact ⟨_, rfl, by decide⟩
        · exact ⟨_, rfl, by decide⟩
      have sq : Sq H2 (upd H3 t (.tup [.str w0, cur])) := ((Sq.of (same_new Same.rfl' nL)).trans (Sq.but (D2.new nL).bag bt3)).trans (Sq.of (same_new Same.rfl' nt))
      exact ⟨_, _, rfl, tm_one hw0 (tc.mono sq (Nat.le_refl _) (Nat.le_refl _)) upd_same, D3.new nt⟩
    · rintro σ H2 ⟨cur, c, rfl, tc, D2⟩
      exact ⟨_, rfl, k cur H2 (tc.mono (Sq.refl _) (by omega) (by omega)) D2⟩
theorem scLLook : FnScope ["_law_term", "_law_deepest", "_law_one"] ["_law_term"] (defScope sLook) := ⟨rfl, rfl, rfl, by decide +kernel, rfl, by decide +kernel, by decide +kernel⟩
theorem ok_llook {f fb : Addr} {fd fdb : FuncData} (N : Nms mg) (DF : Df K mg "_law_look" sLook ["_law_term"] f fd) (DB : Df K mg "_law_beneaths" sBeneaths ["_law_term"] fb fdb) (GB : FnOk P w K mg base CX0 1 fb fdb ["_law_term"] spBeneaths) :
    ∀ n, FnOk P w K mg base CX0 (1 + n) f fd ["_law_term"] (spLLook n)
  | 0 => fn_false fun vs H Q E ⟨_, _, _, _, _, _, _, h, _⟩ => absurd h (Nat.not_lt_zero _)
  | n + 1 => by
    have GR := ok_llook N DF DB GB n
    refine DF.F.ok (k := 1 + n) scLLook (fun vs H Q E h => ?_) (fun cdv A outer s H vs Q E hr h => ?_)
    · obtain ⟨v, t, H0, rfl, _⟩ := h
      rfl
    · obtain ⟨v, t, H0, rfl, r, s0, ok, hh, k⟩ := h
      have nd := scLLook.nd
      have r1 := hr.mono (show 1 ≤ 1 + n by omega)
      refine ⟨_, pss_cons (ps_set (i := 1) nd rfl (Or.inl rfl) (pe_callB (cr_max rfl) (by rfl) N.max (by decide +kernel) (pa_cons (pe_op op_cat (pe_lst (pa_cons pe_int pa_nil))
          (pe_lc (own := [("_law_one", 2)]) (g := gName 2) (tt := tYes) (te := tCall (spLLook n) [] E0 (tCons (tVar 2) tNil)) rfl nd (pi_list (pe_call GB r1 rfl DB.g DB.F.kp DB.b .nil pass0 (pa_cons (pv 0) pa_nil)))
            (blkOk_by (N := ["_law_term", "_law_deepest", "_law_one"]) (sc := defScope sLook) (by decide +kernel)) (fun _ _ _ _ _ => pg_name (i := 2) nd rfl (Or.inl rfl)) (fun _ _ _ _ _ => pts_nil)
            (fun _ _ _ _ _ => pe_call GR hr rfl DF.g DF.F.kp DF.b .nil pass0 (pa_cons (pv 2) pa_nil)))) pa_nil)))
        (pss_cons (ps_if (pt_cmpR op_in_seq (pe_ix ix_tup (pv 0) pe_int (fun _ _ => rfl)) (pe_lst (pa_cons pe_str (pa_cons pe_str (pa_cons pe_str pa_nil)))) rfl) (pss_one (ps_ret (pe_op op_add (pv 1) pe_int))) pss_nil)
        (pss_one (ps_ret (pv 1)))), ?_⟩
      obtain ⟨a, vs0, rfl, ha, rv⟩ := r.tm
      have hkm := t.kid_ok ok
      have hk2 : t.kids.length ≤ 2 := by cases t <;> simp [Tm.kids]
      refine ⟨(by show 1 ≤ sizeLine; decide), fun Z nZ => ?_⟩
      have sZ := same_new (o := .lst [.int 0]) Same.rfl' nZ
      refine ⟨_, rfl, _, t, H0, rfl, r, sameT s0 sZ, ok, fun H1 L xs s1 nL hL rx => ⟨L, rfl, ⟨_, SqL.of hL⟩, fun D hD => ?_⟩⟩
      have hlen : xs.length = t.kids.length := by rw [rx.length, List.length_map]
      refine lc_it (walk_list (K := K) (a := L) (xs := xs)) (fun j H5 => Same H1 H5 ∧ H5 D = some (.lst (((t.kids.take j).map fun u => ((u.look : Nat) : Int)).map V.int))) ⟨same_new Same.rfl' hD, upd_same⟩ (fun j H5 _ ⟨s5, _⟩ => SqL.of (s5 _ _ hL)) ?_ ?_
      · rintro i y H5 H6 hi ⟨s5, hD5⟩ ⟨rfl, hy⟩
        have hi' : i < t.kids.length := by rw [← hlen]; exact hi
        obtain ⟨d, hd, rd⟩ := rx.got hy
        have ed : d = (t.kids[i]).data := by
          rw [List.getElem?_map, List.getElem?_eq_getElem hi'] at hd
          exact (Option.some.inj hd).symm
        subst ed
        obtain ⟨ko, kh, km⟩ := hkm _ (List.getElem_mem hi')
        refine ⟨rfl, yesT ⟨_, rfl, y, t.kids[i], H0, rfl, rd, sameT (sameT (sameT s0 sZ) s1) s5, ko, by omega, fun H7 s7 => ⟨_, s7 _ _ hD5, ?_, same_put (sameT s5 s7) hD, ?_⟩⟩⟩
        · rw [List.length_map, List.length_map, List.length_take]
          exact small1000 (by omega)
        · rw [upd_same, List.take_succ_eq_append_getElem hi', List.map_append, List.map_append]
          rfl
      · rintro H5 ⟨s5, hD5⟩
        rw [hlen, List.take_length] at hD5
        have sH5 := sameT (sameT sZ s1) s5
        have hZ5 := sameT s1 s5 _ _ upd_same
        refine ⟨Z, D, _, _, rfl, rfl, hZ5, hD5, ?_, fun C nC => ⟨C, (0 : Int) :: t.kids.map (fun u => ((u.look : Nat) : Int)), rfl, SqL.of upd_same, Nat.succ_pos _, fun m hm hle => ?_⟩⟩
        · rw [List.length_map, List.length_map]
          exact Nat.le_trans (show 1 + t.kids.length ≤ 1000 by omega) (by decide)
        have sC := same_new (o := .lst ([V.int 0] ++ (t.kids.map (fun u => ((u.look : Nat) : Int))).map V.int)) sH5 nC
        have e := t.look_kids ok hm hle
        refine ⟨_, rfl, a, _, 0, .str t.word, rfl, rfl, SqT.of (sC _ _ (s0 _ _ ha)), at0, (by show 3 ≤ sizeLine; decide), fun p np => ⟨p, psV, rfl, .inl (SqL.of upd_same), rfl, by decide, _, rfl, ?_⟩⟩
        show if inV (.str t.word) psV = true then _ else _
        have sp := same_new (o := .lst psV) sC np
        cases ei : inV (.str t.word) psV with
        | true =>
          rw [ei, if_pos rfl] at e
          refine iteT ⟨_, rfl, _, _, rfl, rfl, ?_⟩
          show Q (.int (m + 1)) _
          rw [e]
          exact k _ sp
        | false =>
          rw [ei, if_neg Bool.false_ne_true] at e
          refine iteF ⟨_, rfl, ?_⟩
          show Q (.int m) _
          rw [e]
          exact k _ sp
theorem scLOnce : FnScope ["_law_things", "_law_row", "_law_thing"] ["_law_things"] (defScope sLOnce) := ⟨rfl, rfl, rfl, by decide +kernel, rfl, by decide +kernel, by decide +kernel⟩
theorem ok_lonce {f : Addr} {fd : FuncData} (F : Fun K "_law_once" "_law_once" sLOnce f fd) (N : Nms mg) : FnOk P w K mg base CX0 1 f fd ["_law_things"] spLOnce := by
  refine F.ok scLOnce (fun vs H Q E h => ?_) (fun cdv A outer s H vs Q E hr h => ?_)
  · obtain ⟨a, zs, rfl, _⟩ := h
    rfl
  · obtain ⟨a, zs, rfl, ha, hz, k⟩ := h
    have nd := scLOnce.nd
    refine ⟨_, pss_cons (ps_set (i := 1) nd rfl (Or.inl rfl) (pe_lst pa_nil))
      (pss_cons (ps_for PassesOwn.never rfl (pi_list (pv 0)) (pg_name (i := 2) nd rfl (Or.inl rfl))
        (pss_one (ps_if (pt_cmpR op_notIn_seq (pv 2) (pv 1) rfl) (pss_one (ps_expr (pe_bm PySem.F.plainAttrs_list PySem.F.slot_list_append PySem.F.type_list_append mt_append (pv 1) (pa_cons (pv 2) pa_nil)))) pss_nil)))
      (pss_one (ps_ret (pe_callTy call_tuple_of (by rfl) N.tuple (by decide +kernel) (pa_cons (pv 1) pa_nil))))), ?_⟩
    refine ⟨Nat.zero_le _, fun R nR => ?_⟩
    have sR := same_new (o := .lst []) Same.rfl' nR
    refine ⟨_, rfl, a, rfl, ⟨_, SqL.of (sR _ _ ha)⟩, ?_⟩
    refine for_it (walk_list (K := K) (a := a) (xs := zs.map V.str)) (fun i σ H2 => ∃ c, σ = [some (.ref a), some (.ref R), c] ∧ H2 R = some (.lst ((onceL (zs.take i)).map V.str)) ∧ Same H H2) ⟨none, rfl, upd_same, sR⟩ (fun _ _ _ _ ⟨_, _, _, s⟩ => SqL.of (s _ _ ha)) ?_ ?_
    · rintro i y σ H2 H3 hi ⟨c, rfl, hR, s2⟩ ⟨rfl, hy⟩
      obtain ⟨z, hzi, rfl⟩ : ∃ z, zs[i]? = some z ∧ y = .str z := by
        rw [List.getElem?_map] at hy
        cases e : zs[i]? with
        | none => rw [e] at hy; cases hy
        | some z => rw [e] at hy; exact ⟨z, rfl, (Option.some.inj hy).symm⟩
      have ot := onceL_take hzi
      refine ⟨_, rfl, _, rfl, R, _, rfl, .inl (SqL.of hR), rfl, flat_strs _, _, rfl, ?_⟩
      show if (!inV (.str z) ((onceL (zs.take i)).map V.str)) = true then _ else _
      rw [in_strs]
      by_cases hm : z ∈ onceL (zs.take i)
      · rw [decide_eq_true hm]
        refine iteF ⟨_, rfl, ?_, s2⟩
        rw [ot, if_pos hm]
        exact hR
      · rw [decide_eq_false hm]
        refine iteT ⟨_, rfl, .inl ⟨rfl, _, SqL.of hR⟩, _, rfl, R, _, _, rfl, rfl, hR, ?_, _, rfl, ?_, same_put s2 nR⟩
        · rw [List.length_map]
          have := onceL_len (zs.take i)
          rw [List.length_take] at this
          exact small1000 (by omega)
        · rw [upd_same, ot, if_neg hm, List.map_append]
          rfl
    · rintro σ H2 ⟨c, rfl, hR, s2⟩
      rw [List.length_map, List.take_length] at hR
      exact ⟨_, rfl, R, _, rfl, .inl ⟨SqL.of hR, fun T nT => k _ T (same_new s2 nT) upd_same⟩⟩
end
end K06

/-! k06, the law, part m: exactly the same. -/
namespace K06
open PySem L2 PySem.Spec PyProof.Rows
abbrev sExact : Stmt := top 62
abbrev sSame : Stmt := top 80
/-- what _law_exact looks into, so many levels deep at most -/
inductive ExN : Nat → PyData → Prop
  | non {n : Nat} : ExN (n + 1) .none
  | int {n : Nat} (i : Int) : ExN (n + 1) (.int i)
  | str {n : Nat} (z : Str) : ExN (n + 1) (.str z)
  | tup {n : Nat} {ds : List PyData} : (∀ d ∈ ds, ExN n d) → ds.length ≤ 900 → ExN (n + 1) (.tuple ds)
/-- _law_exact(told, due), both the same data -/
def spExact (n : Nat) : Sp := fun vs H Q _ => ∃ x y d, vs = [x, y] ∧ Rp H x d ∧ Rp H y d ∧ ExN n d ∧ ∀ H', Same H H' → Q (.bl true) H'
def spSame : Sp := fun vs H Q _ => ∃ r, vs = [.bl r, .bl r] ∧ Q (.bl true) H
theorem all_true : ∀ n : Nat, (List.replicate n true).all id = true
  | 0 => rfl
  | n + 1 => by rw [List.replicate_succ, List.all_cons, all_true n]; rfl
section
variable {P : Program} {w : World} {K : PySem.W.Frag} {mg : Str → Option Value} {base : Heap}
theorem scExact : FnScope ["_law_told", "_law_due", "_law_k"] ["_law_told", "_law_due"] (defScope sExact) := ⟨rfl, rfl, rfl, by decide +kernel, rfl, by decide +kernel, by decide +kernel⟩
theorem ok_exact {f fi : Addr} {fd fdi : FuncData} (N : Nms mg) (DF : Df K mg "_law_exact" sExact ["_law_told", "_law_due"] f fd) (DI : Df K mg "_law_integer" sInteger ["_law_thing"] fi fdi) (GI : FnOk P w K mg base CX0 1 fi fdi ["_law_thing"] spNum) :
    ∀ n, FnOk P w K mg base CX0 (1 + n) f fd ["_law_told", "_law_due"] (spExact n)
  | 0 => fn_false fun vs H Q E ⟨_, _, _, _, _, _, h, _⟩ => nomatch h
  | n + 1 => by
    have GR := ok_exact N DF DI GI n
    refine DF.F.ok (k := 1 + n) scExact (fun vs H Q E h => ?_) (fun cdv A outer s H vs Q E hr h => ?_)
    · obtain ⟨x, y, d, rfl, _⟩ := h
      rfl
    · obtain ⟨x, y, d, rfl, rx, ry, ex, k⟩ := h
      have nd := scExact.nd
      have r1 := hr.mono (show 1 ≤ 1 + n by omega)
      refine ⟨_, pss_cons (ps_if (pt_val (pe_callB call_isi (by rfl) N.isi (by decide +kernel) (pa_cons (pv 1) (pa_cons (pe_bltn (v := .ty "tuple") (by rfl) N.tuple (by decide +kernel) rfl) pa_nil))))
          (pss_cons (ps_if (PW.pt (pw_or (pt_not (pt_val (pe_callB call_isi (by rfl) N.isi (by decide +kernel) (pa_cons (pv 0) (pa_cons (pe_bltn (v := .ty "tuple") (by rfl) N.tuple (by decide +kernel) rfl) pa_nil)))))
              (pw_or1 (pt_cmpR op_ne (pe_callB call_len_seq (by rfl) N.len PySem.boot_len (pa_cons (pv 0) pa_nil)) (pe_callB call_len_seq (by rfl) N.len PySem.boot_len (pa_cons (pv 1) pa_nil)) (nomark _))))) (pss_one (ps_ret pe_bl)) pss_nil)
          (pss_one (ps_ret (pe_callB (cr_all rfl) (by rfl) N.all (by decide +kernel) (pa_cons
            (pe_lc (own := [("_law_k", 2)]) (g := gName 2) (tt := tYes) (te := tCall (spExact n) [] E0 (tCons (tOp (rIxT K) (tVar 0) (tVar 2)) (tCons (tOp (rIxT K) (tVar 1) (tVar 2)) tNil))) rfl nd (pi_range1 rfl N.range (pa_cons (pe_callB call_len_seq (by rfl) N.len PySem.boot_len (pa_cons (pv 1) pa_nil)) pa_nil))
              (blkOk_by (N := ["_law_told", "_law_due", "_law_k"]) (sc := defScope sExact) (by decide +kernel)) (fun _ _ _ _ _ => pg_name (i := 2) nd rfl (Or.inl rfl)) (fun _ _ _ _ _ => pts_nil)
              (fun _ _ _ _ _ => pe_call GR hr rfl DF.g DF.F.kp DF.b .nil pass0 (pa_cons (pe_ix ix_tup (pv 0) (pv 2) (fun _ _ => rfl)) (pa_cons (pe_ix ix_tup (pv 1) (pv 2) (fun _ _ => rfl)) pa_nil)))) pa_nil))))) pss_nil)
        (pss_cons (ps_if (pt_val (pe_callB call_isi (by rfl) N.isi (by decide +kernel) (pa_cons (pv 1) (pa_cons (pe_bltn (v := .ty "str") (by rfl) N.str (by decide +kernel) rfl) pa_nil))))
          (pss_one (ps_ret (pe_and (pe_callB call_isi (by rfl) N.isi (by decide +kernel) (pa_cons (pv 0) (pa_cons (pe_bltn (v := .ty "str") (by rfl) N.str (by decide +kernel) rfl) pa_nil))) (pe_one (pe_cmpR op_eq (pv 0) (pv 1) (nomark _)))))) pss_nil)
        (pss_cons (ps_if (pt_cmpR op_isN (pv 1) pe_non (nomark _)) (pss_one (ps_ret (pe_cmpR op_isN (pv 0) pe_non (nomark _)))) pss_nil)
        (pss_one (ps_ret (pe_and (pe_call GI r1 rfl DI.g DI.F.kp DI.b .nil pass0 (pa_cons (pv 0) pa_nil)) (pe_and (pe_call GI r1 rfl DI.g DI.F.kp DI.b .nil pass0 (pa_cons (pv 1) pa_nil)) (pe_one (pe_cmpR op_eq (pv 0) (pv 1) (nomark _))))))))), ?_⟩
      obtain ⟨v1, ty1, k1⟩ := ry.kTup (K := K)
      obtain ⟨v2, ty2, k2⟩ := ry.kStr (K := K)
      refine ⟨_, rfl, _, _, v1, _, _, rfl, .ty _, ty1, k1, _, rfl, ?_⟩
      cases ex with
      | non =>
        cases rx
        cases ry
        refine iteF ⟨_, rfl, _, _, v2, _, _, rfl, .ty _, ty2, k2, _, rfl, ?_⟩
        refine iteF ⟨_, rfl, rfl, _, rfl, ?_⟩
        exact iteT ⟨_, rfl, rfl, k H Same.rfl'⟩
      | str z =>
        cases rx with
        | str _ hz =>
          cases ry
          refine iteF ⟨_, rfl, _, _, v2, _, _, rfl, .ty _, ty2, k2, _, rfl, ?_⟩
          obtain ⟨v3, ty3, k3⟩ := (Rp.str (H := H) z hz).kStr (K := K)
          refine iteT ⟨_, rfl, _, _, v3, _, _, rfl, .ty _, ty3, k3, _, rfl, ?_⟩
          refine iteT ⟨_, rfl, _, rfl, rfl, ?_⟩
          rw [decide_eq_true rfl]
          exact k H Same.rfl'
      | int i =>
        cases rx
        cases ry
        refine iteF ⟨_, rfl, _, _, v2, _, _, rfl, .ty _, ty2, k2, _, rfl, ?_⟩
        refine iteF ⟨_, rfl, rfl, _, rfl, ?_⟩
        refine iteF ⟨_, rfl, _, _, rfl, .int i, _, rfl, ?_⟩
        refine iteT ⟨_, rfl, _, _, rfl, .int i, _, rfl, ?_⟩
        refine iteT ⟨_, rfl, _, rfl, rfl, ?_⟩
        rw [decide_eq_true rfl]
        exact k H Same.rfl'
      | @tup _ ds hd hl =>
        cases rx with
        | @tup a xs _ ha rxs =>
          cases ry with
          | @tup b ys _ hb rys =>
            have l1 := rxs.length
            have l2 := rys.length
            obtain ⟨v3, ty3, k3⟩ := (Rp.tup ha rxs).kTup (K := K)
            refine iteT ⟨_, rfl, _, _, v3, _, _, rfl, .ty _, ty3, k3, _, rfl, ?_⟩
            refine iteF ⟨_, rfl, a, xs, rfl, .inr (SqT.of ha), _, rfl, b, ys, rfl, .inr (SqT.of hb), rfl, _, rfl, ?_⟩
            refine iteNS (by rw [l1, l2]) ?_
            refine ⟨_, rfl, b, ys, rfl, .inr (SqT.of hb), _, rfl, by omega, by omega, fun D hD => ?_⟩
            refine lc_range (lo := 0) (n := ((ys.length : Nat) : Int).toNat) (fun i H2 => Same H H2 ∧ H2 D = some (.lst ((List.replicate i true).map V.bl))) ⟨same_new Same.rfl' hD, upd_same⟩ ?_ ?_
            · rintro i H2 hi ⟨s2, hD2⟩
              have hi' : i < ys.length := by omega
              have hix : i < xs.length := by omega
              obtain ⟨e, he, rxi⟩ := rxs.got (List.getElem?_eq_getElem hix)
              obtain ⟨e', he', ryi⟩ := rys.got (List.getElem?_eq_getElem hi')
              rw [he] at he'
              obtain rfl := Option.some.inj he'
              have ei : ((0 : Int) + (i : Nat)) = ((i : Nat) : Int) := Int.zero_add _
              refine ⟨rfl, yesT ⟨_, rfl, _, rfl, a, xs, _, xs[i], rfl, rfl, SqT.of (s2 _ _ ha), by rw [ei]; exact atI_nat (List.getElem?_eq_getElem hix), _, rfl, _, rfl, b, ys, _, ys[i], rfl, rfl, SqT.of (s2 _ _ hb), by rw [ei]; exact atI_nat (List.getElem?_eq_getElem hi'), ?_⟩⟩
              refine ⟨_, _, e, rfl, rxi.mono (Sq.of s2), ryi.mono (Sq.of s2), hd e (List.mem_of_getElem? he), fun H3 s3 => ⟨_, s3 _ _ hD2, ?_, same_put (sameT s2 s3) hD, ?_⟩⟩
              · rw [List.length_map, List.length_replicate]
                exact small1000 (by omega)
              · rw [upd_same, List.replicate_succ', List.map_append]
                rfl
            · rintro H2 ⟨s2, hD2⟩
              refine ⟨D, _, rfl, SqL.of hD2, ?_⟩
              rw [all_true]
              exact k H2 s2
theorem scSame : FnScope ["_law_told", "_law_due"] ["_law_told", "_law_due"] (defScope sSame) := ⟨rfl, rfl, rfl, by decide +kernel, rfl, by decide +kernel, by decide +kernel⟩
theorem ok_same {f : Addr} {fd : FuncData} (F : Fun K "_law_same" "_law_same" sSame f fd) (N : Nms mg) : FnOk P w K mg base CX0 1 f fd ["_law_told", "_law_due"] spSame := by
  refine F.ok scSame (fun vs H Q E h => ?_) (fun cdv A outer s H vs Q E hr h => ?_)
  · obtain ⟨r, rfl, _⟩ := h
    rfl
  · obtain ⟨r, rfl, k⟩ := h
    refine ⟨_, pss_one (ps_ret (pe_and (pe_callB call_isi (by rfl) N.isi (by decide +kernel) (pa_cons (pv 0) (pa_cons (pe_bltn (v := .ty "bool") (by rfl) N.bool (by decide +kernel) rfl) pa_nil))) (pe_one (pe_cmpR op_eq (pv 0) (pv 1) (nomark _))))), ?_⟩
    obtain ⟨v1, ty1, k1⟩ := (Rp.bl (H := H) r).kBool (K := K)
    refine ⟨_, rfl, _, _, v1, _, _, rfl, .ty _, ty1, k1, _, rfl, ?_⟩
    refine iteT ⟨_, rfl, _, rfl, rfl, ?_⟩
    rw [decide_eq_true rfl]
    exact k
end
end K06

/-! k06, the law, part n: written data; data that is no term by its sign. -/
namespace K06
open PySem L2 PySem.Spec PyProof.Rows
/-- what is written at t is the data d, over names that hold data of H0 -/
structure Lit (t : TE) (σ : L2.St) (H0 : Hp) (d : PyData) : Prop where
  go : ∀ (H : Hp) (Q : VK), Same H0 H → (∀ v H', Same H H' → Rp H' v d → Q v H') → t σ H Q
structure Lits (t : TA) (σ : L2.St) (H0 : Hp) (ds : List PyData) : Prop where
  go : ∀ (H : Hp) (Q : List V → Hp → Prop), Same H0 H → (∀ vs H', Same H H' → Rps H' vs ds → Q vs H') → t σ H Q
section
variable {σ : L2.St} {H0 : Hp} {d : PyData} {ds : List PyData} {te : TE} {ta : TA}
theorem Lits.nil : Lits tNil σ H0 [] := ⟨fun H Q s k => k [] H Same.rfl' .nil⟩
theorem Lits.cons (a : Lit te σ H0 d) (b : Lits ta σ H0 ds) : Lits (tCons te ta) σ H0 (d :: ds) :=
  ⟨fun H Q s k => a.go H _ s fun v H1 s1 r => b.go H1 _ (sameT s s1) fun vs H2 s2 rs => k (v :: vs) H2 (sameT s1 s2) (.cons (r.mono (Sq.of s2)) rs)⟩
theorem Lit.str {z : Str} (h : Sh z) : Lit (tC (.str z)) σ H0 (.str z) := ⟨fun H Q s k => k _ H Same.rfl' (.str z h)⟩
theorem Lit.int (i : Int) : Lit (tC (.int i)) σ H0 (.int i) := ⟨fun H Q s k => k _ H Same.rfl' (.int i)⟩
theorem Lit.bl (b : Bool) : Lit (tC (.bl b)) σ H0 (.bool b) := ⟨fun H Q s k => k _ H Same.rfl' (.bl b)⟩
theorem Lit.non : Lit (tC .non) σ H0 .none := ⟨fun H Q s k => k _ H Same.rfl' .non⟩
theorem Lit.neg (i : Int) : Lit (tUn (rU fun i => .int (-i)) (tC (.int i))) σ H0 (.int (-i)) := ⟨fun H Q s k => ⟨i, rfl, k _ H Same.rfl' (.int _)⟩⟩
theorem Lit.var {i : Nat} {v : V} (e : σ[i]? = some (some v)) (r : Rp H0 v d) : Lit (tVar i) σ H0 d := ⟨fun H Q s k => ⟨v, e, k v H Same.rfl' (r.mono (Sq.of s))⟩⟩
theorem Lit.tup (h : Lits ta σ H0 ds) (l : ds.length ≤ 900) : Lit (tTup ta) σ H0 (.tuple ds) :=
  ⟨fun H Q s k => h.go H _ s fun vs H1 s1 rs => ⟨Nat.le_trans (show vs.length ≤ 1000 by rw [rs.length]; omega) (by decide), fun p np => k (.ref p) _ (same_new s1 np) (.tup upd_same (rs.mono (Sq.of (same_new Same.rfl' np))))⟩⟩
theorem Lit.lst (h : Lits ta σ H0 ds) (l : ds.length ≤ 900) : Lit (tLst ta) σ H0 (.list ds) :=
  ⟨fun H Q s k => h.go H _ s fun vs H1 s1 rs => ⟨Nat.le_trans (show vs.length ≤ 1000 by rw [rs.length]; omega) (by decide), fun p np => k (.ref p) _ (same_new s1 np) (.lst upd_same (rs.mono (Sq.of (same_new Same.rfl' np))))⟩⟩
end
/-- an expression that is such written data -/
def tW (t : TE) : TE := fun σ H Q => ∃ H0 d, Lit t σ H0 d ∧ Same H0 H ∧ ∀ v H', Same H H' → Rp H' v d → Q v H'
theorem pe_w {X : Cx} {e : Expr} {t : TE} (h : PE X e t) : PE X e (tW t) := ⟨fun pins s σ H Q I q => by
  obtain ⟨H0, d, l, s0, k⟩ := q
  exact h.run pins s σ H Q I (l.go H Q s0 k)⟩
theorem Rps.ofMem {H : Hp} : ∀ {vs : List V} {ds : List PyData}, Rps H vs ds → ∀ {v : V}, v ∈ vs → ∃ d ∈ ds, Rp H v d
  | _, _, .nil, v, h => by cases h
  | _, _, @Rps.cons _ v vs d ds r rs, x, h => by
    rcases List.mem_cons.mp h with rfl | h
    · exact ⟨d, List.mem_cons_self, r⟩
    · obtain ⟨e, he, re⟩ := rs.ofMem h
      exact ⟨e, List.mem_cons_of_mem _ he, re⟩
/-! ### no terms -/
theorem bad_nil : ∀ d ∈ ([] : List PyData), signD d = false := fun d h => by cases h
theorem bad_cons {d : PyData} {ds : List PyData} (h : signD d = false) (g : ∀ d ∈ ds, signD d = false) : ∀ e ∈ d :: ds, signD e = false := fun e he => by
  rcases List.mem_cons.mp he with rfl | he
  · exact h
  · exact g e he
theorem bad_len {w : Str} {ds : List PyData} {n m : Nat} (h : arity w = some (n, m)) (l : ds.length + 1 ≠ n) : signD (.tuple (.str w :: ds)) = false := by
  rw [sign_eq h, decide_eq_false l, Bool.false_and]
theorem bad_rest {w : Str} {ds : List PyData} {n m : Nat} (h : arity w = some (n, m)) (l : restD w ds = false) : signD (.tuple (.str w :: ds)) = false := by
  rw [sign_eq h, l, Bool.and_false]
theorem bad_word {w : Str} {ds : List PyData} (h : arity w = none) : signD (.tuple (.str w :: ds)) = false := by
  show (match arity w with | some (n, _) => decide (ds.length + 1 = n) && restD w ds | none => false) = _
  rw [h]
theorem bad_share {w : Str} {x p q : PyData} (hw : w ∈ (["over", "from"] : List Str)) (l : shD p q = false) : signD (.tuple [.str w, x, p, q]) = false := by
  have key : ∀ w ∈ (["over", "from"] : List Str), arity w = some (4, 0) ∧ inV (.str w) namedV = false ∧ inV (.str w) sharesV = true := by decide +kernel
  obtain ⟨k1, k2, k3⟩ := key w hw
  refine bad_rest k1 ?_
  unfold restD
  rw [k2, k3, if_neg Bool.false_ne_true, if_pos rfl]
  show (nmD x && shD p q) = false
  rw [l, Bool.and_false]
theorem bad_share_name {w : Str} {x p q : PyData} (hw : w ∈ (["over", "from"] : List Str)) (l : nmD x = false) : signD (.tuple [.str w, x, p, q]) = false := by
  have key : ∀ w ∈ (["over", "from"] : List Str), arity w = some (4, 0) ∧ inV (.str w) namedV = false ∧ inV (.str w) sharesV = true := by decide +kernel
  obtain ⟨k1, k2, k3⟩ := key w hw
  refine bad_rest k1 ?_
  unfold restD
  rw [k2, k3, if_neg Bool.false_ne_true, if_pos rfl]
  show (nmD x && shD p q) = false
  rw [l, Bool.false_and]
theorem bad_share_len {w : Str} {ds : List PyData} (hw : w ∈ (["over", "from"] : List Str)) (l : ds.length ≠ 3) : signD (.tuple (.str w :: ds)) = false := by
  have key : ∀ w ∈ (["over", "from"] : List Str), arity w = some (4, 0) := by decide +kernel
  exact bad_len (key w hw) (by omega)
theorem bad_named {w : Str} {x : PyData} (hw : w ∈ (["form", "state"] : List Str)) (l : nmD x = false) : signD (.tuple [.str w, x]) = false := by
  have key : ∀ w ∈ (["form", "state"] : List Str), arity w = some (2, 0) ∧ inV (.str w) namedV = true := by decide +kernel
  obtain ⟨k1, k2⟩ := key w hw
  refine bad_rest k1 ?_
  unfold restD
  rw [k2, if_pos rfl]
  exact l
theorem bad_named_len {w : Str} {ds : List PyData} (hw : w ∈ (["form", "state"] : List Str)) (l : ds.length ≠ 1) : signD (.tuple (.str w :: ds)) = false := by
  have key : ∀ w ∈ (["form", "state"] : List Str), arity w = some (2, 0) := by decide +kernel
  exact bad_len (key w hw) (by omega)
theorem arity_res {z : Str} {r : Nat × Nat} (h : arity z = some r) : inV (.str z) resV = true := by
  have key : ∀ p ∈ arities, inV (.str p.1) resV = true := by decide +kernel
  exact key _ (arity_mem h)
theorem arity_nm {z : Str} (h : nmS z = true) : arity z = none := by
  cases e : arity z with
  | none => rfl
  | some r =>
    have h1 := arity_res e
    unfold nmS at h
    rw [h1] at h
    simp at h
theorem bad_tuple_head {t : Tm} {ds : List PyData} : signD (.tuple (t.data :: ds)) = false := by
  rw [t.data_eq]
  rfl
end K06

/-! k06, the law, part o: odd leaves. -/
namespace K06
open PySem L2 PySem.Spec PyProof.Rows
abbrev sOddLeaf : Stmt := top 74
abbrev shares29 (w z : Str) : List PyData := [(.tuple [(.str w)]), (.tuple [(.str w), (.str z)]), (.tuple [(.str w), (.str z), (.int 1)]), (.tuple [(.str w), (.str z), (.int 2), (.int 4)]), (.tuple [(.str w), (.str z), (.int 3), (.int 2)]), (.tuple [(.str w), (.str z), (.int 0), (.int 2)]), (.tuple [(.str w), (.str z), (.int 1), (.int 21)]), (.tuple [(.str w), (.str z), (.int 0), (.int 0)]), (.tuple [(.str w), (.str z), (.int 1), (.int 0)]), (.tuple [(.str w), (.str z), (.int (-1)), (.int 2)]), (.tuple [(.str w), (.str z), (.int 1), (.int (-2))]), (.tuple [(.str w), (.str z), (.int (-1)), (.int (-2))]), (.tuple [(.str w), (.str z), (.str "1"), (.int 2)]), (.tuple [(.str w), (.str z), (.int 1), .none]), (.tuple [(.str w), (.str z), (.bool true), (.int 2)]), (.tuple [(.str w), (.str z), (.int 1), (.bool true)]), (.tuple [(.str w), (.int 7), (.int 1), (.int 2)]), (.tuple [(.str w), (.str "each"), (.int 1), (.int 2)]), (.tuple [(.str w), (.int 1), (.int 2), (.str z)]), (.tuple [(.str w), (.str z), (.int 1), (.int 2), (.int 2)]), (.tuple [(.str w), (.str z), (.int 20), (.int 20)]), (.tuple [(.str w), (.str z), (.int 21), (.int 21)]), (.tuple [(.str w), .none, (.int 1), (.int 2)]), (.tuple [(.str w), (.str ""), (.int 0), (.int 1)]), (.list [(.str w), (.str z), (.int 1), (.int 2)]), (.tuple [(.str w), (.str z), (.int 10), (.int 15)]), (.tuple [(.str w), (.str z), (.int 0), (.int 20)]), (.tuple [(.str w), (.str z), (.int 21), (.int 20)]), (.tuple [(.str w), (.tuple [(.str z)]), (.int 1), (.int 2)])]
abbrev named18 (u z : Str) : List PyData := [(.tuple [(.str u)]), (.tuple [(.str u), (.int 5)]), (.tuple [(.str u), .none]), (.tuple [(.str u), (.str "")]), (.tuple [(.str u), (.str "any")]), (.tuple [(.str u), (.str "ring")]), (.tuple [(.str u), (.str "Abc")]), (.tuple [(.str u), (.str "a1")]), (.tuple [(.str u), (.str "a b")]), (.tuple [(.str u), (.str "abcdefghijklm")]), (.tuple [(.str u), (.str z), (.str z)]), (.tuple [(.str u), (.tuple [(.str z)])]), (.list [(.str u), (.str z)]), (.tuple [(.str u), (.str "open")]), (.tuple [(.str u), (.str "over")]), (.tuple [(.str u), (.str "a-b")]), (.tuple [(.str u), (.str "two")]), (.tuple [(.str u), (.str "falls")])]
abbrev others23 (z : Str) : List PyData := [(.tuple [(.str "parts")]), (.tuple [(.str "parts"), (.int 0)]), (.tuple [(.str "parts"), (.int 5)]), (.tuple [(.str "parts"), (.int (-1))]), (.tuple [(.str "parts"), (.str "2")]), (.tuple [(.str "parts"), (.bool true)]), (.tuple [(.str "parts"), .none]), (.tuple [(.str "parts"), (.int 2), (.int 2)]), (.tuple [(.str "parts"), (.int (10 ^ (20 : Int).toNat))]), (.tuple [(.str "parts"), (.str z)]), (.list [(.str "parts"), (.int 2)]), (.tuple [(.str "falls")]), (.tuple [(.str "falls"), (.str "")]), (.tuple [(.str "falls"), (.str "two")]), (.tuple [(.str "falls"), (.str "none")]), (.tuple [(.str "falls"), (.str "abcdefghi")]), (.tuple [(.str "falls"), (.str "A1")]), (.tuple [(.str "falls"), (.str "a b")]), (.tuple [(.str "falls"), (.str "a_b")]), (.tuple [(.str "falls"), (.int 5)]), (.tuple [(.str "falls"), .none]), (.tuple [(.str "falls"), (.str (cutS z none (some 1))), (.str (cutS z none (some 1)))]), (.list [(.str "falls"), (.str "a1")])]
theorem bad29 {w z : Str} (hw : w ∈ (["over", "from"] : List Str)) (hz : nmS z = true) : ∀ d ∈ shares29 w z, signD d = false := by
  repeat' first
    | exact bad_nil
    | refine bad_cons ?_ ?_
    | rfl
    | exact bad_share_len hw (Nat.ne_of_beq_eq_false rfl)
    | exact bad_share_name hw (by decide +kernel)
    | exact bad_share_name hw rfl
    | exact bad_share hw (by decide +kernel)
    | exact bad_share hw rfl
theorem bad18 {u z : Str} (hu : u ∈ (["form", "state"] : List Str)) (hz : nmS z = true) : ∀ d ∈ named18 u z, signD d = false := by
  repeat' first
    | exact bad_nil
    | refine bad_cons ?_ ?_
    | rfl
    | exact bad_named_len hu (Nat.ne_of_beq_eq_false rfl)
    | exact bad_named hu (by decide +kernel)
    | exact bad_named hu rfl
theorem bad23 {z : Str} (hz : nmS z = true) : ∀ d ∈ others23 z, signD d = false := by
  have a1 : arity "parts" = some (2, 0) := by decide +kernel
  have a2 : arity "falls" = some (2, 0) := by decide +kernel
  repeat' first
    | exact bad_nil
    | refine bad_cons ?_ ?_
    | rfl
    | exact bad_len a1 (Nat.ne_of_beq_eq_false rfl)
    | exact bad_len a2 (Nat.ne_of_beq_eq_false rfl)
    | decide +kernel
    | exact bad_rest a1 rfl
    | exact bad_rest a2 rfl
theorem sh_cut {z : Str} (h : nmS z = true) : Sh (cutS z none (some 1)) := by
  have hs := nm_sh h
  have hl := nm_let h
  refine sh_of (p := isLet) (fun _ => let_small) (fun c hc => hl c ?_) ?_
  · unfold cutS at hc
    have hc' : c ∈ ((z.cps.toList.drop (HT.sIx z.length 0 none)).take (HT.sIx z.length z.length (some 1) - HT.sIx z.length 0 none)).toArray.toList := hc
    rw [List.toList_toArray] at hc'
    exact List.mem_of_mem_drop (List.mem_of_mem_take hc')
  · unfold cutS
    show ((z.cps.toList.drop (HT.sIx z.length 0 none)).take (HT.sIx z.length z.length (some 1) - HT.sIx z.length 0 none)).toArray.size ≤ 1000
    rw [List.size_toArray, List.length_take, List.length_drop]
    have : z.cps.toList.length = z.length := Array.length_toList
    have := hs.1
    omega
theorem Lit.cut {σ : L2.St} {H0 : Hp} {i : Nat} {z : Str} (e : σ[i]? = some (some (.str z))) (h : nmS z = true) : Lit (tSl rSlS (tVar i) tNoPart (tPart (tC (.int 1)))) σ H0 (.str (cutS z none (some 1))) :=
  ⟨fun H Q s k => ⟨_, e, _, rfl, z, rfl, Nat.le_trans (nm_sh h).1 (by decide), k _ H Same.rfl' (.str _ (sh_cut h))⟩⟩
theorem Lit.pow (i j : Int) (h : 0 ≤ j ∧ j ≤ 1000000 ∧ i.natAbs < 2 ^ 64) : Lit (tOp (rI CPow fun i j => .int (i ^ j.toNat)) (tC (.int i)) (tC (.int j))) σ H0 (.int (i ^ j.toNat)) :=
  ⟨fun H Q s k => ⟨i, j, rfl, rfl, h, k _ H Same.rfl' (.int _)⟩⟩
/-- _law_odd_leaf(bag, word): no term -/
def spOddLeaf : Sp := fun vs H Q _ => ∃ (b l : Addr) (z : Str), vs = [.ref b, .str z] ∧ nmS z = true ∧ BagL H b l ∧ ∀ x H' d, Rp H' x d → signD d = false → Dr b l H H' → Q x H'
section
variable {P : Program} {w : World} {K : PySem.W.Frag} {mg : Str → Option Value} {base : Heap}
theorem scOddLeaf : FnScope ["_law_bag_here", "_law_word_here", "_law_many", "_law_sign", "_law_named"] ["_law_bag_here", "_law_word_here"] (defScope sOddLeaf) := ⟨rfl, rfl, rfl, by decide +kernel, rfl, by decide +kernel, by decide +kernel⟩
theorem ok_oddleaf {f fp fc : Addr} {fd fdp fdc : FuncData} (F : Fun K "_law_odd_leaf" "_law_odd_leaf" sOddLeaf f fd) (DP : Df K mg "_law_pick" sPick ["_law_bag_here", "_law_many"] fp fdp) (GP : FnOk P w K mg base CX0 1 fp fdp ["_law_bag_here", "_law_many"] spPick)
    (DC : Df K mg "_law_choice" sChoice ["_law_bag_here", "_law_things"] fc fdc) (GC : FnOk P w K mg base CX0 2 fc fdc ["_law_bag_here", "_law_things"] (spChoice K)) : FnOk P w K mg base CX0 3 f fd ["_law_bag_here", "_law_word_here"] spOddLeaf := by
  refine F.ok scOddLeaf (fun vs H Q E h => ?_) (fun cdv A outer s H vs Q E hr h => ?_)
  · obtain ⟨b, l, z, rfl, _⟩ := h
    rfl
  · obtain ⟨b, l, z, rfl, hz, B, k⟩ := h
    have nd := scOddLeaf.nd
    have r1 := hr.mono (show 1 ≤ 2 by decide)
    refine ⟨_, pss_cons (ps_set (i := 2) nd rfl (Or.inl rfl) (pe_call GP r1 rfl DP.g DP.F.kp DP.b .nil pass0 (pa_cons (pv 0) (pa_cons pe_int pa_nil))))
      (pss_cons (ps_set (i := 3) nd rfl (Or.inl rfl) (pe_call GC hr rfl DC.g DC.F.kp DC.b .nil pass0 (pa_cons (pv 0) (pa_cons (pe_lst (pa_cons pe_str (pa_cons pe_str pa_nil))) pa_nil))))
      (pss_cons (ps_set (i := 4) nd rfl (Or.inl rfl) (pe_call GC hr rfl DC.g DC.F.kp DC.b .nil pass0 (pa_cons (pv 0) (pa_cons (pe_lst (pa_cons pe_str (pa_cons pe_str pa_nil))) pa_nil))))
      (pss_cons (ps_if (pt_cmpR op_eq (pv 2) pe_int (nomark _)) (pss_one (ps_ret (pe_call GC hr rfl DC.g DC.F.kp DC.b .nil pass0 (pa_cons (pv 0) (pa_cons (pe_w (pe_lst (pa_cons (pe_tup (pa_cons (pv 3) pa_nil)) (pa_cons (pe_tup (pa_cons (pv 3) (pa_cons (pv 1) pa_nil))) (pa_cons (pe_tup (pa_cons (pv 3) (pa_cons (pv 1) (pa_cons pe_int pa_nil)))) (pa_cons (pe_tup (pa_cons (pv 3) (pa_cons (pv 1) (pa_cons pe_int (pa_cons pe_int pa_nil))))) (pa_cons (pe_tup (pa_cons (pv 3) (pa_cons (pv 1) (pa_cons pe_int (pa_cons pe_int pa_nil))))) (pa_cons (pe_tup (pa_cons (pv 3) (pa_cons (pv 1) (pa_cons pe_int (pa_cons pe_int pa_nil))))) (pa_cons (pe_tup (pa_cons (pv 3) (pa_cons (pv 1) (pa_cons pe_int (pa_cons pe_int pa_nil))))) (pa_cons (pe_tup (pa_cons (pv 3) (pa_cons (pv 1) (pa_cons pe_int (pa_cons pe_int pa_nil))))) (pa_cons (pe_tup (pa_cons (pv 3) (pa_cons (pv 1) (pa_cons pe_int (pa_cons pe_int pa_nil))))) (pa_cons (pe_tup (pa_cons (pv 3) (pa_cons (pv 1) (pa_cons (pe_un un_neg pe_int) (pa_cons pe_int pa_nil))))) (pa_cons (pe_tup (pa_cons (pv 3) (pa_cons (pv 1) (pa_cons pe_int (pa_cons (pe_un un_neg pe_int) pa_nil))))) (pa_cons (pe_tup (pa_cons (pv 3) (pa_cons (pv 1) (pa_cons (pe_un un_neg pe_int) (pa_cons (pe_un un_neg pe_int) pa_nil))))) (pa_cons (pe_tup (pa_cons (pv 3) (pa_cons (pv 1) (pa_cons pe_str (pa_cons pe_int pa_nil))))) (pa_cons (pe_tup (pa_cons (pv 3) (pa_cons (pv 1) (pa_cons pe_int (pa_cons pe_non pa_nil))))) (pa_cons (pe_tup (pa_cons (pv 3) (pa_cons (pv 1) (pa_cons pe_bl (pa_cons pe_int pa_nil))))) (pa_cons (pe_tup (pa_cons (pv 3) (pa_cons (pv 1) (pa_cons pe_int (pa_cons pe_bl pa_nil))))) (pa_cons (pe_tup (pa_cons (pv 3) (pa_cons pe_int (pa_cons pe_int (pa_cons pe_int pa_nil))))) (pa_cons (pe_tup (pa_cons (pv 3) (pa_cons pe_str (pa_cons pe_int (pa_cons pe_int pa_nil))))) (pa_cons (pe_tup (pa_cons (pv 3) (pa_cons pe_int (pa_cons pe_int (pa_cons (pv 1) pa_nil))))) (pa_cons (pe_tup (pa_cons (pv 3) (pa_cons (pv 1) (pa_cons pe_int (pa_cons pe_int (pa_cons pe_int pa_nil)))))) (pa_cons (pe_tup (pa_cons (pv 3) (pa_cons (pv 1) (pa_cons pe_int (pa_cons pe_int pa_nil))))) (pa_cons (pe_tup (pa_cons (pv 3) (pa_cons (pv 1) (pa_cons pe_int (pa_cons pe_int pa_nil))))) (pa_cons (pe_tup (pa_cons (pv 3) (pa_cons pe_non (pa_cons pe_int (pa_cons pe_int pa_nil))))) (pa_cons (pe_tup (pa_cons (pv 3) (pa_cons pe_str (pa_cons pe_int (pa_cons pe_int pa_nil))))) (pa_cons (pe_lst (pa_cons (pv 3) (pa_cons (pv 1) (pa_cons pe_int (pa_cons pe_int pa_nil))))) (pa_cons (pe_tup (pa_cons (pv 3) (pa_cons (pv 1) (pa_cons pe_int (pa_cons pe_int pa_nil))))) (pa_cons (pe_tup (pa_cons (pv 3) (pa_cons (pv 1) (pa_cons pe_int (pa_cons pe_int pa_nil))))) (pa_cons (pe_tup (pa_cons (pv 3) (pa_cons (pv 1) (pa_cons pe_int (pa_cons pe_int pa_nil))))) (pa_cons (pe_tup (pa_cons (pv 3) (pa_cons (pe_tup (pa_cons (pv 1) pa_nil)) (pa_cons pe_int (pa_cons pe_int pa_nil))))) pa_nil))))))))))))))))))))))))))))))) pa_nil))))) pss_nil)
      (pss_cons (ps_if (pt_cmpR op_eq (pv 2) pe_int (nomark _)) (pss_one (ps_ret (pe_call GC hr rfl DC.g DC.F.kp DC.b .nil pass0 (pa_cons (pv 0) (pa_cons (pe_w (pe_lst (pa_cons (pe_tup (pa_cons (pv 4) pa_nil)) (pa_cons (pe_tup (pa_cons (pv 4) (pa_cons pe_int pa_nil))) (pa_cons (pe_tup (pa_cons (pv 4) (pa_cons pe_non pa_nil))) (pa_cons (pe_tup (pa_cons (pv 4) (pa_cons pe_str pa_nil))) (pa_cons (pe_tup (pa_cons (pv 4) (pa_cons pe_str pa_nil))) (pa_cons (pe_tup (pa_cons (pv 4) (pa_cons pe_str pa_nil))) (pa_cons (pe_tup (pa_cons (pv 4) (pa_cons pe_str pa_nil))) (pa_cons (pe_tup (pa_cons (pv 4) (pa_cons pe_str pa_nil))) (pa_cons (pe_tup (pa_cons (pv 4) (pa_cons pe_str pa_nil))) (pa_cons (pe_tup (pa_cons (pv 4) (pa_cons pe_str pa_nil))) (pa_cons (pe_tup (pa_cons (pv 4) (pa_cons (pv 1) (pa_cons (pv 1) pa_nil)))) (pa_cons (pe_tup (pa_cons (pv 4) (pa_cons (pe_tup (pa_cons (pv 1) pa_nil)) pa_nil))) (pa_cons (pe_lst (pa_cons (pv 4) (pa_cons (pv 1) pa_nil))) (pa_cons (pe_tup (pa_cons (pv 4) (pa_cons pe_str pa_nil))) (pa_cons (pe_tup (pa_cons (pv 4) (pa_cons pe_str pa_nil))) (pa_cons (pe_tup (pa_cons (pv 4) (pa_cons pe_str pa_nil))) (pa_cons (pe_tup (pa_cons (pv 4) (pa_cons pe_str pa_nil))) (pa_cons (pe_tup (pa_cons (pv 4) (pa_cons pe_str pa_nil))) pa_nil)))))))))))))))))))) pa_nil))))) pss_nil)
      (pss_one (ps_ret (pe_call GC hr rfl DC.g DC.F.kp DC.b .nil pass0 (pa_cons (pv 0) (pa_cons (pe_w (pe_lst (pa_cons (pe_tup (pa_cons pe_str pa_nil)) (pa_cons (pe_tup (pa_cons pe_str (pa_cons pe_int pa_nil))) (pa_cons (pe_tup (pa_cons pe_str (pa_cons pe_int pa_nil))) (pa_cons (pe_tup (pa_cons pe_str (pa_cons (pe_un un_neg pe_int) pa_nil))) (pa_cons (pe_tup (pa_cons pe_str (pa_cons pe_str pa_nil))) (pa_cons (pe_tup (pa_cons pe_str (pa_cons pe_bl pa_nil))) (pa_cons (pe_tup (pa_cons pe_str (pa_cons pe_non pa_nil))) (pa_cons (pe_tup (pa_cons pe_str (pa_cons pe_int (pa_cons pe_int pa_nil)))) (pa_cons (pe_tup (pa_cons pe_str (pa_cons (pe_op op_pow pe_int pe_int) pa_nil))) (pa_cons (pe_tup (pa_cons pe_str (pa_cons (pv 1) pa_nil))) (pa_cons (pe_lst (pa_cons pe_str (pa_cons pe_int pa_nil))) (pa_cons (pe_tup (pa_cons pe_str pa_nil)) (pa_cons (pe_tup (pa_cons pe_str (pa_cons pe_str pa_nil))) (pa_cons (pe_tup (pa_cons pe_str (pa_cons pe_str pa_nil))) (pa_cons (pe_tup (pa_cons pe_str (pa_cons pe_str pa_nil))) (pa_cons (pe_tup (pa_cons pe_str (pa_cons pe_str pa_nil))) (pa_cons (pe_tup (pa_cons pe_str (pa_cons pe_str pa_nil))) (pa_cons (pe_tup (pa_cons pe_str (pa_cons pe_str pa_nil))) (pa_cons (pe_tup (pa_cons pe_str (pa_cons pe_str pa_nil))) (pa_cons (pe_tup (pa_cons pe_str (pa_cons pe_int pa_nil))) (pa_cons (pe_tup (pa_cons pe_str (pa_cons pe_non pa_nil))) (pa_cons (pe_tup (pa_cons pe_str (pa_cons (pe_slice sl_str (pv 1) po_none (po_some pe_int)) (pa_cons (pe_slice sl_str (pv 1) po_none (po_some pe_int)) pa_nil)))) (pa_cons (pe_lst (pa_cons pe_str (pa_cons pe_str pa_nil))) pa_nil))))))))))))))))))))))))) pa_nil))))))))), ?_⟩
    refine ⟨_, rfl, b, l, 3, rfl, by decide, by decide, B, fun r H1 r0 r1' B1 bt1 _ => ?_⟩
    have D1 : Dr b l H H1 := ⟨B1, bt1⟩
    refine ⟨_, rfl, (by show 2 ≤ sizeLine; decide), fun L nL => ⟨b, l, L, _, rfl, upd_same, B1.ne_b nL, (by show 0 < 2; decide), (by show 2 < 1000; decide), (D1.new nL).bag, fun x H2 hx B2 bt2 _ => ?_⟩⟩
    have D2 := (D1.new (o := .lst [.str "over", .str "from"]) nL).trans ⟨B2, bt2⟩
    refine ⟨_, rfl, (by show 2 ≤ sizeLine; decide), fun L nL => ⟨b, l, L, _, rfl, upd_same, B2.ne_b nL, (by show 0 < 2; decide), (by show 2 < 1000; decide), (D2.new nL).bag, fun y H3 hy B3 bt3 _ => ?_⟩⟩
    have D3 := (D2.new (o := .lst [.str "form", .str "state"]) nL).trans ⟨B3, bt3⟩
    obtain ⟨w, rfl, hw⟩ : ∃ w0 : Str, x = .str w0 ∧ w0 ∈ (["over", "from"] : List Str) := by
      rcases List.mem_cons.mp hx with q | q
      · exact ⟨_, q, List.mem_cons_self⟩
      · exact ⟨_, List.mem_singleton.mp q, List.mem_cons_of_mem _ List.mem_cons_self⟩
    obtain ⟨u, rfl, hu⟩ : ∃ w0 : Str, y = .str w0 ∧ w0 ∈ (["form", "state"] : List Str) := by
      rcases List.mem_cons.mp hy with q | q
      · exact ⟨_, q, List.mem_cons_self⟩
      · exact ⟨_, List.mem_singleton.mp q, List.mem_cons_of_mem _ List.mem_cons_self⟩
    have shw : Sh w := by
      have : ∀ w ∈ (["over", "from"] : List Str), w.length ≤ 1000 ∧ PyData.strOk w = true := by decide +kernel
      exact this w hw
    have shu : Sh u := by
      have : ∀ w ∈ (["form", "state"] : List Str), w.length ≤ 1000 ∧ PyData.strOk w = true := by decide +kernel
      exact this u hu
    have hzw : Lit (tVar 1) [some (.ref b), some (.str z), some (.int r), some (.str w), some (.str u)] H3 (.str z) := Lit.var rfl (.str z (nm_sh hz))
    have hsw : Lit (tVar 3) [some (.ref b), some (.str z), some (.int r), some (.str w), some (.str u)] H3 (.str w) := Lit.var rfl (.str w shw)
    have huw : Lit (tVar 4) [some (.ref b), some (.str z), some (.int r), some (.str w), some (.str u)] H3 (.str u) := Lit.var rfl (.str u shu)
    have hcut : Lit (tSl rSlS (tVar 1) tNoPart (tPart (tC (.int 1)))) [some (.ref b), some (.str z), some (.int r), some (.str w), some (.str u)] H3 (.str (cutS z none (some 1))) := Lit.cut rfl hz
    have hpow : Lit (tOp (rI CPow fun i j => .int (i ^ j.toNat)) (tC (.int 10)) (tC (.int 20))) [some (.ref b), some (.str z), some (.int r), some (.str w), some (.str u)] H3 (.int (10 ^ (20 : Int).toNat)) := Lit.pow 10 20 (by decide)
    have fin : ∀ (ds : List PyData), 0 < ds.length → ds.length < 1000 → (∀ d ∈ ds, signD d = false) → ∀ v H4, Same H3 H4 → Rp H4 v (.list ds) → ∃ (b' bl l' : Addr) (xs : List V), [V.ref b, v] = [.ref b', .ref l'] ∧ H4 l' = some (.lst xs) ∧ l' ≠ b' ∧ 0 < xs.length ∧ xs.length < 1000 ∧ BagL H4 b' bl ∧
        ∀ (x : V) (H' : Hp), x ∈ xs → BagL H' b' bl → But b' H4 H' → (∀ c, c ≠ b' → H' c = H4 c) → Q x H' := fun ds h0 h1 bad v H4 s4 rv => by
      have B4 := B3.same s4
      cases rv with
      | @lst L xs _ hL rs =>
        have D4 : Dr b l H H4 := ⟨B4, D3.but.trans (But.of s4)⟩
        refine ⟨b, l, L, xs, rfl, hL, B4.lst_ne hL, by rw [rs.length]; exact h0, by rw [rs.length]; exact h1, B4, fun x H5 hx B5 bt5 _ => ?_⟩
        obtain ⟨d, hd, rd⟩ := rs.ofMem hx
        exact k x H5 d (rd.mono (Sq.but B4 bt5)) (bad d hd) (D4.trans ⟨B5, bt5⟩)
    refine ⟨_, rfl, rfl, _, rfl, ?_⟩
    refine ite2 (fun _ => ?_) (fun _ => ?_)
    · refine ⟨_, rfl, H3, .list (shares29 w z), ?_, Same.rfl', fin _ (Nat.le_of_ble_eq_true rfl) (Nat.le_of_ble_eq_true rfl) (bad29 hw hz)⟩
      repeat' first | exact Lits.nil | refine Lits.cons ?_ ?_ | refine Lit.tup ?_ (Nat.le_of_ble_eq_true rfl) | refine Lit.lst ?_ (Nat.le_of_ble_eq_true rfl) | exact Lit.non | exact Lit.bl _ | exact Lit.neg _ | exact Lit.int _ | exact Lit.str ⟨by decide +kernel, by decide +kernel⟩ | exact hzw | exact hsw | exact huw | exact hcut | exact hpow
    refine ⟨_, rfl, rfl, _, rfl, ?_⟩
    refine ite2 (fun _ => ?_) (fun _ => ?_)
    · refine ⟨_, rfl, H3, .list (named18 u z), ?_, Same.rfl', fin _ (Nat.le_of_ble_eq_true rfl) (Nat.le_of_ble_eq_true rfl) (bad18 hu hz)⟩
      repeat' first | exact Lits.nil | refine Lits.cons ?_ ?_ | refine Lit.tup ?_ (Nat.le_of_ble_eq_true rfl) | refine Lit.lst ?_ (Nat.le_of_ble_eq_true rfl) | exact Lit.non | exact Lit.bl _ | exact Lit.neg _ | exact Lit.int _ | exact Lit.str ⟨by decide +kernel, by decide +kernel⟩ | exact hzw | exact hsw | exact huw | exact hcut | exact hpow
    refine ⟨_, rfl, H3, .list (others23 z), ?_, Same.rfl', fin _ (Nat.le_of_ble_eq_true rfl) (Nat.le_of_ble_eq_true rfl) (bad23 hz)⟩
    repeat' first | exact Lits.nil | refine Lits.cons ?_ ?_ | refine Lit.tup ?_ (Nat.le_of_ble_eq_true rfl) | refine Lit.lst ?_ (Nat.le_of_ble_eq_true rfl) | exact Lit.non | exact Lit.bl _ | exact Lit.neg _ | exact Lit.int _ | exact Lit.str ⟨by decide +kernel, by decide +kernel⟩ | exact hzw | exact hsw | exact huw | exact hcut | exact hpow
end
end K06

/-! k06, the law, part p: odd things. -/
namespace K06
open PySem L2 PySem.Spec PyProof.Rows
abbrev sOdd : Stmt := top 75
abbrev odd29 (z : Str) (d : PyData) : List PyData := [.none, (.int 5), (.str "any"), (.str ""), (.tuple []), (.list []), (.list [(.str "any")]), (.tuple [(.int 5)]), (.tuple [.none]), (.tuple [(.str "")]), (.tuple [(.str "Any")]), (.tuple [(.str "anyy")]), (.tuple [(.str "two")]), (.tuple [(.str "ring")]), (.tuple [(.str "open")]), (.tuple [(.str "any"), (.int 1)]), (.tuple [(.str "none"), (.str "none")]), (.tuple [(.str "mix"), (.str z)]), (.tuple [(.str "mix"), (.str "mix")]), (.tuple [(.str "any"), (.str "any")]), (.bool true), (.tuple [(.bool true)]), (.tuple [(.tuple [(.str "any")])]), (.str "mix"), (.tuple [(.str "all"), d]), (.tuple [(.str "nor"), d, d]), (.tuple [(.str z), (.int 1)]), (.tuple [(.str "any ")]), (.tuple [(.str "none"), (.tuple [])])]
abbrev odd22 (d : PyData) : List PyData := [(.tuple [(.str "some")]), (.tuple [(.str "each")]), (.tuple [(.str "main")]), (.tuple [(.str "not")]), (.tuple [(.str "and")]), (.tuple [(.str "or")]), (.tuple [(.str "some"), d, d]), (.tuple [(.str "not"), d, d]), (.tuple [(.str "and"), d]), (.tuple [(.str "or"), d, d, d]), (.tuple [(.str "main"), d, d]), (.tuple [(.str "each"), d, d]), (.list [(.str "not"), d]), (.list [(.str "and"), d, d]), (.tuple [(.str "or"), d]), (.tuple [(.str "and"), d, d, d]), (.tuple [(.str "Not"), d]), (.tuple [d]), (.list [d]), (.tuple [d, (.str "and"), d]), (.tuple [(.str "xor"), d, d]), (.list [(.str "some"), d])]
theorem badOdd29 {z : Str} (hz : nmS z = true) (d : PyData) : ∀ e ∈ odd29 z d, signD e = false := by
  have az := arity_nm hz
  have a1 : arity "any" = some (1, 0) := by decide +kernel
  have a2 : arity "none" = some (1, 0) := by decide +kernel
  have a3 : arity "mix" = some (1, 0) := by decide +kernel
  have b1 : arity "all" = none := by decide +kernel
  have b2 : arity "nor" = none := by decide +kernel
  repeat' first
    | exact bad_nil
    | refine bad_cons ?_ ?_
    | rfl
    | exact bad_word az
    | exact bad_word b1
    | exact bad_word b2
    | exact bad_len a1 (Nat.ne_of_beq_eq_false rfl)
    | exact bad_len a2 (Nat.ne_of_beq_eq_false rfl)
    | exact bad_len a3 (Nat.ne_of_beq_eq_false rfl)
    | decide +kernel
theorem badOdd22 (t : Tm) : ∀ e ∈ odd22 t.data, signD e = false := by
  have a1 : arity "some" = some (2, 1) := by decide +kernel
  have a2 : arity "each" = some (2, 1) := by decide +kernel
  have a3 : arity "main" = some (2, 1) := by decide +kernel
  have a4 : arity "not" = some (2, 1) := by decide +kernel
  have a5 : arity "and" = some (3, 2) := by decide +kernel
  have a6 : arity "or" = some (3, 2) := by decide +kernel
  have b1 : arity "Not" = none := by decide +kernel
  have b2 : arity "xor" = none := by decide +kernel
  repeat' first
    | exact bad_nil
    | refine bad_cons ?_ ?_
    | exact bad_tuple_head
    | rfl
    | exact bad_word b1
    | exact bad_word b2
    | exact bad_len a1 (Nat.ne_of_beq_eq_false rfl)
    | exact bad_len a2 (Nat.ne_of_beq_eq_false rfl)
    | exact bad_len a3 (Nat.ne_of_beq_eq_false rfl)
    | exact bad_len a4 (Nat.ne_of_beq_eq_false rfl)
    | exact bad_len a5 (Nat.ne_of_beq_eq_false rfl)
    | exact bad_len a6 (Nat.ne_of_beq_eq_false rfl)
/-- _law_odd(bag, word, inner): no term -/
def spOdd : Sp := fun vs H Q _ => ∃ (b l : Addr) (z : Str) (v : V) (t : Tm), vs = [.ref b, .str z, v] ∧ nmS z = true ∧ Rp H v t.data ∧ BagL H b l ∧ ∀ x H' d, Rp H' x d → signD d = false → Dr b l H H' → Q x H'
section
variable {P : Program} {w : World} {K : PySem.W.Frag} {mg : Str → Option Value} {base : Heap}
theorem scOdd : FnScope ["_law_bag_here", "_law_word_here", "_law_inner", "_law_way"] ["_law_bag_here", "_law_word_here", "_law_inner"] (defScope sOdd) := ⟨rfl, rfl, rfl, by decide +kernel, rfl, by decide +kernel, by decide +kernel⟩
theorem ok_odd {f fp fl fc : Addr} {fd fdp fdl fdc : FuncData} (F : Fun K "_law_odd" "_law_odd" sOdd f fd) (DP : Df K mg "_law_pick" sPick ["_law_bag_here", "_law_many"] fp fdp) (GP : FnOk P w K mg base CX0 1 fp fdp ["_law_bag_here", "_law_many"] spPick)
    (DL : Df K mg "_law_odd_leaf" sOddLeaf ["_law_bag_here", "_law_word_here"] fl fdl) (GL : FnOk P w K mg base CX0 3 fl fdl ["_law_bag_here", "_law_word_here"] spOddLeaf)
    (DC : Df K mg "_law_choice" sChoice ["_law_bag_here", "_law_things"] fc fdc) (GC : FnOk P w K mg base CX0 2 fc fdc ["_law_bag_here", "_law_things"] (spChoice K)) : FnOk P w K mg base CX0 4 f fd ["_law_bag_here", "_law_word_here", "_law_inner"] spOdd := by
  refine F.ok scOdd (fun vs H Q E h => ?_) (fun cdv A outer s H vs Q E hr h => ?_)
  · obtain ⟨b, l, z, v, t, rfl, _⟩ := h
    rfl
  · obtain ⟨b, l, z, v, t, rfl, hz, rv, B, k⟩ := h
    have nd := scOdd.nd
    have r1 := hr.mono (show 1 ≤ 3 by decide)
    have r2 := hr.mono (show 2 ≤ 3 by decide)
    refine ⟨_, pss_cons (ps_set (i := 3) nd rfl (Or.inl rfl) (pe_call GP r1 rfl DP.g DP.F.kp DP.b .nil pass0 (pa_cons (pv 0) (pa_cons pe_int pa_nil))))
      (pss_cons (ps_if (pt_cmpR op_eq (pv 3) pe_int (nomark _)) (pss_one (ps_ret (pe_call GL hr rfl DL.g DL.F.kp DL.b .nil pass0 (pa_cons (pv 0) (pa_cons (pv 1) pa_nil))))) pss_nil)
      (pss_cons (ps_if (pt_cmpR op_eq (pv 3) pe_int (nomark _)) (pss_one (ps_ret (pe_call GC r2 rfl DC.g DC.F.kp DC.b .nil pass0 (pa_cons (pv 0) (pa_cons (pe_w (pe_lst (pa_cons pe_non (pa_cons pe_int (pa_cons pe_str (pa_cons pe_str (pa_cons (pe_tup pa_nil) (pa_cons (pe_lst pa_nil) (pa_cons (pe_lst (pa_cons pe_str pa_nil)) (pa_cons (pe_tup (pa_cons pe_int pa_nil)) (pa_cons (pe_tup (pa_cons pe_non pa_nil)) (pa_cons (pe_tup (pa_cons pe_str pa_nil)) (pa_cons (pe_tup (pa_cons pe_str pa_nil)) (pa_cons (pe_tup (pa_cons pe_str pa_nil)) (pa_cons (pe_tup (pa_cons pe_str pa_nil)) (pa_cons (pe_tup (pa_cons pe_str pa_nil)) (pa_cons (pe_tup (pa_cons pe_str pa_nil)) (pa_cons (pe_tup (pa_cons pe_str (pa_cons pe_int pa_nil))) (pa_cons (pe_tup (pa_cons pe_str (pa_cons pe_str pa_nil))) (pa_cons (pe_tup (pa_cons pe_str (pa_cons (pv 1) pa_nil))) (pa_cons (pe_tup (pa_cons pe_str (pa_cons pe_str pa_nil))) (pa_cons (pe_tup (pa_cons pe_str (pa_cons pe_str pa_nil))) (pa_cons pe_bl (pa_cons (pe_tup (pa_cons pe_bl pa_nil)) (pa_cons (pe_tup (pa_cons (pe_tup (pa_cons pe_str pa_nil)) pa_nil)) (pa_cons pe_str (pa_cons (pe_tup (pa_cons pe_str (pa_cons (pv 2) pa_nil))) (pa_cons (pe_tup (pa_cons pe_str (pa_cons (pv 2) (pa_cons (pv 2) pa_nil)))) (pa_cons (pe_tup (pa_cons (pv 1) (pa_cons pe_int pa_nil))) (pa_cons (pe_tup (pa_cons pe_str pa_nil)) (pa_cons (pe_tup (pa_cons pe_str (pa_cons (pe_tup pa_nil) pa_nil))) pa_nil))))))))))))))))))))))))))))))) pa_nil))))) pss_nil)
      (pss_one (ps_ret (pe_call GC r2 rfl DC.g DC.F.kp DC.b .nil pass0 (pa_cons (pv 0) (pa_cons (pe_w (pe_lst (pa_cons (pe_tup (pa_cons pe_str pa_nil)) (pa_cons (pe_tup (pa_cons pe_str pa_nil)) (pa_cons (pe_tup (pa_cons pe_str pa_nil)) (pa_cons (pe_tup (pa_cons pe_str pa_nil)) (pa_cons (pe_tup (pa_cons pe_str pa_nil)) (pa_cons (pe_tup (pa_cons pe_str pa_nil)) (pa_cons (pe_tup (pa_cons pe_str (pa_cons (pv 2) (pa_cons (pv 2) pa_nil)))) (pa_cons (pe_tup (pa_cons pe_str (pa_cons (pv 2) (pa_cons (pv 2) pa_nil)))) (pa_cons (pe_tup (pa_cons pe_str (pa_cons (pv 2) pa_nil))) (pa_cons (pe_tup (pa_cons pe_str (pa_cons (pv 2) (pa_cons (pv 2) (pa_cons (pv 2) pa_nil))))) (pa_cons (pe_tup (pa_cons pe_str (pa_cons (pv 2) (pa_cons (pv 2) pa_nil)))) (pa_cons (pe_tup (pa_cons pe_str (pa_cons (pv 2) (pa_cons (pv 2) pa_nil)))) (pa_cons (pe_lst (pa_cons pe_str (pa_cons (pv 2) pa_nil))) (pa_cons (pe_lst (pa_cons pe_str (pa_cons (pv 2) (pa_cons (pv 2) pa_nil)))) (pa_cons (pe_tup (pa_cons pe_str (pa_cons (pv 2) pa_nil))) (pa_cons (pe_tup (pa_cons pe_str (pa_cons (pv 2) (pa_cons (pv 2) (pa_cons (pv 2) pa_nil))))) (pa_cons (pe_tup (pa_cons pe_str (pa_cons (pv 2) pa_nil))) (pa_cons (pe_tup (pa_cons (pv 2) pa_nil)) (pa_cons (pe_lst (pa_cons (pv 2) pa_nil)) (pa_cons (pe_tup (pa_cons (pv 2) (pa_cons pe_str (pa_cons (pv 2) pa_nil)))) (pa_cons (pe_tup (pa_cons pe_str (pa_cons (pv 2) (pa_cons (pv 2) pa_nil)))) (pa_cons (pe_lst (pa_cons pe_str (pa_cons (pv 2) pa_nil))) pa_nil)))))))))))))))))))))))) pa_nil))))))), ?_⟩
    refine ⟨_, rfl, b, l, 3, rfl, by decide, by decide, B, fun r H3 r0 r1' B3 bt3 _ => ?_⟩
    have D3 : Dr b l H H3 := ⟨B3, bt3⟩
    have hzw : Lit (tVar 1) [some (.ref b), some (.str z), some v, some (.int r)] H3 (.str z) := Lit.var rfl (.str z (nm_sh hz))
    have hin : Lit (tVar 2) [some (.ref b), some (.str z), some v, some (.int r)] H3 t.data := Lit.var rfl (rv.mono (D3.sq B))
    have fin : ∀ (ds : List PyData), 0 < ds.length → ds.length < 1000 → (∀ d ∈ ds, signD d = false) → ∀ v H4, Same H3 H4 → Rp H4 v (.list ds) → ∃ (b' bl l' : Addr) (xs : List V), [V.ref b, v] = [.ref b', .ref l'] ∧ H4 l' = some (.lst xs) ∧ l' ≠ b' ∧ 0 < xs.length ∧ xs.length < 1000 ∧ BagL H4 b' bl ∧
        ∀ (x : V) (H' : Hp), x ∈ xs → BagL H' b' bl → But b' H4 H' → (∀ c, c ≠ b' → H' c = H4 c) → Q x H' := fun ds h0 h1 bad v H4 s4 rv => by
      have B4 := B3.same s4
      cases rv with
      | @lst L xs _ hL rs =>
        have D4 : Dr b l H H4 := ⟨B4, D3.but.trans (But.of s4)⟩
        refine ⟨b, l, L, xs, rfl, hL, B4.lst_ne hL, by rw [rs.length]; exact h0, by rw [rs.length]; exact h1, B4, fun x H5 hx B5 bt5 _ => ?_⟩
        obtain ⟨d, hd, rd⟩ := rs.ofMem hx
        exact k x H5 d (rd.mono (Sq.but B4 bt5)) (bad d hd) (D4.trans ⟨B5, bt5⟩)
    refine ⟨_, rfl, rfl, _, rfl, ?_⟩
    refine ite2 (fun _ => ?_) (fun _ => ?_)
    · exact ⟨_, rfl, _, rfl, b, l, z, rfl, hz, B3, fun x H4 d rd bd D4 => k x H4 d rd bd (D3.trans D4)⟩
    refine ⟨_, rfl, rfl, _, rfl, ?_⟩
    refine ite2 (fun _ => ?_) (fun _ => ?_)
    · refine ⟨_, rfl, H3, .list (odd29 z t.data), ?_, Same.rfl', fin _ (Nat.le_of_ble_eq_true rfl) (Nat.le_of_ble_eq_true rfl) (badOdd29 hz _)⟩
      repeat' first | exact Lits.nil | refine Lits.cons ?_ ?_ | refine Lit.tup ?_ (Nat.le_of_ble_eq_true rfl) | refine Lit.lst ?_ (Nat.le_of_ble_eq_true rfl) | exact Lit.non | exact Lit.bl _ | exact Lit.neg _ | exact Lit.int _ | exact Lit.str ⟨by decide +kernel, by decide +kernel⟩ | exact hzw | exact hin
    refine ⟨_, rfl, H3, .list (odd22 t.data), ?_, Same.rfl', fin _ (Nat.le_of_ble_eq_true rfl) (Nat.le_of_ble_eq_true rfl) (badOdd22 t)⟩
    repeat' first | exact Lits.nil | refine Lits.cons ?_ ?_ | refine Lit.tup ?_ (Nat.le_of_ble_eq_true rfl) | refine Lit.lst ?_ (Nat.le_of_ble_eq_true rfl) | exact Lit.non | exact Lit.bl _ | exact Lit.neg _ | exact Lit.int _ | exact Lit.str ⟨by decide +kernel, by decide +kernel⟩ | exact hzw | exact hin
end
end K06

/-! k06, the law, part q: a term made, or refused. -/
namespace K06
open PySem L2 PySem.Spec PyProof.Rows K06X
abbrev sBuilt : Stmt := top 76
/-! ### C(e, ..) whose __init__ may raise, the wish told with the slots -/
def tMakeS (C : Addr) (sp : Sp) (E : L2.St → XK) (t : TA) : TE := fun σ H Q => t σ H fun vs H1 => ∀ x dx, H1 x = none → H1 dx = none → dx ≠ x → sp (.ref x :: vs) (upd (upd H1 dx (.own x)) x (.ins C dx [])) (fun v H2 => v = .non ∧ Q (.ref x) H2) (E σ)
section
variable {X : Cx} {CX : CXT} {k : Nat} {f C : Addr} {fd : FuncData} {ps : List Str} {sp : Sp} {E : L2.St → XK} {x : Str} {p pos : Pos} {e : Expr} {es : List Expr} {t : TA}
theorem mk_run {pins : List (Addr × Obj)} {σ : L2.St} {H : Hp} {s : Shared} {Q : VK} {us : List Value} {vs : List V} (M : Mk X.K C f) (F : FnOk X.prog X.w X.K X.mg X.base CX k f fd ps sp) (hr : Room (k + 1) X.A) (hb : Binds X.K fd ps []) (hx : PassesAt CX X σ (E σ)) (I : Inv X pins σ H s) (r : Vals vs us)
    (h : ∀ x dx, H x = none → H dx = none → dx ≠ x → sp (.ref x :: vs) (upd (upd H dx (.own x)) x (.ins C dx [])) (fun v H2 => v = .non ∧ Q (.ref x) H2) (E σ)) : wpAny (model X.prog X.w) X.A (call (.ref C) us) (EP X pins σ Q) X.xe s := by
  have q0 := h (s.heap.objs.size + 1) s.heap.objs.size (I.hok.fresh (Nat.le_succ _)) (I.hok.fresh (Nat.le_refl _)) (Nat.ne_of_lt (Nat.lt_succ_self _))
  have J := Inv.made (C := C) I
  have rr : Vals (V.ref (s.heap.objs.size + 1) :: vs) (Value.ref (s.heap.objs.size + 1) :: us) := .cons rfl r
  have hl : (Value.ref (s.heap.objs.size + 1) :: us ++ []).length = ps.length := by rw [List.append_nil, ← F.len _ _ _ _ q0, ← rr.length]
  have bb := hb _ (Value.ref (s.heap.objs.size + 1) :: us) J.kIn hl
  rw [List.append_nil] at bb
  refine wpAny_call (make_map (f := f) I.kIn M.makes M.init (beq_iff_eq.mp M.fn) (codeAny_mono (F.run _ X.stack _ _ ⟨_, []⟩ _ _ _ (E σ) (hr.make C us []) (J.env0.make C us []) bb rr q0) fun r1 s1 q1 => ?_))
  cases r1 with
  | error e1 => exact hx pins _ _ e1 s1 J q1
  | ok fl =>
    cases fl with
    | ret u =>
      obtain ⟨v, H2, J2, rv, ev, q2⟩ := J.after q1
      subst ev
      exact ⟨rv, ⟨V.ref (s.heap.objs.size + 1), H2, J2, rfl, q2⟩⟩
    | next => exact q1.elim
    | brk => exact q1.elim
    | cont => exact q1.elim
theorem pe_makeS (M : Mk X.K C f) (F : FnOk X.prog X.w X.K X.mg X.base CX k f fd ps sp) (hr : Room (k + 1) X.A) (hg : Gl X x) (hm : X.mg x = some (.ref C)) (hb : Binds X.K fd ps []) (hx : ∀ σ, PassesAt CX X σ (E σ)) (ha : PA X (e :: es) t)
    (hdb : (x == ("__debug__" : Str)) = false := by decide) (he : starEach (e :: es) X.env = (false, eval e X.env) :: starEach es X.env := by rfl) (hpl : (backTo pos (starEach es X.env)).any (·.1) = false := by rfl) :
    PE X (.Call (.Name x p) (e :: es) [] pos) (tMakeS C sp E t) := ⟨fun pins s σ H Q I h => by
  refine wpAny_Call_Name_kw (ld_glob I hg hm ?_ hdb)
  refine PySem.W.callWith_K (h₀ := X.base) I.ok.mod.kin M.kp (thn (ha.run pos pins s σ H _ I h) fun us s1 hh => ?_) he hpl
  obtain ⟨vs, H1, I1, r, q⟩ := hh
  exact ⟨I1.kIn, mk_run M F hr hb (hx σ) I1 r q⟩⟩
end
/-! ### isinstance(err, c), err the error that the suite holds -/
/-- what the class D says, so that isinstance asks its instances rightly -/
structure IsC (K : PySem.W.Frag) (D : Addr) : Prop where
  hc : (PySem.W.clsIn K D).isSome = true
  hg : PySem.W.findIn K (.ref D) "__getattribute__" = some (some (.builtin "BaseException.__getattribute__"))
  hk : PySem.W.findIn K (.ref D) "__getattr__" = some none
  hs : PySem.W.subIn K (.ref D) (.type "BaseException") = some true
  ha : PySem.W.findIn K (.ref D) "__class__" = some (some (.builtin "object.__class__"))
  hn : PySem.W.specialIn K (.builtin "object.__class__") "__get__" = some (some (.builtin "getset_descriptor.__get__"))
  ht : PySem.W.takesIn K (.builtin "object.__class__") = some true
  hm : PySem.W.mroIn K D (.type "object") = some true
def rIsF (K : PySem.W.Frag) (D a : Addr) (cls : Value) (d : Option Addr) : List V → Hp → VK → Prop := fun xs H Q => cls = .ref D ∧ ∃ (dd : Addr) (fs : List (Str × V)), d = some dd ∧ H dd = some (.xd fs) ∧
  ∃ (c : V) (cv : Value) (b : Bool), xs = [.ref a, c] ∧ (∀ u, RelV c u → u = cv) ∧ PySem.W.kitOne K (.ref D) cv = some b ∧ Q (.bl b) H
theorem call_isF {X : Cx} {a D : Addr} {oe : Obj} {cls : Value} {d : Option Addr} {pn : List (Addr × Obj)} (C : IsC X.K D) (hz : Zc cls d oe) (hf : ∃ vs, oe.data = .fields vs) : CallR (X.suite a ((a, oe) :: pn)) (.builtin "isinstance") (rIsF X.K D a cls d) := by
  intro pins s σ H xs us Q I r h
  obtain ⟨ec, dd, fs, ed, hdd, c, cv, b, rfl, hcv, e, q⟩ := h
  subst ec
  subst ed
  cases r with
  | cons rx rr =>
    cases rr with
    | cons rt rr =>
      cases rr
      cases rx
      have ec := hcv _ rt
      subst ec
      obtain ⟨hget, _⟩ := I.pin (a, oe) (List.mem_append.mpr (.inl List.mem_cons_self))
      obtain ⟨vs, hv⟩ := hf
      have hx : ObjOk X.prog X.w H s.heap dd (.xd fs) := I.hok dd _ hdd
      obtain ⟨mA, hns, hr⟩ := hx
      obtain ⟨od, ho, hl⟩ := lookIn_ns hns
      have J : PySem.W.InstAt s.heap a oe D (some od) := ⟨hget, hz.1, by unfold PySem.W.notCls; rw [hv] <;> rfl, by rw [hz.2]; exact ho⟩
      exact PySem.W.kia_one (PySem.W.kitx_exc C.hc C.hg C.hk C.hs C.ha C.hn C.ht C.hm) I.kIn J e (fun z => nomatch z) fun tk => ⟨.bl b, H, I.kept (t' := tk) fun _ _ z => z, rfl, q⟩
/-- the classes of errors, as _law_built asks them -/
structure Errs (K : PySem.W.Frag) (mg : Str → Option Value) (CF CB CBF CU : Addr) : Prop where
  gF : mg "FallsError" = some (.ref CF)
  gB : mg "BadTerm" = some (.ref CB)
  gBF : mg "BareFalls" = some (.ref CBF)
  gU : mg "Unknown" = some (.ref CU)
  gV : mg "ValueError" = none
  isB : PySem.W.kitOne K (.ref CB) (.ref CB) = some true
  isBF : PySem.W.kitOne K (.ref CB) (.ref CBF) = some false
  isU : PySem.W.kitOne K (.ref CB) (.ref CU) = some false
  isV : PySem.W.kitOne K (.ref CB) (.type "ValueError") = some true
  ex : PySem.W.exmOne K (.ref CB) (.ref CF) = some true
  ic : IsC K CB
def spBuilt (CT : Addr) : Sp := fun vs H Q _ => ∃ v d n o, vs = [v] ∧ Rp H v d ∧ BadN n [([], d)] o ∧ match o with
  | none => ∀ H' x dx T, Same H H' → H' x = some (.ins CT dx (termFs v)) → H' T = some (.tup [.str "term", .ref x]) → Q (.ref T) H'
  | some p => ∀ H' pl T, Same H H' → H' pl = some (.tup (plV p)) → H' T = some (.tup [.str "BadTerm", .ref pl]) → Q (.ref T) H'
section
variable {P : Program} {w : World} {K : PySem.W.Frag} {mg : Str → Option Value} {base : Heap}
theorem scBuilt : FnScope ["_law_plain", "_law_told", "e", "_law_signs_here"] ["_law_plain"] (defScope sBuilt) := ⟨rfl, rfl, rfl, by decide +kernel, rfl, by decide +kernel, by decide +kernel⟩
abbrev tIsE (K : PySem.W.Frag) (CB a : Addr) (cls : Value) (d : Option Addr) (tc : TE) : TE := tCB (rIsF K CB a cls d) (tCons (tVar 2) (tCons tc tNil))
theorem ok_built {f fI fB CT CF CB CBF CU : Addr} {fd fdI : FuncData} (F : Fun K "_law_built" "_law_built" sBuilt f fd) (N : Nms mg) (ER : Errs K mg CF CB CBF CU) (TB : ErrTxt P K mg CB fB "BadTerm" "BadTerm.__init__" "place" "no term at ")
    (MT : Mk K CT fI) (gT : mg "Term" = some (.ref CT)) (bI : Binds K fdI ["self", "plain"] []) (GI : FnOk P w K mg base (L2.CX P w) 5 fI fdI ["self", "plain"] (spInit CT CB)) :
    FnOk P w K mg base CX0 7 f fd ["_law_plain"] (spBuilt CT) := by
  refine F.ok scBuilt (fun vs H Q E h => ?_) (fun cdv A outer s H vs Q E hr h => ?_)
  · obtain ⟨v, d, n, o, rfl, _⟩ := h
    rfl
  · obtain ⟨v, d, n, o, rfl, rv, bd, k⟩ := h
    have nd := scBuilt.nd
    refine ⟨_, pss_cons (ps_try_as (i := 2) (tb := fun W => tAsg (tMakeS CT (spInit CT CB) (WE W) (tCons (tVar 0) tNil)) (gName 1)) (ts := fun a cls d => _) (Wout := fun _ _ _ _ => False) rfl rfl nd rfl rfl ⟨rfl, by decide, .inl ER.gF⟩ takes0
        (fun W pn xe tk _ => pss_one (ps_set (i := 1) nd rfl (Or.inl rfl) (by exact (pe_makeS MT GI hr rfl gT bI (fun σ => passAt tk σ) (by exact (pa_cons (pv 0) pa_nil))))))
        (fun a oe cls d pn hz hf => pss_cons (ps_set (i := 3) nd rfl (Or.inl rfl) (pe_lst (pa_cons (pe_callB (call_isF ER.ic hz hf) (by rfl) N.isi (by decide +kernel) (pa_cons (pv 2) (pa_cons (pe_glob (v := .ref CB) rfl ER.gB rfl) pa_nil))) (pa_cons (pe_callB (call_isF ER.ic hz hf) (by rfl) N.isi (by decide +kernel) (pa_cons (pv 2) (pa_cons (pe_glob (v := .ref CBF) rfl ER.gBF rfl) pa_nil))) (pa_cons (pe_callB (call_isF ER.ic hz hf) (by rfl) N.isi (by decide +kernel) (pa_cons (pv 2) (pa_cons (pe_glob (v := .ref CU) rfl ER.gU rfl) pa_nil))) (pa_cons (pe_callB (call_isF ER.ic hz hf) (by rfl) N.isi (by decide +kernel) (pa_cons (pv 2) (pa_cons (pe_bltn (v := .ty "ValueError") (by rfl) ER.gV (by decide +kernel) rfl) pa_nil))) pa_nil))))))
          (pss_cons (ps_if (pt_cmpR (show OpR _ (compareOp .Eq) (rEqM K) from op_eqM hr.units) (pv 3) (pe_lst (pa_cons pe_bl (pa_cons pe_bl (pa_cons pe_bl (pa_cons pe_bl pa_nil))))) (nomark _)) (pss_one (ps_ret (pe_tup (pa_cons pe_str (pa_cons (pe_byE TB hz hf (pv 2) rfl) pa_nil))))) pss_nil)
          (pss_one (ps_ret (pe_tup (pa_cons pe_str (pa_cons pe_non pa_nil))))))))
      (pss_one (ps_ret (pe_tup (pa_cons pe_str (pa_cons (pv 1) pa_nil))))), ?_⟩
    refine ⟨_, rfl, fun x dx nx ndx nex => ?_⟩
    have s1 := same_new (o := .own x) Same.rfl' ndx
    have nx1 : upd H dx (.own x) x = none := by rw [upd_ne (Ne.symm nex)]; exact nx
    have s2 := same_new (o := .ins CT dx []) s1 nx1
    refine ⟨x, dx, v, d, n, o, rfl, upd_same, fun a e => ?_, rv.mono (Sq.of s2), bd, ?_⟩
    · rintro rfl
      subst e
      cases rv with
      | lst e _ => rw [nx] at e; cases e
      | tup e _ => rw [nx] at e; cases e
    cases o with
    | none =>
      intro H1 kp hx
      refine ⟨rfl, ?_⟩
      refine ⟨_, rfl, (by show 2 ≤ sizeLine; decide), fun T nT => ?_⟩
      have sH1 : Same H H1 := fun b u e => kp b u (fun z => by rw [z, nx] at e; cases e) (s2 b u e)
      have s3 := same_new (o := .tup [.str "term", .ref x]) sH1 nT
      exact k _ x dx T s3 (by rw [upd_ne (ne_of_none hx nT)]; exact hx) upd_same
    | some p =>
      intro H1 dd pl s3 nd' hdd hpl
      refine ⟨true, ER.ex, fun _ a ha => ?_, fun q => nomatch q⟩
      have sH1 : Same H H1 := sameT s2 s3
      refine ⟨_, rfl, rfl, dd, _, rfl, hdd, .ref CB, .ref CB, true, rfl, fun u r => r, ER.isB, ?_⟩
      refine ⟨_, rfl, rfl, dd, _, rfl, hdd, .ref CBF, .ref CBF, false, rfl, fun u r => r, ER.isBF, ?_⟩
      refine ⟨_, rfl, rfl, dd, _, rfl, hdd, .ref CU, .ref CU, false, rfl, fun u r => r, ER.isU, ?_⟩
      refine ⟨_, rfl, rfl, dd, _, rfl, hdd, .ty "ValueError", .type "ValueError", true, rfl, fun u r => r, ER.isV, ?_⟩
      refine ⟨(by show 4 ≤ sizeLine; decide), fun L nL => ?_⟩
      have sL := same_new (o := .lst [.bl true, .bl false, .bl false, .bl true]) Same.rfl' nL
      refine ⟨_, rfl, (by show 4 ≤ sizeLine; decide), fun M nM => ?_⟩
      have sM := same_new (o := .lst [.bl true, .bl false, .bl false, .bl true]) Same.rfl' nM
      have four : ∀ G : Hp, Rps G [.bl true, .bl false, .bl false, .bl true] [.bool true, .bool false, .bool false, .bool true] := fun G => .cons (.bl _) (.cons (.bl _) (.cons (.bl _) (.cons (.bl _) .nil)))
      refine ⟨.list [.bool true, .bool false, .bool false, .bool true], .list [.bool true, .bool false, .bool false, .bool true], (Rp.lst (sM _ _ upd_same) (four _)).dp, (Rp.lst upd_same (four _)).dp, by decide +kernel, by decide +kernel, by decide +kernel, _, rfl, ?_⟩
      have eq4 : PyData.eqv (.list [.bool true, .bool false, .bool false, .bool true]) (.list [.bool true, .bool false, .bool false, .bool true]) = true := by decide +kernel
      rw [eq4]
      have hd2 := sM _ _ (sL _ _ hdd)
      have hp2 := sM _ _ (sL _ _ hpl)
      refine iteT ⟨_, rfl, rfl, rfl, dd, .ref pl, rfl, hd2, (by show 2 ≤ sizeLine; decide), fun T nT => ?_⟩
      exact k _ pl T (same_new (sameT (sameT sH1 sL) sM) nT) (by rw [upd_ne (ne_of_none hp2 nT)]; exact hp2) upd_same
end
end K06

/-! k06, the law, part r: a right term is taken, and told rightly. -/
namespace K06
open PySem L2 PySem.Spec PyProof.Rows K06X
abbrev sRight : Stmt := top 79
theorem ExN.up : ∀ {n : Nat} {d : PyData}, ExN n d → ExN (n + 1) d
  | _, _, .non => .non
  | _, _, .int i => .int i
  | _, _, .str z => .str z
  | _, _, .tup h l => .tup (fun d hd => (h d hd).up) l
theorem ExN.mono {n : Nat} {d : PyData} (h : ExN n d) : ∀ {m : Nat}, n ≤ m → ExN m d
  | 0, l => by cases h <;> omega
  | m + 1, l => by
    by_cases e : n = m + 1
    · rw [← e]; exact h
    · exact (ExN.mono h (m := m) (by omega)).up
theorem shD_ints_of {p q : PyData} (h : shD p q = true) : ∃ i j, p = .int i ∧ q = .int j := by
  cases p <;> cases q <;> first | exact ⟨_, _, rfl, rfl⟩ | cases h
theorem partsD_int {d : PyData} (h : partsD d = true) : ∃ i, d = .int i := by
  cases d <;> first | exact ⟨_, rfl⟩ | cases h
theorem leaf_ex {w : Str} {ds : List PyData} (s : signD (.tuple (.str w :: ds)) = true) (a : ∃ n, arity w = some (n, 0)) : (∀ d ∈ ds, ExN 1 d) ∧ ds.length ≤ 3 := by
  obtain ⟨n, a⟩ := a
  have r := restD_of s
  rw [sign_eq a] at s
  have hl : ds.length + 1 = n := of_decide_eq_true (Bool.and_eq_true_iff.mp s).1
  have h4 := (arity_le a).2
  refine ⟨?_, by omega⟩
  have key : ∀ p ∈ arities, p.2.2 = 0 → (p.2.1 = 1) ∨ (p.2.1 = 2 ∧ inV (.str p.1) namedV = true) ∨ (p.2.1 = 4 ∧ inV (.str p.1) namedV = false ∧ inV (.str p.1) sharesV = true) ∨
      (p.2.1 = 2 ∧ inV (.str p.1) namedV = false ∧ inV (.str p.1) sharesV = false ∧ decide (V.str p.1 = V.str "parts") = true) ∨
      (p.2.1 = 2 ∧ inV (.str p.1) namedV = false ∧ inV (.str p.1) sharesV = false ∧ decide (V.str p.1 = V.str "parts") = false ∧ decide (V.str p.1 = V.str "falls") = true) := by decide +kernel
  unfold restD at r
  rcases key _ (arity_mem a) rfl with e | ⟨e, k1⟩ | ⟨e, k1, k2⟩ | ⟨e, k1, k2, k3⟩ | ⟨e, k1, k2, k3, k4⟩
  · have e' : n = 1 := e
    have : ds = [] := List.eq_nil_of_length_eq_zero (by omega)
    rw [this]; intro d hd; cases hd
  · have e' : n = 2 := e
    obtain ⟨x, rfl⟩ := List.length_eq_one_iff.mp (show ds.length = 1 by omega)
    rw [show inV (.str w) namedV = true from k1, if_pos rfl] at r
    obtain ⟨z, hz, _⟩ := nmD_str r
    intro d hd
    rw [List.mem_singleton.mp hd, show x = .str z from hz]
    exact .str z
  · have e' : n = 4 := e
    obtain ⟨x, p, q, rfl⟩ : ∃ x p q, ds = [x, p, q] := by
      match ds, (show ds.length = 3 by omega) with
      | [x, p, q], _ => exact ⟨x, p, q, rfl⟩
    rw [show inV (.str w) namedV = false from k1, show inV (.str w) sharesV = true from k2, if_neg Bool.false_ne_true, if_pos rfl] at r
    obtain ⟨r1, r2⟩ := Bool.and_eq_true_iff.mp r
    obtain ⟨z, hz, _⟩ := nmD_str r1
    obtain ⟨i, j, hp, hq⟩ := shD_ints_of r2
    intro d hd
    simp only [List.mem_cons, List.not_mem_nil, or_false] at hd
    rcases hd with rfl | rfl | rfl
    · rw [show d = .str z from hz]; exact .str z
    · rw [show d = .int i from hp]; exact .int i
    · rw [show d = .int j from hq]; exact .int j
  · have e' : n = 2 := e
    obtain ⟨x, rfl⟩ := List.length_eq_one_iff.mp (show ds.length = 1 by omega)
    rw [show inV (.str w) namedV = false from k1, show inV (.str w) sharesV = false from k2, show decide (V.str w = V.str "parts") = true from k3, if_neg Bool.false_ne_true, if_neg Bool.false_ne_true, if_pos rfl] at r
    obtain ⟨i, hi⟩ := partsD_int r
    intro d hd
    rw [List.mem_singleton.mp hd, show x = .int i from hi]
    exact .int i
  · have e' : n = 2 := e
    obtain ⟨x, rfl⟩ := List.length_eq_one_iff.mp (show ds.length = 1 by omega)
    rw [show inV (.str w) namedV = false from k1, show inV (.str w) sharesV = false from k2, show decide (V.str w = V.str "parts") = false from k3, show decide (V.str w = V.str "falls") = true from k4, if_neg Bool.false_ne_true, if_neg Bool.false_ne_true, if_neg Bool.false_ne_true] at r
    obtain ⟨z, hz, _⟩ := hdD_str (show hdD x = true by simpa using r)
    intro d hd
    rw [List.mem_singleton.mp hd, show x = .str z from hz]
    exact .str z
theorem Tm.ex : ∀ t : Tm, t.Ok → ExN (t.height + 2) t.data
  | .leaf w ds, h => by
    obtain ⟨a, b⟩ := leaf_ex h.1 h.2.1
    refine ExN.tup (n := 1) (fun d hd => ?_) (by rw [List.length_cons]; omega)
    rcases List.mem_cons.mp hd with rfl | hd
    · exact .str _
    · exact a d hd
  | .one w t, h => by
    refine ExN.tup (n := t.height + 2) (fun d hd => ?_) (by show 2 ≤ 900; decide)
    simp only [List.mem_cons, List.not_mem_nil, or_false] at hd
    rcases hd with rfl | rfl
    · exact .str _
    · exact t.ex h.2
  | .two w t u, h => by
    refine ExN.tup (n := max t.height u.height + 2) (fun d hd => ?_) (by show 3 ≤ 900; decide)
    simp only [List.mem_cons, List.not_mem_nil, or_false] at hd
    rcases hd with rfl | rfl | rfl
    · exact .str _
    · exact (t.ex h.2.1).mono (by omega)
    · exact (u.ex h.2.2).mono (by omega)
theorem Tm.nodes1 (t : Tm) (h : t.Ok) (l : t.many ≤ 900) : NodesN t.many [t.data] t.walk := by
  have := Tm.nodes t h (r := []) (l := []) (n := 0) (by rw [List.length_nil]; omega) .nil
  rw [List.append_nil, Nat.zero_add] at this
  exact this
theorem Tm.looks1 (t : Tm) (h : t.Ok) (l : t.many ≤ 900) : LookN t.many [(t.data, 0)] 0 (t.look : Nat) := by
  have := Tm.looks t h (r := []) (n := 0) (a := 0) (g := 0) (f := (t.look : Nat)) (by rw [List.length_nil]; omega) (by rw [show max (0 : Int) (0 + (t.look : Nat)) = (t.look : Nat) by omega]; exact .nil)
  rw [Nat.zero_add] at this
  exact this
theorem Tm.bad1 (t : Tm) (h : t.Ok) (l : t.many ≤ 900) : BadN t.many [([], t.data)] none := by
  have hh := t.height_lt
  have := Tm.past t h (r := []) (n := 0) (p := []) (o := none) (by rw [List.length_nil]; omega) (by rw [List.length_nil]; omega) .nil
  rw [Nat.zero_add] at this
  exact this
def strsD (zs : List Str) : PyData := .tuple (zs.map PyData.str)
theorem rps_strs {H : Hp} : ∀ {zs : List Str}, (∀ z ∈ zs, Sh z) → Rps H (zs.map V.str) (zs.map PyData.str)
  | [], _ => .nil
  | z :: zs, h => .cons (.str z (h z List.mem_cons_self)) (rps_strs fun y hy => h y (List.mem_cons_of_mem _ hy))
theorem strs_ex {zs : List Str} (l : zs.length ≤ 900) : ExN 2 (strsD zs) := .tup (fun d hd => by obtain ⟨z, _, rfl⟩ := List.mem_map.mp hd; exact .str z) (by rw [List.length_map]; exact l)
theorem onceL_sub : ∀ (zs acc : List Str), ∀ z ∈ zs.foldl (fun acc z => if z ∈ acc then acc else acc ++ [z]) acc, z ∈ acc ∨ z ∈ zs
  | [], acc, z, h => .inl h
  | y :: zs, acc, z, h => by
    rcases onceL_sub zs _ z h with h | h
    · by_cases hy : y ∈ acc
      · have h : z ∈ (if y ∈ acc then acc else acc ++ [y]) := h
        rw [if_pos hy] at h; exact .inl h
      · have h : z ∈ (if y ∈ acc then acc else acc ++ [y]) := h
        rw [if_neg hy] at h
        rcases List.mem_append.mp h with h | h
        · exact .inl h
        · exact .inr (by rw [List.mem_singleton.mp h]; exact List.mem_cons_self)
    · exact .inr (List.mem_cons_of_mem _ h)
theorem named_sh {l : List PyData} (hs : ∀ d ∈ l, signD d = true) : ∀ z ∈ namesL l, Sh z := by
  intro z hz
  obtain ⟨d, hd, rfl⟩ := List.mem_map.mp hz
  obtain ⟨h1, h2⟩ := List.mem_filter.mp hd
  have sg := hs d h1
  obtain ⟨w, z, r, rfl⟩ := named_open sg h2
  have key : ∀ p ∈ arities, inV (.str p.1) fourV = true → inV (.str p.1) namedV = true ∨ (inV (.str p.1) namedV = false ∧ inV (.str p.1) sharesV = true) := by decide +kernel
  obtain ⟨w', ds, n, m, e, ea, _, _, _⟩ := sign_open sg
  cases e
  have rr := restD_of sg
  unfold restD at rr
  rcases key _ (arity_mem ea) h2 with k | ⟨k1, k2⟩
  · rw [show inV (.str w) namedV = true from k, if_pos rfl] at rr
    exact nm_sh rr
  · rw [show inV (.str w) namedV = false from k1, show inV (.str w) sharesV = true from k2, if_neg Bool.false_ne_true, if_pos rfl] at rr
    exact nm_sh (Bool.and_eq_true_iff.mp rr).1
theorem heads_sh {l : List PyData} (hs : ∀ d ∈ l, signD d = true) : ∀ z ∈ headsL l, Sh z := by
  intro z hz
  obtain ⟨d, hd, rfl⟩ := List.mem_map.mp hz
  obtain ⟨h1, h2⟩ := List.mem_filter.mp hd
  have sg := hs d h1
  obtain ⟨w, z, r, rfl⟩ := falls_open sg h2
  have rr := restD_of sg
  have ew : w = "falls" := by
    have := of_decide_eq_true h2
    injection this
  subst ew
  unfold restD at rr
  rw [show inV (.str "falls") namedV = false by decide, show inV (.str "falls") sharesV = false by decide, show decide (V.str "falls" = V.str "parts") = false by decide, show decide (V.str "falls" = V.str "falls") = true by decide] at rr
  have rr : hdD (.str z) = true := by simpa using rr
  exact hd_sh rr
theorem once_sh {zs : List Str} (h : ∀ z ∈ zs, Sh z) : ∀ z ∈ onceL zs, Sh z := fun z hz => by
  rcases onceL_sub zs [] z hz with q | q
  · cases q
  · exact h z q
end K06

/-! k06, the law, part s: _law_right. -/
namespace K06
open PySem L2 PySem.Spec PyProof.Rows K06X
/-- the properties of terms -/
structure Props (P : Program) (w : World) (K : PySem.W.Frag) (mg : Str → Option Value) (base : Heap) (CT : Addr) : Prop where
  sz : ∃ p g fd, PropOf K CT "size" p g ∧ FnOk P w K mg base CX0 3 g fd ["self"] (spSize CT) ∧ Binds K fd ["self"] []
  lk : ∃ p g fd, PropOf K CT "look" p g ∧ FnOk P w K mg base CX0 3 g fd ["self"] (spTLook CT) ∧ Binds K fd ["self"] []
  nm : ∃ p g fd, PropOf K CT "names" p g ∧ FnOk P w K mg base CX0 4 g fd ["self"] (spTNames CT namesL) ∧ Binds K fd ["self"] []
  fl : ∃ p g fd, PropOf K CT "falls" p g ∧ FnOk P w K mg base CX0 4 g fd ["self"] (spTNames CT headsL) ∧ Binds K fd ["self"] []
def spRight : Sp := fun vs H Q _ => ∃ v t, vs = [v] ∧ Rp H v (Tm.data t) ∧ t.Ok ∧ t.height ≤ 25 ∧ t.many ≤ 100 ∧ ∀ H', Same H H' → Q (.bl true) H'
section
variable {P : Program} {w : World} {K : PySem.W.Frag} {mg : Str → Option Value} {base : Heap}
theorem scRight : FnScope ["_law_plain", "_law_told", "_law_rows", "_law_called", "_law_heads", "_law_seen", "_law_one"] ["_law_plain"] (defScope sRight) := ⟨rfl, rfl, rfl, by decide +kernel, rfl, by decide +kernel, by decide +kernel⟩
theorem ok_right {f fb fx fw fo fl CT : Addr} {fd fdb fdx fdw fdo fdl : FuncData} (F : Fun K "_law_right" "_law_right" sRight f fd) (N : Nms mg) (T : TermC K CT) (TI : TermI K CT) (gT : mg "Term" = some (.ref CT)) (PR : Props P w K mg base CT)
    (DB : Df K mg "_law_built" sBuilt ["_law_plain"] fb fdb) (GB : FnOk P w K mg base CX0 7 fb fdb ["_law_plain"] (spBuilt CT)) (DX : Df K mg "_law_exact" sExact ["_law_told", "_law_due"] fx fdx) (GX : FnOk P w K mg base CX0 29 fx fdx ["_law_told", "_law_due"] (spExact 28))
    (DW : Df K mg "_law_walk" sWalk ["_law_term"] fw fdw) (GW : FnOk P w K mg base CX0 27 fw fdw ["_law_term"] (spWalk 26)) (DO : Df K mg "_law_once" sLOnce ["_law_things"] fo fdo) (GO : FnOk P w K mg base CX0 1 fo fdo ["_law_things"] spLOnce)
    (DL : Df K mg "_law_look" sLook ["_law_term"] fl fdl) (GL : FnOk P w K mg base CX0 27 fl fdl ["_law_term"] (spLLook 26)) : FnOk P w K mg base CX0 30 f fd ["_law_plain"] spRight := by
  obtain ⟨pS, gS, fS, PS, FS, bS⟩ := PR.sz
  obtain ⟨pL, gL, fL, PL, FL, bL⟩ := PR.lk
  obtain ⟨pN, gN, fN, PN, FN, bN⟩ := PR.nm
  obtain ⟨pF, gF, fF, PF, FF, bF⟩ := PR.fl
  refine F.ok scRight (fun vs H Q E h => ?_) (fun cdv A outer s H vs Q E hr h => ?_)
  · obtain ⟨v, t, rfl, _⟩ := h
    rfl
  · obtain ⟨v, t, rfl, rv, ok, hh, hm, k⟩ := h
    have nd := scRight.nd
    have r1 := hr.mono (show 1 ≤ 29 by decide)
    have r4 := hr.mono (show 4 ≤ 29 by decide)
    have r5 := hr.mono (show 5 ≤ 29 by decide)
    have r7 := hr.mono (show 7 ≤ 29 by decide)
    have r27 := hr.mono (show 27 ≤ 29 by decide)
    refine ⟨_, pss_cons (ps_set (i := 1) nd rfl (Or.inl rfl) (pe_call GB r7 rfl DB.g DB.F.kp DB.b .nil pass0 (pa_cons (pv 0) pa_nil)))
      (pss_cons (ps_if (PW.pt (pw_or (pt_cmpR op_ne (pe_ix ix_tup (pv 1) pe_int (fun _ _ => rfl)) pe_str (nomark _)) (pw_or (pt_not (pt_val (pe_callB call_isi (by rfl) N.isi (by decide +kernel) (pa_cons (pe_ix ix_tup (pv 1) pe_int (fun _ _ => rfl)) (pa_cons (pe_glob (v := .ref CT) rfl gT rfl) pa_nil)))))
          (pw_or1 (pt_not (pt_val (pe_call GX hr rfl DX.g DX.F.kp DX.b .nil pass0 (pa_cons (pe_fld (pe_ix ix_tup (pv 1) pe_int (fun _ _ => rfl)) rfl) (pa_cons (pv 0) pa_nil))))))))) (pss_one (ps_ret pe_bl)) pss_nil)
      (pss_cons (ps_set (i := 2) nd rfl (Or.inl rfl) (pe_call GW r27 rfl DW.g DW.F.kp DW.b .nil pass0 (pa_cons (pv 0) pa_nil)))
      (pss_cons (ps_set (i := 3) nd rfl (Or.inl rfl) (pe_call GO r1 rfl DO.g DO.F.kp DO.b .nil pass0 (pa_cons
        (pe_lc (own := [("_law_one", 6)]) (g := gName 6) (tt := tTest (tOp (rIn K false) (tOp (rIxT K) (tVar 6) (tC (.int 0))) (tLst (tCons (tC (.str "form")) (tCons (tC (.str "state")) (tCons (tC (.str "over")) (tCons (tC (.str "from")) tNil)))))))
          (te := tOp (rIxT K) (tVar 6) (tC (.int 1))) rfl nd (pi_list (pv 2)) (blkOk_by (N := ["_law_plain", "_law_told", "_law_rows", "_law_called", "_law_heads", "_law_seen", "_law_one"]) (sc := defScope sRight) (by decide +kernel)) (fun _ _ _ _ _ => pg_name (i := 6) nd rfl (Or.inl rfl))
          (fun _ _ _ _ _ => pts_one (pt_cmpR op_in_seq (pe_ix ix_tup (pv 6) pe_int (fun _ _ => rfl)) (pe_lst (pa_cons pe_str (pa_cons pe_str (pa_cons pe_str (pa_cons pe_str pa_nil))))) rfl))
          (fun _ _ _ _ _ => pe_ix ix_tup (pv 6) pe_int (fun _ _ => rfl))) pa_nil)))
      (pss_cons (ps_set (i := 4) nd rfl (Or.inl rfl) (pe_call GO r1 rfl DO.g DO.F.kp DO.b .nil pass0 (pa_cons
        (pe_lc (own := [("_law_one", 6)]) (g := gName 6) (tt := tTest (tOp rEq (tOp (rIxT K) (tVar 6) (tC (.int 0))) (tC (.str "falls"))))
          (te := tOp (rIxT K) (tVar 6) (tC (.int 1))) rfl nd (pi_list (pv 2)) (blkOk_by (N := ["_law_plain", "_law_told", "_law_rows", "_law_called", "_law_heads", "_law_seen", "_law_one"]) (sc := defScope sRight) (by decide +kernel)) (fun _ _ _ _ _ => pg_name (i := 6) nd rfl (Or.inl rfl))
          (fun _ _ _ _ _ => pts_one (pt_cmpR op_eq (pe_ix ix_tup (pv 6) pe_int (fun _ _ => rfl)) pe_str (nomark _)))
          (fun _ _ _ _ _ => pe_ix ix_tup (pv 6) pe_int (fun _ _ => rfl))) pa_nil)))
      (pss_cons (ps_set (i := 5) nd rfl (Or.inl rfl) (pe_tup (pa_cons (pe_prop (pe_ix ix_tup (pv 1) pe_int (fun _ _ => rfl)) T.cl PS FS r4 bS .nil pass0 rfl) (pa_cons (pe_prop (pe_ix ix_tup (pv 1) pe_int (fun _ _ => rfl)) T.cl PL FL r4 bL .nil pass0 rfl)
        (pa_cons (pe_prop (pe_ix ix_tup (pv 1) pe_int (fun _ _ => rfl)) T.cl PN FN r5 bN .nil pass0 rfl) (pa_cons (pe_prop (pe_ix ix_tup (pv 1) pe_int (fun _ _ => rfl)) T.cl PF FF r5 bF .nil pass0 rfl) pa_nil))))))
      (pss_one (ps_ret (pe_call GX hr rfl DX.g DX.F.kp DX.b .nil pass0 (pa_cons (pv 5) (pa_cons (pe_tup (pa_cons (pe_callB call_len_seq (by rfl) N.len PySem.boot_len (pa_cons (pv 2) pa_nil)) (pa_cons (pe_call GL r27 rfl DL.g DL.F.kp DL.b .nil pass0 (pa_cons (pv 0) pa_nil))
        (pa_cons (pv 3) (pa_cons (pv 4) pa_nil))))) pa_nil)))))))))), ?_⟩
    have hm9 : t.many ≤ 900 := by omega
    have nn := t.nodes1 ok hm9
    have signs := nn.signs
    have hll := nn.length
    refine ⟨_, rfl, v, t.data, t.many, none, rfl, rv, t.bad1 ok hm9, fun H1 x dx T1 s1 hx hT => ?_⟩
    have ex1 : ExN 28 t.data := (t.ex ok).mono (by omega)
    refine ⟨_, rfl, T1, _, 0, .str "term", rfl, rfl, SqT.of hT, at0, rfl, _, rfl, ?_⟩
    refine iteNS rfl ?_
    refine ⟨_, rfl, T1, _, 1, .ref x, rfl, rfl, SqT.of hT, at1, _, _, .ref CT, _, _, rfl, .own _, .base (.ins hx T.cl TI.ha TI.hn TI.htk TI.hm), (by unfold PySem.W.kitOne; rw [if_pos (by simp)]), _, rfl, ?_⟩
    refine iteF ?_
    refine ⟨_, rfl, T1, _, 1, .ref x, rfl, rfl, SqT.of hT, at1, x, CT, dx, _, v, rfl, hx, T.cl, T.nP, rfl, _, rfl, v, v, t.data, rfl, rv.mono (Sq.of s1), rv.mono (Sq.of s1), ex1, fun H2 s2 => ⟨_, rfl, ?_⟩⟩
    refine iteF ?_
    have sH2 := sameT s1 s2
    refine ⟨_, rfl, v, t, H, rfl, rv, sH2, ok, by omega, hm9, fun H3 L xs s3 nL hL rx => ?_⟩
    have sH := sameT sH2 s3
    refine ⟨_, rfl, L, rfl, ⟨_, SqL.of hL⟩, fun D hD => ?_⟩
    generalize hl : t.walk = l at nn signs hll rx
    refine lc_it (walk_list (K := K) (a := L) (xs := xs)) (fun i H4 => Same H3 H4 ∧ H4 D = some (.lst ((((l.take i).filter (fun d => inV (.str (wordOf d)) fourV)).map textOf).map V.str))) ⟨same_new Same.rfl' hD, upd_same⟩ (fun i H4 _ ⟨s4, _⟩ => SqL.of (s4 _ _ hL)) ?_ ?_
    · rintro i y H4 H5 hi ⟨s4, hd4⟩ ⟨rfl, hy⟩
      obtain ⟨di, hdi, rdi⟩ := rx.got hy
      have sg := signs di (List.mem_of_getElem? hdi)
      have sg' := sg
      have ft := filt_take (fun d => inV (.str (wordOf d)) fourV) hdi
      have lt : ((l.take i).filter (fun d => inV (.str (wordOf d)) fourV)).length ≤ i := Nat.le_trans (List.length_filter_le _ _) (by rw [List.length_take]; exact Nat.min_le_left _ _)
      have li : i < l.length := (List.getElem?_eq_some_iff.mp hdi).1
      obtain ⟨w0, ds0, n0, m0, rfl, ea, _, _, _⟩ := sign_open sg
      cases rdi with
      | @tup a _ _ e r =>
        cases r with
        | @cons u vs _ _ tv tvs =>
          cases tv with
          | str _ hz =>
            have e2 := s4 _ _ (sH _ _ e)
            refine ⟨rfl, ⟨_, rfl, a, _, 0, .str w0, rfl, rfl, SqT.of e2, at0, (by show 4 ≤ sizeLine; decide), fun p np => ⟨p, fourV, rfl, .inl (SqL.of upd_same), rfl, by decide, _, rfl, ?_⟩⟩⟩
            show if inV (.str w0) fourV = true then _ else _
            have s5 : Same H3 (upd H5 p (.lst fourV)) := same_new s4 np
            have e3 := s5 _ _ (sH _ _ e)
            have d3 : upd H5 p (.lst fourV) D = some (.lst ((((l.take i).filter fun d => inV (.str (wordOf d)) fourV).map textOf).map V.str)) := by rw [upd_ne (ne_of_none hd4 np)]; exact hd4
            cases ei : inV (.str w0) fourV with
            | true =>
              obtain ⟨w1, z1, r1', q⟩ := named_open sg' ei
              cases q
              cases tvs with
              | @cons v1 vs1 _ _ tv1 tvs1 =>
                cases tv1 with
                | str _ hz1 =>
                  refine iteT ⟨_, rfl, a, _, 1, .str z1, rfl, rfl, SqT.of e3, at1, _, d3, ?_, same_put s5 hD, ?_⟩
                  · rw [List.length_map, List.length_map]
                    exact small1000 (by omega)
                  · rw [upd_same, ft, show inV (V.str (wordOf (PyData.tuple (.str w0 :: .str z1 :: r1')))) fourV = true from ei, if_pos rfl, List.map_append, List.map_append]
                    rfl
            | false =>
              refine iteF ⟨s5, ?_⟩
              rw [ft, show inV (V.str (wordOf (PyData.tuple (.str w0 :: ds0)))) fourV = false from ei, if_neg Bool.false_ne_true]
              exact d3
    rintro H4 ⟨s4, hd4⟩
    have hxl : xs.length = l.length := rx.length
    rw [List.take_of_length_le (by rw [hxl]; exact Nat.le_refl _)] at hd4
    have nl9 : (namesL l).length ≤ 900 := by
      show ((l.filter (fun d => inV (.str (wordOf d)) fourV)).map textOf).length ≤ 900
      rw [List.length_map]
      exact Nat.le_trans (List.length_filter_le _ _) (by omega)
    have fl9 : (headsL l).length ≤ 900 := by
      show ((l.filter (fun d => decide (V.str (wordOf d) = V.str "falls"))).map textOf).length ≤ 900
      rw [List.length_map]
      exact Nat.le_trans (List.length_filter_le _ _) (by omega)
    refine ⟨D, namesL l, rfl, hd4, nl9, fun H5 C s5 hC => ?_⟩
    have s35 := sameT s4 s5
    have hL5 := s35 _ _ hL
    refine ⟨_, rfl, L, rfl, ⟨_, SqL.of hL5⟩, fun D2 hD2 => ?_⟩
    refine lc_it (walk_list (K := K) (a := L) (xs := xs)) (fun i H6 => Same H5 H6 ∧ H6 D2 = some (.lst ((((l.take i).filter (fun d => decide (V.str (wordOf d) = V.str "falls"))).map textOf).map V.str))) ⟨same_new Same.rfl' hD2, upd_same⟩ (fun i H6 _ ⟨s6, _⟩ => SqL.of (s6 _ _ hL5)) ?_ ?_
    · rintro i y H6 H7 hi ⟨s6, hd6⟩ ⟨rfl, hy⟩
      obtain ⟨di, hdi, rdi⟩ := rx.got hy
      have sg := signs di (List.mem_of_getElem? hdi)
      have sg' := sg
      have ft := filt_take (fun d => decide (V.str (wordOf d) = V.str "falls")) hdi
      have lt : ((l.take i).filter (fun d => decide (V.str (wordOf d) = V.str "falls"))).length ≤ i := Nat.le_trans (List.length_filter_le _ _) (by rw [List.length_take]; exact Nat.min_le_left _ _)
      have li : i < l.length := (List.getElem?_eq_some_iff.mp hdi).1
      obtain ⟨w0, ds0, n0, m0, rfl, ea, _, _, _⟩ := sign_open sg
      cases rdi with
      | @tup a _ _ e r =>
        cases r with
        | @cons u vs _ _ tv tvs =>
          cases tv with
          | str _ hz =>
            have e2 := s6 _ _ (s35 _ _ (sH _ _ e))
            refine ⟨rfl, ⟨_, rfl, a, _, 0, .str w0, rfl, rfl, SqT.of e2, at0, rfl, _, rfl, ?_⟩⟩
            show if decide (V.str w0 = V.str "falls") = true then _ else _
            cases ei : decide (V.str w0 = V.str "falls") with
            | true =>
              obtain ⟨w1, z1, r1', q⟩ := falls_open sg' ei
              cases q
              cases tvs with
              | @cons v1 vs1 _ _ tv1 tvs1 =>
                cases tv1 with
                | str _ hz1 =>
                  refine iteT ⟨_, rfl, a, _, 1, .str z1, rfl, rfl, SqT.of e2, at1, _, hd6, ?_, same_put s6 hD2, ?_⟩
                  · rw [List.length_map, List.length_map]
                    exact small1000 (by omega)
                  · rw [upd_same, ft, show decide (V.str (wordOf (PyData.tuple (.str w0 :: .str z1 :: r1'))) = V.str "falls") = true from ei, if_pos rfl, List.map_append, List.map_append]
                    rfl
            | false =>
              refine iteF ⟨s6, ?_⟩
              rw [ft, show decide (V.str (wordOf (PyData.tuple (.str w0 :: ds0))) = V.str "falls") = false from ei, if_neg Bool.false_ne_true]
              exact hd6
    rintro H6 ⟨s6, hd6⟩
    rw [List.take_of_length_le (by rw [hxl]; exact Nat.le_refl _)] at hd6
    refine ⟨D2, headsL l, rfl, hd6, fl9, fun H7 C2 s7 hC2 => ?_⟩
    have s57 := sameT s6 s7
    have s37 := sameT s35 s57
    have s17 := sameT s2 (sameT s3 s37)
    have sH7 := sameT s1 s17
    have hT7 := s17 _ _ hT
    have hx7 := s17 _ _ hx
    have rv7 := rv.mono (Sq.of sH7)
    have hC7 := s57 _ _ hC
    have hL7 := s37 _ _ hL
    refine ⟨_, rfl, T1, _, 1, .ref x, rfl, rfl, SqT.of hT7, at1, x, dx, _, rfl, hx7, x, dx, v, t.data, t.many, l, rfl, hx7, rv7, nn, hm9, fun H8 s8 => ?_⟩
    refine ⟨_, rfl, T1, _, 1, .ref x, rfl, rfl, SqT.of (s8 _ _ hT7), at1, x, dx, _, rfl, s8 _ _ hx7, x, dx, v, t.data, t.many, (t.look : Nat), rfl, s8 _ _ hx7, rv7.mono (Sq.of s8), t.looks1 ok hm9, fun H9 s9 => ?_⟩
    have s79 := sameT s8 s9
    refine ⟨_, rfl, T1, _, 1, .ref x, rfl, rfl, SqT.of (s79 _ _ hT7), at1, x, dx, _, rfl, s79 _ _ hx7, x, dx, v, t.data, t.many, l, rfl, s79 _ _ hx7, rv7.mono (Sq.of s79), nn, hm9, fun H10 M1 s10 hM1 => ?_⟩
    have s710 := sameT s79 s10
    refine ⟨_, rfl, T1, _, 1, .ref x, rfl, rfl, SqT.of (s710 _ _ hT7), at1, x, dx, _, rfl, s710 _ _ hx7, x, dx, v, t.data, t.many, l, rfl, s710 _ _ hx7, rv7.mono (Sq.of s710), nn, hm9, fun H11 M2 s11 hM2 => ?_⟩
    have s711 := sameT s710 s11
    refine ⟨(by show 4 ≤ sizeLine; decide), fun S nS => ?_⟩
    have sS := same_new (o := .tup [.int (l.length : Nat), .int (t.look : Nat), .ref M1, .ref M2]) Same.rfl' nS
    have s712 := sameT s711 sS
    refine ⟨_, rfl, _, rfl, L, xs, rfl, .inl (SqL.of (s712 _ _ hL7)), _, rfl, v, t, H, rfl, rv, sameT sH7 s712, ok, by omega, fun H13 s13 => ?_⟩
    have s713 := sameT s712 s13
    refine ⟨_, rfl, _, rfl, (by show 4 ≤ sizeLine; decide), fun U nU => ?_⟩
    have sU := same_new (o := .tup [.int (xs.length : Nat), .int (t.look : Nat), .ref C, .ref C2]) Same.rfl' nU
    have s714 := sameT s713 sU
    have shN := once_sh (named_sh signs)
    have shF := once_sh (heads_sh signs)
    have sq := sameT (sameT sS s13) sU
    refine ⟨_, _, .tuple [.int (l.length : Nat), .int (t.look : Nat), strsD (onceL (namesL l)), strsD (onceL (headsL l))], rfl, ?_, ?_, ?_, fun H15 s15 => k H15 (sameT sH7 (sameT s714 s15))⟩
    · refine .tup (sameT s13 sU _ _ upd_same) ?_
      exact .cons (.int _) (.cons (.int _) (.cons (.tup (sq _ _ (s11 _ _ hM1)) (rps_strs shN)) (.cons (.tup (sq _ _ hM2) (rps_strs shF)) .nil)))
    · rw [← hxl]
      refine .tup upd_same ?_
      exact .cons (.int _) (.cons (.int _) (.cons (.tup (s714 _ _ hC7) (rps_strs shN)) (.cons (.tup (s714 _ _ hC2) (rps_strs shF)) .nil)))
    · refine ExN.mono (n := 3) (.tup (fun d hd => ?_) (by show 4 ≤ 900; decide)) (by decide)
      simp only [List.mem_cons, List.not_mem_nil, or_false] at hd
      rcases hd with rfl | rfl | rfl | rfl
      · exact .int _
      · exact .int _
      · exact strs_ex (Nat.le_trans (onceL_len _) nl9)
      · exact strs_ex (Nat.le_trans (onceL_len _) fl9)
end
end K06

/-! k06, the law, part t: sorted of two tuples of ints. -/
namespace K06S
open PySem PySem.W PySem.Calls PyProof.Rows TS
theorem lex_irr : ∀ ns : List Int, HT.lexLt ns ns = false
  | [] => rfl
  | x :: ns => by rw [HT.lexLt_cons, if_pos rfl]; exact lex_irr ns
theorem lex_asym : ∀ ns ms : List Int, HT.lexLt ns ms = true → HT.lexLt ms ns = false
  | [], [], h => by cases h
  | [], _ :: _, _ => rfl
  | _ :: _, [], h => by cases h
  | x :: ns, y :: ms, h => by
    rw [HT.lexLt_cons] at h ⊢
    by_cases e : x = y
    · rw [if_pos e] at h
      rw [if_pos e.symm]
      exact lex_asym ns ms h
    · rw [if_neg e] at h
      have := of_decide_eq_true h
      rw [if_neg (fun z => e z.symm)]
      exact decide_eq_false (by omega)
section
variable {prog : Program} {w : World} {A : Around} {E : Value → Shared → Prop} {s : Shared} {Q : Bool → Shared → Prop}
theorem lexK {b fin : Bool} {xs ys : List Value} {ns ms : List Int} (i : Nat) (hx : IntsAre xs ns) (hy : IntsAre ys ms) (hf : fin = decide (ns.length < ms.length)) (h : Q (HT.lexLt ns ms) s) : KatLex prog w A b fin Q (xs.zip ys) i s := by
  induction hx generalizing ys ms i with
  | nil =>
    cases hy with
    | nil =>
      have e : fin = false := by rw [hf]; rfl
      rw [e]; exact kat_nil h
    | cons q u hy =>
      have e : fin = true := by rw [hf]; exact decide_eq_true (Nat.succ_pos _)
      rw [e]; exact kat_nil h
  | @cons p t xs ns hx ih =>
    cases hy with
    | nil =>
      have e : fin = false := by rw [hf]; exact decide_eq_false (Nat.not_lt_zero _)
      rw [e]; exact kat_nil h
    | @cons q u ys ms hy =>
      have hf' : fin = decide (ns.length < ms.length) := by
        rw [hf, List.length_cons, List.length_cons]
        exact decide_eq_decide.mpr (by omega)
      rw [HT.lexLt_cons] at h
      refine kat_cons (p := Value.int p t) (q := Value.int q u) (wpAny_eqBool_int ?_)
      by_cases e : p = q
      · rw [if_pos e] at h
        rw [show (p == q) = true by rw [e]; exact beq_self_eq_true _]
        exact kat_yes (ih (i + 1) hy hf' h)
      · rw [if_neg e] at h
        rw [show (p == q) = false from beq_eq_false_iff_ne.mpr e]
        exact kat_no (oneLt_ints _ h)
/-- x < y by each kind of keys -/
theorem lt_kind {κ : SortKind} (hκ : κ = tuples' true ∨ κ = general' ∨ κ = oneType') {x y : Value} {ns ms : List Int} (hx : TupInts s.heap x ns) (hy : TupInts s.heap y ms) (hu : A.units < cLine) (h : Q (HT.lexLt ns ms) s) :
    wpAny (model prog w) A (keyLt' κ x y) Q E s := by
  obtain ⟨a, xs, rfl, ta, ia⟩ := hx
  obtain ⟨b, ys, rfl, tb, ib⟩ := hy
  obtain ⟨⟨cls, dd, data, sl⟩, ho, hc, n, hd⟩ := id ta
  obtain ⟨⟨cls2, dd2, data2, sl2⟩, ho2, hc2, n2, hd2⟩ := id tb
  simp only at hc hd hc2 hd2
  subst hc hd hc2 hd2
  rcases hκ with rfl | rfl | rfl
  · refine kat_lt ho rfl ho2 rfl (lexK 0 ia ib ?_ h)
    have l1 := ia.length
    have l2 := ib.length
    rw [Array.length_toList] at l1 l2
    rw [l1, l2]
  · exact kat_one _ _ (HT.lt_tupInts ta tb ia ib hu h)
  · rw [keyLt'_oneType, oneLt'_eq]
    simp only [if_true]
    refine wpAny_bind (wpAny_cRoomFor hu ?_)
    refine wpAny_bind (wpAny_callSpecialIfBound?_slot ⟨_, ho, rfl⟩ PySem.F.slot_tuple_lt (call_meets PySem.F.slot_tuple_lt ⟨_, ho, rfl⟩ PySem.F.entry_tuple_lt (PySem.F.args_tuple_lt_2 _ _) (HT.tuple_lt_ints a b xs ys n n2 dd dd2 sl sl2 ns ms ia ib) ⟨ho, ho2, ?_⟩))
    exact wpAny_truthy_bool h
/-- the first item of a tuple of ints, as the sort asks for it -/
theorem first_of {v : Value} {ns : List Int} {Q : Option Value → Shared → Prop} (x : TupInts s.heap v ns) (h : ∀ o : Option Value, (ns = [] → o = none) → (∀ n r, ns = n :: r → ∃ t, o = some (.int n t)) → Q o s) : wpAny (model prog w) A (firstOfTuple' v) Q E s := by
  obtain ⟨a, xs, rfl, ⟨o, ho, hc, n, hd⟩, ia⟩ := x
  rw [kas_first_eq]
  refine wpAny_bind (Looks.here (show Looks (model prog w) s.heap (typeOf (.ref a)) o.cls from (Looks.ld ho).andThen .now) ?_)
  rw [hc, if_neg (by simp)]
  refine wpAny_bind (listItems_at ho hd (wpAny_pure (h _ (fun e => ?_) fun m r e => ?_)))
  · subst e
    have : xs.toList = [] := by cases hx : xs.toList with | nil => rfl | cons y ys => rw [hx] at ia; cases ia
    have hz : xs.size = 0 := by rw [← Array.length_toList, this]; rfl
    simp [hz]
  · subst e
    cases hx : xs.toList with
    | nil => rw [hx] at ia; cases ia
    | cons y ys =>
      rw [hx] at ia
      cases ia with
      | cons _ t _ =>
        have : xs[0]? = xs.toList[0]? := by rw [Array.getElem?_toList]
        rw [this, hx]
        exact ⟨t, rfl⟩
theorem ty_of {v : Value} {ns : List Int} {Q : Value → Shared → Prop} (x : TupInts s.heap v ns) (h : Q (.type "tuple") s) : wpAny (model prog w) A (typeOf v) Q E s := by
  obtain ⟨a, xs, rfl, ⟨o, ho, hc, n, hd⟩, ia⟩ := x
  exact Looks.here (show Looks (model prog w) s.heap (typeOf (.ref a)) (.type "tuple") from hc ▸ (Looks.ld ho).andThen .now) h
theorem kind2 {v1 v2 : Value} {n1 n2 : List Int} {Q : SortKind → Shared → Prop} (x1 : TupInts s.heap v1 n1) (x2 : TupInts s.heap v2 n2) (h : ∀ κ, (κ = tuples' true ∨ κ = general' ∨ κ = oneType') → Q κ s) : wpAny (model prog w) A (keyKind' [v1, v2].toArray) Q E s := by
  rw [kat_kind_eq, List.mapM_toArray, map_eq_pure_bind]
  refine wpAny_bind (wpAny_bind ?_)
  rw [List.mapM_cons, List.mapM_cons, List.mapM_nil]
  refine wpAny_bind (first_of x1 fun o1 a1 b1 => wpAny_bind (wpAny_bind (first_of x2 fun o2 a2 b2 => wpAny_bind (wpAny_pure (wpAny_pure (wpAny_pure (wpAny_pure ?_)))))))
  cases n1 with
  | nil =>
    rw [a1 rfl, if_neg (by simp), if_neg (by simp)]
    rw [oneTypeOnly'_eq, List.mapM_toArray, map_eq_pure_bind]
    refine wpAny_bind (wpAny_bind (wpAny_bind ?_))
    rw [List.mapM_cons, List.mapM_cons, List.mapM_nil]
    refine wpAny_bind (ty_of x1 (wpAny_bind (wpAny_bind (ty_of x2 (wpAny_bind (wpAny_pure (wpAny_pure (wpAny_pure (wpAny_pure ?_)))))))))
    refine wpAny_pure (wpAny_pure (h _ (.inr (.inr ?_))))
    simp
  | cons k r =>
    obtain ⟨t, rfl⟩ := b1 k r rfl
    cases n2 with
    | nil =>
      rw [a2 rfl, if_neg (by simp), if_pos (by simp)]
      exact wpAny_pure (h _ (.inr (.inl rfl)))
    | cons k2 r2 =>
      obtain ⟨t2, rfl⟩ := b2 k2 r2 rfl
      rw [if_pos (by simp)]
      refine wpAny_bind (wpAny_rule ?_)
      have ef : (#[some (Value.int k t), some (Value.int k2 t2)].filterMap id) = [Value.int k t, Value.int k2 t2].toArray := by simp
      show wpAny _ _ (oneTypeOnly' (#[some (Value.int k t), some (Value.int k2 t2)].filterMap id) >>= _) _ _ _
      rw [ef, oneTypeOnly'_eq, List.mapM_toArray, map_eq_pure_bind]
      refine wpAny_bind (wpAny_bind (wpAny_bind ?_))
      rw [List.mapM_cons, List.mapM_cons, List.mapM_nil]
      have ti : ∀ (n : Int) (t : Tok) (Q' : Value → Shared → Prop), Q' (.type "int") s → wpAny (model prog w) A (typeOf (.int n t)) Q' E s := fun n t Q' hq => (Looks.of_pure rfl).here hq
      refine wpAny_bind (ti _ _ _ (wpAny_bind (wpAny_bind (ti _ _ _ (wpAny_bind (wpAny_pure (wpAny_pure (wpAny_pure (wpAny_pure ?_)))))))))
      refine wpAny_pure (wpAny_pure (h _ (.inl ?_)))
      simp
end
section
variable {prog : Program} {w : World} {A : Around} {E : Value → Shared → Prop} {s : Shared}
open Classical in
noncomputable def rk (v2 : Value) (n1 n2 : List Int) (v : Value) : Int := if v = v2 then (if HT.lexLt n2 n1 = true then -1 else if HT.lexLt n1 n2 = true then 1 else 0) else 0
theorem TupInts.same {h : Heap} {v : Value} {n m : List Int} (x : TupInts h v n) (y : TupInts h v m) : n = m := by rw [← x.ints, ← y.ints]
theorem rk_lt {h : Heap} {v1 v2 : Value} {n1 n2 : List Int} (x1 : TupInts h v1 n1) (x2 : TupInts h v2 n2) {x y : Value} {nx ny : List Int} (hx : x ∈ [v1, v2]) (hy : y ∈ [v1, v2]) (tx : TupInts h x nx) (ty : TupInts h y ny) :
    decide (rk v2 n1 n2 x < rk v2 n1 n2 y) = HT.lexLt nx ny := by
  have e2 : rk v2 n1 n2 v2 = (if HT.lexLt n2 n1 = true then -1 else if HT.lexLt n1 n2 = true then 1 else 0) := by unfold rk; rw [if_pos rfl]
  simp only [List.mem_cons, List.not_mem_nil, or_false] at hx hy
  by_cases hv : v1 = v2
  · have hx' : x = v2 := by rcases hx with z | z <;> simp [z, hv]
    have hy' : y = v2 := by rcases hy with z | z <;> simp [z, hv]
    subst hx'
    subst hy'
    rw [TupInts.same tx ty, lex_irr]
    exact decide_eq_false (Int.lt_irrefl _)
  · have e1 : rk v2 n1 n2 v1 = 0 := by unfold rk; rw [if_neg hv]
    rcases hx with rfl | rfl <;> rcases hy with rfl | rfl
    · rw [TupInts.same tx ty, lex_irr]
      exact decide_eq_false (Int.lt_irrefl _)
    · rw [TupInts.same tx x1, TupInts.same ty x2, e1, e2]
      cases h1 : HT.lexLt n1 n2 with
      | true => rw [lex_asym _ _ h1]; rfl
      | false => cases h2 : HT.lexLt n2 n1 <;> rfl
    · rw [TupInts.same tx x2, TupInts.same ty x1, e1, e2]
      cases h2 : HT.lexLt n2 n1 with
      | true => rfl
      | false => cases h1 : HT.lexLt n1 n2 <;> rfl
    · rw [TupInts.same tx ty, lex_irr]
      exact decide_eq_false (Int.lt_irrefl _)
theorem perm2 {α : Type} {a b : α} {l : List α} (h : l.Perm [a, b]) : l = [a, b] ∨ l = [b, a] := by
  have hl := h.length_eq
  match l, hl with
  | [x, y], _ =>
    have hx : x ∈ [a, b] := h.mem_iff.mp List.mem_cons_self
    rcases List.mem_cons.mp hx with rfl | hx
    · exact .inl (by rw [List.perm_singleton.mp (List.Perm.cons_inv h)])
    · have hx := List.mem_singleton.mp hx
      subst hx
      have := (h.trans (List.Perm.swap x a [])).cons_inv
      exact .inr (by rw [List.perm_singleton.mp this])
theorem sort2 {a : Addr} {v1 v2 : Value} {n1 n2 : List Int} {n : Nat} {P : PySem.Fin → Shared → Prop} (ho : s.heap.get? a = some (seqObj "list" [v1, v2].toArray n)) (x1 : TupInts s.heap v1 n1) (x2 : TupInts s.heap v2 n2) (hu : A.units < cLine)
    (h : ∀ out : Array Value, (out.toList = [v1, v2] ∧ HT.lexLt n2 n1 = false ∨ out.toList = [v2, v1] ∧ HT.lexLt n1 n2 = false) → P (.done (.ret .none)) { s with heap := sortedHeap s.heap a [v1, v2] out }) :
    wpAny (model prog w) A (Builtin.«list.sort» ⟨[.ref a], []⟩) P E s := by
  have kp : ∀ b o, s.heap.get? b = some o → o.cls = .type "tuple" → (midHeap s.heap a [v1, v2]).get? b = some o := fun b o e hc => by
    have hb : b ≠ a := fun z => by
      rw [z, ho] at e
      rw [← Option.some.inj e] at hc
      have c' : Value.type "list" = Value.type "tuple" := hc
      injection c' with c''
      exact absurd c'' (by decide)
    exact midHeap_old hb e
  have y1 := x1.keeps kp
  have y2 := x2.keeps kp
  have mem : ∀ x ∈ [v1, v2], ∃ nx, TupInts (midHeap s.heap a [v1, v2]) x nx := fun x hx => by
    rcases List.mem_cons.mp hx with z | z
    · exact ⟨n1, z ▸ y1⟩
    · exact ⟨n2, List.mem_singleton.mp z ▸ y2⟩
  refine SK.plain_sort (r := rk v2 n1 n2) ho (by show 2 < 64; decide) (fun _ Q hQ => kind2 (s := { s with heap := midHeap s.heap a [v1, v2] }) y1 y2 fun κ hκ => hQ κ fun p q hp hq Q' E' hQ' => ?_) fun ps out h1 h2 h3 => h out ?_
  · rw [pairsOf_toList] at hp hq
    have mp := (mem_zip_self hp).2
    have mq := (mem_zip_self hq).2
    obtain ⟨np, tp⟩ := mem _ mp
    obtain ⟨nq, tq⟩ := mem _ mq
    rw [rk_lt y1 y2 mp mq tp tq] at hQ'
    exact lt_kind (s := { s with heap := midHeap s.heap a [v1, v2] }) hκ tp tq hu hQ'
  · obtain ⟨pm, od⟩ := TS.out_rank h1 h2 h3
    rcases perm2 pm with e | e
    · refine .inl ⟨e, ?_⟩
      rw [e] at od
      have le := (List.pairwise_cons.mp od).1 v2 (List.mem_singleton.mpr rfl)
      have := rk_lt y1 y2 (x := v2) (y := v1) (List.mem_cons_of_mem _ (List.mem_singleton.mpr rfl)) List.mem_cons_self y2 y1
      rw [← this]
      exact decide_eq_false (by omega)
    · refine .inr ⟨e, ?_⟩
      rw [e] at od
      have le := (List.pairwise_cons.mp od).1 v1 (List.mem_singleton.mpr rfl)
      have := rk_lt y1 y2 (x := v1) (y := v2) List.mem_cons_self (List.mem_cons_of_mem _ (List.mem_singleton.mpr rfl)) y1 y2
      rw [← this]
      exact decide_eq_false (by omega)
theorem sorted2 {l : Addr} {v1 v2 : Value} {n1 n2 : List Int} {Q : Value → Shared → Prop} (hl : s.heap.IsList l [v1, v2].toArray) (x1 : TupInts s.heap v1 n1) (x2 : TupInts s.heap v2 n2) (hu : A.units + 64 < cLine)
    (h : ∀ out : Array Value, (out.toList = [v1, v2] ∧ HT.lexLt n2 n1 = false ∨ out.toList = [v2, v1] ∧ HT.lexLt n1 n2 = false) → Q (.ref (s.heap.objs.size + 1)) { s with heap := sortedAll s.heap [v1, v2] out }) :
    wpAny (model prog w) A (call (.builtin "sorted") [.ref l]) Q E s := by
  refine Calls.call_function_entry kind_sorted plain_sorted entry_sorted (args_sorted1 _) ?_
  unfold Builtin.«sorted»
  have two : [v1, v2].length ≤ 16777216 := by show 2 ≤ 16777216; decide
  refine wpAny_bind (m := checkCount "sorted" 1 1 _) (wpAny_pure (wpAny_bind (collect_list hl ?_ (by rw [sizeLine_eq]; exact two))))
  refine wpAny_bind (wpAny_newList ?_ (by rw [sizeLine_eq]; exact two))
  have hsz : ((s.heap.push (seqObj "list" #[] 0)).update s.heap.objs.size (Obj.mapSeq (· ++ [v1, v2].toArray))).objs.size = s.heap.objs.size + 1 := by rw [Heap.size_update, size_push']
  have hoL : (((s.heap.push (seqObj "list" #[] 0)).update s.heap.objs.size (Obj.mapSeq (· ++ [v1, v2].toArray))).push (seqObj "list" [v1, v2].toArray 0)).get? (s.heap.objs.size + 1) = some (seqObj "list" [v1, v2].toArray 0) := by
    rw [← hsz]; exact Heap.get?_push_size _ rfl
  have keep : ∀ b o, s.heap.get? b = some o → o.cls = .type "tuple" → (((s.heap.push (seqObj "list" #[] 0)).update s.heap.objs.size (Obj.mapSeq (· ++ [v1, v2].toArray))).push (seqObj "list" [v1, v2].toArray 0)).get? b = some o := fun b o q _ => by
    have hlt : b < s.heap.objs.size := Heap.lt_size q
    rw [Heap.get?_push_ne _ _ _ (by rw [hsz]; exact Nat.ne_of_lt (Nat.lt_succ_of_lt hlt)), Heap.get?_update_ne _ _ _ _ (Nat.ne_of_lt hlt), Heap.get?_push_ne _ _ _ (Nat.ne_of_lt hlt)]; exact q
  show wpAny _ _ _ _ _ { s with heap := ((s.heap.push (seqObj "list" #[] 0)).update s.heap.objs.size (Obj.mapSeq (· ++ [v1, v2].toArray))).push (seqObj "list" [v1, v2].toArray 0) }
  rw [hsz]
  refine wpAny_bind (wpAny_holding (wpAny_call_entry slot_list_sort ⟨_, hoL, rfl⟩ entry_list_sort (sort2 hoL (x1.keeps keep) (x2.keeps keep) ?_ fun out a1 => ⟨_, rfl, ?_⟩) (args_list_sort _)))
  · exact Nat.lt_of_le_of_lt (Nat.add_le_add_left (show 2 ≤ 64 by decide) _) hu
  · exact wpAny_pure ⟨_, rfl, h out a1⟩
end
end K06S
namespace K06
open PySem L2 PySem.Spec PyProof.Rows
/-- sorted(xs), xs two tuples of ints -/
def rSort2 (K : PySem.W.Frag) : List V → Hp → VK → Prop := fun vs H Q => ∃ (a p1 p2 : Addr) (n1 n2 : List Int), vs = [V.ref a] ∧ SqL K H a [.ref p1, .ref p2] ∧ SqT K H p1 (n1.map V.int) ∧ SqT K H p2 (n2.map V.int) ∧
  ∀ l, H l = none → (HT.lexLt n2 n1 = false → Q (.ref l) (upd H l (.lst [.ref p1, .ref p2]))) ∧ (HT.lexLt n1 n2 = false → Q (.ref l) (upd H l (.lst [.ref p2, .ref p1])))
theorem tup_raw {X : Cx} {pins : List (Addr × Obj)} {σ : L2.St} {H : Hp} {s : Shared} {p : Addr} {ns : List Int} (I : Inv X pins σ H s) (h : SqT X.K H p (ns.map V.int)) : TS.TupInts s.heap (.ref p) ns := by
  obtain ⟨its, r, t, _⟩ := I.tuple h
  exact ⟨p, _, rfl, t, intsAre_of r⟩
theorem cr_sort2 {X : Cx} (hu : X.A.units + 64 < cLine) : CallR X (.builtin "sorted") (rSort2 X.K) := by
  intro pins s σ H xs us Q I r h
  obtain ⟨a, p1, p2, n1, n2, rfl, hs, h1, h2, q⟩ := h
  obtain ⟨its, rv, hl, hz⟩ := I.list hs
  rw [Vals.ref1 r]
  cases rv with
  | cons r1 rv =>
    cases rv with
    | cons r2 rv =>
      cases rv
      cases r1
      cases r2
      refine K06S.sorted2 hl.isList (tup_raw I h1) (tup_raw I h2) hu fun out ho => ?_
      obtain ⟨ep, he'⟩ := PyProof.Rows.sortedAll_at s.heap [.ref p1, .ref p2] out
      have nl : H (s.heap.objs.size + 1) = none := I.hok.fresh (Nat.le_succ _)
      obtain ⟨q1, q2⟩ := q _ nl
      have two : (2 : Nat) ≤ sizeLine := by show 2 ≤ sizeLine; decide
      rcases ho with ⟨eo, lt⟩ | ⟨eo, lt⟩
      · have e3 : Vals [V.ref p1, V.ref p2] out.toList := by rw [eo]; exact .cons rfl (.cons rfl .nil)
        exact ⟨.ref _, upd H (s.heap.objs.size + 1) (.lst [.ref p1, .ref p2]), I.laid (t' := s.toks) (fun _ _ => PyProof.Rows.sortedAll_old) (Nat.le_succ _) ⟨two, out.toList, ep, e3, he'⟩, rfl, q1 lt⟩
      · have e3 : Vals [V.ref p2, V.ref p1] out.toList := by rw [eo]; exact .cons rfl (.cons rfl .nil)
        exact ⟨.ref _, upd H (s.heap.objs.size + 1) (.lst [.ref p2, .ref p1]), I.laid (t' := s.toks) (fun _ _ => PyProof.Rows.sortedAll_old) (Nat.le_succ _) ⟨two, out.toList, ep, e3, he'⟩, rfl, q2 lt⟩
end K06

/-! k06, the law, part u: spoilt terms are refused. -/
namespace K06
open PySem L2 PySem.Spec PyProof.Rows K06X
abbrev sRefused : Stmt := top 81
/-- a right term, spoilt at these places one after another -/
inductive Spoilt (t : Tm) : List (List Nat) → PyData → Prop
  | nil : Spoilt t [] t.data
  | snoc {ps : List (List Nat)} {p : List Nat} {d x : PyData} : Spoilt t ps d → PathD d p → signD x = false → Spoilt t (ps ++ [p]) (setD p d x)
theorem Spoilt.nil_inv {t : Tm} {d : PyData} : ∀ {ps : List (List Nat)}, Spoilt t ps d → ps = [] → d = t.data
  | _, .nil, _ => rfl
  | _, .snoc _ _ _, h => by simp at h
theorem Spoilt.inv {t : Tm} {d : PyData} {qs : List (List Nat)} {q : List Nat} : ∀ {ps : List (List Nat)}, Spoilt t ps d → ps = qs ++ [q] → ∃ e x, Spoilt t qs e ∧ PathD e q ∧ signD x = false ∧ d = setD q e x
  | _, .nil, h => by simp at h
  | _, @Spoilt.snoc _ ps p e x s pe hx, h => by
    obtain ⟨rfl, h2⟩ := List.append_inj' h rfl
    obtain rfl : p = q := by simpa using h2
    exact ⟨e, x, s, pe, hx, rfl⟩
/-- the places in the order in which they are spoilt -/
structure Places (t : Tm) (ps : List (List Nat)) (first : List Nat) : Prop where
  has : ∀ p ∈ ps, ∃ s, Has t p s
  path : ∀ i d p, Spoilt t (ps.take i) d → ps[i]? = some p → PathD d p
  ends : ∀ d, Spoilt t ps d → Spoil t.many d first
theorem places1 {t : Tm} (ok : t.Ok) {p : List Nat} (h : ∃ s, Has t p s) : Places t [p] p := by
  obtain ⟨s, h⟩ := h
  refine ⟨fun q hq => by rw [List.mem_singleton.mp hq]; exact ⟨s, h⟩, fun i d q sp hq => ?_, fun d sp => ?_⟩
  · cases i with
    | zero =>
      obtain rfl := sp.nil_inv rfl
      cases hq
      exact h.path
    | succ i => simp at hq
  · obtain ⟨e, x, s1, _, hx, rfl⟩ := sp.inv (qs := []) (q := p) rfl
    obtain rfl := s1.nil_inv rfl
    exact spoil1 hx h ok
theorem places2 {t : Tm} (ok : t.Ok) {p q : List Nat} (hp : ∃ s, Has t p s) (hq : ∃ s, Has t q s) (l : HT.lexLt (ivs q) (ivs p) = false) : Places t [q, p] p := by
  obtain ⟨s, hp⟩ := hp
  obtain ⟨r, hq⟩ := hq
  refine ⟨fun z hz => ?_, fun i d z sp hz => ?_, fun d sp => ?_⟩
  · rcases List.mem_cons.mp hz with rfl | hz
    · exact ⟨r, hq⟩
    · rw [List.mem_singleton.mp hz]; exact ⟨s, hp⟩
  · match i with
    | 0 =>
      obtain rfl := sp.nil_inv rfl
      cases hz
      exact hq.path
    | 1 =>
      obtain ⟨e, y, s1, _, hy, rfl⟩ := sp.inv (qs := []) (q := q) rfl
      obtain rfl := s1.nil_inv rfl
      cases hz
      exact (spoil2 (x := .none) (y := y) rfl hp hq l ok).2
    | i + 2 => simp at hz
  · obtain ⟨e, x, s1, _, hx, rfl⟩ := sp.inv (qs := [q]) (q := p) rfl
    obtain ⟨e, y, s2, _, hy, rfl⟩ := s1.inv (qs := []) (q := q) rfl
    obtain rfl := s2.nil_inv rfl
    exact (spoil2 (y := y) hx hp hq l ok).1
theorem ivs_pl (p : List Nat) : (ivs p).map V.int = plV p := by
  unfold plV
  rw [List.map_map]
  rfl
def spRefused : Sp := fun vs H Q _ => ∃ (b l p : Addr) (v : V) (t : Tm), vs = [.ref b, .ref p, v] ∧ PoolAt H p ∧ p ≠ b ∧ BagL H b l ∧ Rp H v t.data ∧ t.Ok ∧ t.height ≤ 25 ∧ t.many ≤ 100 ∧ ∀ H', Dr b l H H' → Q (.bl true) H'
theorem Pls.ofMem {H : Hp} : ∀ {vs : List V} {ps : List (List Nat)}, Pls H vs ps → ∀ {v : V}, v ∈ vs → ∃ a p, v = .ref a ∧ p ∈ ps ∧ H a = some (.tup (plV p))
  | _, _, .nil, v, h => by cases h
  | _, _, @Pls.cons _ a p vs ps e r, v, h => by
    rcases List.mem_cons.mp h with rfl | h
    · exact ⟨a, p, rfl, List.mem_cons_self, e⟩
    · obtain ⟨a', p', h1, h2, h3⟩ := r.ofMem h
      exact ⟨a', p', h1, List.mem_cons_of_mem _ h2, h3⟩
theorem pl_ex {p : List Nat} (h : p.length ≤ 900) : ExN 2 (plD p) := .tup (fun d hd => by obtain ⟨k, _, rfl⟩ := List.mem_map.mp hd; exact .int _) (by rw [List.length_map]; exact h)
theorem Spoil.len {n : Nat} {d : PyData} {p : List Nat} (s : Spoil n d p) : p.length ≤ n := by
  induction s with
  | here _ => exact Nat.zero_le _
  | one _ _ ih => exact Nat.succ_le_succ ih
  | left _ _ ih => exact Nat.succ_le_succ ih
  | right _ _ _ _ ih => exact Nat.succ_le_succ ih
theorem Dr.of {b l : Addr} {H H' : Hp} (B : BagL H b l) (s : Same H H') : Dr b l H H' := ⟨B.same s, But.of s⟩
section
variable {P : Program} {w : World} {K : PySem.W.Frag} {mg : Str → Option Value} {base : Heap}
theorem scRefused : FnScope ["_law_bag_here", "_law_pool_here", "_law_plain", "_law_spots_here", "_law_bad", "_law_spoilt", "_law_place", "_law_told"] ["_law_bag_here", "_law_pool_here", "_law_plain"] (defScope sRefused) := ⟨rfl, rfl, rfl, by decide +kernel, rfl, by decide +kernel, by decide +kernel⟩
theorem ok_refused {f fs fc fo fe fd' ft fb fx CT : Addr} {fd fds fdc fdo fde fdd fdt fdb fdx : FuncData} (F : Fun K "_law_refused" "_law_refused" sRefused f fd) (N : Nms mg)
    (DS : Df K mg "_law_spots" sSpots ["_law_term"] fs fds) (GS : FnOk P w K mg base CX0 27 fs fds ["_law_term"] (spSpots 26)) (DC : Df K mg "_law_choice" sChoice ["_law_bag_here", "_law_things"] fc fdc) (GC : FnOk P w K mg base CX0 2 fc fdc ["_law_bag_here", "_law_things"] (spChoice K))
    (DO : Df K mg "_law_one_in" sOneIn ["_law_bag_here", "_law_many"] fo fdo) (GO : FnOk P w K mg base CX0 2 fo fdo ["_law_bag_here", "_law_many"] spOneIn) (DE : Df K mg "_law_set" sSet ["_law_term", "_law_spot", "_law_new"] fe fde) (GE : FnOk P w K mg base CX0 27 fe fde ["_law_term", "_law_spot", "_law_new"] (spSet 26))
    (DD : Df K mg "_law_odd" sOdd ["_law_bag_here", "_law_word_here", "_law_inner"] fd' fdd) (GD : FnOk P w K mg base CX0 4 fd' fdd ["_law_bag_here", "_law_word_here", "_law_inner"] spOdd) (DT : Df K mg "_law_there" sThere ["_law_term", "_law_spot"] ft fdt) (GT : FnOk P w K mg base CX0 1 ft fdt ["_law_term", "_law_spot"] spThere)
    (DB : Df K mg "_law_built" sBuilt ["_law_plain"] fb fdb) (GB : FnOk P w K mg base CX0 7 fb fdb ["_law_plain"] (spBuilt CT)) (DX : Df K mg "_law_exact" sExact ["_law_told", "_law_due"] fx fdx) (GX : FnOk P w K mg base CX0 29 fx fdx ["_law_told", "_law_due"] (spExact 28)) :
    FnOk P w K mg base CX0 30 f fd ["_law_bag_here", "_law_pool_here", "_law_plain"] spRefused := by
  refine F.ok scRefused (fun vs H Q E h => ?_) (fun cdv A outer s H vs Q E hr h => ?_)
  · obtain ⟨b, l, p, v, t, rfl, _⟩ := h
    rfl
  · obtain ⟨b, l, pl, v, t, rfl, hp, npb, B, rv, ok, hh, hm, k⟩ := h
    have nd := scRefused.nd
    have hu := hu_of hr
    have r1 := hr.mono (show 1 ≤ 29 by decide)
    have r2 := hr.mono (show 2 ≤ 29 by decide)
    have r4 := hr.mono (show 4 ≤ 29 by decide)
    have r7 := hr.mono (show 7 ≤ 29 by decide)
    have r27 := hr.mono (show 27 ≤ 29 by decide)
    refine ⟨_, pss_cons (ps_set (i := 3) nd rfl (Or.inl rfl) (pe_call GS r27 rfl DS.g DS.F.kp DS.b .nil pass0 (pa_cons (pv 2) pa_nil)))
      (pss_cons (ps_set (i := 4) nd rfl (Or.inl rfl) (pe_lst (pa_cons (pe_call GC r2 rfl DC.g DC.F.kp DC.b .nil pass0 (pa_cons (pv 0) (pa_cons (pv 3) pa_nil))) pa_nil)))
      (C8.pss_cut (ps_if (pt_val (pe_call GO r2 rfl DO.g DO.F.kp DO.b .nil pass0 (pa_cons (pv 0) (pa_cons pe_int pa_nil))))
        (pss_one (ps_set (i := 4) nd rfl (Or.inl rfl) (pe_callB (cr_sort2 hr.units) (by rfl) N.sorted (by decide +kernel) (pa_cons (pe_op op_cat (pv 4) (pe_lst (pa_cons (pe_call GC r2 rfl DC.g DC.F.kp DC.b .nil pass0 (pa_cons (pv 0) (pa_cons (pv 3) pa_nil))) pa_nil))) pa_nil)))) pss_nil)
      (pss_cons (ps_set (i := 5) nd rfl (Or.inl rfl) (pv 2))
      (pss_cons (ps_for PassesOwn.never rfl (pi_list (pe_revL (pv 4))) (pg_name (i := 6) nd rfl (Or.inl rfl))
        (pss_one (ps_set (i := 5) nd rfl (Or.inl rfl) (pe_call GE r27 rfl DE.g DE.F.kp DE.b .nil pass0 (pa_cons (pv 5) (pa_cons (pv 6) (pa_cons
          (pe_call GD r4 rfl DD.g DD.F.kp DD.b .nil pass0 (pa_cons (pv 0) (pa_cons (pe_call GC r2 rfl DC.g DC.F.kp DC.b .nil pass0 (pa_cons (pv 0) (pa_cons (pe_dget hu (pv 1) pe_str (fun _ _ => rfl)) pa_nil)))
            (pa_cons (pe_call GT r1 rfl DT.g DT.F.kp DT.b .nil pass0 (pa_cons (pv 2) (pa_cons (pv 6) pa_nil))) pa_nil)))) pa_nil)))))))
      (pss_cons (ps_set (i := 7) nd rfl (Or.inl rfl) (pe_call GB r7 rfl DB.g DB.F.kp DB.b .nil pass0 (pa_cons (pv 5) pa_nil)))
      (pss_one (ps_ret (pe_and (pe_cmpR op_eq (pe_ix ix_tup (pv 7) pe_int (fun _ _ => rfl)) pe_str (nomark _)) (pe_one (pe_call GX hr rfl DX.g DX.F.kp DX.b .nil pass0 (pa_cons (pe_ix ix_tup (pv 7) pe_int (fun _ _ => rfl)) (pa_cons (pe_ix ix_list (pv 4) pe_int (fun _ _ => rfl)) pa_nil)))))))))))), ?_⟩
    refine ⟨_, rfl, v, t, H, rfl, rv, Same.rfl', ok, by omega, by omega, fun H1 L xs s1 nL hL px => ?_⟩
    have D1 := Dr.of B s1
    have B1 := D1.bag
    have Lb := B1.lst_ne hL
    have xl : xs.length = t.many := by rw [px.length, t.spots_len]
    have tp := t.pos
    refine ⟨_, rfl, _, rfl, b, l, L, xs, rfl, hL, Lb, by omega, by omega, B1, fun x H2 hx B2 bt2 _ => ⟨(by show 1 ≤ sizeLine; decide), fun Bd nB => ?_⟩⟩
    obtain ⟨pa, p, rfl, hps, hpa⟩ := px.ofMem hx
    have hhp := Tm.spots_has hps
    have D2 := D1.trans ⟨B2, bt2⟩
    have sq2 := Sq.but B1 bt2
    have D3 := D2.new (o := .lst [.ref pa]) nB
    have sB := same_new (o := .lst [.ref pa]) Same.rfl' nB
    have hpa3 := sB _ _ (sq2.1 _ _ hpa)
    refine ⟨fun σ' H' => ∃ (Bd : Addr) (rs : List V) (qs : List (List Nat)) (fa : Addr) (fst : List Nat), σ' = [some (.ref b), some (.ref pl), some v, some (.ref L), some (.ref Bd), none, none, none] ∧ H' Bd = some (.lst rs) ∧ Pls H' rs.reverse qs ∧ Places t qs fst ∧
      rs[0]? = some (.ref fa) ∧ H' fa = some (.tup (plV fst)) ∧ Dr b l H H', ?_, ?_⟩
    · refine ⟨_, rfl, b, l, 2, rfl, by decide, by decide, D3.bag, fun r H4 B4 bt4 _ => ⟨_, rfl, ?_⟩⟩
      have D4 := D3.trans ⟨B4, bt4⟩
      have sq4 := Sq.but D3.bag bt4
      have hB4 := sq4.2 _ _ upd_same
      have hpa4 := sq4.1 _ _ hpa3
      have hL4 := sq4.2 _ _ (sB _ _ (sq2.2 _ _ hL))
      refine ite2 (fun _ => ?_) (fun _ => ?_)
      · refine ⟨_, rfl, _, rfl, _, rfl, b, l, L, xs, rfl, hL4, Lb, by omega, by omega, B4, fun x H5 hx B5 bt5 _ => ⟨(by show 1 ≤ sizeLine; decide), fun C nC => ?_⟩⟩
        obtain ⟨qa, q, rfl, hqs, hqa⟩ := px.ofMem hx
        have hhq := Tm.spots_has hqs
        have sq5 := Sq.but B4 bt5
        have sC := same_new (o := .lst [.ref qa]) Same.rfl' nC
        have hB5 := sC _ _ (sq5.2 _ _ hB4)
        have hpa5 := sC _ _ (sq5.1 _ _ hpa4)
        have hqa5 := sC _ _ (sq5.1 _ _ (sq4.1 _ _ (sB _ _ (sq2.1 _ _ hqa))))
        have D5 := (D4.trans ⟨B5, bt5⟩).new (o := .lst [.ref qa]) nC
        refine ⟨Bd, C, _, _, rfl, rfl, hB5, upd_same, (by show 2 ≤ sizeLine; decide), fun M nM => ?_⟩
        have sM := same_new (o := .lst [.ref pa, .ref qa]) Same.rfl' nM
        have D6 := D5.new (o := .lst [.ref pa, .ref qa]) nM
        have hpa6 := sM _ _ hpa5
        have hqa6 := sM _ _ hqa5
        refine ⟨M, pa, qa, ivs p, ivs q, rfl, SqL.of upd_same, by rw [ivs_pl]; exact SqT.of hpa6, by rw [ivs_pl]; exact SqT.of hqa6, fun U nU => ⟨fun lt => ?_, fun lt => ?_⟩⟩
        · have sU := same_new (o := .lst [.ref pa, .ref qa]) Same.rfl' nU
          exact ⟨U, _, [q, p], pa, p, rfl, upd_same, .cons (sU _ _ hqa6) (.cons (sU _ _ hpa6) .nil), places2 ok hhp hhq lt, rfl, sU _ _ hpa6, D6.new nU⟩
        · have sU := same_new (o := .lst [.ref qa, .ref pa]) Same.rfl' nU
          exact ⟨U, _, [p, q], qa, q, rfl, upd_same, .cons (sU _ _ hpa6) (.cons (sU _ _ hqa6) .nil), places2 ok hhq hhp lt, rfl, sU _ _ hqa6, D6.new nU⟩
      · exact ⟨Bd, [.ref pa], [p], pa, p, rfl, hB4, .cons hpa4 .nil, places1 ok hhp, rfl, hpa4, D4⟩
    · rintro σ' H' ⟨Bd, rs, qs, fa, fst, rfl, hB, pq, PL, hr0, hfa, D⟩
      have B' := D.bag
      refine ⟨_, rfl, _, rfl, Bd, rs, rfl, SqL.of hB, fun R nR => ⟨R, rfl, ⟨_, SqL.of upd_same⟩, ?_⟩⟩
      have sR := same_new (o := .lst rs.reverse) Same.rfl' nR
      have hql : rs.reverse.length = qs.length := pq.length
      refine for_it (walk_list (K := K) (a := R) (xs := rs.reverse)) (fun i σ H2 => ∃ cur c d, σ = [some (.ref b), some (.ref pl), some v, some (.ref L), some (.ref Bd), some cur, c, none] ∧ Rp H2 cur d ∧ Spoilt t (qs.take i) d ∧ Dr b l H H2 ∧ H2 R = some (.lst rs.reverse) ∧ H2 Bd = some (.lst rs) ∧
        ∀ a u, H' a = some (.tup u) → H2 a = some (.tup u)) ⟨v, none, t.data, rfl, (rv.mono (D.sq B)).mono (Sq.of sR), .nil, D.new nR, upd_same, sR _ _ hB, fun a u e => sR _ _ e⟩ (fun _ _ _ _ ⟨_, _, _, _, _, _, _, z, _⟩ => SqL.of z) ?_ ?_
      · rintro i y σ H2 H3 hi ⟨cur, c, d, rfl, rc, sp, D2, hR2, hB2, kt⟩ ⟨rfl, hy⟩
        obtain ⟨za, z, rfl, hz, hza⟩ := pq.got hy
        have hza2 := kt _ _ hza
        obtain ⟨s', hs'⟩ := PL.has z (List.mem_of_getElem? hz)
        have B2' := D2.bag
        obtain ⟨lw, lt, ws, ts, h1, h2, h3, w3, t2, hws, hts⟩ := (hp.dr B D2 npb).ex
        have lwb := B2'.lst_ne h2
        refine ⟨_, rfl, _, rfl, _, rfl, _, rfl, _, rfl, pl, .ref lw, rfl, pool_words h1, b, l, lw, _, rfl, h2, lwb, by rw [List.length_map, w3]; decide, by rw [List.length_map, w3]; decide, B2', fun x H4 hx B4 bt4 _ => ?_⟩
        obtain ⟨zw, hzw, rfl⟩ := List.mem_map.mp hx
        have sq4 := Sq.but B2' bt4
        have D4 := D2.trans ⟨B4, bt4⟩
        refine ⟨_, rfl, _, rfl, v, za, t, s', z, rfl, rv.mono (D4.sq B), sq4.1 _ _ hza2, hs', fun u ru => ?_⟩
        refine ⟨b, l, zw, u, s', rfl, hws zw hzw, ru, B4, fun x H5 dx rdx bdx D5 => ?_⟩
        have sq5 := D5.sq B4
        have zs := hs'.small
        refine ⟨cur, za, x, d, z, dx, H5, rfl, (rc.mono sq4).mono sq5, sq5.1 _ _ (sq4.1 _ _ hza2), PL.path i d z sp hz, rdx, Same.rfl', by omega, by omega, fun H6 v' H0' s00 s02 s6 fresh rv' => ?_⟩
        refine ⟨v', _, setD z d dx, rfl, rv'.mono (Sq.of s02), ?_, (D4.trans D5).trans (Dr.of D5.bag s6), s6 _ _ (sq5.2 _ _ (sq4.2 _ _ hR2)), s6 _ _ (sq5.2 _ _ (sq4.2 _ _ hB2)), fun a u e => s6 _ _ (sq5.1 _ _ (sq4.1 _ _ (kt a u e)))⟩
        have e : qs.take (i + 1) = qs.take i ++ [z] := by rw [List.take_succ, hz]; rfl
        rw [e]
        exact .snoc sp (PL.path i d z sp hz) bdx
      · rintro σ H2 ⟨cur, c, d, rfl, rc, sp, D2, hR2, hB2, kt⟩
        rw [hql, List.take_length] at sp
        have sl := PL.ends d sp
        obtain ⟨m, bn⟩ := sl.first (r := []) (q := []) (by rw [List.length_nil]; omega) (by rw [List.length_nil]; omega)
        rw [List.nil_append] at bn
        have fl := sl.len
        refine ⟨_, rfl, cur, d, m, some fst, rfl, rc, bn, fun H6 p2 T s6 hp2 hT => ?_⟩
        refine ⟨_, rfl, T, _, 0, .str "BadTerm", rfl, rfl, SqT.of hT, at0, rfl, _, rfl, ?_⟩
        rw [decide_eq_true rfl]
        refine iteT ⟨_, rfl, T, _, 1, .ref p2, rfl, rfl, SqT.of hT, at1, _, rfl, Bd, rs, 0, .ref fa, rfl, rfl, SqL.of (s6 _ _ hB2), atI_nat (j := 0) hr0, ?_⟩
        exact ⟨_, _, plD fst, rfl, Rp.of_pl hp2, Rp.of_pl (s6 _ _ (kt _ _ hfa)), (pl_ex (by omega)).mono (by decide), fun H7 s7 => k H7 (D2.trans (Dr.of D2.bag (sameT s6 s7)))⟩
end
end K06

/-! k06, the law, part v: the law. -/
namespace K06
open PySem L2 PySem.Spec PyProof.Rows K06X
abbrev sLaw : Stmt := top 82
theorem ExN.deep : ∀ {n : Nat} {d : PyData}, ExN n d → d.depth ≤ n
  | _, _, .non => Nat.zero_le _
  | _, _, .int i => Nat.zero_le _
  | _, _, .str z => Nat.zero_le _
  | _, _, @ExN.tup n ds h l => by
    have key : ∀ es : List PyData, (∀ d ∈ es, d.depth ≤ n) → PyData.depthAll es ≤ n := by
      intro es
      induction es with
      | nil => intro _; exact Nat.zero_le _
      | cons a r ih =>
        intro h
        show max a.depth (PyData.depthAll r) ≤ n
        exact Nat.max_le.mpr ⟨h a List.mem_cons_self, ih fun d hd => h d (List.mem_cons_of_mem _ hd)⟩
    exact Nat.succ_le_succ (key ds fun d hd => (h d hd).deep)
theorem Tm.deep (t : Tm) (h : t.Ok) : t.data.depth ≤ t.height + 2 := (t.ex h).deep
def spLaw (K : PySem.W.Frag) : Sp := fun vs H Q _ => ∃ (a : Addr) (ns : List Int), vs = [.ref a] ∧ SqL K H a (ns.map V.int) ∧ ns.length ≤ 63 ∧ ∀ H', Q (.bl true) H'
/-- a term is made of a right one -/
theorem mk_term {CT CB : Addr} {v : V} {t : Tm} {H : Hp} {R : VK} {E : XK} {x dx : Addr} (rv : Rp H v t.data) (ok : t.Ok) (hm : t.many ≤ 900) (nx : H x = none) (ndx : H dx = none) (nex : dx ≠ x) (k : ∀ H1, Same H H1 → H1 x = some (.ins CT dx (termFs v)) → R .non H1) :
    spInit CT CB (.ref x :: [v]) (upd (upd H dx (.own x)) x (.ins CT dx [])) R E := by
  have s1 := same_new (o := .own x) Same.rfl' ndx
  have nx1 : upd H dx (.own x) x = none := by rw [upd_ne (Ne.symm nex)]; exact nx
  have s2 := same_new (o := .ins CT dx []) s1 nx1
  refine ⟨x, dx, v, t.data, t.many, none, rfl, upd_same, fun a e => ?_, rv.mono (Sq.of s2), t.bad1 ok hm, fun H1 kp hx => k H1 (fun b u e => kp b u (fun z => by rw [z, nx] at e; cases e) (s2 b u e)) hx⟩
  rintro rfl
  subst e
  obtain ⟨b, xs, e, hb, _⟩ := rv.tm
  cases e
  rw [nx] at hb; cases hb
section
variable {P : Program} {w : World} {K : PySem.W.Frag} {mg : Str → Option Value} {base : Heap}
theorem scLaw : FnScope ["_law_script", "_law_bag_here", "_law_pool_here", "_law_plain", "_law_other", "_law_k"] ["_law_script"] (defScope sLaw) := ⟨rfl, rfl, rfl, by decide +kernel, rfl, by decide +kernel, by decide +kernel⟩
theorem ok_law {f fb fp fs ft fc fr fd' fm fI fE CT CB : Addr} {fd fdb fdp fds fdt fdc fdr fdd fdm fdI fdE : FuncData} (F : Fun K "law" "law" sLaw f fd) (N : Nms mg)
    (DB : Df K mg "_law_bag" sBag ["_law_script"] fb fdb) (GB : FnOk P w K mg base CX0 1 fb fdb ["_law_script"] (spBag K)) (DP : Df K mg "_law_pool" sPool ["_law_bag_here"] fp fdp) (GP : FnOk P w K mg base CX0 4 fp fdp ["_law_bag_here"] spPool)
    (DS : Df K mg "_law_signs" sSigns ["_law_bag_here", "_law_term", "_law_most"] fs fds) (GS : FnOk P w K mg base CX0 3 fs fds ["_law_bag_here", "_law_term", "_law_most"] spSigns)
    (DT : Df K mg "_law_free_term" sFreeTerm ["_law_bag_here", "_law_pool_here", "_law_depth"] ft fdt) (GT : FnOk P w K mg base CX0 10 ft fdt ["_law_bag_here", "_law_pool_here", "_law_depth"] (spTm 6))
    (DC : Df K mg "_law_choice" sChoice ["_law_bag_here", "_law_things"] fc fdc) (GC : FnOk P w K mg base CX0 2 fc fdc ["_law_bag_here", "_law_things"] (spChoice K))
    (DR : Df K mg "_law_right" sRight ["_law_plain"] fr fdr) (GR : FnOk P w K mg base CX0 30 fr fdr ["_law_plain"] spRight) (DD : Df K mg "_law_refused" sRefused ["_law_bag_here", "_law_pool_here", "_law_plain"] fd' fdd) (GD : FnOk P w K mg base CX0 30 fd' fdd ["_law_bag_here", "_law_pool_here", "_law_plain"] spRefused)
    (DM : Df K mg "_law_same" sSame ["_law_told", "_law_due"] fm fdm) (GM : FnOk P w K mg base CX0 1 fm fdm ["_law_told", "_law_due"] spSame)
    (MT : Mk K CT fI) (gT : mg "Term" = some (.ref CT)) (bI : Binds K fdI ["self", "plain"] []) (GI : FnOk P w K mg base (L2.CX P w) 5 fI fdI ["self", "plain"] (spInit CT CB))
    (TI : TermI K CT) (ME : Meth K CT "__eq__" fE) (bE : Binds K fdE ["self", "other"] []) (GE : FnOk P w K mg base CX0 1 fE fdE ["self", "other"] (spTEq CT)) :
    FnOk P w K mg base CX0 31 f fd ["_law_script"] (spLaw K) := by
  refine F.ok scLaw (fun vs H Q E h => ?_) (fun cdv A outer s H vs Q E hr h => ?_)
  · obtain ⟨a, ns, rfl, _⟩ := h
    rfl
  · obtain ⟨a, ns, rfl, hS, hn, k⟩ := h
    have nd := scLaw.nd
    have r1 := hr.mono (show 1 ≤ 30 by decide)
    have r2 := hr.mono (show 2 ≤ 30 by decide)
    have r3 := hr.mono (show 3 ≤ 30 by decide)
    have r4 := hr.mono (show 4 ≤ 30 by decide)
    have r6 := hr.mono (show 6 ≤ 30 by decide)
    have r10 := hr.mono (show 10 ≤ 30 by decide)
    refine ⟨_, pss_cons (ps_set (i := 1) nd rfl (Or.inl rfl) (pe_call GB r1 rfl DB.g DB.F.kp DB.b .nil pass0 (pa_cons (pv 0) pa_nil)))
      (pss_cons (ps_set (i := 2) nd rfl (Or.inl rfl) (pe_call GP r4 rfl DP.g DP.F.kp DP.b .nil pass0 (pa_cons (pv 1) pa_nil)))
      (pss_cons (ps_set (i := 3) nd rfl (Or.inl rfl) (pe_call GS r3 rfl DS.g DS.F.kp DS.b .nil pass0 (pa_cons (pv 1) (pa_cons (pe_call GT r10 rfl DT.g DT.F.kp DT.b .nil pass0 (pa_cons (pv 1) (pa_cons (pv 2) (pa_cons pe_int pa_nil))))
          (pa_cons (pe_call GC r2 rfl DC.g DC.F.kp DC.b .nil pass0 (pa_cons (pv 1) (pa_cons (pe_lst (pa_cons pe_int (pa_cons pe_int (pa_cons pe_int (pa_cons pe_int pa_nil))))) pa_nil))) pa_nil)))))
      (pss_cons (ps_set (i := 4) nd rfl (Or.inl rfl) (pe_call GT r10 rfl DT.g DT.F.kp DT.b .nil pass0 (pa_cons (pv 1) (pa_cons (pv 2) (pa_cons pe_int pa_nil)))))
      (pss_cons (ps_if (pt_not (pt_val (pe_call GR hr rfl DR.g DR.F.kp DR.b .nil pass0 (pa_cons (pv 3) pa_nil)))) (pss_one (ps_ret pe_bl)) pss_nil)
      (pss_cons (ps_for PassesOwn.never rfl (pi_range1 rfl N.range (pa_cons pe_int pa_nil)) (pg_name (i := 5) nd rfl (Or.inl rfl))
        (pss_one (ps_if (pt_not (pt_val (pe_call GD hr rfl DD.g DD.F.kp DD.b .nil pass0 (pa_cons (pv 1) (pa_cons (pv 2) (pa_cons (pv 3) pa_nil)))))) (pss_one (ps_ret pe_bl)) pss_nil)))
      (pss_cons (ps_if (PW.pt (pw_or (pt_not (pt_val (pe_call GM r1 rfl DM.g DM.F.kp DM.b .nil pass0 (pa_cons (pe_cmpR (op_termEq TI ME GE r1 bE pass0) (pe_makeS MT GI r6 rfl gT bI (fun σ => passAt takes0 σ) (pa_cons (pv 3) pa_nil)) (pe_makeS MT GI r6 rfl gT bI (fun σ => passAt takes0 σ) (pa_cons (pv 4) pa_nil)) (nomark _))
            (pa_cons (pe_cmpR (op_eqM hr.units) (pv 3) (pv 4) (nomark _)) pa_nil)))))
          (pw_or1 (pt_not (pt_val (pe_call GM r1 rfl DM.g DM.F.kp DM.b .nil pass0 (pa_cons (pe_cmpR (op_termEq TI ME GE r1 bE pass0) (pe_makeS MT GI r6 rfl gT bI (fun σ => passAt takes0 σ) (pa_cons (pv 3) pa_nil)) (pe_makeS MT GI r6 rfl gT bI (fun σ => passAt takes0 σ) (pa_cons (pv 3) pa_nil)) (nomark _)) (pa_cons pe_bl pa_nil))))))))
        (pss_one (ps_ret pe_bl)) pss_nil)
      (pss_cons (ps_if (pt_not (pt_val (pe_call GM r1 rfl DM.g DM.F.kp DM.b .nil pass0 (pa_cons (pe_cmpR (op_termEq TI ME GE r1 bE pass0) (pe_makeS MT GI r6 rfl gT bI (fun σ => passAt takes0 σ) (pa_cons (pv 3) pa_nil)) (pv 3) (nomark _)) (pa_cons pe_bl pa_nil))))) (pss_one (ps_ret pe_bl)) pss_nil)
      (pss_one (ps_ret (pe_and (pe_call GR hr rfl DR.g DR.F.kp DR.b .nil pass0 (pa_cons (pv 3) pa_nil)) (pe_one (pe_call GR hr rfl DR.g DR.F.kp DR.b .nil pass0 (pa_cons (pv 4) pa_nil))))))))))))), ?_⟩
    refine ⟨_, rfl, a, ns, rfl, hS, hn, fun b l H1 nb nl B1 s1 => ?_⟩
    refine ⟨_, rfl, b, l, rfl, B1, fun p H2 hp npb D2 => ?_⟩
    refine ⟨_, rfl, _, rfl, _, rfl, b, l, p, 5, rfl, by decide, hp, npb, D2.bag, fun v0 H3 tv D3 => ?_⟩
    refine ⟨_, rfl, (by show 4 ≤ sizeLine; decide), fun L nL => ⟨b, l, L, _, rfl, upd_same, D3.bag.ne_b nL, (by show 0 < 4; decide), (by show 4 < 1000; decide), (D3.new nL).bag, fun x H4 hx B4 bt4 _ => ?_⟩⟩
    have D4 := (D3.new (o := .lst [.int 0, .int 3, .int 3, .int 20]) nL).trans ⟨B4, bt4⟩
    have sq4 : Sq H3 H4 := (Sq.of (same_new Same.rfl' nL)).trans (Sq.but (D3.new nL).bag bt4)
    obtain ⟨m, rfl, hm⟩ : ∃ m : Nat, x = .int (m : Nat) ∧ m ≤ 20 := by
      simp only [List.mem_cons, List.not_mem_nil, or_false] at hx
      rcases hx with rfl | rfl | rfl | rfl
      · exact ⟨0, rfl, by decide⟩
      · exact ⟨3, rfl, by decide⟩
      · exact ⟨3, rfl, by decide⟩
      · exact ⟨20, rfl, by decide⟩
    refine ⟨b, l, v0, m, 5, 63, rfl, hm, tv.mono sq4 (Nat.le_refl _) (by decide), B4, fun v H5 tv5 D5 => ?_⟩
    have D25 := D4.trans D5
    have hp5 := hp.dr D2.bag D25 npb
    refine ⟨_, rfl, _, rfl, b, l, p, 1, rfl, by decide, hp5, npb, D5.bag, fun u H6 tu D6 => ?_⟩
    obtain ⟨t, ok, hh, hmn, rv5⟩ := tv5
    obtain ⟨t2, ok2, hh2, hmn2, ru⟩ := tu
    have hmn2' : t2.many ≤ 3 := hmn2
    have rv := rv5.mono (D6.sq D5.bag)
    have hp6 := hp5.dr D5.bag D6 npb
    have B6 := D6.bag
    refine ⟨_, rfl, v, t, rfl, rv, ok, by omega, by omega, fun H7 s7 => ⟨_, rfl, ?_⟩⟩
    refine iteF ?_
    have D7 := Dr.of B6 s7
    refine ⟨_, rfl, by decide, by decide, ?_⟩
    refine for_range (lo := 0) (n := (8 : Int).toNat) (fun i σ H8 => ∃ c, σ = [some (.ref a), some (.ref b), some (.ref p), some v, some u, c] ∧ Dr b l H6 H8) ⟨none, rfl, D7⟩ ?_ ?_
    · rintro i σ H8 hi ⟨c, rfl, D8⟩
      refine ⟨_, rfl, _, rfl, _, rfl, b, l, p, v, t, rfl, hp6.dr B6 D8 npb, npb, D8.bag, rv.mono (D8.sq B6), ok, by omega, by omega, fun H9 D9 => ⟨_, rfl, ?_⟩⟩
      exact iteF ⟨_, rfl, D8.trans D9⟩
    rintro σ H8 ⟨c, rfl, D8⟩
    have rv8 := rv.mono (D8.sq B6)
    have ru8 := ru.mono (D8.sq B6)
    have dt := t.deep ok
    have dt2 := t2.deep ok2
    have refl : PyData.eqv t.data t.data = true := SeqAt.eqv_refl _ rv8.lay
    refine ⟨_, rfl, fun x dx nx ndx nex => mk_term rv8 ok (by omega) nx ndx nex fun H9 s9 hx => ⟨rfl, ?_⟩⟩
    refine ⟨_, rfl, fun y dy nx ndx nex => mk_term (ru8.mono (Sq.of s9)) ok2 (by omega) nx ndx nex fun H10 s10 hy => ⟨rfl, ?_⟩⟩
    have s810 := sameT s9 s10
    refine ⟨x, dx, _, y, rfl, rfl, s10 _ _ hx, .inl ⟨dy, _, hy⟩, x, dx, v, t.data, y, rfl, s10 _ _ hx, rv8.mono (Sq.of s810), .inl ⟨dy, u, t2.data, hy, ru8.mono (Sq.of s810), Nat.le_trans (Nat.min_le_left _ _) (by omega), ?_⟩⟩
    have rv10 := rv8.mono (Sq.of s810)
    have ru10 := ru8.mono (Sq.of s810)
    refine ⟨_, rfl, _, rfl, t.data, t2.data, rv10.dp, ru10.dp, rv10.lay, ru10.lay, Nat.le_trans (Nat.min_le_left _ _) (by omega), _, rfl, _, rfl, ?_⟩
    refine iteF ?_
    refine ⟨_, rfl, fun x2 dx2 nx ndx nex => mk_term rv10 ok (by omega) nx ndx nex fun H11 s11 hx2 => ⟨rfl, ?_⟩⟩
    refine ⟨_, rfl, fun y2 dy2 nx ndx nex => mk_term (rv10.mono (Sq.of s11)) ok (by omega) nx ndx nex fun H12 s12 hy2 => ⟨rfl, ?_⟩⟩
    have s1012 := sameT s11 s12
    refine ⟨x2, dx2, _, y2, rfl, rfl, s12 _ _ hx2, .inl ⟨dy2, _, hy2⟩, x2, dx2, v, t.data, y2, rfl, s12 _ _ hx2, rv10.mono (Sq.of s1012), .inl ⟨dy2, v, t.data, hy2, rv10.mono (Sq.of s1012), Nat.le_trans (Nat.min_le_left _ _) (by omega), ?_⟩⟩
    rw [refl]
    refine ⟨true, rfl, _, rfl, ?_⟩
    refine iteF ?_
    have rv12 := rv10.mono (Sq.of s1012)
    refine ⟨_, rfl, fun x3 dx3 nx ndx nex => mk_term rv12 ok (by omega) nx ndx nex fun H13 s13 hx3 => ⟨rfl, ?_⟩⟩
    have rv13 := rv12.mono (Sq.of s13)
    obtain ⟨va, vxs, rfl, hva, _⟩ := rv13.tm
    refine ⟨_, rfl, x3, dx3, _, va, rfl, rfl, hx3, .inr ⟨_, SqT.of hva⟩, x3, dx3, _, t.data, va, rfl, hx3, rv13, .inr ⟨_, hva, ?_⟩⟩
    refine ⟨false, rfl, _, rfl, ?_⟩
    refine iteF ?_
    refine ⟨_, rfl, _, t, rfl, rv13, ok, by omega, by omega, fun H14 s14 => ⟨_, rfl, ?_⟩⟩
    have ru14 := (ru10.mono (Sq.of (sameT s1012 s13))).mono (Sq.of s14)
    refine iteT ⟨_, rfl, u, t2, rfl, ru14, ok2, by omega, by omega, fun H15 _ => k H15⟩
end
end K06

/-! k06, the law, part w: all defs together. -/
namespace K06
open PySem L2 PySem.Spec PyProof.Rows K06X
/-- all defs of the text, as they stand behind the top -/
structure Defs (K : PySem.W.Frag) (mg : Str → Option Value) : Prop where
  disnumber : ∃ f fd, Df K mg "is_number" sIsNum ["thing"] f fd
  disname : ∃ f fd, Df K mg "is_name" sIsName ["thing"] f fd
  disheadingname : ∃ f fd, Df K mg "is_heading_name" sIsHead ["thing"] f fd
  disshareof : ∃ f fd, Df K mg "is_share_of" sIsShare ["top", "bottom"] f fd
  dissign : ∃ f fd, Df K mg "is_sign" sIsSign ["term"] f fd
  dbadterm : ∃ f fd, Df K mg "bad_term" sBadTerm ["plain"] f fd
  dbeneathsign : ∃ f fd, Df K mg "beneath_sign" sBeneath ["term"] f fd
  dtermnodes : ∃ f fd, Df K mg "term_nodes" sNodes ["plain"] f fd
  donce : ∃ f fd, Df K mg "once" sOnce ["things"] f fd
  dnamesin : ∃ f fd, Df K mg "names_in" sNamesIn ["plain"] f fd
  dheadingsin : ∃ f fd, Df K mg "headings_in" sHeadsIn ["plain"] f fd
  dlookof : ∃ f fd, Df K mg "look_of" sLookOf ["plain"] f fd
  dLbag : ∃ f fd, Df K mg "_law_bag" sBag ["_law_script"] f fd
  dLpick : ∃ f fd, Df K mg "_law_pick" sPick ["_law_bag_here", "_law_many"] f fd
  dLchoice : ∃ f fd, Df K mg "_law_choice" sChoice ["_law_bag_here", "_law_things"] f fd
  dLonein : ∃ f fd, Df K mg "_law_one_in" sOneIn ["_law_bag_here", "_law_many"] f fd
  dLinteger : ∃ f fd, Df K mg "_law_integer" sInteger ["_law_thing"] f fd
  dLletters : ∃ f fd, Df K mg "_law_letters" sLetters ["_law_bag_here", "_law_many"] f fd
  dLbeneaths : ∃ f fd, Df K mg "_law_beneaths" sBeneaths ["_law_term"] f fd
  dLreserved : ∃ f fd, Df K mg "_law_reserved" sReserved [] f fd
  dLgcd : ∃ f fd, Df K mg "_law_gcd" sGcd ["_law_first", "_law_second"] f fd
  dLexact : ∃ f fd, Df K mg "_law_exact" sExact ["_law_told", "_law_due"] f fd
  dLanyshare : ∃ f fd, Df K mg "_law_any_share" sAnyShare ["_law_bag_here", "_law_stuffs"] f fd
  dLsigns : ∃ f fd, Df K mg "_law_signs" sSigns ["_law_bag_here", "_law_term", "_law_most"] f fd
  dLwalk : ∃ f fd, Df K mg "_law_walk" sWalk ["_law_term"] f fd
  dLspots : ∃ f fd, Df K mg "_law_spots" sSpots ["_law_term"] f fd
  dLthere : ∃ f fd, Df K mg "_law_there" sThere ["_law_term", "_law_spot"] f fd
  dLset : ∃ f fd, Df K mg "_law_set" sSet ["_law_term", "_law_spot", "_law_new"] f fd
  dLword : ∃ f fd, Df K mg "_law_word" sWord ["_law_bag_here"] f fd
  dLtitle : ∃ f fd, Df K mg "_law_title" sTitle ["_law_bag_here"] f fd
  dLpool : ∃ f fd, Df K mg "_law_pool" sPool ["_law_bag_here"] f fd
  dLfreeatom : ∃ f fd, Df K mg "_law_free_atom" sFreeAtom ["_law_bag_here", "_law_pool_here"] f fd
  dLfreeterm : ∃ f fd, Df K mg "_law_free_term" sFreeTerm ["_law_bag_here", "_law_pool_here", "_law_depth"] f fd
  dLoddleaf : ∃ f fd, Df K mg "_law_odd_leaf" sOddLeaf ["_law_bag_here", "_law_word_here"] f fd
  dLodd : ∃ f fd, Df K mg "_law_odd" sOdd ["_law_bag_here", "_law_word_here", "_law_inner"] f fd
  dLbuilt : ∃ f fd, Df K mg "_law_built" sBuilt ["_law_plain"] f fd
  dLlook : ∃ f fd, Df K mg "_law_look" sLook ["_law_term"] f fd
  dLonce : ∃ f fd, Df K mg "_law_once" sLOnce ["_law_things"] f fd
  dLright : ∃ f fd, Df K mg "_law_right" sRight ["_law_plain"] f fd
  dLsame : ∃ f fd, Df K mg "_law_same" sSame ["_law_told", "_law_due"] f fd
  dLrefused : ∃ f fd, Df K mg "_law_refused" sRefused ["_law_bag_here", "_law_pool_here", "_law_plain"] f fd
  dlaw : ∃ f fd, Df K mg "law" sLaw ["_law_script"] f fd
/-- the class of terms with its methods -/
structure TermD (K : PySem.W.Frag) (mg : Str → Option Value) (CT : Addr) : Prop where
  gT : mg "Term" = some (.ref CT)
  tc : TermC K CT
  ti : TermI K CT
  makes : PySem.W.makesIn K CT = true
  kc : PySem.W.keepIn K (.ref CT) = true
  init : ∃ f fd, PySem.W.findIn K (.ref CT) "__init__" = some (some (.ref f)) ∧ PySem.W.isFn K (.ref f) = true ∧ Fun K "__init__" "Term.__init__" sTInit f fd ∧ Binds K fd ["self", "plain"] []
  eq : ∃ f fd, PySem.W.findIn K (.ref CT) "__eq__" = some (some (.ref f)) ∧ PySem.W.isFn K (.ref f) = true ∧ Fun K "__eq__" "Term.__eq__" sTEq f fd ∧ Binds K fd ["self", "other"] []
  size : ∃ p f fd, PropOf K CT "size" p f ∧ Fun K "size" "Term.size" sTSize f fd ∧ Binds K fd ["self"] []
  look : ∃ p f fd, PropOf K CT "look" p f ∧ Fun K "look" "Term.look" sTLook f fd ∧ Binds K fd ["self"] []
  names : ∃ p f fd, PropOf K CT "names" p f ∧ Fun K "names" "Term.names" sTNames f fd ∧ Binds K fd ["self"] []
  falls : ∃ p f fd, PropOf K CT "falls" p f ∧ Fun K "falls" "Term.falls" sTFalls f fd ∧ Binds K fd ["self"] []
/-- all that the top leaves and the law leans on -/
structure LeftK (P : Program) (w : World) (K : PySem.W.Frag) (mg : Str → Option Value) : Prop where
  defs : Defs K mg
  nms : Nms mg
  glb : Glb K mg
  shp : Shp K w mg
  gcd : mg "gcd" = some (.builtin "math.gcd")
  sgn : ∃ aP, mg "PART_SIGNS" = some (.ref aP) ∧ ∀ H, SqT K H aP psV
  top : (P.main.scope.names.lookup ("super" : Str)).isSome = false
  cls : ∃ CT CF CB CBF CU fI, TermD K mg CT ∧ Errs K mg CF CB CBF CU ∧ ErrTxt P K mg CB fI "BadTerm" "BadTerm.__init__" "place" "no term at "
theorem all_of {P : Program} {w : World} {K : PySem.W.Frag} {mg : Str → Option Value} (L : LeftK P w K mg) {fa : Addr} (hfa : mg "law" = some (.ref fa)) : ∃ fd, Df K mg "law" sLaw ["_law_script"] fa fd ∧ ∀ base, FnOk P w K mg base CX0 31 fa fd ["_law_script"] (spLaw K) := by
  have D := L.defs
  have N := L.nms
  have G := L.glb
  have S := L.shp
  have gcd := L.gcd
  obtain ⟨aP, mP, sP⟩ := L.sgn
  obtain ⟨CT, CF, CB, CBF, CU, fB, TD, ER, TB⟩ := L.cls
  obtain ⟨fdisnumber, edisnumber, disnumber⟩ := D.disnumber
  obtain ⟨fdisname, edisname, disname⟩ := D.disname
  obtain ⟨fdisheadingname, edisheadingname, disheadingname⟩ := D.disheadingname
  obtain ⟨fdisshareof, edisshareof, disshareof⟩ := D.disshareof
  obtain ⟨fdissign, edissign, dissign⟩ := D.dissign
  obtain ⟨fdbadterm, edbadterm, dbadterm⟩ := D.dbadterm
  obtain ⟨fdbeneathsign, edbeneathsign, dbeneathsign⟩ := D.dbeneathsign
  obtain ⟨fdtermnodes, edtermnodes, dtermnodes⟩ := D.dtermnodes
  obtain ⟨fdonce, edonce, donce⟩ := D.donce
  obtain ⟨fdnamesin, ednamesin, dnamesin⟩ := D.dnamesin
  obtain ⟨fdheadingsin, edheadingsin, dheadingsin⟩ := D.dheadingsin
  obtain ⟨fdlookof, edlookof, dlookof⟩ := D.dlookof
  obtain ⟨fdLbag, edLbag, dLbag⟩ := D.dLbag
  obtain ⟨fdLpick, edLpick, dLpick⟩ := D.dLpick
  obtain ⟨fdLchoice, edLchoice, dLchoice⟩ := D.dLchoice
  obtain ⟨fdLonein, edLonein, dLonein⟩ := D.dLonein
  obtain ⟨fdLinteger, edLinteger, dLinteger⟩ := D.dLinteger
  obtain ⟨fdLletters, edLletters, dLletters⟩ := D.dLletters
  obtain ⟨fdLbeneaths, edLbeneaths, dLbeneaths⟩ := D.dLbeneaths
  obtain ⟨fdLreserved, edLreserved, dLreserved⟩ := D.dLreserved
  obtain ⟨fdLgcd, edLgcd, dLgcd⟩ := D.dLgcd
  obtain ⟨fdLexact, edLexact, dLexact⟩ := D.dLexact
  obtain ⟨fdLanyshare, edLanyshare, dLanyshare⟩ := D.dLanyshare
  obtain ⟨fdLsigns, edLsigns, dLsigns⟩ := D.dLsigns
  obtain ⟨fdLwalk, edLwalk, dLwalk⟩ := D.dLwalk
  obtain ⟨fdLspots, edLspots, dLspots⟩ := D.dLspots
  obtain ⟨fdLthere, edLthere, dLthere⟩ := D.dLthere
  obtain ⟨fdLset, edLset, dLset⟩ := D.dLset
  obtain ⟨fdLword, edLword, dLword⟩ := D.dLword
  obtain ⟨fdLtitle, edLtitle, dLtitle⟩ := D.dLtitle
  obtain ⟨fdLpool, edLpool, dLpool⟩ := D.dLpool
  obtain ⟨fdLfreeatom, edLfreeatom, dLfreeatom⟩ := D.dLfreeatom
  obtain ⟨fdLfreeterm, edLfreeterm, dLfreeterm⟩ := D.dLfreeterm
  obtain ⟨fdLoddleaf, edLoddleaf, dLoddleaf⟩ := D.dLoddleaf
  obtain ⟨fdLodd, edLodd, dLodd⟩ := D.dLodd
  obtain ⟨fdLbuilt, edLbuilt, dLbuilt⟩ := D.dLbuilt
  obtain ⟨fdLlook, edLlook, dLlook⟩ := D.dLlook
  obtain ⟨fdLonce, edLonce, dLonce⟩ := D.dLonce
  obtain ⟨fdLright, edLright, dLright⟩ := D.dLright
  obtain ⟨fdLsame, edLsame, dLsame⟩ := D.dLsame
  obtain ⟨fdLrefused, edLrefused, dLrefused⟩ := D.dLrefused
  obtain ⟨fdlaw, edlaw, dlaw⟩ := D.dlaw
  obtain ⟨fi, ei, hi1, hi2, Fi, bi⟩ := TD.init
  obtain ⟨fe, ee, he1, he2, Fe, be⟩ := TD.eq
  obtain ⟨ps, gs, es, Ps, Fs, bs⟩ := TD.size
  obtain ⟨pl, gl, el, Pl, Fl, bl⟩ := TD.look
  obtain ⟨pn, gn, en, Pn, Fn, bn⟩ := TD.names
  obtain ⟨pf, gf, ef, Pf, Ff, bf⟩ := TD.falls
  have e := hfa.symm.trans dlaw.g
  cases e
  refine ⟨edlaw, dlaw, fun base => ?_⟩
  have Pick : FnOk P w K mg base CX0 1 fdLpick edLpick ["_law_bag_here", "_law_many"] spPick := ok_pick dLpick.F N.int N.len
  have OneIn : FnOk P w K mg base CX0 2 fdLonein edLonein _ spOneIn := ok_onein dLonein.F dLpick.F dLpick.b dLpick.g N
  have Choice : FnOk P w K mg base CX0 2 fdLchoice edLchoice _ (spChoice K) := ok_choice dLchoice.F dLpick.F dLpick.b dLpick.g N
  have Bag : FnOk P w K mg base CX0 1 fdLbag edLbag _ (spBag K) := ok_bag dLbag.F N
  have IsNum : FnOk P w K mg base CX0 1 fdisnumber edisnumber _ spNum := ok_isnum disnumber.F N
  have Integer : FnOk P w K mg base CX0 1 fdLinteger edLinteger _ spNum := ok_integer dLinteger.F N
  have Sign : FnOk P w K mg base CX0 3 fdissign edissign _ (spTest signD) := ok_issign dissign.F N G S gcd disnumber disshareof disheadingname disname
  have Ben : FnOk P w K mg base CX0 1 fdbeneathsign edbeneathsign _ spBeneath := ok_beneath dbeneathsign.F N S
  have Bad : FnOk P w K mg base CX0 4 fdbadterm edbadterm _ spBad := ok_badterm dbadterm.F N dissign Sign dbeneathsign Ben
  have Nodes : FnOk P w K mg base CX0 2 fdtermnodes edtermnodes _ spNodes := ok_nodes dtermnodes.F dbeneathsign Ben
  have Once : FnOk P w K mg base CX0 1 fdonce edonce _ spOnce := ok_once donce.F N
  have NamesIn : FnOk P w K mg base CX0 3 fdnamesin ednamesin _ (spNames namesL) := ok_names dnamesin.F dtermnodes Nodes donce Once
  have HeadsIn : FnOk P w K mg base CX0 3 fdheadingsin edheadingsin _ (spNames headsL) := ok_heads dheadingsin.F dtermnodes Nodes donce Once
  have LookOf : FnOk P w K mg base CX0 2 fdlookof edlookof _ spLook := ok_lookof dlookof.F N mP sP dbeneathsign Ben
  have Init : FnOk P w K mg base (L2.CX P w) 5 fi ei ["self", "plain"] (spInit CT CB) := ok_tinit Fi TD.tc L.top TB dbadterm Bad
  have Eq : FnOk P w K mg base CX0 1 fe ee ["self", "other"] (spTEq CT) := ok_teq Fe N TD.tc TD.ti TD.gT
  have Size : FnOk P w K mg base CX0 3 gs es ["self"] (spSize CT) := ok_tsize Fs N TD.tc dtermnodes Nodes
  have Look : FnOk P w K mg base CX0 3 gl el ["self"] (spTLook CT) := ok_tlook Fl N TD.tc dlookof LookOf
  have Names : FnOk P w K mg base CX0 4 gn en ["self"] (spTNames CT namesL) := ok_tnames Fn N TD.tc dnamesin NamesIn
  have Falls : FnOk P w K mg base CX0 4 gf ef ["self"] (spTNames CT headsL) := ok_tfalls Ff N TD.tc dheadingsin HeadsIn
  have PR : Props P w K mg base CT := ⟨⟨ps, gs, es, Ps, Size, bs⟩, ⟨pl, gl, el, Pl, Look, bl⟩, ⟨pn, gn, en, Pn, Names, bn⟩, ⟨pf, gf, ef, Pf, Falls, bf⟩⟩
  have MT : Mk K CT fi := ⟨TD.makes, hi1, hi2, TD.kc⟩
  have Letters := ok_letters (P := P) (w := w) (base := base) dLletters.F N dLpick Pick
  have Reserved := ok_reserved (P := P) (w := w) (mg := mg) (base := base) dLreserved.F
  have Word := ok_word dLword.F N dLpick Pick dLletters Letters dLreserved Reserved
  have Title := ok_title dLtitle.F N dLpick Pick dLreserved Reserved
  have Pool := ok_pool dLpool.F N dLword Word dLtitle Title
  have Gcd := ok_gcd (P := P) (w := w) (base := base) dLgcd.F N
  have AnyShare := ok_anyshare dLanyshare.F dLpick Pick dLgcd Gcd dLchoice Choice
  have FreeAtom := ok_freeatom dLfreeatom.F dLpick Pick dLanyshare AnyShare dLchoice Choice
  have FreeTerm := ok_freeterm dLfreeterm dLpick Pick dLfreeatom FreeAtom dLonein OneIn dLchoice Choice
  have Signs := ok_signs dLsigns.F N dLpick Pick dLchoice Choice
  have Bens := ok_beneaths (P := P) (w := w) (mg := mg) (base := base) dLbeneaths.F
  have Walk := ok_walk dLwalk dLbeneaths Bens
  have Spots := ok_spots N dLspots dLbeneaths Bens
  have There := ok_there (P := P) (w := w) (mg := mg) (base := base) dLthere.F
  have Set := ok_set (P := P) (w := w) (base := base) N dLset
  have LLook := ok_llook N dLlook dLbeneaths Bens
  have LOnce := ok_lonce (P := P) (w := w) (base := base) dLonce.F N
  have Exact := ok_exact N dLexact dLinteger Integer
  have Same' := ok_same (P := P) (w := w) (base := base) dLsame.F N
  have OddLeaf := ok_oddleaf dLoddleaf.F dLpick Pick dLchoice Choice
  have Odd := ok_odd dLodd.F dLpick Pick dLoddleaf OddLeaf dLchoice Choice
  have Built := ok_built dLbuilt.F N ER TB MT TD.gT bi Init
  have Right := ok_right dLright.F N TD.tc TD.ti TD.gT PR dLbuilt Built dLexact (Exact 28) dLwalk (Walk 26) dLonce LOnce dLlook (LLook 26)
  have Refused := ok_refused dLrefused.F N dLspots (Spots 26) dLchoice Choice dLonein OneIn dLset (Set 26) dLodd Odd dLthere There dLbuilt Built dLexact (Exact 28)
  exact ok_law dlaw.F N dLbag Bag dLpool Pool dLsigns Signs dLfreeterm (FreeTerm 6) dLchoice Choice dLright Right dLrefused Refused dLsame Same' MT TD.gT bi Init TD.ti ⟨he1, he2, Fe.kp⟩ be Eq
end K06

/-! k06, the law, part x: the end. -/
namespace K06
open PySem L2 PySem.Spec PyProof.Rows K06X
theorem fin_of {P : Program} {w : World} {K : PySem.W.Frag} {mg : Str → Option Value} {fa : Addr} (hfa : mg "law" = some (.ref fa)) (L : LeftK P w K mg) :
    ∃ fd : FuncData, (∀ (s : Shared) (u : Value), BindsTo s fd ⟨[u], []⟩ [("_law_script", u)]) ∧ ∀ base : Heap, K.In base → base.Ns mainGlobals mg → FnOk P w K mg base CX0 31 fa fd ["_law_script"] (spLaw K) := by
  obtain ⟨fd, D, G⟩ := all_of L hfa
  refine ⟨fd, fun s u => ?_, fun base _ _ => G base⟩
  obtain ⟨oc, od, kV, doc, pm, an, cdv, ct, osl, rfl, lk, hcd⟩ := D.F.ex
  exact .of_eq rfl
theorem walk {l : PySem.W.OpenLaw} {q : Program} {loose : List Str} {XP : (Str → Option Value) → Heap → Prop} {YP : World → Heap → Prop} {d : DefRec} {K : Params → PySem.W.Frag} (hn : l.most = some 63) (hdf : d.params.defaults = []) (hd : d.name = "law")
    (hY : ∀ (w : World) (h : Heap), YP w h → (K w.params).In h) (F : ∀ (w : World) (mg : Str → Option Value) (h : Heap), (K w.params).In h → h.Ns mainGlobals mg → LeftK l.prog w (K w.params) mg) :
    PySem.W.WalkO q loose XP YP l.row.toRowW d [] (fun f vs => PySem.call f vs) :=
  L2.walk_of (n := 63) (k := 31) (x := "_law_script") (CX := fun _ => CX0) (sp := fun w => spLaw (K w.params)) hn (by decide) hdf ⟨rfl, by decide, by decide⟩ hY
    (fun w mg fa h KX G hmg => fin_of (by rw [← hd]; exact hmg) (F w mg h KX G)) (fun _ _ a ns hl _ hS => ⟨a, ns, rfl, hS, hl, fun _ => rfl⟩) fun _ _ _ _ _ z => z
end K06

/-! k06, the law, part y: what the top has left, fact by fact. -/
namespace K06
open PySem L2 PySem.Spec PyProof.Rows K06X
section
variable {K : PySem.W.Frag} {mg : Str → Option Value} {h : Heap} {f : Addr} {oc : Value} {od an : Option Addr} {osl : Array (Option Value)} {kV doc pm cdv ct : Value}
theorem df_of {name : Str} {st : Stmt} {ps : List Str} (X : K.In h) (G : h.Ns mainGlobals mg) (a : PySem.W.nsIn K mainGlobals name = some (some (.ref f)))
    (l : K.lookup f = some ⟨oc, od, .func (PySem.W.fnOf name name (defArgs st) (defBody st) (defScope st) .none kV doc pm an cdv ct), osl⟩) (c : PySem.W.codeIn K cdv name = true) (k : PySem.W.keepIn K (.ref f) = true)
    (hb : ∀ (kV doc pm : Value) (an : Option Addr) (cdv ct : Value) (us : List Value), us.length = ps.length → bindArgs (PySem.W.fnOf name name (defArgs st) (defBody st) (defScope st) .none kV doc pm an cdv ct) ⟨us, []⟩ = pure (ps.zip us)) : ∃ f fd, Df K mg name st ps f fd :=
  ⟨f, _, fun_mk l c k, (fun_mk l c k).binds hb, PySem.W.mg_of X G a⟩
theorem mkdisnumber (X : K.In h) (G : h.Ns mainGlobals mg) (a : PySem.W.nsIn K mainGlobals "is_number" = some (some (.ref f))) (l : K.lookup f = some ⟨oc, od, .func (PySem.W.fnOf "is_number" "is_number" (defArgs sIsNum) (defBody sIsNum) (defScope sIsNum) .none kV doc pm an cdv ct), osl⟩) (c : PySem.W.codeIn K cdv "is_number" = true) (k : PySem.W.keepIn K (.ref f) = true) : ∃ f fd, Df K mg "is_number" sIsNum ["thing"] f fd :=
  df_of X G a l c k fun _ _ _ _ _ _ us hl => match us, hl with | [_], _ => rfl
theorem mkdisname (X : K.In h) (G : h.Ns mainGlobals mg) (a : PySem.W.nsIn K mainGlobals "is_name" = some (some (.ref f))) (l : K.lookup f = some ⟨oc, od, .func (PySem.W.fnOf "is_name" "is_name" (defArgs sIsName) (defBody sIsName) (defScope sIsName) .none kV doc pm an cdv ct), osl⟩) (c : PySem.W.codeIn K cdv "is_name" = true) (k : PySem.W.keepIn K (.ref f) = true) : ∃ f fd, Df K mg "is_name" sIsName ["thing"] f fd :=
  df_of X G a l c k fun _ _ _ _ _ _ us hl => match us, hl with | [_], _ => rfl
theorem mkdisheadingname (X : K.In h) (G : h.Ns mainGlobals mg) (a : PySem.W.nsIn K mainGlobals "is_heading_name" = some (some (.ref f))) (l : K.lookup f = some ⟨oc, od, .func (PySem.W.fnOf "is_heading_name" "is_heading_name" (defArgs sIsHead) (defBody sIsHead) (defScope sIsHead) .none kV doc pm an cdv ct), osl⟩) (c : PySem.W.codeIn K cdv "is_heading_name" = true) (k : PySem.W.keepIn K (.ref f) = true) : ∃ f fd, Df K mg "is_heading_name" sIsHead ["thing"] f fd :=
  df_of X G a l c k fun _ _ _ _ _ _ us hl => match us, hl with | [_], _ => rfl
theorem mkdisshareof (X : K.In h) (G : h.Ns mainGlobals mg) (a : PySem.W.nsIn K mainGlobals "is_share_of" = some (some (.ref f))) (l : K.lookup f = some ⟨oc, od, .func (PySem.W.fnOf "is_share_of" "is_share_of" (defArgs sIsShare) (defBody sIsShare) (defScope sIsShare) .none kV doc pm an cdv ct), osl⟩) (c : PySem.W.codeIn K cdv "is_share_of" = true) (k : PySem.W.keepIn K (.ref f) = true) : ∃ f fd, Df K mg "is_share_of" sIsShare ["top", "bottom"] f fd :=
  df_of X G a l c k fun _ _ _ _ _ _ us hl => match us, hl with | [_, _], _ => rfl
theorem mkdissign (X : K.In h) (G : h.Ns mainGlobals mg) (a : PySem.W.nsIn K mainGlobals "is_sign" = some (some (.ref f))) (l : K.lookup f = some ⟨oc, od, .func (PySem.W.fnOf "is_sign" "is_sign" (defArgs sIsSign) (defBody sIsSign) (defScope sIsSign) .none kV doc pm an cdv ct), osl⟩) (c : PySem.W.codeIn K cdv "is_sign" = true) (k : PySem.W.keepIn K (.ref f) = true) : ∃ f fd, Df K mg "is_sign" sIsSign ["term"] f fd :=
  df_of X G a l c k fun _ _ _ _ _ _ us hl => match us, hl with | [_], _ => rfl
theorem mkdbadterm (X : K.In h) (G : h.Ns mainGlobals mg) (a : PySem.W.nsIn K mainGlobals "bad_term" = some (some (.ref f))) (l : K.lookup f = some ⟨oc, od, .func (PySem.W.fnOf "bad_term" "bad_term" (defArgs sBadTerm) (defBody sBadTerm) (defScope sBadTerm) .none kV doc pm an cdv ct), osl⟩) (c : PySem.W.codeIn K cdv "bad_term" = true) (k : PySem.W.keepIn K (.ref f) = true) : ∃ f fd, Df K mg "bad_term" sBadTerm ["plain"] f fd :=
  df_of X G a l c k fun _ _ _ _ _ _ us hl => match us, hl with | [_], _ => rfl
theorem mkdbeneathsign (X : K.In h) (G : h.Ns mainGlobals mg) (a : PySem.W.nsIn K mainGlobals "beneath_sign" = some (some (.ref f))) (l : K.lookup f = some ⟨oc, od, .func (PySem.W.fnOf "beneath_sign" "beneath_sign" (defArgs sBeneath) (defBody sBeneath) (defScope sBeneath) .none kV doc pm an cdv ct), osl⟩) (c : PySem.W.codeIn K cdv "beneath_sign" = true) (k : PySem.W.keepIn K (.ref f) = true) : ∃ f fd, Df K mg "beneath_sign" sBeneath ["term"] f fd :=
  df_of X G a l c k fun _ _ _ _ _ _ us hl => match us, hl with | [_], _ => rfl
theorem mkdtermnodes (X : K.In h) (G : h.Ns mainGlobals mg) (a : PySem.W.nsIn K mainGlobals "term_nodes" = some (some (.ref f))) (l : K.lookup f = some ⟨oc, od, .func (PySem.W.fnOf "term_nodes" "term_nodes" (defArgs sNodes) (defBody sNodes) (defScope sNodes) .none kV doc pm an cdv ct), osl⟩) (c : PySem.W.codeIn K cdv "term_nodes" = true) (k : PySem.W.keepIn K (.ref f) = true) : ∃ f fd, Df K mg "term_nodes" sNodes ["plain"] f fd :=
  df_of X G a l c k fun _ _ _ _ _ _ us hl => match us, hl with | [_], _ => rfl
theorem mkdonce (X : K.In h) (G : h.Ns mainGlobals mg) (a : PySem.W.nsIn K mainGlobals "once" = some (some (.ref f))) (l : K.lookup f = some ⟨oc, od, .func (PySem.W.fnOf "once" "once" (defArgs sOnce) (defBody sOnce) (defScope sOnce) .none kV doc pm an cdv ct), osl⟩) (c : PySem.W.codeIn K cdv "once" = true) (k : PySem.W.keepIn K (.ref f) = true) : ∃ f fd, Df K mg "once" sOnce ["things"] f fd :=
  df_of X G a l c k fun _ _ _ _ _ _ us hl => match us, hl with | [_], _ => rfl
theorem mkdnamesin (X : K.In h) (G : h.Ns mainGlobals mg) (a : PySem.W.nsIn K mainGlobals "names_in" = some (some (.ref f))) (l : K.lookup f = some ⟨oc, od, .func (PySem.W.fnOf "names_in" "names_in" (defArgs sNamesIn) (defBody sNamesIn) (defScope sNamesIn) .none kV doc pm an cdv ct), osl⟩) (c : PySem.W.codeIn K cdv "names_in" = true) (k : PySem.W.keepIn K (.ref f) = true) : ∃ f fd, Df K mg "names_in" sNamesIn ["plain"] f fd :=
  df_of X G a l c k fun _ _ _ _ _ _ us hl => match us, hl with | [_], _ => rfl
theorem mkdheadingsin (X : K.In h) (G : h.Ns mainGlobals mg) (a : PySem.W.nsIn K mainGlobals "headings_in" = some (some (.ref f))) (l : K.lookup f = some ⟨oc, od, .func (PySem.W.fnOf "headings_in" "headings_in" (defArgs sHeadsIn) (defBody sHeadsIn) (defScope sHeadsIn) .none kV doc pm an cdv ct), osl⟩) (c : PySem.W.codeIn K cdv "headings_in" = true) (k : PySem.W.keepIn K (.ref f) = true) : ∃ f fd, Df K mg "headings_in" sHeadsIn ["plain"] f fd :=
  df_of X G a l c k fun _ _ _ _ _ _ us hl => match us, hl with | [_], _ => rfl
theorem mkdlookof (X : K.In h) (G : h.Ns mainGlobals mg) (a : PySem.W.nsIn K mainGlobals "look_of" = some (some (.ref f))) (l : K.lookup f = some ⟨oc, od, .func (PySem.W.fnOf "look_of" "look_of" (defArgs sLookOf) (defBody sLookOf) (defScope sLookOf) .none kV doc pm an cdv ct), osl⟩) (c : PySem.W.codeIn K cdv "look_of" = true) (k : PySem.W.keepIn K (.ref f) = true) : ∃ f fd, Df K mg "look_of" sLookOf ["plain"] f fd :=
  df_of X G a l c k fun _ _ _ _ _ _ us hl => match us, hl with | [_], _ => rfl
theorem mkdLbag (X : K.In h) (G : h.Ns mainGlobals mg) (a : PySem.W.nsIn K mainGlobals "_law_bag" = some (some (.ref f))) (l : K.lookup f = some ⟨oc, od, .func (PySem.W.fnOf "_law_bag" "_law_bag" (defArgs sBag) (defBody sBag) (defScope sBag) .none kV doc pm an cdv ct), osl⟩) (c : PySem.W.codeIn K cdv "_law_bag" = true) (k : PySem.W.keepIn K (.ref f) = true) : ∃ f fd, Df K mg "_law_bag" sBag ["_law_script"] f fd :=
  df_of X G a l c k fun _ _ _ _ _ _ us hl => match us, hl with | [_], _ => rfl
theorem mkdLpick (X : K.In h) (G : h.Ns mainGlobals mg) (a : PySem.W.nsIn K mainGlobals "_law_pick" = some (some (.ref f))) (l : K.lookup f = some ⟨oc, od, .func (PySem.W.fnOf "_law_pick" "_law_pick" (defArgs sPick) (defBody sPick) (defScope sPick) .none kV doc pm an cdv ct), osl⟩) (c : PySem.W.codeIn K cdv "_law_pick" = true) (k : PySem.W.keepIn K (.ref f) = true) : ∃ f fd, Df K mg "_law_pick" sPick ["_law_bag_here", "_law_many"] f fd :=
  df_of X G a l c k fun _ _ _ _ _ _ us hl => match us, hl with | [_, _], _ => rfl
theorem mkdLchoice (X : K.In h) (G : h.Ns mainGlobals mg) (a : PySem.W.nsIn K mainGlobals "_law_choice" = some (some (.ref f))) (l : K.lookup f = some ⟨oc, od, .func (PySem.W.fnOf "_law_choice" "_law_choice" (defArgs sChoice) (defBody sChoice) (defScope sChoice) .none kV doc pm an cdv ct), osl⟩) (c : PySem.W.codeIn K cdv "_law_choice" = true) (k : PySem.W.keepIn K (.ref f) = true) : ∃ f fd, Df K mg "_law_choice" sChoice ["_law_bag_here", "_law_things"] f fd :=
  df_of X G a l c k fun _ _ _ _ _ _ us hl => match us, hl with | [_, _], _ => rfl
theorem mkdLonein (X : K.In h) (G : h.Ns mainGlobals mg) (a : PySem.W.nsIn K mainGlobals "_law_one_in" = some (some (.ref f))) (l : K.lookup f = some ⟨oc, od, .func (PySem.W.fnOf "_law_one_in" "_law_one_in" (defArgs sOneIn) (defBody sOneIn) (defScope sOneIn) .none kV doc pm an cdv ct), osl⟩) (c : PySem.W.codeIn K cdv "_law_one_in" = true) (k : PySem.W.keepIn K (.ref f) = true) : ∃ f fd, Df K mg "_law_one_in" sOneIn ["_law_bag_here", "_law_many"] f fd :=
  df_of X G a l c k fun _ _ _ _ _ _ us hl => match us, hl with | [_, _], _ => rfl
theorem mkdLinteger (X : K.In h) (G : h.Ns mainGlobals mg) (a : PySem.W.nsIn K mainGlobals "_law_integer" = some (some (.ref f))) (l : K.lookup f = some ⟨oc, od, .func (PySem.W.fnOf "_law_integer" "_law_integer" (defArgs sInteger) (defBody sInteger) (defScope sInteger) .none kV doc pm an cdv ct), osl⟩) (c : PySem.W.codeIn K cdv "_law_integer" = true) (k : PySem.W.keepIn K (.ref f) = true) : ∃ f fd, Df K mg "_law_integer" sInteger ["_law_thing"] f fd :=
  df_of X G a l c k fun _ _ _ _ _ _ us hl => match us, hl with | [_], _ => rfl
theorem mkdLletters (X : K.In h) (G : h.Ns mainGlobals mg) (a : PySem.W.nsIn K mainGlobals "_law_letters" = some (some (.ref f))) (l : K.lookup f = some ⟨oc, od, .func (PySem.W.fnOf "_law_letters" "_law_letters" (defArgs sLetters) (defBody sLetters) (defScope sLetters) .none kV doc pm an cdv ct), osl⟩) (c : PySem.W.codeIn K cdv "_law_letters" = true) (k : PySem.W.keepIn K (.ref f) = true) : ∃ f fd, Df K mg "_law_letters" sLetters ["_law_bag_here", "_law_many"] f fd :=
  df_of X G a l c k fun _ _ _ _ _ _ us hl => match us, hl with | [_, _], _ => rfl
theorem mkdLbeneaths (X : K.In h) (G : h.Ns mainGlobals mg) (a : PySem.W.nsIn K mainGlobals "_law_beneaths" = some (some (.ref f))) (l : K.lookup f = some ⟨oc, od, .func (PySem.W.fnOf "_law_beneaths" "_law_beneaths" (defArgs sBeneaths) (defBody sBeneaths) (defScope sBeneaths) .none kV doc pm an cdv ct), osl⟩) (c : PySem.W.codeIn K cdv "_law_beneaths" = true) (k : PySem.W.keepIn K (.ref f) = true) : ∃ f fd, Df K mg "_law_beneaths" sBeneaths ["_law_term"] f fd :=
  df_of X G a l c k fun _ _ _ _ _ _ us hl => match us, hl with | [_], _ => rfl
theorem mkdLreserved (X : K.In h) (G : h.Ns mainGlobals mg) (a : PySem.W.nsIn K mainGlobals "_law_reserved" = some (some (.ref f))) (l : K.lookup f = some ⟨oc, od, .func (PySem.W.fnOf "_law_reserved" "_law_reserved" (defArgs sReserved) (defBody sReserved) (defScope sReserved) .none kV doc pm an cdv ct), osl⟩) (c : PySem.W.codeIn K cdv "_law_reserved" = true) (k : PySem.W.keepIn K (.ref f) = true) : ∃ f fd, Df K mg "_law_reserved" sReserved [] f fd :=
  df_of X G a l c k fun _ _ _ _ _ _ us hl => match us, hl with | [], _ => rfl
theorem mkdLgcd (X : K.In h) (G : h.Ns mainGlobals mg) (a : PySem.W.nsIn K mainGlobals "_law_gcd" = some (some (.ref f))) (l : K.lookup f = some ⟨oc, od, .func (PySem.W.fnOf "_law_gcd" "_law_gcd" (defArgs sGcd) (defBody sGcd) (defScope sGcd) .none kV doc pm an cdv ct), osl⟩) (c : PySem.W.codeIn K cdv "_law_gcd" = true) (k : PySem.W.keepIn K (.ref f) = true) : ∃ f fd, Df K mg "_law_gcd" sGcd ["_law_first", "_law_second"] f fd :=
  df_of X G a l c k fun _ _ _ _ _ _ us hl => match us, hl with | [_, _], _ => rfl
theorem mkdLexact (X : K.In h) (G : h.Ns mainGlobals mg) (a : PySem.W.nsIn K mainGlobals "_law_exact" = some (some (.ref f))) (l : K.lookup f = some ⟨oc, od, .func (PySem.W.fnOf "_law_exact" "_law_exact" (defArgs sExact) (defBody sExact) (defScope sExact) .none kV doc pm an cdv ct), osl⟩) (c : PySem.W.codeIn K cdv "_law_exact" = true) (k : PySem.W.keepIn K (.ref f) = true) : ∃ f fd, Df K mg "_law_exact" sExact ["_law_told", "_law_due"] f fd :=
  df_of X G a l c k fun _ _ _ _ _ _ us hl => match us, hl with | [_, _], _ => rfl
theorem mkdLanyshare (X : K.In h) (G : h.Ns mainGlobals mg) (a : PySem.W.nsIn K mainGlobals "_law_any_share" = some (some (.ref f))) (l : K.lookup f = some ⟨oc, od, .func (PySem.W.fnOf "_law_any_share" "_law_any_share" (defArgs sAnyShare) (defBody sAnyShare) (defScope sAnyShare) .none kV doc pm an cdv ct), osl⟩) (c : PySem.W.codeIn K cdv "_law_any_share" = true) (k : PySem.W.keepIn K (.ref f) = true) : ∃ f fd, Df K mg "_law_any_share" sAnyShare ["_law_bag_here", "_law_stuffs"] f fd :=
  df_of X G a l c k fun _ _ _ _ _ _ us hl => match us, hl with | [_, _], _ => rfl
theorem mkdLsigns (X : K.In h) (G : h.Ns mainGlobals mg) (a : PySem.W.nsIn K mainGlobals "_law_signs" = some (some (.ref f))) (l : K.lookup f = some ⟨oc, od, .func (PySem.W.fnOf "_law_signs" "_law_signs" (defArgs sSigns) (defBody sSigns) (defScope sSigns) .none kV doc pm an cdv ct), osl⟩) (c : PySem.W.codeIn K cdv "_law_signs" = true) (k : PySem.W.keepIn K (.ref f) = true) : ∃ f fd, Df K mg "_law_signs" sSigns ["_law_bag_here", "_law_term", "_law_most"] f fd :=
  df_of X G a l c k fun _ _ _ _ _ _ us hl => match us, hl with | [_, _, _], _ => rfl
theorem mkdLwalk (X : K.In h) (G : h.Ns mainGlobals mg) (a : PySem.W.nsIn K mainGlobals "_law_walk" = some (some (.ref f))) (l : K.lookup f = some ⟨oc, od, .func (PySem.W.fnOf "_law_walk" "_law_walk" (defArgs sWalk) (defBody sWalk) (defScope sWalk) .none kV doc pm an cdv ct), osl⟩) (c : PySem.W.codeIn K cdv "_law_walk" = true) (k : PySem.W.keepIn K (.ref f) = true) : ∃ f fd, Df K mg "_law_walk" sWalk ["_law_term"] f fd :=
  df_of X G a l c k fun _ _ _ _ _ _ us hl => match us, hl with | [_], _ => rfl
theorem mkdLspots (X : K.In h) (G : h.Ns mainGlobals mg) (a : PySem.W.nsIn K mainGlobals "_law_spots" = some (some (.ref f))) (l : K.lookup f = some ⟨oc, od, .func (PySem.W.fnOf "_law_spots" "_law_spots" (defArgs sSpots) (defBody sSpots) (defScope sSpots) .none kV doc pm an cdv ct), osl⟩) (c : PySem.W.codeIn K cdv "_law_spots" = true) (k : PySem.W.keepIn K (.ref f) = true) : ∃ f fd, Df K mg "_law_spots" sSpots ["_law_term"] f fd :=
  df_of X G a l c k fun _ _ _ _ _ _ us hl => match us, hl with | [_], _ => rfl
theorem mkdLthere (X : K.In h) (G : h.Ns mainGlobals mg) (a : PySem.W.nsIn K mainGlobals "_law_there" = some (some (.ref f))) (l : K.lookup f = some ⟨oc, od, .func (PySem.W.fnOf "_law_there" "_law_there" (defArgs sThere) (defBody sThere) (defScope sThere) .none kV doc pm an cdv ct), osl⟩) (c : PySem.W.codeIn K cdv "_law_there" = true) (k : PySem.W.keepIn K (.ref f) = true) : ∃ f fd, Df K mg "_law_there" sThere ["_law_term", "_law_spot"] f fd :=
  df_of X G a l c k fun _ _ _ _ _ _ us hl => match us, hl with | [_, _], _ => rfl
theorem mkdLset (X : K.In h) (G : h.Ns mainGlobals mg) (a : PySem.W.nsIn K mainGlobals "_law_set" = some (some (.ref f))) (l : K.lookup f = some ⟨oc, od, .func (PySem.W.fnOf "_law_set" "_law_set" (defArgs sSet) (defBody sSet) (defScope sSet) .none kV doc pm an cdv ct), osl⟩) (c : PySem.W.codeIn K cdv "_law_set" = true) (k : PySem.W.keepIn K (.ref f) = true) : ∃ f fd, Df K mg "_law_set" sSet ["_law_term", "_law_spot", "_law_new"] f fd :=
  df_of X G a l c k fun _ _ _ _ _ _ us hl => match us, hl with | [_, _, _], _ => rfl
theorem mkdLword (X : K.In h) (G : h.Ns mainGlobals mg) (a : PySem.W.nsIn K mainGlobals "_law_word" = some (some (.ref f))) (l : K.lookup f = some ⟨oc, od, .func (PySem.W.fnOf "_law_word" "_law_word" (defArgs sWord) (defBody sWord) (defScope sWord) .none kV doc pm an cdv ct), osl⟩) (c : PySem.W.codeIn K cdv "_law_word" = true) (k : PySem.W.keepIn K (.ref f) = true) : ∃ f fd, Df K mg "_law_word" sWord ["_law_bag_here"] f fd :=
  df_of X G a l c k fun _ _ _ _ _ _ us hl => match us, hl with | [_], _ => rfl
theorem mkdLtitle (X : K.In h) (G : h.Ns mainGlobals mg) (a : PySem.W.nsIn K mainGlobals "_law_title" = some (some (.ref f))) (l : K.lookup f = some ⟨oc, od, .func (PySem.W.fnOf "_law_title" "_law_title" (defArgs sTitle) (defBody sTitle) (defScope sTitle) .none kV doc pm an cdv ct), osl⟩) (c : PySem.W.codeIn K cdv "_law_title" = true) (k : PySem.W.keepIn K (.ref f) = true) : ∃ f fd, Df K mg "_law_title" sTitle ["_law_bag_here"] f fd :=
  df_of X G a l c k fun _ _ _ _ _ _ us hl => match us, hl with | [_], _ => rfl
theorem mkdLpool (X : K.In h) (G : h.Ns mainGlobals mg) (a : PySem.W.nsIn K mainGlobals "_law_pool" = some (some (.ref f))) (l : K.lookup f = some ⟨oc, od, .func (PySem.W.fnOf "_law_pool" "_law_pool" (defArgs sPool) (defBody sPool) (defScope sPool) .none kV doc pm an cdv ct), osl⟩) (c : PySem.W.codeIn K cdv "_law_pool" = true) (k : PySem.W.keepIn K (.ref f) = true) : ∃ f fd, Df K mg "_law_pool" sPool ["_law_bag_here"] f fd :=
  df_of X G a l c k fun _ _ _ _ _ _ us hl => match us, hl with | [_], _ => rfl
theorem mkdLfreeatom (X : K.In h) (G : h.Ns mainGlobals mg) (a : PySem.W.nsIn K mainGlobals "_law_free_atom" = some (some (.ref f))) (l : K.lookup f = some ⟨oc, od, .func (PySem.W.fnOf "_law_free_atom" "_law_free_atom" (defArgs sFreeAtom) (defBody sFreeAtom) (defScope sFreeAtom) .none kV doc pm an cdv ct), osl⟩) (c : PySem.W.codeIn K cdv "_law_free_atom" = true) (k : PySem.W.keepIn K (.ref f) = true) : ∃ f fd, Df K mg "_law_free_atom" sFreeAtom ["_law_bag_here", "_law_pool_here"] f fd :=
  df_of X G a l c k fun _ _ _ _ _ _ us hl => match us, hl with | [_, _], _ => rfl
theorem mkdLfreeterm (X : K.In h) (G : h.Ns mainGlobals mg) (a : PySem.W.nsIn K mainGlobals "_law_free_term" = some (some (.ref f))) (l : K.lookup f = some ⟨oc, od, .func (PySem.W.fnOf "_law_free_term" "_law_free_term" (defArgs sFreeTerm) (defBody sFreeTerm) (defScope sFreeTerm) .none kV doc pm an cdv ct), osl⟩) (c : PySem.W.codeIn K cdv "_law_free_term" = true) (k : PySem.W.keepIn K (.ref f) = true) : ∃ f fd, Df K mg "_law_free_term" sFreeTerm ["_law_bag_here", "_law_pool_here", "_law_depth"] f fd :=
  df_of X G a l c k fun _ _ _ _ _ _ us hl => match us, hl with | [_, _, _], _ => rfl
theorem mkdLoddleaf (X : K.In h) (G : h.Ns mainGlobals mg) (a : PySem.W.nsIn K mainGlobals "_law_odd_leaf" = some (some (.ref f))) (l : K.lookup f = some ⟨oc, od, .func (PySem.W.fnOf "_law_odd_leaf" "_law_odd_leaf" (defArgs sOddLeaf) (defBody sOddLeaf) (defScope sOddLeaf) .none kV doc pm an cdv ct), osl⟩) (c : PySem.W.codeIn K cdv "_law_odd_leaf" = true) (k : PySem.W.keepIn K (.ref f) = true) : ∃ f fd, Df K mg "_law_odd_leaf" sOddLeaf ["_law_bag_here", "_law_word_here"] f fd :=
  df_of X G a l c k fun _ _ _ _ _ _ us hl => match us, hl with | [_, _], _ => rfl
theorem mkdLodd (X : K.In h) (G : h.Ns mainGlobals mg) (a : PySem.W.nsIn K mainGlobals "_law_odd" = some (some (.ref f))) (l : K.lookup f = some ⟨oc, od, .func (PySem.W.fnOf "_law_odd" "_law_odd" (defArgs sOdd) (defBody sOdd) (defScope sOdd) .none kV doc pm an cdv ct), osl⟩) (c : PySem.W.codeIn K cdv "_law_odd" = true) (k : PySem.W.keepIn K (.ref f) = true) : ∃ f fd, Df K mg "_law_odd" sOdd ["_law_bag_here", "_law_word_here", "_law_inner"] f fd :=
  df_of X G a l c k fun _ _ _ _ _ _ us hl => match us, hl with | [_, _, _], _ => rfl
theorem mkdLbuilt (X : K.In h) (G : h.Ns mainGlobals mg) (a : PySem.W.nsIn K mainGlobals "_law_built" = some (some (.ref f))) (l : K.lookup f = some ⟨oc, od, .func (PySem.W.fnOf "_law_built" "_law_built" (defArgs sBuilt) (defBody sBuilt) (defScope sBuilt) .none kV doc pm an cdv ct), osl⟩) (c : PySem.W.codeIn K cdv "_law_built" = true) (k : PySem.W.keepIn K (.ref f) = true) : ∃ f fd, Df K mg "_law_built" sBuilt ["_law_plain"] f fd :=
  df_of X G a l c k fun _ _ _ _ _ _ us hl => match us, hl with | [_], _ => rfl
theorem mkdLlook (X : K.In h) (G : h.Ns mainGlobals mg) (a : PySem.W.nsIn K mainGlobals "_law_look" = some (some (.ref f))) (l : K.lookup f = some ⟨oc, od, .func (PySem.W.fnOf "_law_look" "_law_look" (defArgs sLook) (defBody sLook) (defScope sLook) .none kV doc pm an cdv ct), osl⟩) (c : PySem.W.codeIn K cdv "_law_look" = true) (k : PySem.W.keepIn K (.ref f) = true) : ∃ f fd, Df K mg "_law_look" sLook ["_law_term"] f fd :=
  df_of X G a l c k fun _ _ _ _ _ _ us hl => match us, hl with | [_], _ => rfl
theorem mkdLonce (X : K.In h) (G : h.Ns mainGlobals mg) (a : PySem.W.nsIn K mainGlobals "_law_once" = some (some (.ref f))) (l : K.lookup f = some ⟨oc, od, .func (PySem.W.fnOf "_law_once" "_law_once" (defArgs sLOnce) (defBody sLOnce) (defScope sLOnce) .none kV doc pm an cdv ct), osl⟩) (c : PySem.W.codeIn K cdv "_law_once" = true) (k : PySem.W.keepIn K (.ref f) = true) : ∃ f fd, Df K mg "_law_once" sLOnce ["_law_things"] f fd :=
  df_of X G a l c k fun _ _ _ _ _ _ us hl => match us, hl with | [_], _ => rfl
theorem mkdLright (X : K.In h) (G : h.Ns mainGlobals mg) (a : PySem.W.nsIn K mainGlobals "_law_right" = some (some (.ref f))) (l : K.lookup f = some ⟨oc, od, .func (PySem.W.fnOf "_law_right" "_law_right" (defArgs sRight) (defBody sRight) (defScope sRight) .none kV doc pm an cdv ct), osl⟩) (c : PySem.W.codeIn K cdv "_law_right" = true) (k : PySem.W.keepIn K (.ref f) = true) : ∃ f fd, Df K mg "_law_right" sRight ["_law_plain"] f fd :=
  df_of X G a l c k fun _ _ _ _ _ _ us hl => match us, hl with | [_], _ => rfl
theorem mkdLsame (X : K.In h) (G : h.Ns mainGlobals mg) (a : PySem.W.nsIn K mainGlobals "_law_same" = some (some (.ref f))) (l : K.lookup f = some ⟨oc, od, .func (PySem.W.fnOf "_law_same" "_law_same" (defArgs sSame) (defBody sSame) (defScope sSame) .none kV doc pm an cdv ct), osl⟩) (c : PySem.W.codeIn K cdv "_law_same" = true) (k : PySem.W.keepIn K (.ref f) = true) : ∃ f fd, Df K mg "_law_same" sSame ["_law_told", "_law_due"] f fd :=
  df_of X G a l c k fun _ _ _ _ _ _ us hl => match us, hl with | [_, _], _ => rfl
theorem mkdLrefused (X : K.In h) (G : h.Ns mainGlobals mg) (a : PySem.W.nsIn K mainGlobals "_law_refused" = some (some (.ref f))) (l : K.lookup f = some ⟨oc, od, .func (PySem.W.fnOf "_law_refused" "_law_refused" (defArgs sRefused) (defBody sRefused) (defScope sRefused) .none kV doc pm an cdv ct), osl⟩) (c : PySem.W.codeIn K cdv "_law_refused" = true) (k : PySem.W.keepIn K (.ref f) = true) : ∃ f fd, Df K mg "_law_refused" sRefused ["_law_bag_here", "_law_pool_here", "_law_plain"] f fd :=
  df_of X G a l c k fun _ _ _ _ _ _ us hl => match us, hl with | [_, _, _], _ => rfl
theorem mkdlaw (X : K.In h) (G : h.Ns mainGlobals mg) (a : PySem.W.nsIn K mainGlobals "law" = some (some (.ref f))) (l : K.lookup f = some ⟨oc, od, .func (PySem.W.fnOf "law" "law" (defArgs sLaw) (defBody sLaw) (defScope sLaw) .none kV doc pm an cdv ct), osl⟩) (c : PySem.W.codeIn K cdv "law" = true) (k : PySem.W.keepIn K (.ref f) = true) : ∃ f fd, Df K mg "law" sLaw ["_law_script"] f fd :=
  df_of X G a l c k fun _ _ _ _ _ _ us hl => match us, hl with | [_], _ => rfl
theorem mksTInit {CT : Addr} (a : PySem.W.findIn K (.ref CT) "__init__" = some (some (.ref f))) (i : PySem.W.isFn K (.ref f) = true) (l : K.lookup f = some ⟨oc, od, .func (PySem.W.fnOf "__init__" "Term.__init__" (defArgs sTInit) (defBody sTInit) (defScope sTInit) .none kV doc pm an cdv ct), osl⟩) (c : PySem.W.codeIn K cdv "Term.__init__" = true) (k : PySem.W.keepIn K (.ref f) = true) :
    ∃ f fd, PySem.W.findIn K (.ref CT) "__init__" = some (some (.ref f)) ∧ PySem.W.isFn K (.ref f) = true ∧ Fun K "__init__" "Term.__init__" sTInit f fd ∧ Binds K fd ["self", "plain"] [] :=
  ⟨f, _, a, i, fun_mk l c k, (fun_mk l c k).binds fun _ _ _ _ _ _ us hl => match us, hl with | [_, _], _ => rfl⟩
theorem mksTEq {CT : Addr} (a : PySem.W.findIn K (.ref CT) "__eq__" = some (some (.ref f))) (i : PySem.W.isFn K (.ref f) = true) (l : K.lookup f = some ⟨oc, od, .func (PySem.W.fnOf "__eq__" "Term.__eq__" (defArgs sTEq) (defBody sTEq) (defScope sTEq) .none kV doc pm an cdv ct), osl⟩) (c : PySem.W.codeIn K cdv "Term.__eq__" = true) (k : PySem.W.keepIn K (.ref f) = true) :
    ∃ f fd, PySem.W.findIn K (.ref CT) "__eq__" = some (some (.ref f)) ∧ PySem.W.isFn K (.ref f) = true ∧ Fun K "__eq__" "Term.__eq__" sTEq f fd ∧ Binds K fd ["self", "other"] [] :=
  ⟨f, _, a, i, fun_mk l c k, (fun_mk l c k).binds fun _ _ _ _ _ _ us hl => match us, hl with | [_, _], _ => rfl⟩
theorem mksTSize {CT p : Addr} (a : PySem.W.findIn K (.ref CT) "size" = some (some (.ref p))) (g : PySem.W.specialIn K (.ref p) "__get__" = some (some (.builtin "property.__get__"))) (t : PySem.W.takesIn K (.ref p) = some true) {rest : List Value} (r : PySem.W.recIn K p "property" = some (.ref f :: rest)) (l : K.lookup f = some ⟨oc, od, .func (PySem.W.fnOf "size" "Term.size" (defArgs sTSize) (defBody sTSize) (defScope sTSize) .none kV doc pm an cdv ct), osl⟩) (c : PySem.W.codeIn K cdv "Term.size" = true) (k : PySem.W.keepIn K (.ref f) = true) :
    ∃ p f fd, PropOf K CT "size" p f ∧ Fun K "size" "Term.size" sTSize f fd ∧ Binds K fd ["self"] [] :=
  ⟨p, f, _, ⟨a, g, t, _, r⟩, fun_mk l c k, (fun_mk l c k).binds fun _ _ _ _ _ _ us hl => match us, hl with | [_], _ => rfl⟩
theorem mksTLook {CT p : Addr} (a : PySem.W.findIn K (.ref CT) "look" = some (some (.ref p))) (g : PySem.W.specialIn K (.ref p) "__get__" = some (some (.builtin "property.__get__"))) (t : PySem.W.takesIn K (.ref p) = some true) {rest : List Value} (r : PySem.W.recIn K p "property" = some (.ref f :: rest)) (l : K.lookup f = some ⟨oc, od, .func (PySem.W.fnOf "look" "Term.look" (defArgs sTLook) (defBody sTLook) (defScope sTLook) .none kV doc pm an cdv ct), osl⟩) (c : PySem.W.codeIn K cdv "Term.look" = true) (k : PySem.W.keepIn K (.ref f) = true) :
    ∃ p f fd, PropOf K CT "look" p f ∧ Fun K "look" "Term.look" sTLook f fd ∧ Binds K fd ["self"] [] :=
  ⟨p, f, _, ⟨a, g, t, _, r⟩, fun_mk l c k, (fun_mk l c k).binds fun _ _ _ _ _ _ us hl => match us, hl with | [_], _ => rfl⟩
theorem mksTNames {CT p : Addr} (a : PySem.W.findIn K (.ref CT) "names" = some (some (.ref p))) (g : PySem.W.specialIn K (.ref p) "__get__" = some (some (.builtin "property.__get__"))) (t : PySem.W.takesIn K (.ref p) = some true) {rest : List Value} (r : PySem.W.recIn K p "property" = some (.ref f :: rest)) (l : K.lookup f = some ⟨oc, od, .func (PySem.W.fnOf "names" "Term.names" (defArgs sTNames) (defBody sTNames) (defScope sTNames) .none kV doc pm an cdv ct), osl⟩) (c : PySem.W.codeIn K cdv "Term.names" = true) (k : PySem.W.keepIn K (.ref f) = true) :
    ∃ p f fd, PropOf K CT "names" p f ∧ Fun K "names" "Term.names" sTNames f fd ∧ Binds K fd ["self"] [] :=
  ⟨p, f, _, ⟨a, g, t, _, r⟩, fun_mk l c k, (fun_mk l c k).binds fun _ _ _ _ _ _ us hl => match us, hl with | [_], _ => rfl⟩
theorem mksTFalls {CT p : Addr} (a : PySem.W.findIn K (.ref CT) "falls" = some (some (.ref p))) (g : PySem.W.specialIn K (.ref p) "__get__" = some (some (.builtin "property.__get__"))) (t : PySem.W.takesIn K (.ref p) = some true) {rest : List Value} (r : PySem.W.recIn K p "property" = some (.ref f :: rest)) (l : K.lookup f = some ⟨oc, od, .func (PySem.W.fnOf "falls" "Term.falls" (defArgs sTFalls) (defBody sTFalls) (defScope sTFalls) .none kV doc pm an cdv ct), osl⟩) (c : PySem.W.codeIn K cdv "Term.falls" = true) (k : PySem.W.keepIn K (.ref f) = true) :
    ∃ p f fd, PropOf K CT "falls" p f ∧ Fun K "falls" "Term.falls" sTFalls f fd ∧ Binds K fd ["self"] [] :=
  ⟨p, f, _, ⟨a, g, t, _, r⟩, fun_mk l c k, (fun_mk l c k).binds fun _ _ _ _ _ _ us hl => match us, hl with | [_], _ => rfl⟩
end
section
variable {K : PySem.W.Frag} {mg : Str → Option Value} {h : Heap} {a : Addr} {dd : Option Addr} {its : Array Value} {n : Nat} {sl : Array (Option Value)}
theorem tup_k {xs : List V} (l : K.lookup a = some ⟨.type "tuple", dd, .seq its n, sl⟩) (z : its.size ≤ sizeLine) (v : Vals xs its.toList) : ∀ H, SqT K H a xs := fun H => .inr ⟨_, its, n, l, rfl, rfl, z, v⟩
theorem vals_of {us : List Value} {zs : List Str} (h : us.map (fun u => match u with | .str z _ => some z | _ => none) = zs.map some) : Vals (zs.map V.str) us := by
  induction us generalizing zs with
  | nil => cases zs with | nil => exact .nil | cons z zs => cases h
  | cons u us ih =>
    cases zs with
    | nil => cases h
    | cons z zs =>
      rw [List.map_cons, List.map_cons] at h
      obtain ⟨h1, h2⟩ := List.cons.inj h
      refine .cons ?_ (ih h2)
      cases u <;> first | (cases h1; done) | (obtain rfl := Option.some.inj h1; exact ⟨_, rfl⟩)
/-- the keys of a dict's entries are those of the table -/
def keysT (es : List DictEntry) : Bool := es.all fun e => match e.key with
  | .str x _ => (arity x).isSome
  | _ => false
theorem miss_of {es : Array DictEntry} (l : K.lookup a = some ⟨.type "dict", none, .dict es n, sl⟩) (hk : keysT es.toList = true) (z : Str) (hz : arity z = none) : PySem.W.nsIn K a z = some none := by
  have h1 : ∀ e ∈ es.toList, e.key.isStr z = false ∧ e.refKey = false := fun e he => by
    have t := List.all_eq_true.mp hk e he
    obtain ⟨eh, ek, ev⟩ := e
    cases ek with
    | str x tk =>
      have t' : (arity x).isSome = true := t
      refine ⟨?_, rfl⟩
      by_cases q : x = z
      · rw [q, hz] at t'; cases t'
      · show (x == z) = false; exact beq_eq_false_iff_ne.mpr q
    | _ => cases t
  have h2 : es.toList.find? (fun e => e.key.isStr z) = none := List.find?_eq_none.mpr fun e he => by rw [(h1 e he).1]; exact Bool.false_ne_true
  have h3 : es.toList.any (fun e => e.refKey) = false := List.any_eq_false.mpr fun e he => by rw [(h1 e he).2]; exact Bool.false_ne_true
  unfold PySem.W.nsIn
  rw [l]
  show (match es.toList.find? (fun e => e.key.isStr z) with | some e => some (some e.val) | none => if es.toList.any (fun e => e.refKey) = true then none else some none) = _
  rw [h2, h3]
  rfl
theorem mk_shapes {w : World} {es : Array DictEntry} (X : K.In h) (G : h.Ns mainGlobals mg) (m : PySem.W.nsIn K mainGlobals "SHAPES" = some (some (.ref a))) (s : (a == sysModules) = false) (l : K.lookup a = some ⟨.type "dict", none, .dict es n, #[]⟩) (k : PySem.W.KeysLit w.params es.toList) (hk : keysT es.toList = true)
    (hit : ∀ z p q, arity z = some (p, q) → ∃ t, PySem.W.nsIn K a z = some (some (.ref t)) ∧ ∀ H, SqT K H t [.int (p : Nat), .int (q : Nat)]) : ∃ a es n, mg "SHAPES" = some (.ref a) ∧ (a == sysModules) = false ∧ K.lookup a = some ⟨.type "dict", none, .dict es n, #[]⟩ ∧ PySem.W.KeysLit w.params es.toList ∧
    (∀ z, arity z = none → PySem.W.nsIn K a z = some none) ∧ ∀ z p q, arity z = some (p, q) → ∃ t, PySem.W.nsIn K a z = some (some (.ref t)) ∧ ∀ H, SqT K H t [.int (p : Nat), .int (q : Nat)] :=
  ⟨a, es, n, PySem.W.mg_of X G m, s, l, k, fun z hz => miss_of l hk z hz, hit⟩
theorem mk_hit {t : Addr} {z : Str} {p q : Nat} (m : PySem.W.nsIn K a z = some (some (.ref t))) (l : K.lookup t = some ⟨.type "tuple", dd, .seq its n, sl⟩) (zz : its.size ≤ sizeLine) (v : Vals [.int (p : Nat), .int (q : Nat)] its.toList) : ∃ t, PySem.W.nsIn K a z = some (some (.ref t)) ∧ ∀ H, SqT K H t [.int (p : Nat), .int (q : Nat)] := ⟨t, m, tup_k l zz v⟩
theorem mk_cls {C : Addr} {nm q : Str} {N : Addr} {bs bm : List Value} {sn : List Str} {sub : List Value} {ab : Bool} {col : Option Bool} {dd : Option Addr} {k0 k1 k2 k3 k5 : Option Value} (l : K.lookup C = some (excClassObj nm q C N bs bm true sn sub ab col dd k0 k1 k2 k3 k5 "ValueError.__new__")) (r : PySem.HandSPX.refsVE bm = true) :
    ∃ nm q N bs bm sn sub ab col dd k0 k1 k2 k3 k5, K.lookup C = some (excClassObj nm q C N bs bm true sn sub ab col dd k0 k1 k2 k3 k5 "ValueError.__new__") ∧ PySem.HandSPX.refsVE bm = true := ⟨nm, q, N, bs, bm, sn, sub, ab, col, dd, k0, k1, k2, k3, k5, l, r⟩
theorem mk_fn {P : Program} {fI C cda cc : Addr} {f qual msg : Str} {oc : Value} {od : Option Addr} {doc pm : Value} {an : Option Addr} {ct : Value} {osl : Array (Option Value)} {p1 p2 a1 a2 a3 a4 a5 a6 a7 a8 a9 b1 b2 b3 b4 : Pos}
    {ccl : Value} {cdd : Option Addr} {vs : Array Value} {ccs : Array (Option Value)} {file : Str} {tf : Tok} {cl : Value} {cld : Option Addr} {csl : Array (Option Value)}
    (l : K.lookup fI = some ⟨oc, od, .func (PySem.W.ksFn "__init__" qual (eA f p1 p2) (eB f msg a1 a2 a3 a4 a5 a6 a7 a8 a9 b1 b2 b3 b4) (eS f) .none .none doc pm an (.ref cda) ct cc), osl⟩) (c : PySem.W.codeIn K (.ref cda) qual = true)
    (k : K.lookup cda = some ⟨ccl, cdd, .fields vs, ccs⟩) (v : vs[2]? = some (.str file tf)) (p : ((P.main.file : Str) == file) = true) (lc : K.lookup cc = some ⟨cl, cld, .cell (some (.ref C)), csl⟩) (e : (a3.endLine == a8.line) = true) :
    ∃ (oc : Value) (od : Option Addr) (doc pm : Value) (an : Option Addr) (cda cc : Addr) (ct : Value) (osl : Array (Option Value)) (p1 p2 a1 a2 a3 a4 a5 a6 a7 a8 a9 b1 b2 b3 b4 : Pos)
    (ccl : Value) (cdd : Option Addr) (vs : Array Value) (ccs : Array (Option Value)) (file : Str) (tf : Tok) (cl : Value) (cld : Option Addr) (csl : Array (Option Value)),
    K.lookup fI = some ⟨oc, od, .func (PySem.W.ksFn "__init__" qual (eA f p1 p2) (eB f msg a1 a2 a3 a4 a5 a6 a7 a8 a9 b1 b2 b3 b4) (eS f) .none .none doc pm an (.ref cda) ct cc), osl⟩ ∧ PySem.W.codeIn K (.ref cda) qual = true ∧
    K.lookup cda = some ⟨ccl, cdd, .fields vs, ccs⟩ ∧ vs[2]? = some (.str file tf) ∧ ((P.main.file : Str) == file) = true ∧ K.lookup cc = some ⟨cl, cld, .cell (some (.ref C)), csl⟩ ∧ (a3.endLine == a8.line) = true :=
  ⟨oc, od, doc, pm, an, cda, cc, ct, osl, p1, p2, a1, a2, a3, a4, a5, a6, a7, a8, a9, b1, b2, b3, b4, ccl, cdd, vs, ccs, file, tf, cl, cld, csl, l, c, k, v, p, lc, e⟩
theorem mk_exm {C D : Addr} (h1 : PySem.W.subIn K (.ref D) (.type "BaseException") = some true) (h2 : PySem.W.isClsIn K D = true) (h3 : PySem.W.typeIn K (.ref D) = some (.type "type")) (h4 : PySem.W.subIn K (.ref C) (.ref D) = some true) : PySem.W.exmOne K (.ref C) (.ref D) = some true := by
  have e1 : (PySem.W.subIn K (.ref D) (.type "BaseException") == some true) = true := by rw [h1] <;> rfl
  have e2 : ((PySem.W.clsIn K D).isSome && PySem.W.typeIn K (.ref D) == some (.type "type")) = true := by
    have h2' : (PySem.W.clsIn K D).isSome = true := h2
    rw [h2', h3] <;> rfl
  show (if (PySem.W.subIn K (.ref D) (.type "BaseException") == some true) = true then (if ((PySem.W.clsIn K D).isSome && PySem.W.typeIn K (.ref D) == some (.type "type")) = true then PySem.W.subIn K (.ref C) (.ref D) else none) else none) = some true
  rw [if_pos e1, if_pos e2]
  exact h4
theorem mk_isC {D : Addr} (y1 : PySem.W.isClsIn K D = true) (y2 : PySem.W.findIn K (.ref D) "__getattribute__" = some (some (.builtin "BaseException.__getattribute__"))) (y3 : PySem.W.findIn K (.ref D) "__getattr__" = some none) (y4 : PySem.W.subIn K (.ref D) (.type "BaseException") = some true)
    (y5 : PySem.W.findIn K (.ref D) "__class__" = some (some (.builtin "object.__class__"))) (y6 : PySem.W.specialIn K (.builtin "object.__class__") "__get__" = some (some (.builtin "getset_descriptor.__get__"))) (y7 : PySem.W.takesIn K (.builtin "object.__class__") = some true) (y8 : PySem.W.mroIn K D (.type "object") = some true) : IsC K D :=
  ⟨y1, y2, y3, y4, y5, y6, y7, y8⟩
end
end K06

namespace K06
open PySem L2 PySem.Spec PyProof.Rows K06X
theorem mk_left {P : Program} {w : World} {K : PySem.W.Frag} {mg : Str → Option Value} {CT CF CB CBF CU fI : Addr} (defs : Defs K mg) (nms : Nms mg) (glb : Glb K mg) (shp : Shp K w mg) (gcd : mg "gcd" = some (.builtin "math.gcd")) (sgn : ∃ aP, mg "PART_SIGNS" = some (.ref aP) ∧ ∀ H, SqT K H aP psV)
    (top : (P.main.scope.names.lookup ("super" : Str)).isSome = false) (td : TermD K mg CT) (er : Errs K mg CF CB CBF CU) (tx : ErrTxt P K mg CB fI "BadTerm" "BadTerm.__init__" "place" "no term at ") : LeftK P w K mg := ⟨defs, nms, glb, shp, gcd, sgn, top, CT, CF, CB, CBF, CU, fI, td, er, tx⟩
end K06
open PySem PySem.W PyProof.Rows
set_option maxRecDepth 100000 in
set_option maxHeartbeats 0 in
theorem PySem.Challenge.cw_fallsunder_k06_bad_terms_holds : PySem.Challenge.rw_fallsunder_k06_bad_terms.Holds := by
  w_on; o_law; k_head; (case hw => w_witness2)
  k_fill
  refine K06.walk (l := PySem.Challenge.rw_fallsunder_k06_bad_terms) rfl rfl rfl (fun w h Y => PySem.W.kIn_of Y) ?F0
  case F0 =>
    intro w mg h KX G
    refine' K06.mk_left ?Q1 ?Q2 ?Q3 ?Q4 ?Q5 ?Q6 ?Q7 ?Q8 ?Q9 ?Q10
    case Q1 =>
      refine' ⟨?disnumber, ?disname, ?disheadingname, ?disshareof, ?dissign, ?dbadterm, ?dbeneathsign, ?dtermnodes, ?donce, ?dnamesin, ?dheadingsin, ?dlookof, ?dLbag, ?dLpick, ?dLchoice, ?dLonein, ?dLinteger, ?dLletters, ?dLbeneaths, ?dLreserved, ?dLgcd, ?dLexact, ?dLanyshare, ?dLsigns, ?dLwalk, ?dLspots, ?dLthere, ?dLset, ?dLword, ?dLtitle, ?dLpool, ?dLfreeatom, ?dLfreeterm, ?dLoddleaf, ?dLodd, ?dLbuilt, ?dLlook, ?dLonce, ?dLright, ?dLsame, ?dLrefused, ?dlaw⟩
      case disnumber => (refine' K06.mkdisnumber KX G ?a ?l ?c ?k; (case a => k_is); (case l => k_is); (case c => k_is); (case k => k_is))
      case disname => (refine' K06.mkdisname KX G ?a ?l ?c ?k; (case a => k_is); (case l => k_is); (case c => k_is); (case k => k_is))
      case disheadingname => (refine' K06.mkdisheadingname KX G ?a ?l ?c ?k; (case a => k_is); (case l => k_is); (case c => k_is); (case k => k_is))
      case disshareof => (refine' K06.mkdisshareof KX G ?a ?l ?c ?k; (case a => k_is); (case l => k_is); (case c => k_is); (case k => k_is))
      case dissign => (refine' K06.mkdissign KX G ?a ?l ?c ?k; (case a => k_is); (case l => k_is); (case c => k_is); (case k => k_is))
      case dbadterm => (refine' K06.mkdbadterm KX G ?a ?l ?c ?k; (case a => k_is); (case l => k_is); (case c => k_is); (case k => k_is))
      case dbeneathsign => (refine' K06.mkdbeneathsign KX G ?a ?l ?c ?k; (case a => k_is); (case l => k_is); (case c => k_is); (case k => k_is))
      case dtermnodes => (refine' K06.mkdtermnodes KX G ?a ?l ?c ?k; (case a => k_is); (case l => k_is); (case c => k_is); (case k => k_is))
      case donce => (refine' K06.mkdonce KX G ?a ?l ?c ?k; (case a => k_is); (case l => k_is); (case c => k_is); (case k => k_is))
      case dnamesin => (refine' K06.mkdnamesin KX G ?a ?l ?c ?k; (case a => k_is); (case l => k_is); (case c => k_is); (case k => k_is))
      case dheadingsin => (refine' K06.mkdheadingsin KX G ?a ?l ?c ?k; (case a => k_is); (case l => k_is); (case c => k_is); (case k => k_is))
      case dlookof => (refine' K06.mkdlookof KX G ?a ?l ?c ?k; (case a => k_is); (case l => k_is); (case c => k_is); (case k => k_is))
      case dLbag => (refine' K06.mkdLbag KX G ?a ?l ?c ?k; (case a => k_is); (case l => k_is); (case c => k_is); (case k => k_is))
      case dLpick => (refine' K06.mkdLpick KX G ?a ?l ?c ?k; (case a => k_is); (case l => k_is); (case c => k_is); (case k => k_is))
      case dLchoice => (refine' K06.mkdLchoice KX G ?a ?l ?c ?k; (case a => k_is); (case l => k_is); (case c => k_is); (case k => k_is))
      case dLonein => (refine' K06.mkdLonein KX G ?a ?l ?c ?k; (case a => k_is); (case l => k_is); (case c => k_is); (case k => k_is))
      case dLinteger => (refine' K06.mkdLinteger KX G ?a ?l ?c ?k; (case a => k_is); (case l => k_is); (case c => k_is); (case k => k_is))
      case dLletters => (refine' K06.mkdLletters KX G ?a ?l ?c ?k; (case a => k_is); (case l => k_is); (case c => k_is); (case k => k_is))
      case dLbeneaths => (refine' K06.mkdLbeneaths KX G ?a ?l ?c ?k; (case a => k_is); (case l => k_is); (case c => k_is); (case k => k_is))
      case dLreserved => (refine' K06.mkdLreserved KX G ?a ?l ?c ?k; (case a => k_is); (case l => k_is); (case c => k_is); (case k => k_is))
      case dLgcd => (refine' K06.mkdLgcd KX G ?a ?l ?c ?k; (case a => k_is); (case l => k_is); (case c => k_is); (case k => k_is))
      case dLexact => (refine' K06.mkdLexact KX G ?a ?l ?c ?k; (case a => k_is); (case l => k_is); (case c => k_is); (case k => k_is))
      case dLanyshare => (refine' K06.mkdLanyshare KX G ?a ?l ?c ?k; (case a => k_is); (case l => k_is); (case c => k_is); (case k => k_is))
      case dLsigns => (refine' K06.mkdLsigns KX G ?a ?l ?c ?k; (case a => k_is); (case l => k_is); (case c => k_is); (case k => k_is))
      case dLwalk => (refine' K06.mkdLwalk KX G ?a ?l ?c ?k; (case a => k_is); (case l => k_is); (case c => k_is); (case k => k_is))
      case dLspots => (refine' K06.mkdLspots KX G ?a ?l ?c ?k; (case a => k_is); (case l => k_is); (case c => k_is); (case k => k_is))
      case dLthere => (refine' K06.mkdLthere KX G ?a ?l ?c ?k; (case a => k_is); (case l => k_is); (case c => k_is); (case k => k_is))
      case dLset => (refine' K06.mkdLset KX G ?a ?l ?c ?k; (case a => k_is); (case l => k_is); (case c => k_is); (case k => k_is))
      case dLword => (refine' K06.mkdLword KX G ?a ?l ?c ?k; (case a => k_is); (case l => k_is); (case c => k_is); (case k => k_is))
      case dLtitle => (refine' K06.mkdLtitle KX G ?a ?l ?c ?k; (case a => k_is); (case l => k_is); (case c => k_is); (case k => k_is))
      case dLpool => (refine' K06.mkdLpool KX G ?a ?l ?c ?k; (case a => k_is); (case l => k_is); (case c => k_is); (case k => k_is))
      case dLfreeatom => (refine' K06.mkdLfreeatom KX G ?a ?l ?c ?k; (case a => k_is); (case l => k_is); (case c => k_is); (case k => k_is))
      case dLfreeterm => (refine' K06.mkdLfreeterm KX G ?a ?l ?c ?k; (case a => k_is); (case l => k_is); (case c => k_is); (case k => k_is))
      case dLoddleaf => (refine' K06.mkdLoddleaf KX G ?a ?l ?c ?k; (case a => k_is); (case l => k_is); (case c => k_is); (case k => k_is))
      case dLodd => (refine' K06.mkdLodd KX G ?a ?l ?c ?k; (case a => k_is); (case l => k_is); (case c => k_is); (case k => k_is))
      case dLbuilt => (refine' K06.mkdLbuilt KX G ?a ?l ?c ?k; (case a => k_is); (case l => k_is); (case c => k_is); (case k => k_is))
      case dLlook => (refine' K06.mkdLlook KX G ?a ?l ?c ?k; (case a => k_is); (case l => k_is); (case c => k_is); (case k => k_is))
      case dLonce => (refine' K06.mkdLonce KX G ?a ?l ?c ?k; (case a => k_is); (case l => k_is); (case c => k_is); (case k => k_is))
      case dLright => (refine' K06.mkdLright KX G ?a ?l ?c ?k; (case a => k_is); (case l => k_is); (case c => k_is); (case k => k_is))
      case dLsame => (refine' K06.mkdLsame KX G ?a ?l ?c ?k; (case a => k_is); (case l => k_is); (case c => k_is); (case k => k_is))
      case dLrefused => (refine' K06.mkdLrefused KX G ?a ?l ?c ?k; (case a => k_is); (case l => k_is); (case c => k_is); (case k => k_is))
      case dlaw => (refine' K06.mkdlaw KX G ?a ?l ?c ?k; (case a => k_is); (case l => k_is); (case c => k_is); (case k => k_is))
    case Q2 =>
      refine' ⟨?nint, ?nlen, ?nisi, ?nbool, ?nstr, ?ntuple, ?nlist, ?nrange, ?nmax, ?nall, ?nsorted, ?nreversed, ?nenumerate⟩
      case nint => (refine' PySem.W.mg_none_of KX G ?z; (case z => k_is))
      case nlen => (refine' PySem.W.mg_none_of KX G ?z; (case z => k_is))
      case nisi => (refine' PySem.W.mg_none_of KX G ?z; (case z => k_is))
      case nbool => (refine' PySem.W.mg_none_of KX G ?z; (case z => k_is))
      case nstr => (refine' PySem.W.mg_none_of KX G ?z; (case z => k_is))
      case ntuple => (refine' PySem.W.mg_none_of KX G ?z; (case z => k_is))
      case nlist => (refine' PySem.W.mg_none_of KX G ?z; (case z => k_is))
      case nrange => (refine' PySem.W.mg_none_of KX G ?z; (case z => k_is))
      case nmax => (refine' PySem.W.mg_none_of KX G ?z; (case z => k_is))
      case nall => (refine' PySem.W.mg_none_of KX G ?z; (case z => k_is))
      case nsorted => (refine' PySem.W.mg_none_of KX G ?z; (case z => k_is))
      case nreversed => (refine' PySem.W.mg_none_of KX G ?z; (case z => k_is))
      case nenumerate => (refine' PySem.W.mg_none_of KX G ?z; (case z => k_is))
    case Q3 =>
      refine' ⟨?letters, ?longest, ?heading, ?bottom, ?parts, ?reserved⟩
      case letters => (refine' ⟨_, PySem.W.mg_of KX G ?a, ?r⟩; (case a => k_is); (case r => exact ⟨_, rfl⟩))
      case longest => (refine' ⟨_, PySem.W.mg_of KX G ?a, ?r⟩; (case a => k_is); (case r => exact ⟨_, rfl⟩))
      case heading => (refine' ⟨_, PySem.W.mg_of KX G ?a, ?r⟩; (case a => k_is); (case r => exact ⟨_, rfl⟩))
      case bottom => (refine' ⟨_, PySem.W.mg_of KX G ?a, ?r⟩; (case a => k_is); (case r => exact ⟨_, rfl⟩))
      case parts => (refine' ⟨_, PySem.W.mg_of KX G ?a, ?r⟩; (case a => k_is); (case r => exact ⟨_, rfl⟩))
      case reserved => (refine' ⟨_, PySem.W.mg_of KX G ?a, K06.tup_k ?l ?z ?v⟩; (case a => k_is); (case l => k_is); (case z => decide); (case v => exact K06.vals_of rfl))
    case Q4 =>
      refine' ⟨?shapes, ?shares⟩
      case shares => (refine' ⟨_, PySem.W.mg_of KX G ?a, K06.tup_k ?l ?z ?v⟩; (case a => k_is); (case l => k_is); (case z => decide); (case v => exact .cons ⟨_, rfl⟩ (.cons ⟨_, rfl⟩ .nil)))
      case shapes =>
        refine' K06.mk_shapes KX G ?a ?s ?l ?k ?m ?hit
        case a => k_is
        case l => k_is
        case s => first | rfl | decide
        case k => k_keys
        case m => first | rfl | decide +kernel
        case hit =>
          intro z p q e
          have hm := K06.arity_mem e
          simp only [K06.arities, List.mem_cons, List.not_mem_nil, or_false, Prod.mk.injEq] at hm
          rcases hm with ⟨rfl, rfl, rfl⟩ | ⟨rfl, rfl, rfl⟩ | ⟨rfl, rfl, rfl⟩ | ⟨rfl, rfl, rfl⟩ | ⟨rfl, rfl, rfl⟩ | ⟨rfl, rfl, rfl⟩ | ⟨rfl, rfl, rfl⟩ | ⟨rfl, rfl, rfl⟩ | ⟨rfl, rfl, rfl⟩ | ⟨rfl, rfl, rfl⟩ | ⟨rfl, rfl, rfl⟩ | ⟨rfl, rfl, rfl⟩ | ⟨rfl, rfl, rfl⟩ | ⟨rfl, rfl, rfl⟩ | ⟨rfl, rfl, rfl⟩
          all_goals (refine' K06.mk_hit ?n ?l ?z ?v; (case n => k_is); (case l => k_is); (case z => decide); (case v => exact .cons ⟨_, rfl⟩ (.cons ⟨_, rfl⟩ .nil)))
    case Q5 =>
      (refine' PySem.W.mg_of KX G ?a; (case a => k_is))
    case Q6 =>
      (refine' ⟨_, PySem.W.mg_of KX G ?a, K06.tup_k ?l ?z ?v⟩; (case a => k_is); (case l => k_is); (case z => decide); (case v => exact .cons ⟨_, rfl⟩ (.cons ⟨_, rfl⟩ (.cons ⟨_, rfl⟩ .nil))))
    case Q7 => first | rfl | decide +kernel
    case Q8 =>
      refine' ⟨?gT, ?tc, ?ti, ?makes, ?kc, ?zinit, ?zeq, ?zsize, ?zlook, ?znames, ?zfalls⟩
      case gT => (refine' PySem.W.mg_of KX G ?a; (case a => k_is))
      case tc => (refine' ⟨⟨?pg, ?hd, ?po, ?sa⟩, ?np, ?ns⟩; (case pg => k_is); (case hd => k_is); (case po => k_is); (case sa => k_is); (case np => (show PySem.W.findIn _ _ _ = _; k_is)); (case ns => (show PySem.W.findIn _ _ _ = _; k_is)))
      case ti => (refine' ⟨?w1, ?w2, ?w3, ?w4, ?w5, ?w6⟩; (case w1 => k_is); (case w2 => k_is); (case w3 => k_is); (case w4 => k_is); (case w5 => kit_is); (case w6 => k_is))
      case makes => k_is
      case kc => k_is
      case zinit => (refine' K06.mksTInit ?a ?i ?l ?c ?k; (case a => k_is); (case i => k_is); (case l => k_is); (case c => k_is); (case k => k_is))
      case zeq => (refine' K06.mksTEq ?a ?i ?l ?c ?k; (case a => k_is); (case i => k_is); (case l => k_is); (case c => k_is); (case k => k_is))
      case zsize => (refine' K06.mksTSize ?a ?g ?t ?r ?l ?c ?k; (case a => k_is); (case g => k_is); (case t => k_is); (case r => k_is); (case l => k_is); (case c => k_is); (case k => k_is))
      case zlook => (refine' K06.mksTLook ?a ?g ?t ?r ?l ?c ?k; (case a => k_is); (case g => k_is); (case t => k_is); (case r => k_is); (case l => k_is); (case c => k_is); (case k => k_is))
      case znames => (refine' K06.mksTNames ?a ?g ?t ?r ?l ?c ?k; (case a => k_is); (case g => k_is); (case t => k_is); (case r => k_is); (case l => k_is); (case c => k_is); (case k => k_is))
      case zfalls => (refine' K06.mksTFalls ?a ?g ?t ?r ?l ?c ?k; (case a => k_is); (case g => k_is); (case t => k_is); (case r => k_is); (case l => k_is); (case c => k_is); (case k => k_is))
    case Q9 =>
      refine' ⟨?gF, ?gB, ?gBF, ?gU, ?gV, ?isB, ?isBF, ?isU, ?isV, ?ex, ?ic⟩
      case gF => (refine' PySem.W.mg_of KX G ?a; (case a => k_is))
      case gB => (refine' PySem.W.mg_of KX G ?a; (case a => k_is))
      case gBF => (refine' PySem.W.mg_of KX G ?a; (case a => k_is))
      case gU => (refine' PySem.W.mg_of KX G ?a; (case a => k_is))
      case gV => (refine' PySem.W.mg_none_of KX G ?z; (case z => k_is))
      case isB => kit_is
      case isBF => kit_is
      case isU => kit_is
      case isV => kit_is
      case ex => (refine' K06.mk_exm ?p1 ?p2 ?p3 ?p4; (case p1 => k_is); (case p2 => k_is); (case p3 => k_is); (case p4 => k_is))
      case ic => (refine' K06.mk_isC ?y1 ?y2 ?y3 ?y4 ?y5 ?y6 ?y7 ?y8; (case y1 => k_is); (case y2 => k_is); (case y3 => k_is); (case y4 => k_is); (case y5 => k_is); (case y6 => k_is); (case y7 => k_is); (case y8 => k_is))
    case Q10 =>
      refine' ⟨?gC, ?cls, ?sa, ?ga, ?gg, ?noN, ?iC, ?tC, ?kC, ?exC, ?tyC, ?hdC, ?te, ?ve, ?su, ?me, ?tp, ?gs, ?fn⟩
      case gC => (refine' PySem.W.mg_of KX G ?a; (case a => k_is))
      case cls => (refine' K06.mk_cls ?l ?r; (case l => k_is); (case r => decide +kernel))
      case sa => k_is
      case ga => k_is
      case gg => k_is
      case noN => k_is
      case iC => k_is
      case tC => k_is
      case kC => k_is
      case exC => k_is
      case tyC => k_is
      case hdC => k_is
      case ve => k_is
      case me => k_is
      case tp => k_is
      case te => (refine' K06.mk_exm ?p1 ?p2 ?p3 ?p4; (case p1 => k_is); (case p2 => k_is); (case p3 => k_is); (case p4 => k_is))
      case su => ks_is
      case gs => (refine' PySem.W.mg_none_of KX G ?z; (case z => k_is))
      case fn => (refine' K06.mk_fn ?fnl ?fnc ?fnk ?fnv ?fnp ?fncc ?fne; (case fnl => k_is); (case fnc => k_is); (case fnk => k_is); (case fnv => rfl); (case fnp => decide +kernel); (case fncc => k_is); (case fne => rfl))
