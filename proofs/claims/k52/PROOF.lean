import PyProof.Rows.All
import Wide.All
import OpenK.AllK
import Wide.FinOn
import HandS.ForMost
import HandS.ForExc
import HandS.Wide
import HandS.Flow
import HandS.IsInst
import HandS.Comp
import HandS.Walk
import HandS.More
import KE.KExcSuper
import HandS.ExcSuper
import HandS.ExcInit
import HandS.TryMany
import HandS.MakeKw
import HandS.Style
import KE.KExcIs
import HandS.MakeKwOnly
import HandS.Codes
import PySem.Challenge.RW_fallsunder_k52_prices
set_option Elab.async false
set_option linter.all false
set_option maxRecDepth 100000
set_option maxHeartbeats 16000000
/-! k06, part a: the law's bag of numbers. -/
namespace K52
open PySem L2
def top (i : Nat) : Stmt := PySem.Challenge.pw_fallsunder_k52_prices.main.body.getD i (.Pass ⟨0, 0, 0, 0⟩)
abbrev sBag : Stmt := top 10
abbrev sPick : Stmt := top 11
abbrev sChoice : Stmt := top 12
abbrev sOneIn : Stmt := top 13
/-! ### the bag's dict -/
def bagK (l : Addr) (a r m c : Int) : List (Key × V) := [(Sum.inr "cells", .ref l), (Sum.inr "at", .int a), (Sum.inr "rest", .int r), (Sum.inr "mixed", .int m), (Sum.inr "count", .int c)]
section
variable (l : Addr) (a r m c x : Int)
theorem bag_cells : valV (bagK l a r m c) (Sum.inr "cells") = some (.ref l) := by rfl
theorem bag_at : valV (bagK l a r m c) (Sum.inr "at") = some (.int a) := by rfl
theorem bag_rest : valV (bagK l a r m c) (Sum.inr "rest") = some (.int r) := by rfl
theorem bag_mixed : valV (bagK l a r m c) (Sum.inr "mixed") = some (.int m) := by rfl
theorem bag_count : valV (bagK l a r m c) (Sum.inr "count") = some (.int c) := by rfl
theorem put_at : putK (bagK l a r m c) (Sum.inr "at") (.int x) = bagK l x r m c := by rfl
theorem put_rest : putK (bagK l a r m c) (Sum.inr "rest") (.int x) = bagK l a x m c := by rfl
theorem put_mixed : putK (bagK l a r m c) (Sum.inr "mixed") (.int x) = bagK l a r x c := by rfl
theorem put_count : putK (bagK l a r m c) (Sum.inr "count") (.int x) = bagK l a r m x := by rfl
end
/-- a bag stands at b -/
def BagL (H : Hp) (b l : Addr) : Prop := ∃ (ns : List Int) (a : Nat) (r m c : Int), H b = some (.dK (bagK l (a : Int) r m c)) ∧ H l = some (.lst (ns.map V.int)) ∧ ns.length ≤ 63
/-- what was tracked, but the bag, is as it was -/
def But (b : Addr) (H H' : Hp) : Prop := ∀ c o, H c = some o → c ≠ b → H' c = some o
theorem But.refl (b : Addr) (H : Hp) : But b H H := fun _ _ h _ => h
theorem But.trans {b : Addr} {H H1 H2 : Hp} (x : But b H H1) (y : But b H1 H2) : But b H H2 := fun c o h n => y c o (x c o h n) n
theorem But.of {b : Addr} {H H' : Hp} (x : Same H H') : But b H H' := fun c o h _ => x c o h
theorem BagL.same {H H' : Hp} {b l : Addr} (x : BagL H b l) (s : Same H H') : BagL H' b l := by
  obtain ⟨ns, a, r, m, c, h1, h2, h3⟩ := x
  exact ⟨ns, a, r, m, c, s _ _ h1, s _ _ h2, h3⟩
theorem bag_small (l : Addr) (a r m c : Int) : (bagK l a r m c).length < sizeLine := small1000 (Nat.le_of_ble_eq_true rfl)
section
variable {H : Hp} {b l : Addr} {a r m c : Int}
theorem dg_cells (h : H b = some (.dK (bagK l a r m c))) : DGet H b (.str "cells") (some (.ref l)) := DGet.k (k := Sum.inr "cells") h
theorem dg_at (h : H b = some (.dK (bagK l a r m c))) : DGet H b (.str "at") (some (.int a)) := DGet.k (k := Sum.inr "at") h
theorem dg_rest (h : H b = some (.dK (bagK l a r m c))) : DGet H b (.str "rest") (some (.int r)) := DGet.k (k := Sum.inr "rest") h
theorem dg_mixed (h : H b = some (.dK (bagK l a r m c))) : DGet H b (.str "mixed") (some (.int m)) := DGet.k (k := Sum.inr "mixed") h
theorem dg_count (h : H b = some (.dK (bagK l a r m c))) : DGet H b (.str "count") (some (.int c)) := DGet.k (k := Sum.inr "count") h
theorem dp_at (x : Int) (h : H b = some (.dK (bagK l a r m c))) : DPut H b (.str "at") (.int x) (upd H b (.dK (bagK l x r m c))) := DPut.k (k := Sum.inr "at") h (bag_small _ _ _ _ _)
theorem dp_rest (x : Int) (h : H b = some (.dK (bagK l a r m c))) : DPut H b (.str "rest") (.int x) (upd H b (.dK (bagK l a x m c))) := DPut.k (k := Sum.inr "rest") h (bag_small _ _ _ _ _)
theorem dp_mixed (x : Int) (h : H b = some (.dK (bagK l a r m c))) : DPut H b (.str "mixed") (.int x) (upd H b (.dK (bagK l a r x c))) := DPut.k (k := Sum.inr "mixed") h (bag_small _ _ _ _ _)
theorem dp_count (x : Int) (h : H b = some (.dK (bagK l a r m c))) : DPut H b (.str "count") (.int x) (upd H b (.dK (bagK l a r m x))) := DPut.k (k := Sum.inr "count") h (bag_small _ _ _ _ _)
end
/-- _law_pick(bag, many): any number from 0 to below many; a bag again -/
def spPick : Sp := fun vs H Q _ => ∃ (b l : Addr) (many : Int), vs = [.ref b, .int many] ∧ 0 < many ∧ many < 1073741824 ∧ BagL H b l ∧
  ∀ (r : Int) (H' : Hp), 0 ≤ r → r < many → BagL H' b l → But b H H' → (∀ c, c ≠ b → H' c = H c) → Q (.int r) H'
section
variable {P : Program} {w : World} {K : PySem.W.Frag} {mg : Str → Option Value} {base : Heap}
theorem scPick : FnScope ["_law_bag_here", "_law_many_here", "_law_number", "_law_cell"] ["_law_bag_here", "_law_many_here"] (defScope sPick) := ⟨rfl, rfl, rfl, by decide +kernel, rfl, by decide +kernel, by decide +kernel⟩
theorem ok_pick {f : Addr} {fd : FuncData} (F : Fun K "_law_pick" "_law_pick" sPick f fd) (mInt : mg "int" = none) (mLen : mg "len" = none) : FnOk P w K mg base CX0 1 f fd ["_law_bag_here", "_law_many_here"] spPick := by
  refine F.ok scPick (fun vs H Q E h => ?_) (fun cdv A outer s H vs Q E hr h => ?_)
  · obtain ⟨b, l, many, rfl, _⟩ := h
    rfl
  · obtain ⟨b, l, many, rfl, hm, hm2, ⟨ns, a, r, m, c, hb, hl, hn⟩, k⟩ := h
    have hu := hu_of hr
    refine ⟨_, pss_cons (ps_dput hu (pv 0) pe_str (pe_op op_add (pe_dget hu (pv 0) pe_str (fun _ _ => rfl)) pe_int) rfl)
      (pss_cons (ps_if (pt_cmpR op_gt (pe_dget hu (pv 0) pe_str (fun _ _ => rfl)) pe_int (nomark _))
        (pss_cons (ps_set (i := 2) scPick.nd rfl (Or.inl rfl) (pe_dget hu (pv 0) pe_str (fun _ _ => rfl)))
        (pss_cons (ps_dput hu (pv 0) pe_str (pe_op op_fdivN (pv 2) (pv 1)) rfl)
        (pss_one (ps_ret (pe_op op_mod (pe_callTy call_int1 (by rfl) mInt (by decide +kernel) (pa_cons (pv 2) pa_nil)) (pv 1)))))) pss_nil)
      (pss_cons (ps_set (i := 3) scPick.nd rfl (Or.inl rfl) pe_int)
      (pss_cons (ps_if (pt_cmpR op_lt (pe_dget hu (pv 0) pe_str (fun _ _ => rfl)) (pe_callB call_len_seq (by rfl) mLen PySem.boot_len (pa_cons (pe_dget hu (pv 0) pe_str (fun _ _ => rfl)) pa_nil)) (nomark _))
        (pss_cons (ps_set (i := 3) scPick.nd rfl (Or.inl rfl) (pe_ix ix_list (pe_dget hu (pv 0) pe_str (fun _ _ => rfl)) (pe_dget hu (pv 0) pe_str (fun _ _ => rfl)) (fun _ _ => rfl)))
        (pss_cons (ps_dput hu (pv 0) pe_str (pe_op op_add (pe_dget hu (pv 0) pe_str (fun _ _ => rfl)) pe_int) rfl)
        (pss_one (ps_if (pt_cmpR op_ge (pv 3) (pe_op op_pow pe_int pe_int) (nomark _))
          (pss_cons (ps_dput hu (pv 0) pe_str (pe_op op_fdivN (pv 3) (pv 1)) rfl)
          (pss_one (ps_ret (pe_op op_mod (pe_callTy call_int1 (by rfl) mInt (by decide +kernel) (pa_cons (pv 3) pa_nil)) (pv 1))))) pss_nil)))) pss_nil)
      (pss_cons (ps_set (i := 2) scPick.nd rfl (Or.inl rfl) (pe_op op_mod (pe_callTy call_int1 (by rfl) mInt (by decide +kernel) (pa_cons (pe_op op_add (pe_op op_add (pe_op op_mul (pv 3) pe_int) (pe_op op_mul (pe_dget hu (pv 0) pe_str (fun _ _ => rfl)) pe_int)) (pe_op op_mul (pe_dget hu (pv 0) pe_str (fun _ _ => rfl)) pe_int)) pa_nil)) pe_int))
      (pss_cons (ps_set (i := 2) scPick.nd rfl (Or.inl rfl) (pe_op op_mod (pe_callTy call_int1 (by rfl) mInt (by decide +kernel) (pa_cons (pe_op op_add (pe_op op_mul (pv 2) pe_int) pe_int) pa_nil)) pe_int))
      (pss_cons (ps_dput hu (pv 0) pe_str (pe_op op_mod (pe_callTy call_int1 (by rfl) mInt (by decide +kernel) (pa_cons (pv 2) pa_nil)) pe_int) rfl)
      (pss_one (ps_ret (pe_op op_mod (pe_callTy call_int1 (by rfl) mInt (by decide +kernel) (pa_cons (pe_op op_fdiv (pv 2) pe_int) pa_nil)) (pv 1)))))))))), ?_⟩
    -- bag['count'] = bag['count'] + 1
    refine ⟨_, rfl, b, _, rfl, dg_count hb, _, _, rfl, rfl, _, rfl, b, _, rfl, dp_count _ hb, ?_⟩
    have nl : l ≠ b := ne_of hl hb (by intro z; cases z)
    have cm : ∀ i j : Int, -(2 ^ 64) < j → j < 2 ^ 64 → CMul i j := fun i j x y => .inr ⟨x, y⟩
    -- if bag['rest'] > 0
    refine ⟨_, rfl, b, _, rfl, dg_rest upd_same, _, _, rfl, rfl, _, rfl, ?_⟩
    refine ite2 (fun hc => ?_) (fun hc => ?_)
    · have hr0 : 0 < r := of_decide_eq_true hc
      -- number = bag['rest']; bag['rest'] = number // many; return int(number) % many
      refine ⟨_, rfl, b, _, rfl, dg_rest upd_same, ?_⟩
      refine ⟨_, rfl, _, rfl, _, _, rfl, rfl, ⟨by omega, by omega⟩, _, rfl, b, _, rfl, dp_rest _ upd_same, ?_⟩
      refine ⟨_, rfl, .inl ⟨_, rfl, _, rfl, _, _, rfl, rfl, hm, ?_⟩⟩
      rw [upd_upd]
      exact k _ _ (Int.emod_nonneg _ (by omega)) (Int.emod_lt_of_pos _ hm) ⟨ns, a, _, m, _, upd_same, by rw [upd_ne nl]; exact hl, hn⟩ (fun c o h n => by rw [upd_ne n]; exact h) fun c n => upd_ne n
    · refine ⟨_, rfl, b, _, rfl, dg_at upd_same, _, rfl, b, _, rfl, dg_cells upd_same, l, _, rfl, .inl (SqL.of (by rw [upd_ne nl]; exact hl)), _, _, rfl, rfl, _, rfl, ?_⟩
      refine ite2 (fun hc => ?_) (fun hc => ?_)
      · have hlt : (a : Int) < ((ns.map V.int).length : Int) := of_decide_eq_true hc
        have hlt' : a < ns.length := by rw [List.length_map] at hlt; omega
        have hat : (ns.map V.int)[a]? = some (V.int ns[a]) := by rw [List.getElem?_map, List.getElem?_eq_getElem hlt']; rfl
        -- cell = bag['cells'][bag['at']]; bag['at'] = bag['at'] + 1
        refine ⟨_, rfl, b, _, rfl, dg_cells upd_same, _, rfl, b, _, rfl, dg_at upd_same, l, _, _, _, rfl, rfl, SqL.of (by rw [upd_ne nl]; exact hl), atI_nat hat, ?_⟩
        refine ⟨_, rfl, b, _, rfl, dg_at upd_same, _, _, rfl, rfl, _, rfl, b, _, rfl, dp_at _ upd_same, ?_⟩
        rw [upd_upd]
        -- if cell >= 10 ** 18
        refine ⟨_, rfl, _, _, rfl, rfl, ⟨by decide, by decide, by decide⟩, _, _, rfl, rfl, _, rfl, ?_⟩
        refine ite2 (fun hc2 => ?_) (fun hc2 => ?_)
        · refine ⟨_, rfl, _, rfl, _, _, rfl, rfl, ⟨by omega, by omega⟩, _, rfl, b, _, rfl, dp_rest _ upd_same, ?_⟩
          refine ⟨_, rfl, .inl ⟨_, rfl, _, rfl, _, _, rfl, rfl, hm, ?_⟩⟩
          rw [upd_upd]
          exact k _ _ (Int.emod_nonneg _ (by omega)) (Int.emod_lt_of_pos _ hm) ⟨ns, a + 1, _, m, _, upd_same, by rw [upd_ne nl]; exact hl, hn⟩ (fun c o h n => by rw [upd_ne n]; exact h) fun c n => upd_ne n
        · refine ⟨_, rfl, _, _, rfl, rfl, cm _ _ (by decide) (by decide), _, rfl, b, _, rfl, dg_mixed upd_same, _, _, rfl, rfl, cm _ _ (by decide) (by decide), _, _, rfl, rfl, ?_⟩
          refine ⟨_, rfl, b, _, rfl, dg_count upd_same, _, _, rfl, rfl, cm _ _ (by decide) (by decide), _, _, rfl, rfl, .inl ⟨_, rfl, _, _, rfl, rfl, (by show (0 : Int) < 2147483647; decide), ?_⟩⟩
          refine ⟨_, rfl, _, _, rfl, rfl, cm _ _ (by decide) (by decide), _, _, rfl, rfl, .inl ⟨_, rfl, _, _, rfl, rfl, (by show (0 : Int) < 2147483647; decide), ?_⟩⟩
          refine ⟨_, rfl, .inl ⟨_, rfl, _, _, rfl, rfl, (by show (0 : Int) < 1000003; decide), _, rfl, b, _, rfl, dp_mixed _ upd_same, ?_⟩⟩
          refine ⟨_, rfl, _, _, rfl, rfl, ⟨by decide, by decide⟩, .inl ⟨_, rfl, _, rfl, _, _, rfl, rfl, hm, ?_⟩⟩
          rw [upd_upd]
          exact k _ _ (Int.emod_nonneg _ (by omega)) (Int.emod_lt_of_pos _ hm) ⟨ns, a + 1, _, _, _, upd_same, by rw [upd_ne nl]; exact hl, hn⟩ (fun c o h n => by rw [upd_ne n]; exact h) fun c n => upd_ne n
      · refine ⟨_, rfl, _, _, rfl, rfl, cm _ _ (by decide) (by decide), _, rfl, b, _, rfl, dg_mixed upd_same, _, _, rfl, rfl, cm _ _ (by decide) (by decide), _, _, rfl, rfl, ?_⟩
        refine ⟨_, rfl, b, _, rfl, dg_count upd_same, _, _, rfl, rfl, cm _ _ (by decide) (by decide), _, _, rfl, rfl, .inl ⟨_, rfl, _, _, rfl, rfl, (by show (0 : Int) < 2147483647; decide), ?_⟩⟩
        refine ⟨_, rfl, _, _, rfl, rfl, cm _ _ (by decide) (by decide), _, _, rfl, rfl, .inl ⟨_, rfl, _, _, rfl, rfl, (by show (0 : Int) < 2147483647; decide), ?_⟩⟩
        refine ⟨_, rfl, .inl ⟨_, rfl, _, _, rfl, rfl, (by show (0 : Int) < 1000003; decide), _, rfl, b, _, rfl, dp_mixed _ upd_same, ?_⟩⟩
        refine ⟨_, rfl, _, _, rfl, rfl, ⟨by decide, by decide⟩, .inl ⟨_, rfl, _, rfl, _, _, rfl, rfl, hm, ?_⟩⟩
        rw [upd_upd]
        exact k _ _ (Int.emod_nonneg _ (by omega)) (Int.emod_lt_of_pos _ hm) ⟨ns, a, _, _, _, upd_same, by rw [upd_ne nl]; exact hl, hn⟩ (fun c o h n => by rw [upd_ne n]; exact h) fun c n => upd_ne n
end
end K52

/-! k06, part b: data made of tuples and lists; numbers or not. -/
namespace K52
open PySem L2
abbrev sIsNum : Stmt := top 1
abbrev sInteger : Stmt := top 14
/-- a short text of signs -/
def Sh (z : Str) : Prop := z.length ≤ 1000 ∧ PyData.strOk z = true
mutual
/-- at v the data d is to be read, all of it tracked -/
inductive Rp (H : Hp) : V → PyData → Prop
  | non : Rp H .non .none
  | bl (b : Bool) : Rp H (.bl b) (.bool b)
  | int (i : Int) : Rp H (.int i) (.int i)
  | str (z : Str) (h : Sh z) : Rp H (.str z) (.str z)
  | lst {a : Addr} {xs : List V} {ds : List PyData} : H a = some (.lst xs) → Rps H xs ds → Rp H (.ref a) (.list ds)
  | tup {a : Addr} {xs : List V} {ds : List PyData} : H a = some (.tup xs) → Rps H xs ds → Rp H (.ref a) (.tuple ds)
inductive Rps (H : Hp) : List V → List PyData → Prop
  | nil : Rps H [] []
  | cons {v : V} {vs : List V} {d : PyData} {ds : List PyData} : Rp H v d → Rps H vs ds → Rps H (v :: vs) (d :: ds)
end
/-- tuples and lists of H stand in H' -/
def Sq (H H' : Hp) : Prop := (∀ a xs, H a = some (.tup xs) → H' a = some (.tup xs)) ∧ ∀ a xs, H a = some (.lst xs) → H' a = some (.lst xs)
mutual
theorem Rp.mono {H H' : Hp} (s : Sq H H') : ∀ {v : V} {d : PyData}, Rp H v d → Rp H' v d
  | _, _, .non => .non
  | _, _, .bl b => .bl b
  | _, _, .int i => .int i
  | _, _, .str z h => .str z h
  | _, _, .lst e r => .lst (s.2 _ _ e) (Rps.mono s r)
  | _, _, .tup e r => .tup (s.1 _ _ e) (Rps.mono s r)
theorem Rps.mono {H H' : Hp} (s : Sq H H') : ∀ {vs : List V} {ds : List PyData}, Rps H vs ds → Rps H' vs ds
  | _, _, .nil => .nil
  | _, _, .cons r rs => .cons (Rp.mono s r) (Rps.mono s rs)
end
mutual
theorem Rp.dp {K : PySem.W.Frag} {H : Hp} : ∀ {v : V} {d : PyData}, Rp H v d → Dp K H v d
  | _, _, .non => .non
  | _, _, .bl b => .bl b
  | _, _, .int i => .int i
  | _, _, .str z _ => .str z
  | _, _, .lst e r => .lst (SqL.of e) (Rps.dp r)
  | _, _, .tup e r => .tup (SqT.of e) (Rps.dp r)
theorem Rps.dp {K : PySem.W.Frag} {H : Hp} : ∀ {vs : List V} {ds : List PyData}, Rps H vs ds → DpAll K H vs ds
  | _, _, .nil => .nil
  | _, _, .cons r rs => .cons (Rp.dp r) (Rps.dp rs)
end
mutual
theorem Rp.lay {H : Hp} : ∀ {v : V} {d : PyData}, Rp H v d → d.canLay0 = true
  | _, _, .non => by simp only [PyData.canLay0]
  | _, _, .bl b => by simp only [PyData.canLay0]
  | _, _, .int i => by simp only [PyData.canLay0]
  | _, _, .str z h => by simp only [PyData.canLay0]; exact h.2
  | _, _, .lst e r => by simp only [PyData.canLay0]; exact Rps.lay r
  | _, _, .tup e r => by simp only [PyData.canLay0]; exact Rps.lay r
theorem Rps.lay {H : Hp} : ∀ {vs : List V} {ds : List PyData}, Rps H vs ds → PyData.canLayAll0 ds = true
  | _, _, .nil => by simp only [PyData.canLayAll0]
  | _, _, .cons r rs => by simp only [PyData.canLayAll0, Rp.lay r, Rps.lay rs, Bool.and_self]
end
theorem Sq.of {H H' : Hp} (s : Same H H') : Sq H H' := ⟨fun a xs e => s a _ e, fun a xs e => s a _ e⟩
theorem Sq.but {b l : Addr} {H H' : Hp} (B : BagL H b l) (s : But b H H') : Sq H H' := by
  obtain ⟨ns, a, r, m, c, hb, _⟩ := B
  exact ⟨fun p xs e => s p _ e (ne_of e hb (by intro z; cases z)), fun p xs e => s p _ e (ne_of e hb (by intro z; cases z))⟩
theorem Sq.trans {H H1 H2 : Hp} (x : Sq H H1) (y : Sq H1 H2) : Sq H H2 := ⟨fun a xs e => y.1 a xs (x.1 a xs e), fun a xs e => y.2 a xs (x.2 a xs e)⟩
theorem Sq.refl (H : Hp) : Sq H H := ⟨fun _ _ e => e, fun _ _ e => e⟩
theorem Rps.length {H : Hp} : ∀ {vs : List V} {ds : List PyData}, Rps H vs ds → vs.length = ds.length
  | _, _, .nil => rfl
  | _, _, .cons _ rs => by rw [List.length_cons, List.length_cons, Rps.length rs]
theorem Rps.get {H : Hp} : ∀ {vs : List V} {ds : List PyData}, Rps H vs ds → ∀ {i : Nat} {d : PyData}, ds[i]? = some d → ∃ v, vs[i]? = some v ∧ Rp H v d
  | _, _, .nil, i, d, h => by cases i <;> cases h
  | _, _, .cons r rs, 0, d, h => by cases h; exact ⟨_, rfl, r⟩
  | _, _, .cons r rs, i + 1, d, h => Rps.get rs h
def dI : PyData → Bool
  | .int _ => true
  | .bool _ => true
  | _ => false
def dB : PyData → Bool
  | .bool _ => true
  | _ => false
def dS : PyData → Bool
  | .str _ => true
  | _ => false
def dT : PyData → Bool
  | .tuple _ => true
  | _ => false
/-- an integer, and no truth -/
def dN : PyData → Bool
  | .int _ => true
  | _ => false
section
variable {K : PySem.W.Frag} {H : Hp} {x : V} {d : PyData}
theorem Rp.kInt (t : Rp H x d) : ∃ v, TyX K H x v ∧ PySem.W.kitOne K v (.type "int") = some (dI d) := by
  cases t with
  | non => exact ⟨_, .base .non, kit_ty (r := false) (by decide +kernel)⟩
  | bl b => exact ⟨_, .base (.bl b), kit_ty (r := true) (by decide +kernel)⟩
  | int i => exact ⟨_, .base (.int i), kit_ty (r := true) (by decide +kernel)⟩
  | str z _ => exact ⟨_, .base (.str z), kit_ty (r := false) (by decide +kernel)⟩
  | lst e _ => exact ⟨_, .base (.lst e), kit_ty (r := false) (by decide +kernel)⟩
  | tup e _ => exact ⟨_, .base (.tup e), kit_ty (r := false) (by decide +kernel)⟩
theorem Rp.kBool (t : Rp H x d) : ∃ v, TyX K H x v ∧ PySem.W.kitOne K v (.type "bool") = some (dB d) := by
  cases t with
  | non => exact ⟨_, .base .non, kit_ty (r := false) (by decide +kernel)⟩
  | bl b => exact ⟨_, .base (.bl b), kit_ty (r := true) (by decide +kernel)⟩
  | int i => exact ⟨_, .base (.int i), kit_ty (r := false) (by decide +kernel)⟩
  | str z _ => exact ⟨_, .base (.str z), kit_ty (r := false) (by decide +kernel)⟩
  | lst e _ => exact ⟨_, .base (.lst e), kit_ty (r := false) (by decide +kernel)⟩
  | tup e _ => exact ⟨_, .base (.tup e), kit_ty (r := false) (by decide +kernel)⟩
theorem Rp.kStr (t : Rp H x d) : ∃ v, TyX K H x v ∧ PySem.W.kitOne K v (.type "str") = some (dS d) := by
  cases t with
  | non => exact ⟨_, .base .non, kit_ty (r := false) (by decide +kernel)⟩
  | bl b => exact ⟨_, .base (.bl b), kit_ty (r := false) (by decide +kernel)⟩
  | int i => exact ⟨_, .base (.int i), kit_ty (r := false) (by decide +kernel)⟩
  | str z _ => exact ⟨_, .base (.str z), kit_ty (r := true) (by decide +kernel)⟩
  | lst e _ => exact ⟨_, .base (.lst e), kit_ty (r := false) (by decide +kernel)⟩
  | tup e _ => exact ⟨_, .base (.tup e), kit_ty (r := false) (by decide +kernel)⟩
theorem Rp.kTup (t : Rp H x d) : ∃ v, TyX K H x v ∧ PySem.W.kitOne K v (.type "tuple") = some (dT d) := by
  cases t with
  | non => exact ⟨_, .base .non, kit_ty (r := false) (by decide +kernel)⟩
  | bl b => exact ⟨_, .base (.bl b), kit_ty (r := false) (by decide +kernel)⟩
  | int i => exact ⟨_, .base (.int i), kit_ty (r := false) (by decide +kernel)⟩
  | str z _ => exact ⟨_, .base (.str z), kit_ty (r := false) (by decide +kernel)⟩
  | lst e _ => exact ⟨_, .base (.lst e), kit_ty (r := false) (by decide +kernel)⟩
  | tup e _ => exact ⟨_, .base (.tup e), kit_ty (r := true) (by decide +kernel)⟩
end
/-- the module's names that the built-ins keep -/
structure Nms (mg : Str → Option Value) : Prop where
  int : mg "int" = none
  len : mg "len" = none
  isi : mg "isinstance" = none
  bool : mg "bool" = none
  str : mg "str" = none
  tuple : mg "tuple" = none
  list : mg "list" = none
  range : mg "range" = none
  max : mg "max" = none
  all : mg "all" = none
  sorted : mg "sorted" = none
  reversed : mg "reversed" = none
  enumerate : mg "enumerate" = none
/-- isinstance(x, int) and not isinstance(x, bool) -/
def spNum : Sp := fun vs H Q _ => ∃ x d, vs = [x] ∧ Rp H x d ∧ Q (.bl (dN d)) H
section
variable {P : Program} {w : World} {K : PySem.W.Frag} {mg : Str → Option Value} {base : Heap}
theorem scIsNum : FnScope ["thing"] ["thing"] (defScope sIsNum) := ⟨rfl, rfl, rfl, by decide +kernel, rfl, by decide +kernel, by decide +kernel⟩
theorem scInteger : FnScope ["_law_thing"] ["_law_thing"] (defScope sInteger) := ⟨rfl, rfl, rfl, by decide +kernel, rfl, by decide +kernel, by decide +kernel⟩
theorem ok_isnum {f : Addr} {fd : FuncData} (F : Fun K "is_number" "is_number" sIsNum f fd) (N : Nms mg) : FnOk P w K mg base CX0 1 f fd ["thing"] spNum := by
  refine F.ok scIsNum (fun vs H Q E h => ?_) (fun cdv A outer s H vs Q E hr h => ?_)
  · obtain ⟨x, d, rfl, _⟩ := h
    rfl
  · obtain ⟨x, d, rfl, t, k⟩ := h
    refine ⟨_, pss_one (ps_ret (pe_and (pe_callB call_isi (by rfl) N.isi (by decide +kernel) (pa_cons (pv 0) (pa_cons (pe_bltn (v := .ty "int") (by rfl) N.int (by decide +kernel) rfl) pa_nil)))
      (pe_one (pe_not (pe_callB call_isi (by rfl) N.isi (by decide +kernel) (pa_cons (pv 0) (pa_cons (pe_bltn (v := .ty "bool") (by rfl) N.bool (by decide +kernel) rfl) pa_nil))))))), ?_⟩
    obtain ⟨v1, ty1, k1⟩ := t.kInt (K := K)
    obtain ⟨v2, ty2, k2⟩ := t.kBool (K := K)
    refine ⟨_, rfl, _, _, v1, _, _, rfl, .ty _, ty1, k1, _, rfl, ?_⟩
    cases e : dI d with
    | true =>
      refine iteT ?_
      refine ⟨_, rfl, _, _, v2, _, _, rfl, .ty _, ty2, k2, _, rfl, ?_⟩
      cases d <;> first | exact k | (cases e)
    | false =>
      refine iteF ?_
      cases d <;> first | exact k | (cases e)
theorem ok_integer {f : Addr} {fd : FuncData} (F : Fun K "_law_integer" "_law_integer" sInteger f fd) (N : Nms mg) : FnOk P w K mg base CX0 1 f fd ["_law_thing"] spNum := by
  refine F.ok scInteger (fun vs H Q E h => ?_) (fun cdv A outer s H vs Q E hr h => ?_)
  · obtain ⟨x, d, rfl, _⟩ := h
    rfl
  · obtain ⟨x, d, rfl, t, k⟩ := h
    refine ⟨_, pss_one (ps_ret (pe_and (pe_callB call_isi (by rfl) N.isi (by decide +kernel) (pa_cons (pv 0) (pa_cons (pe_bltn (v := .ty "int") (by rfl) N.int (by decide +kernel) rfl) pa_nil)))
      (pe_one (pe_not (pe_callB call_isi (by rfl) N.isi (by decide +kernel) (pa_cons (pv 0) (pa_cons (pe_bltn (v := .ty "bool") (by rfl) N.bool (by decide +kernel) rfl) pa_nil))))))), ?_⟩
    obtain ⟨v1, ty1, k1⟩ := t.kInt (K := K)
    obtain ⟨v2, ty2, k2⟩ := t.kBool (K := K)
    refine ⟨_, rfl, _, _, v1, _, _, rfl, .ty _, ty1, k1, _, rfl, ?_⟩
    cases e : dI d with
    | true =>
      refine iteT ?_
      refine ⟨_, rfl, _, _, v2, _, _, rfl, .ty _, ty2, k2, _, rfl, ?_⟩
      cases d <;> first | exact k | (cases e)
    | false =>
      refine iteF ?_
      cases d <;> first | exact k | (cases e)
end
end K52

/-! k06, part c: the bag made, choices. -/
namespace K52
open PySem L2
/-- _law_bag(script) -/
def spBag (K : PySem.W.Frag) : Sp := fun vs H Q _ => ∃ (a : Addr) (ns : List Int), vs = [.ref a] ∧ SqL K H a (ns.map V.int) ∧ ns.length ≤ 63 ∧ ∀ (b l : Addr) (H' : Hp), H b = none → H l = none → BagL H' b l → Same H H' → Q (.ref b) H'
/-- _law_one_in(bag, many) -/
def spOneIn : Sp := fun vs H Q _ => ∃ (b l : Addr) (many : Int), vs = [.ref b, .int many] ∧ 0 < many ∧ many < 1073741824 ∧ BagL H b l ∧
  ∀ (r : Bool) (H' : Hp), BagL H' b l → But b H H' → (∀ c, c ≠ b → H' c = H c) → Q (.bl r) H'
/-- _law_choice(bag, things): one of them -/
def spChoice (K : PySem.W.Frag) : Sp := fun vs H Q _ => ∃ (b bl l : Addr) (xs : List V), vs = [.ref b, .ref l] ∧ H l = some (.lst xs) ∧ l ≠ b ∧ 0 < xs.length ∧ xs.length < 1000 ∧ BagL H b bl ∧
  ∀ (x : V) (H' : Hp), x ∈ xs → BagL H' b bl → But b H H' → (∀ c, c ≠ b → H' c = H c) → Q x H'
/-- a comprehension without a test -/
theorem yesT {σ : St} {H : Hp} {A B : Hp → Prop} (h : A H) : tYes σ H fun b H3 => if b = true then A H3 else B H3 := by
  show if true = true then A H else B H
  rw [if_pos rfl]
  exact h
section
variable {P : Program} {w : World} {K : PySem.W.Frag} {mg : Str → Option Value} {base : Heap} {C : Addr}
theorem scBag : FnScope ["_law_script", "_law_mixed", "_law_cell"] ["_law_script"] (defScope sBag) := ⟨rfl, rfl, rfl, by decide +kernel, rfl, by decide +kernel, by decide +kernel⟩
theorem scChoice : FnScope ["_law_bag_here", "_law_things"] ["_law_bag_here", "_law_things"] (defScope sChoice) := ⟨rfl, rfl, rfl, by decide +kernel, rfl, by decide +kernel, by decide +kernel⟩
theorem scOneIn : FnScope ["_law_bag_here", "_law_many_here"] ["_law_bag_here", "_law_many_here"] (defScope sOneIn) := ⟨rfl, rfl, rfl, by decide +kernel, rfl, by decide +kernel, by decide +kernel⟩
theorem ok_onein {f fp : Addr} {fd fdp : FuncData} (F : Fun K "_law_one_in" "_law_one_in" sOneIn f fd) (FP : Fun K "_law_pick" "_law_pick" sPick fp fdp) (bP : Binds K fdp ["_law_bag_here", "_law_many_here"] []) (gP : mg "_law_pick" = some (.ref fp)) (N : Nms mg) :
    FnOk P w K mg base CX0 2 f fd ["_law_bag_here", "_law_many_here"] spOneIn := by
  have GP : FnOk P w K mg base CX0 1 fp fdp ["_law_bag_here", "_law_many_here"] spPick := ok_pick FP N.int N.len
  refine F.ok scOneIn (fun vs H Q E h => ?_) (fun cdv A outer s H vs Q E hr h => ?_)
  · obtain ⟨b, l, many, rfl, _⟩ := h
    rfl
  · obtain ⟨b, l, many, rfl, hm, hm2, B, k⟩ := h
    refine ⟨_, pss_one (ps_ret (pe_cmpR op_eq (pe_call GP hr rfl gP FP.kp bP .nil pass0 (pa_cons (pv 0) (pa_cons (pv 1) pa_nil))) pe_int (nomark _))), ?_⟩
    refine ⟨_, rfl, _, rfl, b, l, many, rfl, hm, hm2, B, fun r H' h0 h1 B' bt nw => ?_⟩
    exact ⟨rfl, k _ H' B' bt nw⟩
theorem ok_choice {f fp : Addr} {fd fdp : FuncData} (F : Fun K "_law_choice" "_law_choice" sChoice f fd) (FP : Fun K "_law_pick" "_law_pick" sPick fp fdp) (bP : Binds K fdp ["_law_bag_here", "_law_many_here"] []) (gP : mg "_law_pick" = some (.ref fp)) (N : Nms mg) :
    FnOk P w K mg base CX0 2 f fd ["_law_bag_here", "_law_things"] (spChoice K) := by
  have GP : FnOk P w K mg base CX0 1 fp fdp ["_law_bag_here", "_law_many_here"] spPick := ok_pick FP N.int N.len
  refine F.ok scChoice (fun vs H Q E h => ?_) (fun cdv A outer s H vs Q E hr h => ?_)
  · obtain ⟨b, bl, l, xs, rfl, _⟩ := h
    rfl
  · obtain ⟨b, bl, l, xs, rfl, hl, nl, h0, h1, B, k⟩ := h
    refine ⟨_, pss_one (ps_ret (pe_ix ix_list (pv 1) (pe_call GP hr rfl gP FP.kp bP .nil pass0 (pa_cons (pv 0) (pa_cons (pe_callB call_len_seq (by rfl) N.len PySem.boot_len (pa_cons (pv 1) pa_nil)) pa_nil))) (fun _ _ => rfl))), ?_⟩
    refine ⟨_, rfl, _, rfl, _, rfl, l, xs, rfl, .inl (SqL.of hl), b, bl, (xs.length : Int), rfl, by omega, by omega, B, fun r H' r0 r1 B' bt nw => ?_⟩
    obtain ⟨j, rfl⟩ := Int.eq_ofNat_of_zero_le r0
    have hj : j < xs.length := by omega
    exact ⟨l, xs, _, xs[j], rfl, rfl, SqL.of (bt _ _ hl nl), atI_nat (by rw [List.getElem?_eq_getElem hj]), k _ H' (List.getElem_mem hj) B' bt nw⟩
theorem ok_bag {f : Addr} {fd : FuncData} (F : Fun K "_law_bag" "_law_bag" sBag f fd) (N : Nms mg) : FnOk P w K mg base CX0 1 f fd ["_law_script"] (spBag K) := by
  refine F.ok scBag (fun vs H Q E h => ?_) (fun cdv A outer s H vs Q E hr h => ?_)
  · obtain ⟨a, ns, rfl, _⟩ := h
    rfl
  · obtain ⟨a, ns, rfl, hS, hn, k⟩ := h
    refine ⟨_, pss_cons (ps_set (i := 1) scBag.nd rfl (Or.inl rfl) pe_int)
      (pss_cons (ps_for PassesOwn.never rfl (pi_list (pv 0)) (pg_name (i := 2) scBag.nd rfl (Or.inl rfl))
        (pss_one (ps_set (i := 1) scBag.nd rfl (Or.inl rfl) (pe_op op_mod (pe_callTy call_int1 (by rfl) N.int (by decide +kernel) (pa_cons (pe_op op_add (pe_op op_add (pe_op op_mul (pv 1) pe_int) (pv 2)) pe_int) pa_nil)) pe_int))))
      (pss_one (ps_ret (pe_disp (pps_cons pe_str (pe_lc (own := [("_law_cell", 2)]) (g := gName 2) (tt := tYes) (te := tVar 2) rfl scBag.nd (pi_list (pv 0)) (blkOk_by (N := ["_law_script", "_law_mixed", "_law_cell"]) (sc := defScope sBag) (by decide +kernel)) (fun _ _ _ _ _ => pg_name (i := 2) scBag.nd rfl (Or.inl rfl)) (fun _ _ _ _ _ => pts_nil) (fun _ _ _ _ _ => pv 2))
        (pps_cons pe_str pe_int (pps_cons pe_str pe_int (pps_cons pe_str (pv 1) (pps_cons pe_str pe_int pps_nil))))) (by rfl) (by rfl) (fun z => by cases z) (by decide))))), ?_⟩
    refine ⟨_, rfl, a, rfl, ⟨_, hS⟩, for_list (K := K) (a := a) (xs := ns.map V.int) (fun i σ H' => ∃ (m : Int) (v : Option V), σ = [some (.ref a), some (.int m), v] ∧ H' = H) ⟨7, none, rfl, rfl⟩ (fun i σ H' _ ⟨_, _, _, e⟩ => by rw [e]; exact hS) ?_ ?_⟩
    · rintro i y σ H' hi ⟨m, v, rfl, rfl⟩
      obtain ⟨z, rfl⟩ : ∃ z, y = V.int z := by
        rw [List.getElem?_map] at hi
        cases e : ns[i]? with
        | none => rw [e] at hi; cases hi
        | some z => rw [e] at hi; exact ⟨z, (Option.some.inj hi).symm⟩
      refine ⟨_, rfl, _, _, rfl, rfl, .inr ⟨by decide, by decide⟩, _, rfl, _, _, rfl, rfl, _, _, rfl, rfl, .inl ⟨_, rfl, _, _, rfl, rfl, (by show (0 : Int) < 1000003; decide), ?_⟩⟩
      exact ⟨_, _, rfl, rfl⟩
    · rintro σ H' ⟨m, v, rfl, rfl⟩
      intro p np
      have np' : ∀ q o, H' q = some o → q ≠ p := fun q o e => ne_of_none e np
      have hS' : SqL K (upd H' p (.dK [])) a (ns.map V.int) := by
        rcases hS with (h | ⟨o, h⟩) | h
        · exact .inl (.inl (by rw [upd_ne (np' _ _ h)]; exact h))
        · exact .inl (.inr ⟨o, by rw [upd_ne (np' _ _ h)]; exact h⟩)
        · exact .inr h
      refine ⟨_, rfl, a, rfl, ⟨_, hS'⟩, fun D hD => ?_⟩
      have sD : Same (upd H' p (.dK [])) (upd (upd H' p (.dK [])) D (.lst [])) := fun q o e => by rw [upd_ne (ne_of_none e hD)]; exact e
      refine lc_list (K := K) (a := a) (xs := ns.map V.int) (fun i H2 => Same (upd H' p (.dK [])) H2 ∧ H2 D = some (.lst ((ns.map V.int).take i))) ⟨sD, upd_same⟩ (fun i H2 _ ⟨e, _⟩ => e.seq hS') ?_ ?_
      · rintro i x H2 hi ⟨e, hd⟩
        have hil : i < (ns.map V.int).length := (List.getElem?_eq_some_iff.mp hi).1
        have hx : (ns.map V.int).take (i + 1) = (ns.map V.int).take i ++ [x] := by rw [List.take_add_one, hi]; rfl
        have hD2 : ∀ q o, upd H' p (.dK []) q = some o → q ≠ D := fun q o z => ne_of_none z hD
        refine ⟨rfl, ?_⟩
        refine yesT ?_
        refine ⟨_, rfl, _, hd, ?_, fun q o z => ?_, ?_⟩
        · rw [List.length_take]
          exact small1000 (by rw [List.length_map]; omega)
        · rw [upd_ne (hD2 q o z)]
          exact e q o z
        · rw [hx]
          exact upd_same
      · rintro H2 ⟨e, hd⟩
        rw [List.take_length] at hd
        have hp2 : H2 p = some (.dK []) := e p _ upd_same
        have nD : D ≠ p := fun z => by rw [z, upd_same] at hD; cases hD
        refine ⟨_, rfl, hp2, [(Sum.inr "cells", .ref D), (Sum.inr "at", .int 0), (Sum.inr "rest", .int 0), (Sum.inr "mixed", .int m), (Sum.inr "count", .int 0)], rfl, Nat.le_of_ble_eq_true rfl, ?_⟩
        refine k p D _ np ?_ ⟨ns, 0, 0, m, 0, ?_, ?_, hn⟩ fun q o z => ?_
        · cases e : H' D with
          | none => rfl
          | some u => rw [upd_ne (np' D u e), e] at hD; cases hD
        · exact upd_same
        · rw [upd_ne nD]
          exact hd
        · rw [upd_ne (np' q o z)]
          exact e q o (by rw [upd_ne (np' q o z)]; exact z)
end
end K52

/-! k52, part d: heaps that grow, draws. -/
namespace K52
open PySem L2
theorem same_new {H H1 : Hp} {p : Addr} {o : HO} (s : Same H H1) (n : H1 p = none) : Same H (upd H1 p o) := fun a u e => by
  rw [upd_ne (ne_of_none (s a u e) n)]
  exact s a u e
theorem same_put {H H1 : Hp} {p : Addr} {o : HO} (s : Same H H1) (n : H p = none) : Same H (upd H1 p o) := fun a u e => by
  rw [upd_ne (ne_of_none e n)]
  exact s a u e
theorem Same.rfl' {H : Hp} : Same H H := fun _ _ e => e
/-- a def that stands, with its name -/
structure Df (K : PySem.W.Frag) (mg : Str → Option Value) (name : Str) (st : Stmt) (ps : List Str) (f : Addr) (fd : FuncData) : Prop where
  F : Fun K name name st f fd
  b : Binds K fd ps []
  g : mg name = some (.ref f)
/-- behind draws: a bag again, and what stood but the bag stands -/
structure Dr (b l : Addr) (H H' : Hp) : Prop where
  bag : BagL H' b l
  but : But b H H'
theorem Dr.refl {b l : Addr} {H : Hp} (B : BagL H b l) : Dr b l H H := ⟨B, But.refl b H⟩
theorem Dr.trans {b l : Addr} {H H1 H2 : Hp} (x : Dr b l H H1) (y : Dr b l H1 H2) : Dr b l H H2 := ⟨y.bag, x.but.trans y.but⟩
theorem Dr.new {b l p : Addr} {H H1 : Hp} {o : HO} (x : Dr b l H H1) (n : H1 p = none) : Dr b l H (upd H1 p o) := ⟨x.bag.same (same_new Same.rfl' n), fun c u e nb => by
  have q := x.but c u e nb
  rw [upd_ne (ne_of_none q n)]
  exact q⟩
theorem BagL.ne_b {H : Hp} {b l p : Addr} (B : BagL H b l) (e : H p = none) : p ≠ b := by
  obtain ⟨ns, a, r, m, c, h, _⟩ := B
  intro z
  rw [z, h] at e
  cases e
theorem BagL.ne_l {H : Hp} {b l p : Addr} (B : BagL H b l) (e : H p = none) : p ≠ l := by
  obtain ⟨ns, a, r, m, c, _, h, _⟩ := B
  intro z
  rw [z, h] at e
  cases e
/-- a store to an object that was not there at first and is no part of the bag -/
theorem Dr.put {b l p : Addr} {H H1 : Hp} {o : HO} (x : Dr b l H H1) (n : H p = none) (nb : p ≠ b) (nl : p ≠ l) : Dr b l H (upd H1 p o) := by
  obtain ⟨⟨ns, a, r, m, c, h1, h2, h3⟩, bt⟩ := x
  refine ⟨⟨ns, a, r, m, c, by rw [upd_ne (Ne.symm nb)]; exact h1, by rw [upd_ne (Ne.symm nl)]; exact h2, h3⟩, fun c u e nc => ?_⟩
  rw [upd_ne (fun z => by rw [← z, e] at n; cases n)]
  exact bt c u e nc
/-- what lacks behind draws lacked ahead of them -/
theorem none_but {H H' : Hp} {b l p : Addr} (x : Dr b l H H') (B : BagL H b l) (n : H' p = none) : H p = none := by
  cases e : H p with
  | none => rfl
  | some u =>
    by_cases z : p = b
    · exact absurd z (x.bag.ne_b n)
    · rw [x.but p u e z] at n; cases n
end K52

/-! k06, part x: an own error whose __init__ says super().__init__(f'..{place}') and keeps the place. -/
namespace K52X
open PySem PySem.W PySem.Calls PyProof.Rows PySem.HandSPX
abbrev eA (f : Str) (p1 p2 : Pos) : Arguments := { posonlyargs := [], args := [{ arg := "self", annotation := none, pos := p1 }, { arg := f, annotation := none, pos := p2 }], vararg := none, kwonlyargs := [], kw_defaults := [], kwarg := none, defaults := [] }
abbrev eB (f msg : Str) (a1 a2 a3 a4 a5 a6 a7 a8 a9 b1 b2 b3 b4 : Pos) : List Stmt :=
  [.Expr (.Call (.Attribute (.Call (.Name "super" a1) [] [] a2) "__init__" a3) [.JoinedStr [.Constant (.str msg) 0 a4, .FormattedValue (.Name f a5) (-1) none a6] a7] [] a8) a9,
   .Assign [.Attribute (.Name "self" b1) f b2] (.Name f b3) b4]
abbrev eS (f : Str) : Scope := { kind := .function, names := [("self", .local), (f, .local), ("__class__", .free), ("super", .globalImplicit)], isGenerator := false, isCoroutine := false, more := [] }
/-- what the written part says of such an error's class, at C, and of its __init__, at fI -/
structure ErrTxt (prog : Program) (K : Frag) (mg : Str → Option Value) (C fI : Addr) (cn qual f msg : Str) : Prop where
  gC : mg cn = some (.ref C)
  cls : ∃ nm q N bs bm sn sub ab col dd k0 k1 k2 k3 k5, K.lookup C = some (excClassObj nm q C N bs bm true sn sub ab col dd k0 k1 k2 k3 k5 "ValueError.__new__") ∧ refsVE bm = true
  sa : findIn K (.ref C) "__setattr__" = some (some (.builtin "object.__setattr__"))
  ga : findIn K (.ref C) "__getattribute__" = some (some (.builtin "BaseException.__getattribute__"))
  gg : findIn K (.ref C) "__getattr__" = some none
  noN : findIn K (.ref C) f = some none
  iC : findIn K (.ref C) "__init__" = some (some (.ref fI))
  tC : typeIn K (.ref fI) = some (.type "function")
  kC : keepIn K (.ref C) = true
  exC : subIn K (.ref C) (.type "BaseException") = some true
  tyC : typeIn K (.ref C) = some (.type "type")
  hdC : hasDictIn K C = true
  te : exmOne K (.ref C) (.ref C) = some true
  ve : subIn K (.ref C) (.type "ValueError") = some true
  su : ks_superIn K C C "__init__" = some (some (.builtin "ValueError.__init__"))
  me : mroIn K C (.ref C) = some true
  tp : nsIn K cStatics "thirdparty.any" = some none
  gs : mg "super" = none
  fn : ∃ (oc : Value) (od : Option Addr) (doc pm : Value) (an : Option Addr) (cda cc : Addr) (ct : Value) (osl : Array (Option Value)) (p1 p2 a1 a2 a3 a4 a5 a6 a7 a8 a9 b1 b2 b3 b4 : Pos)
    (ccl : Value) (cdd : Option Addr) (vs : Array Value) (ccs : Array (Option Value)) (file : Str) (tf : Tok) (cl : Value) (cld : Option Addr) (csl : Array (Option Value)),
    K.lookup fI = some ⟨oc, od, .func (ksFn "__init__" qual (eA f p1 p2) (eB f msg a1 a2 a3 a4 a5 a6 a7 a8 a9 b1 b2 b3 b4) (eS f) .none .none doc pm an (.ref cda) ct cc), osl⟩ ∧ codeIn K (.ref cda) qual = true ∧
    K.lookup cda = some ⟨ccl, cdd, .fields vs, ccs⟩ ∧ vs[2]? = some (.str file tf) ∧ ((prog.main.file : Str) == file) = true ∧ K.lookup cc = some ⟨cl, cld, .cell (some (.ref C)), csl⟩ ∧ (a3.endLine == a8.line) = true
/-- the text of v in an f-string has at most n signs, whatever comes to the heap -/
def Rep (prog : Program) (w : World) (n : Nat) (h : Heap) (v : Value) : Prop :=
  ∀ (A : Around) (E : Value → Shared → Prop) (Q : Value → Shared → Prop) (s : Shared), (∀ b o, h.get? b = some o → s.heap.get? b = some o) → A.units + 64 < cLine →
    (∀ (z : Str) (tk : Tok) (t' : Nat), z.length ≤ n → Q (.str z tk) { s with toks := t' }) → wpAny (model prog w) A (formatField v Str.empty) Q E s
theorem Rep.keeps {prog : Program} {w : World} {n : Nat} {h h' : Heap} {v : Value} (r : Rep prog w n h v) (k : ∀ b o, h.get? b = some o → h'.get? b = some o) : Rep prog w n h' v :=
  fun A E Q s ks hu hq => r A E Q s (fun b o e => ks b o (k b o e)) hu hq
theorem mc_eq (env : Env) (o : Expr) (n : Str) (a3 a8 : Pos) (e : Expr) (hp : (a3.endLine == a8.line) = true) (hs : starEach [e] env = [(false, eval e env)]) : eval (.Call (.Attribute o n a3) [e] [] a8) env = (do
      let ov ← attributeBase o n env (eval o env)
      standAt a3.atName
      let (f, first) ← holding [ov] (getMethod ov n (do return (← importBound o env).getD true))
      callWith a8 f first (backTo a8 (starEach [e] env)) []) := by
  have h0 : eval (.Call (.Attribute o n a3) [e] [] a8) env = (do
      let ov ← attributeBase o n env (eval o env)
      standAt a3.atName
      methodCall o n a3 a8 env ov 1 (backTo a8 (starEach [e] env)) []) := by first | rfl | with_unfolding_all rfl
  have few : methodCallForm 1 (backTo a8 (starEach [e] env)) [] = true := by rw [hs]; rfl
  have h1 : ∀ ov, methodCall o n a3 a8 env ov 1 (backTo a8 (starEach [e] env)) [] = (do
      let (f, first) ← holding [ov] (getMethod ov n (do return (← importBound o env).getD true))
      callWith a8 f first (backTo a8 (starEach [e] env)) []) := fun ov => by
    unfold methodCall
    rw [few]
    unfold calleeOf methodCallPos
    simp only [hp, Bool.not_true, Bool.false_or, if_true, pure_bind]
  rw [h0]
  simp only [h1]
section
variable {prog : Program} {w : World} {A : Around} {E : Value → Shared → Prop} {h : Heap} {g : Array GenState} {d : Drawn} {t : Nat} {os : OsState}
variable {nm q : Str} {C N : Addr} {bs bm : List Value} {hdct : Bool} {sn : List Str} {sub : List Value} {ab : Bool} {col : Option Bool} {dd : Option Addr} {k0 k1 k2 k3 k5 : Option Value}
/-- ValueError.__init__ bound to an error, called -/
theorem call_mw {u e t0 : Addr} {rest : List Value} {Q : Value → Shared → Prop}
    (hC : h.get? C = some (excClassObj nm q C N bs bm hdct sn sub ab col dd k0 k1 k2 k3 k5 "ValueError.__new__")) (he : h.get? e = some (excO C t0)) (hu : h.get? u = some (kxs_mw "ValueError.__init__" e)) (hl : rest.length ≤ sizeLine)
    (fin : ∀ h' t1, (∀ b o, b ≠ e → h.get? b = some o → h'.get? b = some o) → h'.get? e = some (excO C t1) → Q .none ⟨h', g, d, t, os⟩) :
    wpAny (model prog w) A (call (.ref u) rest) Q E ⟨h, g, d, t, os⟩ := by
  refine wpAny_call (codeAny_of_tree ?_)
  show wpAny _ A.in1 (callAny (.ref u) ⟨rest, []⟩) _ _ _
  simp only [callAny]
  refine wpAny_bind (wpAny_load hu ?_)
  simp only [kxs_mw, show (Value.type "method-wrapper" == Value.type "method" || Value.type "method-wrapper" == Value.type "builtin_function_or_method" || Value.type "method-wrapper" == Value.type "method-wrapper") = true by decide, if_true]
  refine KFB.if_so (by decide) ?_
  refine wpAny_bind (PySem.ESX.check_bound F.excBase_ValueError hC he rfl ?_)
  refine wpAny_bind (wpAny_pure (wpAny_pure ?_))
  refine ⟨Code.quiet_builtin _ (by decide +kernel), codeAny_builtin F.excBase_ValueError.initEntry ?_⟩
  rw [Around.under_plainId F.excBase_ValueError.init.plain _]
  wp_walk
  refine fin _ h.objs.size (fun b o hb ho => ?_) ?_
  · rw [Heap.get?_update_other _ _ (Ne.symm hb)]
    exact Heap.get?_push_of_some _ ho
  · rw [Heap.get?_update_self _ (Heap.get?_push_of_some _ he) rfl]
    rfl
end
/-- what __init__ leaves of a fresh error at x -/
structure Left (f : Str) (h h' : Heap) (x C dx t1 : Addr) (v : Value) : Prop where
  keep : ∀ b o, b ≠ x → h.get? b = some o → h'.get? b = some o
  obj : h'.get? x = some { cls := .ref C, dict := some dx, data := .fields #[.ref t1, .none, .none, .none, .bool false, .none] }
  big : h.objs.size ≤ dx
  ne : dx ≠ x
  ns : h'.Ns1 dx (fun y => if y = f then some v else none)
theorem noClass (f : Str) : ((f : Str) == ("__class__" : Str)) = true ∨ ((f : Str) == ("__class__" : Str)) = false := by cases (f == ("__class__" : Str)) <;> simp
section
variable {prog : Program} {w : World} {A : Around} {R : Result → Shared → Prop} {s : Shared} {K : Frag} {mg : Str → Option Value} {C fI : Addr} {cn qual f msg : Str}
theorem init_of (T : ErrTxt prog K mg C fI cn qual f msg) (hf1 : (f == ("self" : Str)) = false) (hf2 : (f == ("__class__" : Str)) = false) (hf3 : (f == ("super" : Str)) = false) (hf4 : (f == ("__debug__" : Str)) = false) (hm : msg.length ≤ 1000)
    {x t0 : Addr} {v : Value} (X : K.In s.heap) (G : s.heap.Ns mainGlobals mg) (B : ∃ mb, s.heap.Ns builtinsNs mb ∧ mb "super" = some (.type "super")) (hlim : s.heap.NoLimit)
    (hx : s.heap.get? x = some (excO C t0)) (hnx : K.lookup x = none) (hroom : A.depth < recursionLimit) (hun : ∀ env, (A.deeper env).units + 64 < cLine) (htop : (prog.main.scope.names.lookup ("super" : Str)).isSome = false) (rep : Rep prog w 100000 s.heap v)
    (hbd : ∀ doc pm an cda cc ct p1 p2 body, bindArgs (ksFn "__init__" qual (eA f p1 p2) body (eS f) .none .none doc pm an cda ct cc) ⟨[.ref x, v], []⟩ = pure [(("self" : Str), Value.ref x), (f, v)])
    (hq : ∀ h' d' tk dx t1, Left f s.heap h' x C dx t1 v → R (.ok (.ret .none)) { s with heap := h', drawn := d', toks := tk }) :
    codeAny (model prog w) A (.call (.ref fI) ⟨[.ref x, v], []⟩) R s := by
  obtain ⟨oc, od, doc, pm, an, cda, cc, ct, osl, p1, p2, a1, a2, a3, a4, a5, a6, a7, a8, a9, b1, b2, b3, b4, ccl, cdd, vs, ccs, file, tf, cl, cld, csl, ho, hcd, hcda, hvs, hfile, hcell, hps⟩ := T.fn
  obtain ⟨nm, q, N, bs, bm, sn, sub, ab, col, dd, k0, k1, k2, k3, k5, hC, hbm⟩ := T.cls
  obtain ⟨mb, Bn, hmb⟩ := B
  have hcl : clsIn K C = some { name := nm, bases := bs, mro := .ref C :: bm, ns := N, qualname := q, hasDict := true, slotNames := sn, subclasses := sub, abstract := ab, collection := col, hasDel := false } := by
    unfold clsIn
    rw [hC] <;> rfl
  have lk : (eS f).names.lookup f = some .local := by simp [List.lookup, hf1]
  refine ks_codeAny_call_defAt (fd := ksFn "__init__" qual (eA f p1 p2) (eB f msg a1 a2 a3 a4 a5 a6 a7 a8 a9 b1 b2 b3 b4) (eS f) .none .none doc pm an (.ref cda) ct cc) (body := eB f msg a1 a2 a3 a4 a5 a6 a7 a8 a9 b1 b2 b3 b4)
    (binds := [("self", .ref x), (f, v)]) hroom (X _ _ ho) rfl hlim (codeRec_of X hcd) rfl (BindsTo.of_eq ?_) ?_ ?_ (fun h1 hns kp1 => ?_) rfl rfl rfl
  · exact hbd _ _ _ _ _ _ _ _ _
  · intro y hy
    simp only [List.mem_cons, List.not_mem_nil, or_false] at hy
    rcases hy with rfl | rfl | rfl | rfl <;> simp
  · intro y hy
    simp only [List.mem_cons, List.not_mem_nil, or_false] at hy
    rcases hy with rfl | rfl
    · rfl
    · exact lk
  · have ne0 : (("self" : Str) == f) = false := by
      have z : f ≠ ("self" : Str) := by simpa using hf1
      simpa using fun y => z y.symm
    have vs0 : ([(("self" : Str), Value.ref x), (f, v)].reverse).lookup ("self" : Str) = some (.ref x) := by
      show (match ("self" : Str) == f with | true => some v | false => _) = _
      rw [ne0]
      rfl
    have vf : ([(("self" : Str), Value.ref x), (f, v)].reverse).lookup f = some v := by
      show (match f == f with | true => some v | false => _) = _
      rw [beq_self_eq_true]
    have ne1 : (("__class__" : Str) == f) = false := by
      have z : f ≠ ("__class__" : Str) := by simpa using hf2
      simpa using fun y => z y.symm
    have ne2 : (("super" : Str) == f) = false := by
      have z : f ≠ ("super" : Str) := by simpa using hf3
      simpa using fun y => z y.symm
    have kc : (eS f).names.lookup ("__class__" : Str) = some .free := by
      show (match ("__class__" : Str) == "self" with | true => some NameKind.local | false => match ("__class__" : Str) == f with | true => some NameKind.local | false => _) = _
      rw [ne1]
      rfl
    have kl : (eS f).names.lookup ("super" : Str) = some .globalImplicit := by
      show (match ("super" : Str) == "self" with | true => some NameKind.local | false => match ("super" : Str) == f with | true => some NameKind.local | false => _) = _
      rw [ne2]
      rfl
    let env : Env := ksEnv qual (eS f) s.heap.objs.size fI (.ref cda) cc
    have X1 : K.In h1 := X.keeps kp1
    have hx1 := kp1 _ _ hx
    have xC : x ≠ C := fun z => by
      have e := X _ _ hC
      rw [← z, hx] at e
      cases e
    have hC1 := X1 _ _ hC
    show PySem.wpAt _ (A.deeper env) (.func _ env) (execs (_ :: _) env) _ _ _
    refine ks_wpAt_execs_cons (ks_wpAt_Expr_any (ks_wpAt_MethodCall ?_ (mc_eq env _ _ a3 a8 _ hps rfl)) rfl rfl)
    refine ks_wpAt_super_base (env := env) (oc := ⟨ccl, cdd, .fields vs, ccs⟩) kl kc rfl rfl (X1 _ _ ho) rfl rfl rfl (X1 _ _ hcda) rfl hvs hfile htop ?_
    have G1 : h1.Ns mainGlobals mg := G.keeps kp1
    have B1 : h1.Ns builtinsNs mb := Bn.keeps kp1
    refine ks_loadName_global rfl kl (loadGlobal_builtin (env := env) G1 T.gs B1 hmb ⟨rfl, ?_⟩)
    refine wpAny_loadName_free rfl kc rfl ⟨_, X1 _ _ hcell, rfl⟩ ?_
    refine wpAny_loadName_local rfl rfl hns vs0 ?_
    refine ks_wpAny_isType_cls hC1 rfl ⟨rfl, ?_⟩
    refine ks_wpAny_call_super hC1 rfl hx1 rfl (fun c e => by cases e) (looks_mroIn X1 T.me) (fun h2 e2 kp2 => ?_)
    have X2 : K.In h2 := X1.keeps kp2
    have hx2 := kp2 _ _ hx1
    have I2 : InstAt h2 x (excO C t0) C none := ⟨hx2, rfl, rfl, trivial⟩
    have isVE : Looks (model prog w) h2 (isInstance (.ref x) (.type "ValueError")) true := I2.type.andThen (looks_subIn X2 T.ve)
    have su : alongIn K "__init__" (((Value.ref C :: bm).dropWhile (· != .ref C)).drop 1) = some (some (.builtin "ValueError.__init__")) := by
      have z := T.su
      unfold ks_superIn at z
      rw [hcl] at z
      exact z
    have mro2 : Looks (model prog w) h2 (mroOf (.ref C)) (Value.ref C :: bm) := (looks_clsIn X2 hcl).andThen (f := fun cd => pure cd.mro) .now
    refine kxs_getMethod kxs_ValueError e2 (looks_opaque X2 T.tp) mro2 rfl X2 su isVE xC rfl ?_
    have hu3 : (h2.push (kxs_mw "ValueError.__init__" x)).get? h2.objs.size = some (kxs_mw "ValueError.__init__" x) := Heap.get?_push_at rfl rfl
    have kp3 : ∀ b o, h2.get? b = some o → (h2.push (kxs_mw "ValueError.__init__" x)).get? b = some o := fun b o e => Heap.get?_push_of_some _ e
    show wpAny _ _ (callWith a8 (.ref h2.objs.size) [] ((false, eval _ env) :: backTo a8 (starEach [] env)) []) _ _ _
    refine kxs_callWith (i := "ValueError.__init__") (x := x) rfl (evalArgs_plain (spliced_cons ?_))
    -- f'..{thing!r}'
    refine wpAny_JoinedStr ?_
    have ev0 : evalEach [Expr.Constant (Const.str msg) 0 a4, (Expr.Name f a5).FormattedValue (-1) none a6] env = [eval (.Constant (.str msg) 0 a4) env, eval (.FormattedValue (.Name f a5) (-1) none a6) env] := by first | rfl | simp [evalEach]
    rw [ev0]
    have hns3 := (hns.keeps kp2).keeps kp3
    have len0 : (Str.empty ++ msg).length = msg.length := by
      rw [Str.length_append]
      show 0 + msg.length = _
      omega
    have line : (200000 : Nat) ≤ sizeLine := by rw [sizeLine_eq]; decide
    refine wpAny_Constant_str ⟨msg, _, rfl, by rw [len0]; omega, ?_⟩
    refine wpAny_FormattedValue_plain (PySem.ESX.ldL (env := env) hns3 vf ?_ rfl lk hf4)
    refine rep _ _ _ _ (fun b o e => kp3 _ _ (kp2 _ _ (kp1 _ _ e))) (hun _) (fun z tk t4 hz => ?_)
    have X4 : K.In (h2.push (kxs_mw "ValueError.__init__" x)) := X2.keeps kp3
    have lz : (Str.empty ++ msg ++ z).length ≤ sizeLine := by
      rw [Str.length_append, len0]
      omega
    have hx4 := kp3 _ _ hx2
    · refine ⟨z, _, rfl, lz, lz, spliced_nil ⟨hu3, ?_⟩⟩
      refine call_mw (X4 _ _ hC) hx4 hu3 (by show 1 ≤ sizeLine; omega) (fun h5 t1 kp5 hx5 => ?_)
      have X5 : K.In h5 := fun a o e => kp5 a o (fun y => by rw [y, hnx] at e; cases e) (X4 _ _ e)
      have Lx : s.heap.objs.size ≠ x := Nat.ne_of_gt (Heap.lt_size hx)
      have hns5 : h5.Ns env.locals _ := hns3.at (h' := h5) (fun o e => kp5 _ o Lx e)
      show PySem.wpAt _ _ _ (execs [_] env) _ _ _
      refine ks_wpAt_execs_cons (ks_wpAt_Assign_Attr (wpAt_of_wpAny (PySem.ESX.ldL (env := env) hns5 vf ?_ rfl lk hf4)) rfl)
      refine PySem.ESX.ldL (env := env) hns5 vs0 ?_ rfl rfl
      refine set_plain X5 (ox := excO C t1) (od := none) ⟨hx5, rfl, rfl, trivial⟩ T.sa ?_
      refine exc_osa X5 hx5 hcl (show refsVE (.ref C :: bm) = true from hbm) rfl T.noN (fun h6 tk6 dx kp6 dn dne hx6 hn6 => ?_)
      have lt5 : s.heap.objs.size < h5.objs.size := hns5.lt
      show PySem.wpAt _ _ _ (execs [] env) _ _ _
      refine wpAt_of_wpAny (wpAny_execs_nil ?_)
      exact hq h6 _ tk6 dx t1 ⟨fun b o hb e => kp6 b o hb (kp5 b o hb (kp3 _ _ (kp2 _ _ (kp1 _ _ e)))), hx6, Nat.le_trans (Nat.le_of_lt lt5) dn, dne, hn6⟩
end
end K52X

/-! k06, part y: such an error made, raised, and read. -/
namespace K52X
open PySem PySem.W PySem.Calls PyProof.Rows PySem.HandSPX
/-- a made error -/
structure Made (f : Str) (h h' : Heap) (e C d : Addr) (v : Value) : Prop where
  keep : ∀ b o, h.get? b = some o → h'.get? b = some o
  new : h.objs.size ≤ e
  obj : ∃ oe vs, h'.get? e = some oe ∧ oe.cls = .ref C ∧ oe.dict = some d ∧ oe.data = .fields vs ∧ vs[1]? = some .none
  big : h.objs.size ≤ d
  ne : d ≠ e
  ns : h'.Ns1 d (fun y => if y = f then some v else none)
/-- the names that the law's proof needs of a field's name -/
structure FldOk (f msg : Str) : Prop where
  f1 : (f == ("self" : Str)) = false
  f2 : (f == ("__class__" : Str)) = false
  f3 : (f == ("super" : Str)) = false
  f4 : (f == ("__debug__" : Str)) = false
  m : msg.length ≤ 1000
section
variable {prog : Program} {w : World} {A : Around} {R : Result → Shared → Prop} {s : Shared} {K : Frag} {mg : Str → Option Value} {C fI : Addr} {cn qual f msg : Str}
theorem made_of (T : ErrTxt prog K mg C fI cn qual f msg) (O : FldOk f msg) {v : Value} (X : K.In s.heap) (G : s.heap.Ns mainGlobals mg) (B : ∃ mb, s.heap.Ns builtinsNs mb ∧ mb "super" = some (.type "super")) (hlim : s.heap.NoLimit)
    (hroom : A.depth + 1 < recursionLimit) (hun : ∀ us env, ((A.under (.builtin "type.__call__" ⟨.ref C :: us, []⟩)).deeper env).units + 64 < cLine) (htop : (prog.main.scope.names.lookup ("super" : Str)).isSome = false) (rep : Rep prog w 100000 s.heap v)
    (hbd : ∀ x doc pm an cda cc ct p1 p2 body, bindArgs (ksFn "__init__" qual (eA f p1 p2) body (eS f) .none .none doc pm an cda ct cc) ⟨[.ref x, v], []⟩ = pure [(("self" : Str), Value.ref x), (f, v)])
    (hq : ∀ h' d' tk e d, Made f s.heap h' e C d v → R (.ok (.ret (.ref e))) { s with heap := h', drawn := d', toks := tk }) :
    codeAny (model prog w) A (.call (.ref C) ⟨[v], []⟩) R s := by
  obtain ⟨nm, q, N, bs, bm, sn, sub, ab, col, dd, k0, k1, k2, k3, k5, hC, hbm⟩ := T.cls
  obtain ⟨hp, g, dr, tk, os⟩ := s
  have kp : ∀ b o, hp.get? b = some o → ((hp.push (kdv_tup [v])).push (excO C hp.objs.size)).get? b = some o := fun b o e => Heap.get?_push_of_some _ (Heap.get?_push_of_some _ e)
  have at1 : ((hp.push (kdv_tup [v])).push (excO C hp.objs.size)).get? (hp.objs.size + 1) = some (excO C hp.objs.size) := by heap_get
  have hnx : K.lookup (hp.objs.size + 1) = none := by
    cases e : K.lookup (hp.objs.size + 1) with
    | none => rfl
    | some o =>
      have z : hp.get? (hp.objs.size + 1) = some o := X _ _ e
      exact absurd (Nat.lt_of_succ_lt (Heap.lt_size z)) (Nat.lt_irrefl _)
  obtain ⟨mb, Bn, hmb⟩ := B
  refine call_own F.excBase_ValueError (fun X => refsVE_contains X bm hbm) (X _ _ hC) (looks_findIn X T.iC) (fun self => bind_fn X self T.tC) (by show 1 ≤ sizeLine; rw [sizeLine_eq]; decide) ?_
  refine init_of (s := ⟨(hp.push (kdv_tup [v])).push (excO C hp.objs.size), g, dr, tk, os⟩) T O.f1 O.f2 O.f3 O.f4 O.m (X.keeps kp) (G.keeps kp) ⟨mb, Bn.keeps kp, hmb⟩ (hlim.keeps kp) at1 hnx ?_ (hun _) htop (rep.keeps kp) (hbd _) fun h' d' tk' dx t1 ⟨k', hx, dn, dne, hns⟩ => ?_
  · show A.depth + 1 < recursionLimit
    exact hroom
  · have old : ∀ b o, hp.get? b = some o → h'.get? b = some o := fun b o e => k' b o (Nat.ne_of_lt (Nat.lt_succ_of_lt (Heap.lt_size e))) (kp b o e)
    have z : hp.objs.size + 1 + 1 ≤ dx := by
      first
        | (simpa only [Heap.size_push] using dn)
        | exact dn
        | (have q := dn; rw [Heap.size_push, Heap.size_push] at q; exact q)
    exact ⟨rfl, hq h' d' tk' (hp.objs.size + 1) dx ⟨old, Nat.le_succ _, ⟨_, _, hx, rfl, rfl, rfl, rfl⟩, Nat.le_trans (Nat.le_trans (Nat.le_succ _) (Nat.le_succ _)) z, dne, hns⟩⟩
end
end K52X
namespace K52
open PySem L2 PySem.Spec PyProof.Rows K52X
theorem relO_one {v : V} {v' : Value} (n : Str) (r : RelV v v') (f : Str) : RelO (List.lookup f [(n, v)]) (if f = n then some v' else none) := by
  by_cases hw : f = n
  · subst hw
    rw [if_pos rfl]
    have q : List.lookup f [(f, v)] = some v := by simp [List.lookup]
    rw [q]
    exact r
  · rw [if_neg hw]
    have qw : (f == n) = false := by simpa using hw
    have q2 : List.lookup f [(n, v)] = none := by simp [List.lookup, qw]
    rw [q2]
    trivial
theorem inv_drawn {X : Cx} {pins : List (Addr × Obj)} {σ : L2.St} {H : Hp} {s : Shared} (I : Inv X pins σ H s) (d' : Drawn) : Inv X pins σ H { s with drawn := d' } :=
  ⟨I.ok, I.os, I.bare, I.base, I.loc, I.cell, I.free, I.freeC, I.pin, I.hok, I.len⟩
/-- repr of the value is a text, whatever heap holds H -/
def RepV (P : Program) (w : World) (K : PySem.W.Frag) (H : Hp) (x : V) : Prop := ∀ (h : Heap) (u : Value), HOk P w H h → K.In h → RelV x u → Rep P w 100000 h u
section
variable {X : Cx} {C fI : Addr} {cn qual f msg : Str}
/-- Err(e) -/
def tMkE (P : Program) (w : World) (K : PySem.W.Frag) (C : Addr) (f : Str) (ta : TA) : L2.St → Hp → XK → Prop := fun σ H Q => ta σ H fun vs H1 => ∃ v, vs = [v] ∧ RepV P w K H1 v ∧ ∀ d, H1 d = none → Q (.ref C) (some d) (upd H1 d (.xd [(f, v)]))
theorem pmk_err {a : Expr} {ta : TA} {p pos : Pos} {k : Nat} (T : ErrTxt X.prog X.K X.mg C fI cn qual f msg) (O : FldOk f msg) (hr : Room (k + 2) X.A) (htop : (X.prog.main.scope.names.lookup ("super" : Str)).isSome = false)
    (hbd : ∀ x v doc pm an cda cc ct p1 p2 body, bindArgs (PySem.W.ksFn "__init__" qual (eA f p1 p2) body (eS f) .none .none doc pm an cda ct cc) ⟨[.ref x, v], []⟩ = pure [(("self" : Str), Value.ref x), (f, v)])
    (ha : PA X [a] ta) (hg : Gl X cn) (hdb : (cn == ("__debug__" : Str)) = false)
    (he : starEach (a :: []) X.env = (false, eval a X.env) :: starEach [] X.env := by rfl) (hpl : (backTo pos (starEach [] X.env)).any (·.1) = false := by rfl) :
    PMk X (.Call (.Name cn p) [a] [] pos) (tMkE X.prog X.w X.K C f ta) := by
  intro pins s σ H Q I h
  refine wpAny_Call_Name_kw (ld_glob I hg T.gC ?_ hdb)
  refine PySem.W.callWith_K (h₀ := X.base) I.ok.mod.kin T.kC (thn (ha.run pos pins s σ H _ I h) fun us s1 hh => ?_) he hpl
  obtain ⟨vs, H1, I1, r1, v, ev, rp, q1⟩ := hh
  subst ev
  refine ⟨I1.kIn, ?_⟩
  cases r1 with
  | cons rv rn =>
    rename_i v' us'
    cases rn
    show wpAny _ _ (call (.ref C) [v']) _ _ _
    have hlim := I1.nolimit
    have rep := rp s1.heap v' I1.hok I1.kIn rv
    obtain ⟨mb, Bn, hb⟩ := I1.mod.blt
    have hroom : X.A.depth + 1 < recursionLimit := by have := hr.dp; omega
    have hun : ∀ us env, ((X.A.under (.builtin "type.__call__" ⟨.ref C :: us, []⟩)).deeper env).units + 64 < cLine := fun us env => by
      have z : Room (k + 2) X.A := hr
      have z1 : Room (k + 1) (X.A.under (.builtin "type.__call__" ⟨.ref C :: us, []⟩)) := Room.make z C us []
      exact (Room.deeper z1 env).units
    have G := I1.mod.glob.keeps I1.bk
    have B := Bn.keeps I1.bk
    obtain ⟨hp, g, dr, tk, os⟩ := s1
    refine wpAny_call (made_of T O I1.kIn G ⟨mb, B, (hb _ (by decide)).trans (by decide +kernel)⟩ hlim hroom hun htop rep (fun x => hbd x _) fun h' d' tk' e d M => ?_)
    show MkP X pins σ Q (.ref e) ⟨h', g, d', tk', os⟩
    obtain ⟨oe, fv, hoe, hc, hd, hdat, h1⟩ := M.obj
    have hns := M.ns
    obtain ⟨G', g1, g2⟩ := restrict h' fun b => decide (b ≠ e)
    have gk : ∀ b, b ≠ e → G'.get? b = h'.get? b := fun b hb => g1 b (decide_eq_true hb)
    have ge : G'.get? e = none := g2 e (by simp)
    have old : ∀ b o, hp.get? b = some o → G'.get? b = some o := fun b o q => (gk b (Nat.ne_of_lt (Nat.lt_of_lt_of_le (Heap.lt_size q) M.new))).trans (M.keep b o q)
    have ob : ObjOk X.prog X.w (upd H1 d (.xd [(f, v)])) G' d (.xd [(f, v)]) := ⟨_, hns.at (fun o q => (gk d M.ne).trans q), fun n => relO_one f rv n⟩
    have J0 : Inv X pins σ (upd H1 d (.xd [(f, v)])) ⟨G', g, dr, tk', os⟩ := I1.laid (t' := tk') old M.big ob
    have J : Inv X pins σ (upd H1 d (.xd [(f, v)])) ⟨G', g, d', tk', os⟩ := inv_drawn J0 d'
    refine ⟨e, oe, fv, ⟨G', g, d', tk', os⟩, _, .ref C, some d, rfl, J, fun b o q => ?_, ge, hoe, ⟨hc, hd⟩, hdat, h1, ?_, rfl, I1.bare, raises_own T.exC T.tyC, q1 d (I1.hok.fresh M.big)⟩
    · by_cases hb : b = e
      · have q' : G'.get? b = some o := q
        rw [hb, ge] at q'; cases q'
      · exact (gk b hb).symm.trans q
    · rw [upd_ne (Ne.symm M.ne)]
      exact I1.hok.fresh M.new
/-- raise Err(e) -/
def tRaiseE (P : Program) (w : World) (K : PySem.W.Frag) (C : Addr) (f : Str) (W : WX) (ta : TA) : TS := fun _ σ H => tMkE P w K C f ta σ H fun cls d H' => W cls d σ H'
theorem ps_raiseE {a : Expr} {ta : TA} {W : WX} {p pos pos2 : Pos} {k : Nat} (hc : X.calm = true) (T : ErrTxt X.prog X.K X.mg C fI cn qual f msg) (O : FldOk f msg) (hr : Room (k + 2) X.A) (htop : (X.prog.main.scope.names.lookup ("super" : Str)).isSome = false)
    (hbd : ∀ x v doc pm an cda cc ct p1 p2 body, bindArgs (PySem.W.ksFn "__init__" qual (eA f p1 p2) body (eS f) .none .none doc pm an cda ct cc) ⟨[.ref x, v], []⟩ = pure [(("self" : Str), Value.ref x), (f, v)])
    (tk : Takes X W) (ha : PA X [a] ta) (hg : Gl X cn) (hdb : (cn == ("__debug__" : Str)) = false)
    (he : starEach (a :: []) X.env = (false, eval a X.env) :: starEach [] X.env := by rfl) (hpl : (backTo pos (starEach [] X.env)).any (·.1) = false := by rfl) :
    PS X (.Raise (some (.Call (.Name cn p) [a] [] pos)) none pos2) (tRaiseE X.prog X.w X.K C f W ta) := ps_raise hc tk (pmk_err T O hr htop hbd ha hg hdb he hpl)
/-- err.f, err the error that the suite holds (at a; its class cls, its dict d) -/
def tByE (C : Addr) (f : Str) (a : Addr) (cls : Value) (d : Option Addr) (te : TE) : TE := fun σ H Q => te σ H fun x H1 => x = .ref a ∧ cls = .ref C ∧ ∃ (dd : Addr) (v : V), d = some dd ∧ H1 dd = some (.xd [(f, v)]) ∧ Q v H1
theorem pe_byE {a : Addr} {oe : Obj} {cls : Value} {d : Option Addr} {pn : List (Addr × Obj)} {e : Expr} {te : TE} {pos : Pos} (T : ErrTxt X.prog X.K X.mg C fI cn qual f msg) (hz : Zc cls d oe) (hf : ∃ vs, oe.data = .fields vs) (he : PE (X.suite a ((a, oe) :: pn)) e te)
    (hb : attributeBase e f X.env (eval e X.env) = eval e X.env) :
    PE (X.suite a ((a, oe) :: pn)) (.Attribute e f pos) (tByE C f a cls d te) := by
  refine ⟨fun pins s σ H Q I h => ?_⟩
  refine attr_of hb (thn (he.run pins s σ H _ I h) fun u s1 hh => ?_)
  obtain ⟨x, H1, I1, rx, ex, ec, dd, v, ed, ea, q⟩ := hh
  subst ex
  obtain rfl : u = Value.ref a := rx
  subst ec
  subst ed
  obtain ⟨ha, _⟩ := I1.pin (a, oe) (List.mem_append_left _ List.mem_cons_self)
  obtain ⟨vs, hd⟩ := hf
  have hx : ObjOk X.prog X.w H1 s1.heap dd (.xd [(f, v)]) := I1.hok dd _ ea
  obtain ⟨mA, hns, hr⟩ := hx
  obtain ⟨od, ho, hl⟩ := lookIn_ns hns
  have l : List.lookup f [(f, v)] = some v := by simp [List.lookup]
  obtain ⟨u, hu, ru⟩ := RelO.some_of (v := v) (o := mA f) (by rw [← l]; exact hr f)
  have J : PySem.W.InstAt s1.heap a oe C (some od) := ⟨ha, hz.1, by unfold PySem.W.notCls; rw [hd] <;> rfl, by rw [hz.2]; exact ho⟩
  exact HandSPX.exc_get I1.kIn J T.ga T.gg T.exC (PySem.W.findObj_own T.hdC T.noN rfl (by rw [hl, hu])) (handed_of ru) ⟨v, H1, I1.tok _, ru, q⟩
end
end K52

/-! k02, part h: one of two readings. -/
namespace K52
open PySem L2 PySem.Spec PyProof.Rows K52X
theorem pe_either {X : Cx} {e : Expr} {t u : TE} (h1 : PE X e t) (h2 : PE X e u) : PE X e (fun σ H Q => t σ H Q ∨ u σ H Q) :=
  ⟨fun pins s σ H Q I h => h.elim (h1.run pins s σ H Q I) (h2.run pins s σ H Q I)⟩
theorem pi_either {X : Cx} {tg l : Expr} {t u : TI} (h1 : PI X tg l t) (h2 : PI X tg l u) : PI X tg l (fun σ H R => t σ H R ∨ u σ H R) :=
  ⟨fun pins s σ H R I h => h.elim (h1.run pins s σ H R I) (h2.run pins s σ H R I)⟩
theorem rep_str {P : Program} {w : World} {K : PySem.W.Frag} {H : Hp} {z : Str} (hz : z.length ≤ 1000) : RepV P w K H (.str z) := by
  intro h u _ _ rv
  obtain ⟨t, rfl⟩ := rv
  intro A E Q s _ _ hq
  exact wpAny_formatField_str (hq _ _ s.toks (Nat.le_trans hz (by decide))) (hq _ _ _ (Nat.le_trans hz (by decide))) (Nat.le_trans hz (by decide))
end K52

/-! k52, part t: a try with several clauses, each with a name or without. -/
namespace K52T
open PySem PySem.Spec PyProof.Rows L2
abbrev Suite := Addr → Value → Option Addr → TS
/-- behind the suite the slot of a clause's name is empty -/
def off (i : Option Nat) (D : Ends) : Ends := match i with
  | none => D
  | some j => ⟨fun g G => D.nx (g.set j none) G, D.rt, fun g G => D.bk (g.set j none) G, fun g G => D.ct (g.set j none) G⟩
/-- within the suite the slot holds the error -/
def onn (i : Option Nat) (a : Addr) (g : L2.St) : L2.St := match i with
  | none => g
  | some j => g.set j (some (.ref a))
/-- what the clauses wish of an error, one behind another -/
def wMix (K : PySem.W.Frag) (Wo : WX) (D : Ends) : List (Value × Option Nat × Suite) → WX
  | [] => Wo
  | (c, i, ts) :: r => fun cls d g G => ∃ b, PySem.W.exmOne K cls c = some b ∧ (b = true → ∀ a, G a = none → ts a cls d (off i D) (onn i a g) G) ∧ (b = false → wMix K Wo D r cls d g G)
/-- the suite of a clause by its reading -/
def Reads (X : Cx) (b₀ : Stmt) (su : List Stmt) (ts : Suite) : Prop := ∀ (a : Addr) (oe : Obj) (cls : Value) (d : Option Addr) (pn : List (Addr × Obj)), Zc cls d oe → (∃ vs, oe.data = .fields vs) → PSs (X.suite a ((a, oe) :: pn)) (b₀ :: su) (ts a cls d)
inductive Clauses (X : Cx) : List ExceptHandler → List (Value × Option Nat × Suite) → Prop
  | nil : Clauses X [] []
  | bare {x : Str} {c : Value} {ts : Suite} {b₀ : Stmt} {su : List Stmt} {p1 p2 : Pos} {hd : List ExceptHandler} {l : List (Value × Option Nat × Suite)} (hc : Names X x c) (hr : Reads X b₀ su ts) (r : Clauses X hd l) :
      Clauses X (.ExceptHandler (some (.Name x p1)) none (b₀ :: su) p2 :: hd) ((c, none, ts) :: l)
  | named {x n : Str} {i : Nat} {c : Value} {ts : Suite} {b₀ : Stmt} {su : List Stmt} {p1 p2 : Pos} {hd : List ExceptHandler} {l : List (Value × Option Nat × Suite)} (hc : Names X x c) (hi : X.N[i]? = some n) (hn : X.env.kindOf n = some .local) (hr : Reads X b₀ su ts) (r : Clauses X hd l) :
      Clauses X (.ExceptHandler (some (.Name x p1)) (some n) (b₀ :: su) p2 :: hd) ((c, some i, ts) :: l)
section
variable {X : Cx} {body : List Stmt} {c0 : ExceptHandler} {cs : List ExceptHandler} {l : List (Value × Option Nat × Suite)} {pos : Pos} {tb : WX → TS} {Wo : WX}
theorem ps_try_mix (es : X.stack = X.env :: X.outer) (ef : X.env.frame = some X.env.locals) (nd : X.N.Nodup) (tk : Takes X Wo)
    (hb : ∀ (W : WX) (pn : List (Addr × Obj)) (xe : Value → Shared → Prop), Takes (X.tr pn xe) W → PassesOwn (model X.prog X.w) X.A X.env xe → PSs (X.tr pn xe) body (tb W))
    (hh : Clauses X (c0 :: cs) l) : PS X (.Try body (c0 :: cs) [] [] pos) (fun D g G => tb (wMix X.K Wo D l) D g G) := by
  refine ⟨fun pp s g G D I h => ?_⟩
  have kx := I.ok
  have fr : X.A.frames = some (X.env :: X.outer) := kx.frames.trans (congrArg some es)
  refine wpAny_Try_except (wpAny_mono ((hb (wMix X.K Wo D l) (X.pn ++ pp) (fun e s1 => wpAny (model X.prog X.w) X.A (noteFrame e X.env) (fun _ s2 => wpAny (model X.prog X.w) X.A (setFlight e none) (fun _ s3 =>
    wpAny (model X.prog X.w) X.A (handleBy e X.env (c0 :: cs)) (SP X pp D) X.xe s3) X.xe s2) X.xe s1) (fun u t0 xx => ?_) PassesOwn.looking).run [] s g G D (I.toTry _) h) (fun fl s1 q => ?_) (fun e s1 he => he))
  · obtain ⟨a, B, sI, p9, g1, G1, cls, d, rfl, K9, nb, up, sk, na, os, ag, w⟩ := xx
    have K1 : Inv X pp g1 G1 sI := K9.ofTry kx
    refine Sky.land Zc.steady fr ef (show Sky B (X.env :: X.outer) a (Zc cls d) X.env.locals t0.heap from es ▸ sk) fun h3 f3 u3 => ?_
    have K3 : Inv X pp g1 G1 { t0 with heap := h3 } := K1.landed nb f3.1 (up.trans u3) os ag
    obtain ⟨o3, v3, e3, z3, d3⟩ := f3.there
    have nfr : a ∉ frs (X.env :: X.outer) := fun hm => by
      obtain ⟨_, o', e', hnf⟩ := f3.2.2.1.mem hm
      obtain rfl := Option.some.inj (e3.symm.trans e')
      exact hnf _ d3
    have nL : a ≠ X.env.locals := fun z => nfr (List.mem_filterMap.mpr ⟨X.env, List.mem_cons_self, ef.trans (congrArg some z.symm)⟩)
    have nF : a ∉ X.fs := fun hm => (List.mem_filterMap.mp hm).elim fun e y => nfr (List.mem_filterMap.mpr ⟨e, List.mem_cons_of_mem _ y.1, y.2⟩)
    have S3 := K3.suite e3 d3 na nL nF
    have looks : PySem.W.Looks (model X.prog X.w) h3 (typeOf (.ref a)) cls := fun A Q E s k q => wpAny_typeOf_ref (k _ _ e3) (by rw [z3.1]; exact q)
    have asks : ∀ {x : Str} {c : Value} {p1 : Pos} {Q : Value → Shared → Prop} {E : Value → Shared → Prop}, Names X x c → Q c { t0 with heap := h3 } → wpAny (model X.prog X.w) (X.A.mark (some (.ref a))) (eval (.Name x p1) X.env) Q E { t0 with heap := h3 } := fun {x c p1 Q E} hc q => by
      obtain ⟨h1, h2, h4 | ⟨h4, h5, h6⟩⟩ := hc
      · exact ld_glob (X := X.suite a ((a, o3) :: (X.pn ++ pp))) S3 h1 h4 q h2
      · exact ld_blt (X := X.suite a ((a, o3) :: (X.pn ++ pp))) S3 h1 h4 h5 q h6 h2
    have go : ∀ {hd : List ExceptHandler} {l2 : List (Value × Option Nat × Suite)}, Clauses X hd l2 → wMix X.K Wo D l2 cls d g1 G1 → wpAny (model X.prog X.w) X.A (handleBy (.ref a) X.env hd) (SP X pp D) X.xe { t0 with heap := h3 } := by
      intro hd l2 cl
      induction cl with
      | nil =>
        intro w
        refine wpAny_handleBy_nil ?_
        obtain ⟨k1, k2, k3, oe, vs, T, oT, t', y1, y2, y3, y4, y5⟩ := id f3
        unfold PySem.passOn
        refine wpAny_bind (wpAny_field y1 y3 y4 ?_)
        rw [if_neg (by simp)]
        have last : wpAny (model X.prog X.w) X.A (setFlight (.ref a) X.env.frame) (fun _ s4 => wpAny (model X.prog X.w) X.A (throw (.ref a) : Sem Flow) (SP X pp D) X.xe s4) X.xe { t0 with heap := h3 } := by
          rw [ef]
          exact HandSPX.setFlight_upZ f3 fun h4 q4 u4 => wpAny_throw (tk _ _ ⟨a, B, sI, pp, g1, G1, cls, d, rfl, K1, nb, (up.trans u3).trans u4, .inr (.inr (es.symm ▸ q4)), na, os, ag, w⟩)
        first
          | exact wpAny_bind (wpAny_pure (wpAny_bind last))
          | exact wpAny_bind last
      | bare hc hr r ih =>
        rintro ⟨b, b1, yes, no⟩
        refine wpAny_handleBy_cons (codeAny_handlers_test (asks hc ((PySem.W.exm_one (M := model X.prog X.w) K3.kIn looks b1).here ?_))) (by intro q; cases q)
        cases b with
        | false => exact ih (no rfl)
        | true =>
          refine codeAny_handlers_suite (HandSPX.lands_againZ f3 fun h4 f4 u4 => ?_)
          have K4 : Inv X pp g1 G1 { t0 with heap := h4 } := K1.landed nb f4.1 ((up.trans u3).trans u4) os ag
          obtain ⟨o4, v4, e4, z4, d4⟩ := f4.there
          refine wpAny_mono ((hr a o4 cls d (X.pn ++ pp) z4 ⟨_, d4⟩).run [] _ _ G1 _ (K4.suite e4 d4 na nL nF) (yes rfl a na)) (fun fl s6 q6 => ?_) (fun _ _ z => False.elim z)
          cases fl with
          | ret u => exact q6.elim fun y1 q7 => q7.elim fun y2 q8 => q8.elim fun y3 q9 => ⟨y1, y2, y3, q9.1.unsuite kx, q9.2⟩
          | _ => exact q6.elim fun y1 q7 => q7.elim fun y2 q8 => ⟨y1, y2, q8.1.unsuite kx, q8.2⟩
      | @named x n i c ts b₀ su p1 p2 hd2 l2 hc hi hn hr r ih =>
        rintro ⟨b, b1, yes, no⟩
        refine wpAny_handleBy_cons (codeAny_handlers_test (asks hc ((PySem.W.exm_one (M := model X.prog X.w) K3.kIn looks b1).here ?_))) (by intro q; cases q)
        cases b with
        | false => exact ih (no rfl)
        | true =>
          refine codeAny_handlers_suite_as (HandSPX.lands_againZ f3 fun h4 f4 u4 => ?_)
          have K4 : Inv X pp g1 G1 { t0 with heap := h4 } := K1.landed nb f4.1 ((up.trans u3).trans u4) os ag
          obtain ⟨o4, v4, e4, z4, d4⟩ := f4.there
          refine store_ok (X := X.suite a ((a, o4) :: (X.pn ++ pp))) (v := .ref a) (K4.suite e4 d4 na nL nF) nd hi (.inl hn) rfl (fun s5 S5 => ?_) (.inr hn)
          refine wpAny_mono ((hr a o4 cls d (X.pn ++ pp) z4 ⟨_, d4⟩).run [] s5 _ G1 _ S5 (yes rfl a na)) (fun fl s6 q6 => ?_) (fun _ _ z => False.elim z)
          have shut : ∀ {g6 : L2.St} {G6 : Hp} {Q : Shared → Prop}, Inv (X.suite a ((a, o4) :: (X.pn ++ pp))) [] g6 G6 s6 → (∀ s7, Inv X pp (g6.set i none) G6 s7 → Q s7) →
              wpAny (model X.prog X.w) X.A (do bindName X.env n .none; unbindBehindTheSuite X.env n p2) (fun _ s7 => Q s7) X.xe s6 := fun S6 hq => gone_ok (S6.unsuite kx) nd hi hn hq
          cases fl with
          | ret u => exact q6.elim fun y1 q7 => q7.elim fun y2 q8 => q8.elim fun y3 q9 => shut q9.1 fun s7 J7 => ⟨y1, _, y3, J7, q9.2⟩
          | _ => exact q6.elim fun y1 q7 => q7.elim fun y2 q8 => shut q8.1 fun s7 J7 => ⟨_, y2, J7, q8.2⟩
    exact go hh w
  · cases fl with
    | next => exact q.elim fun y1 q7 => q7.elim fun y2 q8 => wpAny_execs_nil ⟨y1, y2, q8.1.ofTry kx, q8.2⟩
    | ret u => exact q.elim fun y1 q7 => q7.elim fun y2 q8 => q8.elim fun y3 q9 => ⟨y1, y2, y3, q9.1.ofTry kx, q9.2⟩
    | _ => exact q.elim fun y1 q7 => q7.elim fun y2 q8 => ⟨y1, y2, q8.1.ofTry kx, q8.2⟩
end
end K52T

/-! k52, part e: the class Prices. -/
namespace K52
open PySem L2 PySem.Spec PyProof.Rows K52X K52T
abbrev sPrices : Stmt := top 8
abbrev sPInit : Stmt := inClass sPrices 0
abbrev sPEq : Stmt := inClass sPrices 1
abbrev sPTotal : Stmt := inClass sPrices 2
/-- the class of prices, as the top has made it -/
structure PriceC (K : PySem.W.Frag) (C : Addr) : Prop where
  cl : Cls K C
  n1 : NoAttr K C "restate"
  n2 : NoAttr K C "reweigh"
  n3 : NoAttr K C "exchange"
abbrev priceFs (a b c : V) : List (Str × V) := [("restate", a), ("reweigh", b), ("exchange", c)]
def priceD : PyData → Bool
  | .int i => decide (0 ≤ i) && decide (i ≤ 1000)
  | _ => false
def badOf : List (Str × PyData) → Option Str
  | [] => none
  | (z, d) :: r => if priceD d = true then badOf r else some z
abbrev three (d1 d2 d3 : PyData) : List (Str × PyData) := [("restate", d1), ("reweigh", d2), ("exchange", d3)]
/-- Prices.__init__ -/
def spInit (CP CB : Addr) : Sp := fun vs H Q E => ∃ x dx v1 v2 v3 d1 d2 d3, vs = [.ref x, v1, v2, v3] ∧ H x = some (.ins CP dx []) ∧ Rp H v1 d1 ∧ Rp H v2 d2 ∧ Rp H v3 d3 ∧ match badOf (three d1 d2 d3) with
  | none => ∀ H', (∀ b u, b ≠ x → H b = some u → H' b = some u) → H' x = some (.ins CP dx (priceFs v1 v2 v3)) → Q .non H'
  | some z => ∀ H' dd, Same H H' → H dd = none → H' dd = some (.xd [("part", .str z)]) → E (.ref CB) (some dd) H'
/-- the module's number -/
structure Glb (mg : Str → Option Value) : Prop where
  great : ∃ u, mg "GREATEST_PRICE" = some u ∧ RelV (.int 1000) u
theorem partO : FldOk "part" "no price: " := ⟨rfl, rfl, rfl, rfl, by decide⟩
theorem none_of {H H' : Hp} {a : Addr} (s : Same H H') (n : H' a = none) : H a = none := by
  cases e : H a with
  | none => rfl
  | some u => rw [s _ _ e] at n; cases n
theorem sameT {H H1 H2 : Hp} (x : Same H H1) (y : Same H1 H2) : Same H H2 := fun a o e => y a o (x a o e)
section
variable {P : Program} {w : World} {K : PySem.W.Frag} {mg : Str → Option Value} {base : Heap}
theorem scPInit : FnScope ["self", "restate", "reweigh", "exchange", "part", "price"] ["self", "restate", "reweigh", "exchange"] (defScope sPInit) := ⟨rfl, rfl, rfl, by decide +kernel, rfl, by decide +kernel, by decide +kernel⟩
/-- __init__ as it stands behind the top, with its defaults -/
abbrev FInit (K : PySem.W.Frag) (f : Addr) (fd : FuncData) : Prop := FunD K "__init__" "Prices.__init__" (defArgs sPInit) (defBody sPInit) (defScope sPInit) [.int 1, .int 1, .int 2] [] f fd
theorem ok_pinit {f fn CP CB fI : Addr} {fd fdn : FuncData} (F : FInit K f fd) (T : PriceC K CP) (G : Glb mg) (htop : (P.main.scope.names.lookup ("super" : Str)).isSome = false) (TB : ErrTxt P K mg CB fI "BadPrices" "BadPrices.__init__" "part" "no price: ")
    (DN : Df K mg "is_number" sIsNum ["thing"] fn fdn) (GN : FnOk P w K mg base CX0 1 fn fdn ["thing"] spNum) : FnOk P w K mg base (L2.CX P w) 5 f fd ["self", "restate", "reweigh", "exchange"] (spInit CP CB) := by
  obtain ⟨uG, mG, rG⟩ := G.great
  refine F.ok scPInit (fun vs H Q E h => ?_) (fun cdv A outer s H vs Q E hr h => ?_)
  · obtain ⟨x, dx, v1, v2, v3, d1, d2, d3, rfl, _⟩ := h
    rfl
  · obtain ⟨x, dx, v1, v2, v3, d1, d2, d3, rfl, hx, t1, t2, t3, k⟩ := h
    have nd := scPInit.nd
    have hn := hr.mono (show 1 ≤ 4 by decide)
    refine ⟨_, pss_cons (ps_for PassesOwn.leaving rfl (pi_tup (pe_tup (pa_cons (pe_tup (pa_cons pe_str (pa_cons (pv 1) pa_nil))) (pa_cons (pe_tup (pa_cons pe_str (pa_cons (pv 2) pa_nil))) (pa_cons (pe_tup (pa_cons pe_str (pa_cons (pv 3) pa_nil))) pa_nil)))))
        (pg_tup (by rfl) (pgs_cons (pg_name (i := 4) nd rfl (Or.inl rfl)) (pgs_cons (pg_name (i := 5) nd rfl (Or.inl rfl)) pgs_nil)))
        (pss_one (ps_if (PW.pt (pw_or (pt_not (pt_val (pe_call GN hn rfl DN.g DN.F.kp DN.b .nil pass0 (pa_cons (pv 5) pa_nil)))) (pw_or1 (pt_not (pt_chain op_le op_le pe_int (pv 5) (pe_glob rfl mG rG))))))
          (pss_one (ps_raiseE (k := 2) rfl TB partO hr htop (by intros; rfl) (takes_of rfl rfl rfl rfl) (pa_cons (pv 4) pa_nil) rfl rfl)) pss_nil)))
      (pss_cons (ps_fld (pv 0) (pv 1) rfl) (pss_cons (ps_fld (pv 0) (pv 2) rfl) (pss_one (ps_fld (pv 0) (pv 3) rfl)))), ?_⟩
    refine ⟨_, rfl, (by show 2 ≤ sizeLine; decide), fun a1 n1 => ?_⟩
    refine ⟨_, rfl, (by show 2 ≤ sizeLine; decide), fun a2 n2 => ?_⟩
    refine ⟨_, rfl, (by show 2 ≤ sizeLine; decide), fun a3 n3 => ⟨(by show 3 ≤ sizeLine; decide), fun T0 nT => ?_⟩⟩
    have s1 := same_new (o := .tup [.str "restate", v1]) (Same.rfl' (H := H)) n1
    have s2 := same_new (o := .tup [.str "reweigh", v2]) s1 n2
    have s3 := same_new (o := .tup [.str "exchange", v3]) s2 n3
    have s4 := same_new (o := .tup [.ref a1, .ref a2, .ref a3]) s3 nT
    have f3 := same_new (o := .tup [.ref a1, .ref a2, .ref a3]) Same.rfl' nT _ _ (upd_same (H := upd (upd H a1 (.tup [.str "restate", v1])) a2 (.tup [.str "reweigh", v2])) (a := a3) (o := .tup [.str "exchange", v3]))
    have f2 := same_new (o := .tup [.ref a1, .ref a2, .ref a3]) (same_new (o := .tup [.str "exchange", v3]) Same.rfl' n3) nT _ _ (upd_same (H := upd H a1 (.tup [.str "restate", v1])) (a := a2) (o := .tup [.str "reweigh", v2]))
    have f1 := same_new (o := .tup [.ref a1, .ref a2, .ref a3]) (same_new (o := .tup [.str "exchange", v3]) (same_new (o := .tup [.str "reweigh", v2]) Same.rfl' n2) n3) nT _ _ (upd_same (H := H) (a := a1) (o := .tup [.str "restate", v1]))
    have f0 : upd (upd (upd (upd H a1 (.tup [.str "restate", v1])) a2 (.tup [.str "reweigh", v2])) a3 (.tup [.str "exchange", v3])) T0 (.tup [.ref a1, .ref a2, .ref a3]) T0 = some (.tup [.ref a1, .ref a2, .ref a3]) := upd_same
    generalize upd (upd (upd (upd H a1 (.tup [.str "restate", v1])) a2 (.tup [.str "reweigh", v2])) a3 (.tup [.str "exchange", v3])) T0 (.tup [.ref a1, .ref a2, .ref a3]) = HH at s4 f3 f2 f1 f0 ⊢
    refine ⟨T0, rfl, ⟨_, SqT.of f0⟩, for_it (walk_tup (K := K) (a := T0) (xs := [.ref a1, .ref a2, .ref a3])) (fun i σ H' => H' = HH ∧ badOf (three d1 d2 d3) = badOf ((three d1 d2 d3).drop i) ∧ ∃ p q, σ = [some (.ref x), some v1, some v2, some v3, p, q]) ⟨rfl, rfl, none, none, rfl⟩ (fun i σ H' _ h => by rw [h.1]; exact SqT.of f0) ?_ ?_⟩
    · rintro i y σ1 H1 H2 hi ⟨rfl, bd, p, q, rfl⟩ ⟨rfl, hy⟩
      obtain ⟨a, z, v, d, r, ea, el, ez, rv, ed⟩ : ∃ a z v d r, y = .ref a ∧ H2 a = some (.tup [.str z, v]) ∧ z.length ≤ 1000 ∧ Rp H v d ∧ (three d1 d2 d3).drop i = (z, d) :: r := by
        match i, hi, hy with
        | 0, _, e => cases e; exact ⟨_, _, _, _, _, rfl, f1, by decide, t1, rfl⟩
        | 1, _, e => cases e; exact ⟨_, _, _, _, _, rfl, f2, by decide, t2, rfl⟩
        | 2, _, e => cases e; exact ⟨_, _, _, _, _, rfl, f3, by decide, t3, rfl⟩
      have er : (three d1 d2 d3).drop (i + 1) = r := by
        have e2 := congrArg List.tail ed
        rw [List.tail_drop] at e2
        exact e2
      rw [ed] at bd
      have fine : priceD d = true → badOf (three d1 d2 d3) = badOf ((three d1 d2 d3).drop (i + 1)) := fun hd => by
        rw [er, bd]
        show (if priceD d = true then badOf r else some z) = badOf r
        rw [if_pos hd]
      have ugly : priceD d = false → ∀ dd, H2 dd = none → E (.ref CB) (some dd) (upd H2 dd (.xd [("part", .str z)])) := fun hd dd nd' => by
        have e3 : badOf (three d1 d2 d3) = some z := by
          rw [bd]
          show (if priceD d = true then badOf r else some z) = some z
          rw [if_neg (by rw [hd]; exact Bool.false_ne_true)]
        rw [e3] at k
        exact k _ dd (same_new s4 nd') (none_of s4 nd') upd_same
      have rv2 := rv.mono (Sq.of s4)
      subst ea
      refine ⟨a, _, rfl, SqT.of el, rfl, _, _, rfl, _, _, rfl, rfl, ?_⟩
      refine ⟨_, rfl, v, d, rfl, rv2, _, rfl, ?_⟩
      cases rv2 with
      | int j =>
        refine iteF ⟨_, rfl, _, _, rfl, rfl, _, rfl, ?_⟩
        by_cases h0 : (0 : Int) ≤ j
        · rw [decide_eq_true h0]
          refine iteT ⟨_, _, rfl, rfl, _, rfl, ?_⟩
          by_cases h1 : j ≤ 1000
          · rw [decide_eq_true h1]
            refine iteF ⟨rfl, fine ?_, _, _, rfl⟩
            show (decide (0 ≤ j) && decide (j ≤ 1000)) = true
            rw [decide_eq_true h0, decide_eq_true h1]
            rfl
          · rw [decide_eq_false h1]
            refine iteT ⟨_, rfl, _, rfl, rep_str ez, ugly ?_⟩
            show (decide (0 ≤ j) && decide (j ≤ 1000)) = false
            rw [decide_eq_false h1, Bool.and_false]
        · rw [decide_eq_false h0]
          refine iteF ⟨_, rfl, iteT ⟨_, rfl, _, rfl, rep_str ez, ugly ?_⟩⟩
          show (decide (0 ≤ j) && decide (j ≤ 1000)) = false
          rw [decide_eq_false h0, Bool.false_and]
      | non => exact iteT ⟨_, rfl, _, rfl, rep_str ez, ugly rfl⟩
      | bl b => exact iteT ⟨_, rfl, _, rfl, rep_str ez, ugly rfl⟩
      | str z2 h2 => exact iteT ⟨_, rfl, _, rfl, rep_str ez, ugly rfl⟩
      | lst e r => exact iteT ⟨_, rfl, _, rfl, rep_str ez, ugly rfl⟩
      | tup e r => exact iteT ⟨_, rfl, _, rfl, rep_str ez, ugly rfl⟩
    · rintro σ1 H1 ⟨rfl, bd, p, q, rfl⟩
      have bd0 : badOf (three d1 d2 d3) = none := bd
      rw [bd0] at k
      refine ⟨_, rfl, _, rfl, x, CP, dx, [], rfl, s4 _ _ hx, T.cl, T.n1, (by show 0 < 1000; decide), ?_⟩
      refine ⟨_, rfl, _, rfl, x, CP, dx, _, rfl, upd_same, T.cl, T.n2, (by show 1 < 1000; decide), ?_⟩
      refine ⟨_, rfl, _, rfl, x, CP, dx, _, rfl, upd_same, T.cl, T.n3, (by show 2 < 1000; decide), ?_⟩
      refine k _ (fun b u nb e => ?_) ?_
      · rw [upd_ne nb, upd_ne nb, upd_ne nb]; exact s4 _ _ e
      · rw [upd_same]; rfl
end
end K52

/-! k52, part f: == and total of prices. -/
namespace K52
open PySem L2 PySem.Spec PyProof.Rows K52X K52T
/-- what isinstance and == ask of the class of prices -/
structure PriceI (K : PySem.W.Frag) (C : Addr) : Prop where
  ha : PySem.W.findIn K (.ref C) "__class__" = some (some (.builtin "object.__class__"))
  hn : PySem.W.specialIn K (.builtin "object.__class__") "__get__" = some (some (.builtin "getset_descriptor.__get__"))
  htk : PySem.W.takesIn K (.builtin "object.__class__") = some true
  hm : PySem.W.mroIn K C (.type "object") = some true
  rTup : PySem.W.kitOne K (.type "tuple") (.ref C) = some false
  nTup : PySem.W.subIn K (.type "tuple") (.ref C) = some false
  rInt : PySem.W.kitOne K (.type "int") (.ref C) = some false
  nInt : PySem.W.subIn K (.type "int") (.ref C) = some false
  rStr : PySem.W.kitOne K (.type "str") (.ref C) = some false
  nStr : PySem.W.subIn K (.type "str") (.ref C) = some false
theorem ep_back {X : Cx} {pins : List (Addr × Obj)} {σ : L2.St} {Q : VK} {u : Value} {s' : Shared} (h : EP X pins σ Q u s') : PySem.W.CmpBack (EP X pins σ Q) u s' := by
  obtain ⟨v, H', I, r, q⟩ := id h
  cases u with
  | notImplemented => cases v <;> first | (cases r; done) | (obtain ⟨_, e⟩ := r; cases e)
  | _ => exact h
/-- what prices are compared with here -/
inductive Oth (K : PySem.W.Frag) (C : Addr) (H : Hp) : V → Prop
  | own {b dy : Addr} {gs : List (Str × V)} (h : H b = some (.ins C dy gs)) : Oth K C H (.ref b)
  | tup {b : Addr} {xs : List V} (h : H b = some (.tup xs)) : Oth K C H (.ref b)
  | int (i : Int) : Oth K C H (.int i)
  | str (z : Str) : Oth K C H (.str z)
section
variable {X : Cx} {CX : CXT} {k : Nat} {f C : Addr} {fd : FuncData} {ps : List Str} {sp : Sp} {E : XK}
/-- a == y, a of the class at C -/
def rPrEq (K : PySem.W.Frag) (C : Addr) (sp : Sp) (E : XK) : R2 := fun x y H Q => ∃ a dx fs, x = .ref a ∧ H a = some (.ins C dx fs) ∧ Oth K C H y ∧ sp [x, y] H Q E
theorem op_prEq (T : PriceI X.K C) (hm : Meth X.K C "__eq__" f) (F : FnOk X.prog X.w X.K X.mg X.base CX k f fd ps sp) (hr : Room k X.A) (hb : Binds X.K fd ps []) (hx : Passes CX X E) : OpR X (compareOp .Eq) (rPrEq X.K C sp E) := by
  intro pins s σ H x y v u Q I rx ry h
  obtain ⟨a, dx, fs, rfl, ha, hy, q⟩ := h
  cases rx
  obtain ⟨mA, O, _⟩ := ins_get I.hok ha
  obtain ⟨od, J, _⟩ := O.look
  obtain ⟨m, fr⟩ := I.fr
  have go : wpAny (model X.prog X.w) X.A (call (.ref f) [.ref a, u]) (PySem.W.CmpBack (EP X pins σ Q)) X.xe s :=
    wpAny_mono (run_fn (us := [.ref a, u]) (vs := [.ref a, y]) F hr hb .nil hx I (.cons rfl (.cons ry .nil)) q) (fun _ _ z => ep_back z) fun _ _ z => z
  refine PySem.W.cmp_ofEq ?_
  cases hy with
  | own hb2 =>
    cases ry
    obtain ⟨mB, O2, _⟩ := ins_get I.hok hb2
    obtain ⟨od2, J2, _⟩ := O2.look
    exact PySem.W.cmp_K (op := .Eq) (tb := .ref C) hr.units0 fr I.ok.mod.kin J J2.type (by simp [PySem.W.notFirst]) hm.at_ hm.fn go
  | @tup b2 _ hb2 =>
    cases ry
    obtain ⟨its, rv, ⟨o, ho, hc, _⟩, _⟩ := I.tuple (SqT.of hb2)
    have lk : PySem.W.Looks (model X.prog X.w) s.heap (typeOf (.ref b2)) (.type "tuple") := hc ▸ (PySem.W.Looks.ld ho).andThen .now
    exact PySem.W.cmp_K (op := .Eq) (tb := .type "tuple") hr.units0 fr I.ok.mod.kin J lk (by unfold PySem.W.notFirst; rw [T.nTup]; simp) hm.at_ hm.fn go
  | int i =>
    obtain ⟨t, rfl⟩ := ry
    exact PySem.W.cmp_K (op := .Eq) (tb := .type "int") hr.units0 fr I.ok.mod.kin J (PySem.W.Looks.of_pure rfl) (by unfold PySem.W.notFirst; rw [T.nInt]; simp) hm.at_ hm.fn go
  | str z =>
    obtain ⟨t, rfl⟩ := ry
    exact PySem.W.cmp_K (op := .Eq) (tb := .type "str") hr.units0 fr I.ok.mod.kin J (PySem.W.Looks.of_pure rfl) (by unfold PySem.W.notFirst; rw [T.nStr]; simp) hm.at_ hm.fn go
end
abbrev intFs (p1 p2 p3 : Int) : List (Str × V) := priceFs (.int p1) (.int p2) (.int p3)
/-- Prices.__eq__ -/
def spPEq (CP : Addr) : Sp := fun vs H Q _ => ∃ a dx p1 p2 p3 y, vs = [.ref a, y] ∧ H a = some (.ins CP dx (intFs p1 p2 p3)) ∧
  ((∃ b dy q1 q2 q3, y = .ref b ∧ H b = some (.ins CP dy (intFs q1 q2 q3)) ∧ ∀ r : Bool, (r = true ↔ p1 = q1 ∧ p2 = q2 ∧ p3 = q3) → Q (.bl r) H) ∨
    (((∃ i, y = .int i) ∨ (∃ z, y = .str z) ∨ ∃ b xs, y = .ref b ∧ H b = some (.tup xs)) ∧ Q (.bl false) H))
/-- Prices.total -/
def spPTotal (CP : Addr) : Sp := fun vs H Q _ => ∃ a dx p1 p2 p3 m1 m2 m3, vs = [.ref a, .int m1, .int m2, .int m3] ∧ H a = some (.ins CP dx (intFs p1 p2 p3)) ∧ (0 ≤ p1 ∧ p1 ≤ 1000) ∧ (0 ≤ p2 ∧ p2 ≤ 1000) ∧ (0 ≤ p3 ∧ p3 ≤ 1000) ∧
  Q (.int (p1 * m1 + p2 * m2 + p3 * m3)) H
theorem dec_int {a b : Int} : decide (V.int a = V.int b) = decide (a = b) := by
  by_cases h : a = b
  · rw [h, decide_eq_true rfl, decide_eq_true rfl]
  · rw [decide_eq_false h, decide_eq_false fun e => h (by cases e; rfl)]
section
variable {P : Program} {w : World} {K : PySem.W.Frag} {mg : Str → Option Value} {base : Heap}
theorem scPEq : FnScope ["self", "other"] ["self", "other"] (defScope sPEq) := ⟨rfl, rfl, rfl, by decide +kernel, rfl, by decide +kernel, by decide +kernel⟩
theorem scPTotal : FnScope ["self", "many_restate", "many_reweigh", "many_exchange"] ["self", "many_restate", "many_reweigh", "many_exchange"] (defScope sPTotal) := ⟨rfl, rfl, rfl, by decide +kernel, rfl, by decide +kernel, by decide +kernel⟩
theorem ok_peq {f CP : Addr} {fd : FuncData} (F : Fun K "__eq__" "Prices.__eq__" sPEq f fd) (N : Nms mg) (T : PriceC K CP) (I : PriceI K CP) (gP : mg "Prices" = some (.ref CP)) : FnOk P w K mg base CX0 1 f fd ["self", "other"] (spPEq CP) := by
  refine F.ok scPEq (fun vs H Q E h => ?_) (fun cdv A outer s H vs Q E hr h => ?_)
  · obtain ⟨a, dx, p1, p2, p3, y, rfl, _⟩ := h
    rfl
  · obtain ⟨a, dx, p1, p2, p3, y, rfl, ha, hy⟩ := h
    refine ⟨_, pss_cons (ps_if (PW.pt (pw_or (pt_not (pt_val (pe_callB call_isi (by rfl) N.isi (by decide +kernel) (pa_cons (pv 1) (pa_cons (pe_glob (v := .ref CP) rfl gP rfl) pa_nil))))) (pw_or1 (pt_cmpR op_ne (pe_fld (pv 0) rfl) (pe_fld (pv 1) rfl) (nomark _))))) (pss_one (ps_ret pe_bl)) pss_nil)
      (pss_one (ps_ret (pe_and (pe_cmpR op_eq (pe_fld (pv 0) rfl) (pe_fld (pv 1) rfl) (nomark _)) (pe_one (pe_cmpR op_eq (pe_fld (pv 0) rfl) (pe_fld (pv 1) rfl) (nomark _)))))), ?_⟩
    rcases hy with ⟨b, dy, q1, q2, q3, rfl, hb, k⟩ | ⟨hy, k⟩
    · refine ⟨_, rfl, _, _, .ref CP, _, _, rfl, .own _, .base (.ins hb T.cl I.ha I.hn I.htk I.hm), (by unfold PySem.W.kitOne; rw [if_pos (by simp)]), _, rfl, ?_⟩
      refine iteF ⟨_, rfl, a, CP, dx, _, _, rfl, ha, T.cl, T.n1, rfl, _, rfl, b, CP, dy, _, _, rfl, hb, T.cl, T.n1, rfl, rfl, _, rfl, ?_⟩
      rw [dec_int]
      by_cases h1 : p1 = q1
      · rw [decide_eq_true h1]
        refine iteF ⟨_, rfl, a, CP, dx, _, _, rfl, ha, T.cl, T.n2, rfl, _, rfl, b, CP, dy, _, _, rfl, hb, T.cl, T.n2, rfl, rfl, _, rfl, ?_⟩
        rw [dec_int]
        by_cases h2 : p2 = q2
        · rw [decide_eq_true h2]
          refine iteT ⟨_, rfl, a, CP, dx, _, _, rfl, ha, T.cl, T.n3, rfl, _, rfl, b, CP, dy, _, _, rfl, hb, T.cl, T.n3, rfl, rfl, k _ ?_⟩
          rw [dec_int, decide_eq_true_iff]
          exact ⟨fun h3 => ⟨h1, h2, h3⟩, fun h => h.2.2⟩
        · rw [decide_eq_false h2]
          exact iteF (k _ ⟨fun h => (Bool.false_ne_true h).elim, fun h => (h2 h.2.1).elim⟩)
      · rw [decide_eq_false h1]
        exact iteT (k _ ⟨fun h => (Bool.false_ne_true h).elim, fun h => (h1 h.1).elim⟩)
    · rcases hy with ⟨i, rfl⟩ | ⟨z, rfl⟩ | ⟨b, xs, rfl, hb⟩
      · exact ⟨_, rfl, _, _, .type "int", _, _, rfl, .own _, .base (.int i), I.rInt, _, rfl, iteT k⟩
      · exact ⟨_, rfl, _, _, .type "str", _, _, rfl, .own _, .base (.str z), I.rStr, _, rfl, iteT k⟩
      · exact ⟨_, rfl, _, _, .type "tuple", _, _, rfl, .own _, .base (.tup hb), I.rTup, _, rfl, iteT k⟩
theorem ok_ptotal {f CP : Addr} {fd : FuncData} (F : Fun K "total" "Prices.total" sPTotal f fd) (T : PriceC K CP) : FnOk P w K mg base CX0 1 f fd ["self", "many_restate", "many_reweigh", "many_exchange"] (spPTotal CP) := by
  refine F.ok scPTotal (fun vs H Q E h => ?_) (fun cdv A outer s H vs Q E hr h => ?_)
  · obtain ⟨a, dx, p1, p2, p3, m1, m2, m3, rfl, _⟩ := h
    rfl
  · obtain ⟨a, dx, p1, p2, p3, m1, m2, m3, rfl, ha, b1, b2, b3, k⟩ := h
    refine ⟨_, pss_one (ps_ret (pe_op op_add (pe_op op_add (pe_op op_mul (pe_fld (pv 0) rfl) (pv 1)) (pe_op op_mul (pe_fld (pv 0) rfl) (pv 2))) (pe_op op_mul (pe_fld (pv 0) rfl) (pv 3)))), ?_⟩
    refine ⟨_, rfl, a, CP, dx, _, _, rfl, ha, T.cl, T.n1, rfl, _, rfl, _, _, rfl, rfl, .inl ⟨by omega, by omega⟩, ?_⟩
    refine ⟨_, rfl, a, CP, dx, _, _, rfl, ha, T.cl, T.n2, rfl, _, rfl, _, _, rfl, rfl, .inl ⟨by omega, by omega⟩, _, _, rfl, rfl, ?_⟩
    refine ⟨_, rfl, a, CP, dx, _, _, rfl, ha, T.cl, T.n3, rfl, _, rfl, _, _, rfl, rfl, .inl ⟨by omega, by omega⟩, _, _, rfl, rfl, k⟩
end
end K52

/-! k52, part g: the law's draws, and what it asks of right prices. -/
namespace K52
open PySem L2 PySem.Spec PyProof.Rows K52X K52T
abbrev sPrice : Stmt := top 15
abbrev sPricesL : Stmt := top 16
abbrev sMany : Stmt := top 17
abbrev sHolds : Stmt := top 18
abbrev sSums : Stmt := top 19
abbrev Ok1 (p : Int) : Prop := 0 ≤ p ∧ p ≤ 1000
/-- _law_price(bag) -/
def spPrice : Sp := fun vs H Q _ => ∃ b l, vs = [.ref b] ∧ BagL H b l ∧ ∀ (r : Int) H', Ok1 r → Dr b l H H' → Q (.int r) H'
abbrev ilist (p1 p2 p3 : Int) : List V := [.int p1, .int p2, .int p3]
/-- _law_prices(bag): a new list of three -/
def spPrices : Sp := fun vs H Q _ => ∃ b l, vs = [.ref b] ∧ BagL H b l ∧ ∀ (L : Addr) (p1 p2 p3 : Int) H', H L = none → H' L = some (.lst (ilist p1 p2 p3)) → Ok1 p1 → Ok1 p2 → Ok1 p3 → Dr b l H H' → Q (.ref L) H'
/-- _law_many(bag) -/
def spMany : Sp := fun vs H Q _ => ∃ b l, vs = [.ref b] ∧ BagL H b l ∧ ∀ (r : Int) H', Dr b l H H' → Q (.int r) H'
/-- _law_holds_prices(made, row) -/
def spHolds (CP : Addr) : Sp := fun vs H Q _ => ∃ x dx L p1 p2 p3, vs = [.ref x, .ref L] ∧ H x = some (.ins CP dx (intFs p1 p2 p3)) ∧ H L = some (.lst (ilist p1 p2 p3)) ∧ ∀ H', Same H H' → Q (.bl true) H'
/-- _law_sums_up(made, row, many) -/
def spSums (CP : Addr) : Sp := fun vs H Q _ => ∃ x dx L M p1 p2 p3 m1 m2 m3, vs = [.ref x, .ref L, .ref M] ∧ H x = some (.ins CP dx (intFs p1 p2 p3)) ∧ H L = some (.lst (ilist p1 p2 p3)) ∧ H M = some (.lst (ilist m1 m2 m3)) ∧ Ok1 p1 ∧ Ok1 p2 ∧ Ok1 p3 ∧ ∀ H', Same H H' → Q (.bl true) H'
theorem at3 {a b c : V} : atI [a, b, c] 0 = some a ∧ atI [a, b, c] 1 = some b ∧ atI [a, b, c] 2 = some c := ⟨atI_nat (j := 0) rfl, atI_nat (j := 1) rfl, atI_nat (j := 2) rfl⟩
theorem at3_0 {a b c : V} : atI [a, b, c] 0 = some a := at3.1
theorem at3_1 {a b c : V} : atI [a, b, c] 1 = some b := at3.2.1
theorem at3_2 {a b c : V} : atI [a, b, c] 2 = some c := at3.2.2
theorem sh_ilist (a b c : Int) : SeqAt.shaped (.list [.int a, .int b, .int c]) = true := rfl
theorem eqv_ilist (a b c x y z : Int) : PyData.eqv (.list [.int a, .int b, .int c]) (.list [.int x, .int y, .int z]) = (decide (a = x) && (decide (b = y) && (decide (c = z) && true))) := rfl
theorem dp_ilist {K : PySem.W.Frag} {H : Hp} {L : Addr} {a b c : Int} (h : H L = some (.lst (ilist a b c))) : Dp K H (.ref L) (.list [.int a, .int b, .int c]) := .lst (SqL.of h) (.cons (.int _) (.cons (.int _) (.cons (.int _) .nil)))
section
variable {P : Program} {w : World} {K : PySem.W.Frag} {mg : Str → Option Value} {base : Heap}
theorem scPrice : FnScope ["_law_bag_here", "_law_way"] ["_law_bag_here"] (defScope sPrice) := ⟨rfl, rfl, rfl, by decide +kernel, rfl, by decide +kernel, by decide +kernel⟩
theorem scPricesL : FnScope ["_law_bag_here", "_law_row", "_law_k"] ["_law_bag_here"] (defScope sPricesL) := ⟨rfl, rfl, rfl, by decide +kernel, rfl, by decide +kernel, by decide +kernel⟩
theorem scMany : FnScope ["_law_bag_here", "_law_way"] ["_law_bag_here"] (defScope sMany) := ⟨rfl, rfl, rfl, by decide +kernel, rfl, by decide +kernel, by decide +kernel⟩
theorem scHolds : FnScope ["_law_made", "_law_row", "_law_told", "_law_one"] ["_law_made", "_law_row"] (defScope sHolds) := ⟨rfl, rfl, rfl, by decide +kernel, rfl, by decide +kernel, by decide +kernel⟩
theorem scSums : FnScope ["_law_made", "_law_row", "_law_many_here", "_law_told"] ["_law_made", "_law_row", "_law_many_here"] (defScope sSums) := ⟨rfl, rfl, rfl, by decide +kernel, rfl, by decide +kernel, by decide +kernel⟩
theorem ok_price {f fp fc : Addr} {fd fdp fdc : FuncData} (F : Fun K "_law_price" "_law_price" sPrice f fd) (DP : Df K mg "_law_pick" sPick ["_law_bag_here", "_law_many_here"] fp fdp) (GP : FnOk P w K mg base CX0 1 fp fdp ["_law_bag_here", "_law_many_here"] spPick)
    (DC : Df K mg "_law_choice" sChoice ["_law_bag_here", "_law_things"] fc fdc) (GC : FnOk P w K mg base CX0 2 fc fdc ["_law_bag_here", "_law_things"] (spChoice K)) : FnOk P w K mg base CX0 3 f fd ["_law_bag_here"] spPrice := by
  refine F.ok scPrice (fun vs H Q E h => ?_) (fun cdv A outer s H vs Q E hr h => ?_)
  · obtain ⟨b, l, rfl, _⟩ := h
    rfl
  · obtain ⟨b, l, rfl, B, k⟩ := h
    have nd := scPrice.nd
    have r1 := hr.mono (show 1 ≤ 2 by decide)
    refine ⟨_, pss_cons (ps_set (i := 1) nd rfl (Or.inl rfl) (pe_call GP r1 rfl DP.g DP.F.kp DP.b .nil pass0 (pa_cons (pv 0) (pa_cons pe_int pa_nil))))
      (pss_cons (ps_if (pt_cmpR op_eq (pv 1) pe_int (nomark _)) (pss_one (ps_ret (pe_call GC hr rfl DC.g DC.F.kp DC.b .nil pass0 (pa_cons (pv 0) (pa_cons (pe_lst (pa_cons pe_int (pa_cons pe_int (pa_cons pe_int (pa_cons pe_int (pa_cons pe_int pa_nil)))))) pa_nil))))) pss_nil)
      (pss_cons (ps_if (pt_cmpR op_eq (pv 1) pe_int (nomark _)) (pss_one (ps_ret (pe_call GP r1 rfl DP.g DP.F.kp DP.b .nil pass0 (pa_cons (pv 0) (pa_cons pe_int pa_nil))))) pss_nil)
      (pss_one (ps_ret (pe_call GP r1 rfl DP.g DP.F.kp DP.b .nil pass0 (pa_cons (pv 0) (pa_cons pe_int pa_nil))))))), ?_⟩
    refine ⟨_, rfl, b, l, 4, rfl, by decide, by decide, B, fun r H1 r0 r1 B1 bt1 _ => ?_⟩
    have D1 : Dr b l H H1 := ⟨B1, bt1⟩
    refine ⟨_, rfl, rfl, _, rfl, ?_⟩
    refine ite2 (fun hc => ?_) (fun hc => ?_)
    · refine ⟨_, rfl, (by show 5 ≤ sizeLine; decide), fun L nL => ⟨b, l, L, _, rfl, upd_same, B1.ne_b nL, (by show 0 < 5; decide), (by show 5 < 1000; decide), (D1.new nL).bag, fun x H2 hx B2 bt2 _ => ?_⟩⟩
      have D2 := (D1.new (o := .lst [.int 0, .int 1, .int 2, .int 999, .int 1000]) nL).trans ⟨B2, bt2⟩
      simp only [List.mem_cons, List.not_mem_nil, or_false] at hx
      rcases hx with rfl | rfl | rfl | rfl | rfl
      · exact k 0 H2 ⟨by decide, by decide⟩ D2
      · exact k 1 H2 ⟨by decide, by decide⟩ D2
      · exact k 2 H2 ⟨by decide, by decide⟩ D2
      · exact k 999 H2 ⟨by decide, by decide⟩ D2
      · exact k 1000 H2 ⟨by decide, by decide⟩ D2
    · refine ⟨_, rfl, rfl, _, rfl, ?_⟩
      refine ite2 (fun hc2 => ?_) (fun hc2 => ?_)
      · exact ⟨_, rfl, b, l, 6, rfl, by decide, by decide, B1, fun r H2 r0 r1 B2 bt2 _ => k r H2 ⟨r0, by omega⟩ (D1.trans ⟨B2, bt2⟩)⟩
      · exact ⟨_, rfl, b, l, 1001, rfl, by decide, by decide, B1, fun r H2 r0 r1 B2 bt2 _ => k r H2 ⟨r0, by omega⟩ (D1.trans ⟨B2, bt2⟩)⟩
theorem ok_prices {f fp fo : Addr} {fd fdp fdo : FuncData} (F : Fun K "_law_prices" "_law_prices" sPricesL f fd) (N : Nms mg) (DP : Df K mg "_law_price" sPrice ["_law_bag_here"] fp fdp) (GP : FnOk P w K mg base CX0 3 fp fdp ["_law_bag_here"] spPrice)
    (DO : Df K mg "_law_one_in" sOneIn ["_law_bag_here", "_law_many_here"] fo fdo) (GO : FnOk P w K mg base CX0 2 fo fdo ["_law_bag_here", "_law_many_here"] spOneIn) : FnOk P w K mg base CX0 4 f fd ["_law_bag_here"] spPrices := by
  refine F.ok scPricesL (fun vs H Q E h => ?_) (fun cdv A outer s H vs Q E hr h => ?_)
  · obtain ⟨b, l, rfl, _⟩ := h
    rfl
  · obtain ⟨b, l, rfl, B, k⟩ := h
    have nd := scPricesL.nd
    have r2 := hr.mono (show 2 ≤ 3 by decide)
    refine ⟨_, pss_cons (ps_setLc (i := 1) (own := [("_law_k", 2)]) (g := gName 2) (tt := tYes) (te := tCall spPrice [] E0 (tCons (tVar 0) tNil)) rfl nd rfl rfl (sw_true rfl rfl rfl (by decide +kernel)) (pi_range1 rfl N.range (pa_cons pe_int pa_nil))
        (blkOk_by (N := ["_law_bag_here", "_law_row", "_law_k"]) (sc := defScope sPricesL) (by decide +kernel)) (fun _ _ _ _ _ => pg_name (i := 2) nd rfl (Or.inl rfl)) (fun _ _ _ _ _ => pts_nil)
        (fun _ _ _ _ _ => pe_call GP hr rfl DP.g DP.F.kp DP.b .nil pass0 (pa_cons (pv 0) pa_nil)))
      (pss_cons (ps_if (pt_val (pe_call GO r2 rfl DO.g DO.F.kp DO.b .nil pass0 (pa_cons (pv 0) (pa_cons pe_int pa_nil)))) (pss_one (ps_set (i := 1) nd rfl (Or.inl rfl) (pe_lst (pa_cons (pe_ix ix_list (pv 1) pe_int (fun _ _ => rfl)) (pa_cons (pe_ix ix_list (pv 1) pe_int (fun _ _ => rfl)) (pa_cons (pe_ix ix_list (pv 1) pe_int (fun _ _ => rfl)) pa_nil)))))) pss_nil)
      (pss_one (ps_ret (pv 1)))), ?_⟩
    refine ⟨3, rfl, by decide, by decide, fun D hD => ?_⟩
    have nDb := B.ne_b hD
    have nDl := B.ne_l hD
    refine lc_range (lo := 0) (n := 3) (fun i H2 => Dr b l H H2 ∧ ∃ ys : List Int, H2 D = some (.lst (ys.map V.int)) ∧ ys.length = i ∧ ∀ y ∈ ys, Ok1 y) ⟨(Dr.refl B).new hD, [], upd_same, rfl, fun y hy => by cases hy⟩ ?_ ?_
    · rintro i H2 hi ⟨d2, ys, h2, hl, hy⟩
      refine ⟨rfl, yesT ?_⟩
      refine ⟨_, rfl, b, l, rfl, d2.bag, fun r H3 hr3 d3 => ?_⟩
      have h3 : H3 D = some (.lst (ys.map V.int)) := d3.but _ _ h2 nDb
      refine ⟨ys.map V.int, h3, ?_, (d2.trans d3).put hD nDb nDl, ys ++ [r], ?_, ?_, ?_⟩
      · rw [List.length_map, hl]; exact small1000 (by omega)
      · rw [upd_same, List.map_append]; rfl
      · rw [List.length_append, hl]; rfl
      · intro y hy2
        rcases List.mem_append.mp hy2 with q | q
        · exact hy y q
        · rw [List.mem_singleton.mp q]; exact hr3
    rintro H2 ⟨d2, ys, hw, lw, hws⟩
    obtain ⟨p1, p2, p3, rfl⟩ : ∃ p1 p2 p3, ys = [p1, p2, p3] := by
      match ys, lw with
      | [p1, p2, p3], _ => exact ⟨_, _, _, rfl⟩
    have o1 := hws p1 (by simp)
    have o2 := hws p2 (by simp)
    have o3 := hws p3 (by simp)
    refine ⟨_, rfl, b, l, 4, rfl, by decide, by decide, d2.bag, fun r H3 B3 bt3 _ => ⟨_, rfl, ?_⟩⟩
    have D3 := d2.trans ⟨B3, bt3⟩
    have h3 : H3 D = some (.lst (ilist p1 p2 p3)) := bt3 _ _ hw nDb
    cases r with
    | false => exact iteF ⟨_, rfl, k D p1 p2 p3 H3 hD h3 o1 o2 o3 D3⟩
    | true =>
      refine iteT ⟨_, rfl, D, _, 0, _, rfl, rfl, SqL.of h3, at3_0, _, rfl, D, _, 0, _, rfl, rfl, SqL.of h3, at3_0, _, rfl, D, _, 0, _, rfl, rfl, SqL.of h3, at3_0, (by show 3 ≤ sizeLine; decide), fun L nL => ?_⟩
      exact ⟨_, rfl, k L p1 p1 p1 _ (none_but D3 B nL) upd_same o1 o1 o1 (D3.new nL)⟩
theorem ok_many {f fp fc : Addr} {fd fdp fdc : FuncData} (F : Fun K "_law_many" "_law_many" sMany f fd) (DP : Df K mg "_law_pick" sPick ["_law_bag_here", "_law_many_here"] fp fdp) (GP : FnOk P w K mg base CX0 1 fp fdp ["_law_bag_here", "_law_many_here"] spPick)
    (DC : Df K mg "_law_choice" sChoice ["_law_bag_here", "_law_things"] fc fdc) (GC : FnOk P w K mg base CX0 2 fc fdc ["_law_bag_here", "_law_things"] (spChoice K)) : FnOk P w K mg base CX0 3 f fd ["_law_bag_here"] spMany := by
  refine F.ok scMany (fun vs H Q E h => ?_) (fun cdv A outer s H vs Q E hr h => ?_)
  · obtain ⟨b, l, rfl, _⟩ := h
    rfl
  · obtain ⟨b, l, rfl, B, k⟩ := h
    have nd := scMany.nd
    have r1 := hr.mono (show 1 ≤ 2 by decide)
    refine ⟨_, pss_cons (ps_set (i := 1) nd rfl (Or.inl rfl) (pe_call GP r1 rfl DP.g DP.F.kp DP.b .nil pass0 (pa_cons (pv 0) (pa_cons pe_int pa_nil))))
      (pss_cons (ps_if (pt_cmpR op_eq (pv 1) pe_int (nomark _)) (pss_one (ps_ret (pe_call GP r1 rfl DP.g DP.F.kp DP.b .nil pass0 (pa_cons (pv 0) (pa_cons pe_int pa_nil))))) pss_nil)
      (pss_cons (ps_if (pt_cmpR op_eq (pv 1) pe_int (nomark _)) (pss_one (ps_ret (pe_call GP r1 rfl DP.g DP.F.kp DP.b .nil pass0 (pa_cons (pv 0) (pa_cons pe_int pa_nil))))) pss_nil)
      (pss_one (ps_ret (pe_op op_add (pe_call GC hr rfl DC.g DC.F.kp DC.b .nil pass0 (pa_cons (pv 0) (pa_cons (pe_lst (pa_cons (pe_op op_pow pe_int pe_int) (pa_cons (pe_op op_pow pe_int pe_int) (pa_cons (pe_op op_add (pe_op op_pow pe_int pe_int) pe_int) (pa_cons (pe_op op_pow pe_int pe_int) pa_nil))))) pa_nil)))
        (pe_call GP r1 rfl DP.g DP.F.kp DP.b .nil pass0 (pa_cons (pv 0) (pa_cons (pe_op op_pow pe_int pe_int) pa_nil)))))))), ?_⟩
    refine ⟨_, rfl, b, l, 4 - 1, rfl, by decide, by decide, B, fun r H1 r0 r1 B1 bt1 _ => ?_⟩
    have D1 : Dr b l H H1 := ⟨B1, bt1⟩
    refine ⟨_, rfl, rfl, _, rfl, ?_⟩
    refine ite2 (fun hc => ?_) (fun hc => ?_)
    · exact ⟨_, rfl, b, l, 3, rfl, by decide, by decide, B1, fun r H2 r0 r1 B2 bt2 _ => k r H2 (D1.trans ⟨B2, bt2⟩)⟩
    · refine ⟨_, rfl, rfl, _, rfl, ?_⟩
      refine ite2 (fun hc2 => ?_) (fun hc2 => ?_)
      · exact ⟨_, rfl, b, l, 1000001, rfl, by decide, by decide, B1, fun r H2 r0 r1 B2 bt2 _ => k r H2 (D1.trans ⟨B2, bt2⟩)⟩
      · refine ⟨_, rfl, _, _, rfl, rfl, ⟨by decide, by decide, by decide⟩, _, _, rfl, rfl, ⟨by decide, by decide, by decide⟩, _, _, rfl, rfl, ⟨by decide, by decide, by decide⟩, _, _, rfl, rfl, _, _, rfl, rfl, ⟨by decide, by decide, by decide⟩, (by show 4 ≤ sizeLine; decide), fun L nL => ?_⟩
        refine ⟨b, l, L, _, rfl, upd_same, B1.ne_b nL, (by show 0 < 4; decide), (by show 4 < 1000; decide), (D1.new nL).bag, fun x H2 hx B2 bt2 _ => ?_⟩
        obtain ⟨i, rfl⟩ : ∃ i, x = .int i := by
          simp only [List.mem_cons, List.not_mem_nil, or_false] at hx
          rcases hx with rfl | rfl | rfl | rfl <;> exact ⟨_, rfl⟩
        refine ⟨_, rfl, _, _, rfl, rfl, ⟨by decide, by decide, by decide⟩, b, l, _, rfl, by decide, by decide, B2, fun r H3 r0 r1 B3 bt3 _ => ?_⟩
        exact ⟨_, _, rfl, rfl, k _ H3 (((D1.new nL).trans ⟨B2, bt2⟩).trans ⟨B3, bt3⟩)⟩
theorem ok_holds {f fi CP : Addr} {fd fdi : FuncData} (F : Fun K "_law_holds_prices" "_law_holds_prices" sHolds f fd) (N : Nms mg) (T : PriceC K CP) (DI : Df K mg "_law_integer" sInteger ["_law_thing"] fi fdi) (GI : FnOk P w K mg base CX0 1 fi fdi ["_law_thing"] spNum) :
    FnOk P w K mg base CX0 2 f fd ["_law_made", "_law_row"] (spHolds CP) := by
  refine F.ok scHolds (fun vs H Q E h => ?_) (fun cdv A outer s H vs Q E hr h => ?_)
  · obtain ⟨x, dx, L, p1, p2, p3, rfl, _⟩ := h
    rfl
  · obtain ⟨x, dx, L, p1, p2, p3, rfl, hx, hL, k⟩ := h
    have nd := scHolds.nd
    refine ⟨_, pss_cons (ps_set (i := 2) nd rfl (Or.inl rfl) (pe_lst (pa_cons (pe_fld (pv 0) rfl) (pa_cons (pe_fld (pv 0) rfl) (pa_cons (pe_fld (pv 0) rfl) pa_nil)))))
      (pss_one (ps_ret (pe_and (pe_callB (cr_all rfl) (by rfl) N.all (by decide +kernel) (pa_cons
        (pe_lc (own := [("_law_one", 3)]) (g := gName 3) (tt := tYes) rfl nd (pi_list (pv 2)) (blkOk_by (N := ["_law_made", "_law_row", "_law_told", "_law_one"]) (sc := defScope sHolds) (by decide +kernel)) (fun _ _ _ _ _ => pg_name (i := 3) nd rfl (Or.inl rfl)) (fun _ _ _ _ _ => pts_nil)
          (fun _ _ _ _ _ => pe_call GI hr rfl DI.g DI.F.kp DI.b .nil pass0 (pa_cons (pv 3) pa_nil))) pa_nil)) (pe_one (pe_cmpR (op_eqD hr.units) (pv 2) (pv 1) (nomark _)))))), ?_⟩
    refine ⟨_, rfl, x, CP, dx, _, _, rfl, hx, T.cl, T.n1, rfl, _, rfl, x, CP, dx, _, _, rfl, hx, T.cl, T.n2, rfl, _, rfl, x, CP, dx, _, _, rfl, hx, T.cl, T.n3, rfl, (by show 3 ≤ sizeLine; decide), fun M nM => ?_⟩
    have s1 := same_new (o := .lst (ilist p1 p2 p3)) (Same.rfl' (H := H)) nM
    have hM : upd H M (.lst (ilist p1 p2 p3)) M = some (.lst (ilist p1 p2 p3)) := upd_same
    have hL1 := s1 _ _ hL
    generalize upd H M (.lst (ilist p1 p2 p3)) = H1 at s1 hM hL1 ⊢
    refine ⟨_, rfl, M, rfl, ⟨_, SqL.of hM⟩, fun D hD => ?_⟩
    refine lc_it (walk_list (K := K) (a := M) (xs := ilist p1 p2 p3)) (fun i H2 => Same H1 H2 ∧ H2 D = some (.lst (((ilist p1 p2 p3).take i).map fun _ => .bl true))) ⟨same_new Same.rfl' hD, upd_same⟩ (fun _ _ _ h => SqL.of (h.1 _ _ hM)) ?_ ?_
    · rintro i y H2 H3 hi ⟨s2, d2⟩ ⟨rfl, hy⟩
      obtain ⟨j, rfl⟩ : ∃ j, y = .int j := by
        match i, hi, hy with
        | 0, _, e => cases e; exact ⟨_, rfl⟩
        | 1, _, e => cases e; exact ⟨_, rfl⟩
        | 2, _, e => cases e; exact ⟨_, rfl⟩
      refine ⟨rfl, yesT ⟨_, rfl, _, _, rfl, .int j, _, d2, ?_, same_put s2 hD, ?_⟩⟩
      · rw [List.length_map, List.length_take]
        exact small1000 (Nat.le_trans (Nat.min_le_right _ _) (by show 3 ≤ 1000; decide))
      · rw [upd_same, List.take_add_one, hy, List.map_append]
        rfl
    · rintro H2 ⟨s2, d2⟩
      refine ⟨D, [true, true, true], rfl, SqL.of d2, _, rfl, iteT ?_⟩
      refine ⟨_, rfl, _, rfl, _, _, dp_ilist (s2 _ _ hM), dp_ilist (s2 _ _ hL1), sh_ilist _ _ _, sh_ilist _ _ _, ?_⟩
      rw [eqv_ilist, decide_eq_true rfl, decide_eq_true rfl, decide_eq_true rfl]
      exact k H2 (sameT s1 s2)
theorem ok_sums {f fi ft CP : Addr} {fd fdi fdt : FuncData} (F : Fun K "_law_sums_up" "_law_sums_up" sSums f fd) (T : PriceC K CP) (MT : Meth K CP "total" ft) (bT : Binds K fdt ["self", "many_restate", "many_reweigh", "many_exchange"] []) (GT : FnOk P w K mg base CX0 1 ft fdt ["self", "many_restate", "many_reweigh", "many_exchange"] (spPTotal CP))
    (DI : Df K mg "_law_integer" sInteger ["_law_thing"] fi fdi) (GI : FnOk P w K mg base CX0 1 fi fdi ["_law_thing"] spNum) : FnOk P w K mg base CX0 2 f fd ["_law_made", "_law_row", "_law_many_here"] (spSums CP) := by
  refine F.ok scSums (fun vs H Q E h => ?_) (fun cdv A outer s H vs Q E hr h => ?_)
  · obtain ⟨x, dx, L, M, p1, p2, p3, m1, m2, m3, rfl, _⟩ := h
    rfl
  · obtain ⟨x, dx, L, M, p1, p2, p3, m1, m2, m3, rfl, hx, hL, hM, o1, o2, o3, k⟩ := h
    have nd := scSums.nd
    refine ⟨_, pss_cons (ps_set (i := 3) nd rfl (Or.inl rfl) (pe_meth (pv 0) T.cl MT GT hr bT .nil pass0 (pa_cons (pe_ix ix_list (pv 2) pe_int (fun _ _ => rfl)) (pa_cons (pe_ix ix_list (pv 2) pe_int (fun _ _ => rfl)) (pa_cons (pe_ix ix_list (pv 2) pe_int (fun _ _ => rfl)) pa_nil)))))
      (pss_one (ps_ret (pe_and (pe_call GI hr rfl DI.g DI.F.kp DI.b .nil pass0 (pa_cons (pv 3) pa_nil)) (pe_one (pe_cmpR op_eq (pv 3)
        (pe_op op_add (pe_op op_add (pe_op op_mul (pe_ix ix_list (pv 2) pe_int (fun _ _ => rfl)) (pe_ix ix_list (pv 1) pe_int (fun _ _ => rfl))) (pe_op op_mul (pe_ix ix_list (pv 2) pe_int (fun _ _ => rfl)) (pe_ix ix_list (pv 1) pe_int (fun _ _ => rfl)))) (pe_op op_mul (pe_ix ix_list (pv 2) pe_int (fun _ _ => rfl)) (pe_ix ix_list (pv 1) pe_int (fun _ _ => rfl)))) (nomark _)))))), ?_⟩
    refine ⟨_, rfl, x, dx, _, rfl, hx, rfl, _, rfl, M, _, 0, _, rfl, rfl, SqL.of hM, at3_0, _, rfl, M, _, 1, _, rfl, rfl, SqL.of hM, at3_1, _, rfl, M, _, 2, _, rfl, rfl, SqL.of hM, at3_2, ?_⟩
    refine ⟨x, dx, p1, p2, p3, m1, m2, m3, rfl, hx, o1, o2, o3, ?_⟩
    refine ⟨_, rfl, _, _, rfl, .int _, _, rfl, iteT ?_⟩
    refine ⟨_, rfl, _, rfl, M, _, 0, _, rfl, rfl, SqL.of hM, at3_0, _, rfl, L, _, 0, _, rfl, rfl, SqL.of hL, at3_0, _, _, rfl, rfl, .inr ⟨by omega, by omega⟩, ?_⟩
    refine ⟨_, rfl, M, _, 1, _, rfl, rfl, SqL.of hM, at3_1, _, rfl, L, _, 1, _, rfl, rfl, SqL.of hL, at3_1, _, _, rfl, rfl, .inr ⟨by omega, by omega⟩, _, _, rfl, rfl, ?_⟩
    refine ⟨_, rfl, M, _, 2, _, rfl, rfl, SqL.of hM, at3_2, _, rfl, L, _, 2, _, rfl, rfl, SqL.of hL, at3_2, _, _, rfl, rfl, .inr ⟨by omega, by omega⟩, _, _, rfl, rfl, rfl, ?_⟩
    rw [dec_int, decide_eq_true (by rw [Int.mul_comm p1, Int.mul_comm p2, Int.mul_comm p3])]
    exact k H Same.rfl'
end
end K52

/-! k52, part i: prices refused. -/
namespace K52
open PySem L2 PySem.Spec PyProof.Rows K52X K52T
abbrev sRefused : Stmt := top 20
abbrev sCaught : Stmt := top 21
abbrev sBad : Stmt := top 22
/-! ### C(e, ..) whose __init__ may raise, the wish told with the slots -/
def tMakeS (C : Addr) (sp : Sp) (E : L2.St → XK) (t : TA) : TE := fun σ H Q => t σ H fun vs H1 => ∀ x dx, H1 x = none → H1 dx = none → dx ≠ x → sp (.ref x :: vs) (upd (upd H1 dx (.own x)) x (.ins C dx [])) (fun v H2 => v = .non ∧ Q (.ref x) H2) (E σ)
section
variable {X : Cx} {CX : CXT} {k : Nat} {f C : Addr} {fd : FuncData} {ps : List Str} {sp : Sp} {E : L2.St → XK} {x : Str} {p pos : Pos} {e : Expr} {es : List Expr} {t : TA}
theorem mk_run {pins : List (Addr × Obj)} {σ : L2.St} {H : Hp} {s : Shared} {Q : VK} {us : List Value} {vs : List V} (M : Mk X.K C f) (F : FnOk X.prog X.w X.K X.mg X.base CX k f fd ps sp) (hr : Room (k + 1) X.A) (hb : Binds X.K fd ps []) (hx : PassesAt CX X σ (E σ)) (I : Inv X pins σ H s) (r : Vals vs us)
    (h : ∀ x dx, H x = none → H dx = none → dx ≠ x → sp (.ref x :: vs) (upd (upd H dx (.own x)) x (.ins C dx [])) (fun v H2 => v = .non ∧ Q (.ref x) H2) (E σ)) : wpAny (model X.prog X.w) X.A (call (.ref C) us) (EP X pins σ Q) X.xe s := by
  have q0 := h (s.heap.objs.size + 1) s.heap.objs.size (I.hok.fresh (Nat.le_succ _)) (I.hok.fresh (Nat.le_refl _)) (Nat.ne_of_lt (Nat.lt_succ_self _))
  have J := Inv.made (C := C) I
  have rr : Vals (V.ref (s.heap.objs.size + 1) :: vs) (Value.ref (s.heap.objs.size + 1) :: us) := .cons rfl r
  have hl : (Value.ref (s.heap.objs.size + 1) :: us ++ []).length = ps.length := by rw [List.append_nil, ← F.len _ _ _ _ q0, ← rr.length]
  have bb := hb _ (Value.ref (s.heap.objs.size + 1) :: us) J.kIn hl
  rw [List.append_nil] at bb
  refine wpAny_call (make_map (f := f) I.kIn M.makes M.init (beq_iff_eq.mp M.fn) (codeAny_mono (F.run _ X.stack _ _ ⟨_, []⟩ _ _ _ (E σ) (hr.make C us []) (J.env0.make C us []) bb rr q0) fun r1 s1 q1 => ?_))
  cases r1 with
  | error e1 => exact hx pins _ _ e1 s1 J q1
  | ok fl =>
    cases fl with
    | ret u =>
      obtain ⟨v, H2, J2, rv, ev, q2⟩ := J.after q1
      subst ev
      exact ⟨rv, ⟨V.ref (s.heap.objs.size + 1), H2, J2, rfl, q2⟩⟩
    | next => exact q1.elim
    | brk => exact q1.elim
    | cont => exact q1.elim
theorem pe_makeS (M : Mk X.K C f) (F : FnOk X.prog X.w X.K X.mg X.base CX k f fd ps sp) (hr : Room (k + 1) X.A) (hg : Gl X x) (hm : X.mg x = some (.ref C)) (hb : Binds X.K fd ps []) (hx : ∀ σ, PassesAt CX X σ (E σ)) (ha : PA X (e :: es) t)
    (hdb : (x == ("__debug__" : Str)) = false := by decide) (he : starEach (e :: es) X.env = (false, eval e X.env) :: starEach es X.env := by rfl) (hpl : (backTo pos (starEach es X.env)).any (·.1) = false := by rfl) :
    PE X (.Call (.Name x p) (e :: es) [] pos) (tMakeS C sp E t) := ⟨fun pins s σ H Q I h => by
  refine wpAny_Call_Name_kw (ld_glob I hg hm ?_ hdb)
  refine PySem.W.callWith_K (h₀ := X.base) I.ok.mod.kin M.kp (thn (ha.run pos pins s σ H _ I h) fun us s1 hh => ?_) he hpl
  obtain ⟨vs, H1, I1, r, q⟩ := hh
  exact ⟨I1.kIn, mk_run M F hr hb (hx σ) I1 r q⟩⟩
end
/-! ### isinstance(err, c), err the error that the suite holds -/
/-- what the class D says, so that isinstance asks its instances rightly -/
structure IsC (K : PySem.W.Frag) (D : Addr) : Prop where
  hc : (PySem.W.clsIn K D).isSome = true
  hg : PySem.W.findIn K (.ref D) "__getattribute__" = some (some (.builtin "BaseException.__getattribute__"))
  hk : PySem.W.findIn K (.ref D) "__getattr__" = some none
  hs : PySem.W.subIn K (.ref D) (.type "BaseException") = some true
  ha : PySem.W.findIn K (.ref D) "__class__" = some (some (.builtin "object.__class__"))
  hn : PySem.W.specialIn K (.builtin "object.__class__") "__get__" = some (some (.builtin "getset_descriptor.__get__"))
  ht : PySem.W.takesIn K (.builtin "object.__class__") = some true
  hm : PySem.W.mroIn K D (.type "object") = some true
def rIsF (K : PySem.W.Frag) (D a : Addr) (cls : Value) (d : Option Addr) : List V → Hp → VK → Prop := fun xs H Q => cls = .ref D ∧ ∃ (dd : Addr) (fs : List (Str × V)), d = some dd ∧ H dd = some (.xd fs) ∧
  ∃ (c : V) (cv : Value) (b : Bool), xs = [.ref a, c] ∧ (∀ u, RelV c u → u = cv) ∧ PySem.W.kitOne K (.ref D) cv = some b ∧ Q (.bl b) H
theorem call_isF {X : Cx} {a D : Addr} {oe : Obj} {cls : Value} {d : Option Addr} {pn : List (Addr × Obj)} (C : IsC X.K D) (hz : Zc cls d oe) (hf : ∃ vs, oe.data = .fields vs) : CallR (X.suite a ((a, oe) :: pn)) (.builtin "isinstance") (rIsF X.K D a cls d) := by
  intro pins s σ H xs us Q I r h
  obtain ⟨ec, dd, fs, ed, hdd, c, cv, b, rfl, hcv, e, q⟩ := h
  subst ec
  subst ed
  cases r with
  | cons rx rr =>
    cases rr with
    | cons rt rr =>
      cases rr
      cases rx
      have ec := hcv _ rt
      subst ec
      obtain ⟨hget, _⟩ := I.pin (a, oe) (List.mem_append.mpr (.inl List.mem_cons_self))
      obtain ⟨vs, hv⟩ := hf
      have hx : ObjOk X.prog X.w H s.heap dd (.xd fs) := I.hok dd _ hdd
      obtain ⟨mA, hns, hr⟩ := hx
      obtain ⟨od, ho, hl⟩ := lookIn_ns hns
      have J : PySem.W.InstAt s.heap a oe D (some od) := ⟨hget, hz.1, by unfold PySem.W.notCls; rw [hv] <;> rfl, by rw [hz.2]; exact ho⟩
      exact PySem.W.kia_one (PySem.W.kitx_exc C.hc C.hg C.hk C.hs C.ha C.hn C.ht C.hm) I.kIn J e (fun z => nomatch z) fun tk => ⟨.bl b, H, I.kept (t' := tk) fun _ _ z => z, rfl, q⟩
/-- the classes of errors, as the law asks them -/
structure Errs (K : PySem.W.Frag) (mg : Str → Option Value) (CF CB CN : Addr) : Prop where
  gF : mg "FallsError" = some (.ref CF)
  gB : mg "BadPrices" = some (.ref CB)
  gN : mg "BadNumber" = some (.ref CN)
  gV : mg "ValueError" = none
  isF : PySem.W.kitOne K (.ref CB) (.ref CF) = some true
  isN : PySem.W.kitOne K (.ref CB) (.ref CN) = some false
  isV : PySem.W.kitOne K (.ref CB) (.type "ValueError") = some true
  ex : PySem.W.exmOne K (.ref CB) (.ref CF) = some true
  ic : IsC K CB
def toldV : Option Str → List V
  | none => [.str "none", .str "", .bl true]
  | some z => [.str "BadPrices", .str z, .bl true]
/-- _law_refused(row) -/
def spRefused : Sp := fun vs H Q _ => ∃ L v1 v2 v3 d1 d2 d3, vs = [.ref L] ∧ H L = some (.lst [v1, v2, v3]) ∧ Rp H v1 d1 ∧ Rp H v2 d2 ∧ Rp H v3 d3 ∧ ∀ H' T, Same H H' → H' T = some (.tup (toldV (badOf (three d1 d2 d3)))) → Q (.ref T) H'
/-- _law_caught(row) -/
def spCaught : Sp := fun vs H Q _ => ∃ L v1 v2 v3 d1 d2 d3, vs = [.ref L] ∧ H L = some (.lst [v1, v2, v3]) ∧ Rp H v1 d1 ∧ Rp H v2 d2 ∧ Rp H v3 d3 ∧ ∀ H', Same H H' → Q (.bl (badOf (three d1 d2 d3)).isSome) H'
/-- data to be read in each heap that is as H is, but for the things at O and b -/
def RpX (H : Hp) (O b : Addr) (v : V) (d : PyData) : Prop := ∀ G : Hp, (∀ a u, a ≠ O → a ≠ b → H a = some u → G a = some u) → Rp G v d
/-- _law_bad(bag) -/
def spBad : Sp := fun vs H Q _ => ∃ b l, vs = [.ref b] ∧ BagL H b l ∧ ∀ v d H', (∀ O, H O ≠ none → RpX H' O b v d) → priceD d = false → Dr b l H H' → Q v H'
/-- prices are made of what is right, or refused -/
theorem mk_prices {CP CB : Addr} {v1 v2 v3 : V} {d1 d2 d3 : PyData} {H : Hp} {R : VK} {E : XK} {x dx : Addr} (t1 : Rp H v1 d1) (t2 : Rp H v2 d2) (t3 : Rp H v3 d3) (nx : H x = none) (ndx : H dx = none) (nex : dx ≠ x)
    (kn : badOf (three d1 d2 d3) = none → ∀ H1, Same H H1 → H1 x = some (.ins CP dx (priceFs v1 v2 v3)) → R .non H1)
    (ks : ∀ z, badOf (three d1 d2 d3) = some z → ∀ H1 dd, Same H H1 → H1 dd = some (.xd [("part", .str z)]) → E (.ref CB) (some dd) H1) :
    spInit CP CB [.ref x, v1, v2, v3] (upd (upd H dx (.own x)) x (.ins CP dx [])) R E := by
  have s1 := same_new (o := .own x) (Same.rfl' (H := H)) ndx
  have nx1 : upd H dx (.own x) x = none := by rw [upd_ne (Ne.symm nex)]; exact nx
  have s2 := same_new (o := .ins CP dx []) s1 nx1
  refine ⟨x, dx, v1, v2, v3, d1, d2, d3, rfl, upd_same, t1.mono (Sq.of s2), t2.mono (Sq.of s2), t3.mono (Sq.of s2), ?_⟩
  cases e : badOf (three d1 d2 d3) with
  | none => exact fun H1 kp hx => kn e H1 (fun b u q => kp b u (fun z => by rw [z, nx] at q; cases q) (s2 b u q)) hx
  | some z => exact fun H1 dd sm _ hd => ks z e H1 dd (sameT s2 sm) hd
section
variable {P : Program} {w : World} {K : PySem.W.Frag} {mg : Str → Option Value} {base : Heap}
theorem scRefused : FnScope ["_law_row", "error", "_law_kin"] ["_law_row"] (defScope sRefused) := ⟨rfl, rfl, rfl, by decide +kernel, rfl, by decide +kernel, by decide +kernel⟩
theorem scCaught : FnScope ["_law_row"] ["_law_row"] (defScope sCaught) := ⟨rfl, rfl, rfl, by decide +kernel, rfl, by decide +kernel, by decide +kernel⟩
theorem scBad : FnScope ["_law_bag_here", "_law_bad_here"] ["_law_bag_here"] (defScope sBad) := ⟨rfl, rfl, rfl, by decide +kernel, rfl, by decide +kernel, by decide +kernel⟩
abbrev tRow (K : PySem.W.Frag) : TA := tCons (tOp (rIxL K) (tVar 0) (tC (.int 0))) (tCons (tOp (rIxL K) (tVar 0) (tC (.int 1))) (tCons (tOp (rIxL K) (tVar 0) (tC (.int 2))) tNil))
theorem ok_refused {f fI fB CP CF CB CN : Addr} {fd fdI : FuncData} (F : Fun K "_law_refused" "_law_refused" sRefused f fd) (N : Nms mg) (ER : Errs K mg CF CB CN) (TB : ErrTxt P K mg CB fB "BadPrices" "BadPrices.__init__" "part" "no price: ")
    (MT : Mk K CP fI) (gP : mg "Prices" = some (.ref CP)) (bI : Binds K fdI ["self", "restate", "reweigh", "exchange"] []) (GI : FnOk P w K mg base (L2.CX P w) 5 fI fdI ["self", "restate", "reweigh", "exchange"] (spInit CP CB)) :
    FnOk P w K mg base CX0 7 f fd ["_law_row"] spRefused := by
  refine F.ok scRefused (fun vs H Q E h => ?_) (fun cdv A outer s H vs Q E hr h => ?_)
  · obtain ⟨L, v1, v2, v3, d1, d2, d3, rfl, _⟩ := h
    rfl
  · obtain ⟨L, v1, v2, v3, d1, d2, d3, rfl, hL, t1, t2, t3, k⟩ := h
    have nd := scRefused.nd
    refine ⟨_, pss_cons (ps_try_mix (tb := fun W => tDrop (tMakeS CP (spInit CP CB) (WE W) (tRow K))) (l := [(.ref CB, some 1, fun a cls d => _), (.ref CF, none, fun a cls d => _)]) (Wo := fun _ _ _ _ => False) rfl rfl nd takes0
        (fun W pn xe tk _ => pss_one (ps_expr (by exact (pe_makeS MT GI hr rfl gP bI (fun σ => passAt tk σ) (by exact (pa_cons (pe_ix ix_list (pv 0) pe_int (fun _ _ => rfl)) (pa_cons (pe_ix ix_list (pv 0) pe_int (fun _ _ => rfl)) (pa_cons (pe_ix ix_list (pv 0) pe_int (fun _ _ => rfl)) pa_nil))))))))
        (.named ⟨rfl, by decide, .inl ER.gB⟩ rfl rfl (fun a oe cls d pn hz hf => pss_cons (ps_set (i := 2) nd rfl (Or.inl rfl) (pe_and (pe_callB (call_isF ER.ic hz hf) (by rfl) N.isi (by decide +kernel) (pa_cons (pv 1) (pa_cons (pe_glob (v := .ref CF) rfl ER.gF rfl) pa_nil)))
            (pe_and (pe_callB (call_isF ER.ic hz hf) (by rfl) N.isi (by decide +kernel) (pa_cons (pv 1) (pa_cons (pe_bltn (v := .ty "ValueError") (by rfl) ER.gV (by decide +kernel) rfl) pa_nil))) (pe_one (pe_not (pe_callB (call_isF ER.ic hz hf) (by rfl) N.isi (by decide +kernel) (pa_cons (pv 1) (pa_cons (pe_glob (v := .ref CN) rfl ER.gN rfl) pa_nil))))))))
            (pss_one (ps_ret (pe_tup (pa_cons pe_str (pa_cons (pe_byE TB hz hf (pv 1) rfl) (pa_cons (pv 2) pa_nil)))))))
          (.bare ⟨rfl, by decide, .inl ER.gF⟩ (fun a oe cls d pn hz hf => pss_one (ps_ret (pe_tup (pa_cons pe_str (pa_cons pe_str (pa_cons pe_bl pa_nil)))))) .nil)))
      (pss_one (ps_ret (pe_tup (pa_cons pe_str (pa_cons pe_str (pa_cons pe_bl pa_nil)))))), ?_⟩
    refine ⟨_, rfl, L, _, 0, _, rfl, rfl, SqL.of hL, at3_0, _, rfl, L, _, 1, _, rfl, rfl, SqL.of hL, at3_1, _, rfl, L, _, 2, _, rfl, rfl, SqL.of hL, at3_2, fun x dx nx ndx nex => ?_⟩
    refine mk_prices t1 t2 t3 nx ndx nex (fun e H1 s1 hx => ⟨rfl, ?_⟩) fun z e H1 dd s1 hd => ?_
    · refine ⟨(by show 3 ≤ sizeLine; decide), fun T nT => k _ T (same_new s1 nT) ?_⟩
      rw [e]
      exact upd_same
    · refine ⟨true, TB.te, fun _ a ha => ?_, fun q => nomatch q⟩
      refine ⟨_, rfl, rfl, dd, _, rfl, hd, .ref CF, .ref CF, true, rfl, fun u r => r, ER.isF, _, rfl, iteT ?_⟩
      refine ⟨_, rfl, rfl, dd, _, rfl, hd, .ty "ValueError", .type "ValueError", true, rfl, fun u r => r, ER.isV, _, rfl, iteT ?_⟩
      refine ⟨_, rfl, rfl, dd, _, rfl, hd, .ref CN, .ref CN, false, rfl, fun u r => r, ER.isN, _, rfl, ?_⟩
      refine ⟨_, rfl, rfl, rfl, dd, .str z, rfl, hd, _, rfl, (by show 3 ≤ sizeLine; decide), fun T nT => k _ T (same_new s1 nT) ?_⟩
      rw [e]
      exact upd_same
theorem ok_caught {f fI CP CF CB CN : Addr} {fd fdI : FuncData} (F : Fun K "_law_caught" "_law_caught" sCaught f fd) (N : Nms mg) (ER : Errs K mg CF CB CN)
    (MT : Mk K CP fI) (gP : mg "Prices" = some (.ref CP)) (bI : Binds K fdI ["self", "restate", "reweigh", "exchange"] []) (GI : FnOk P w K mg base (L2.CX P w) 5 fI fdI ["self", "restate", "reweigh", "exchange"] (spInit CP CB)) :
    FnOk P w K mg base CX0 7 f fd ["_law_row"] spCaught := by
  refine F.ok scCaught (fun vs H Q E h => ?_) (fun cdv A outer s H vs Q E hr h => ?_)
  · obtain ⟨L, v1, v2, v3, d1, d2, d3, rfl, _⟩ := h
    rfl
  · obtain ⟨L, v1, v2, v3, d1, d2, d3, rfl, hL, t1, t2, t3, k⟩ := h
    have nd := scCaught.nd
    refine ⟨_, pss_cons (ps_try_mix (tb := fun W => tDrop (tMakeS CP (spInit CP CB) (WE W) (tRow K))) (l := [(.ref CF, none, fun a cls d => _)]) (Wo := fun _ _ _ _ => False) rfl rfl nd takes0
        (fun W pn xe tk _ => pss_one (ps_expr (by exact (pe_makeS MT GI hr rfl gP bI (fun σ => passAt tk σ) (by exact (pa_cons (pe_ix ix_list (pv 0) pe_int (fun _ _ => rfl)) (pa_cons (pe_ix ix_list (pv 0) pe_int (fun _ _ => rfl)) (pa_cons (pe_ix ix_list (pv 0) pe_int (fun _ _ => rfl)) pa_nil))))))))
        (.bare ⟨rfl, by decide, .inl ER.gF⟩ (fun a oe cls d pn hz hf => pss_one (ps_ret pe_bl)) .nil))
      (pss_one (ps_ret pe_bl)), ?_⟩
    refine ⟨_, rfl, L, _, 0, _, rfl, rfl, SqL.of hL, at3_0, _, rfl, L, _, 1, _, rfl, rfl, SqL.of hL, at3_1, _, rfl, L, _, 2, _, rfl, rfl, SqL.of hL, at3_2, fun x dx nx ndx nex => ?_⟩
    refine mk_prices t1 t2 t3 nx ndx nex (fun e H1 s1 hx => ⟨rfl, ?_⟩) fun z e H1 dd s1 hd => ?_
    · have q := k _ s1
      rw [e] at q
      exact q
    · refine ⟨true, ER.ex, fun _ a ha => ?_, fun q => nomatch q⟩
      have q := k _ s1
      rw [e] at q
      exact q
abbrev aL (r1 r2 : Int) : HO := .lst [.int (-1), .int 1001, .int (-1000), .int (10 ^ Int.toNat 59), .int (1001 + r1), .int (-1 - r2)]
theorem ok_bad {f fp fc : Addr} {fd fdp fdc : FuncData} (F : Fun K "_law_bad" "_law_bad" sBad f fd) (DP : Df K mg "_law_pick" sPick ["_law_bag_here", "_law_many_here"] fp fdp) (GP : FnOk P w K mg base CX0 1 fp fdp ["_law_bag_here", "_law_many_here"] spPick)
    (DC : Df K mg "_law_choice" sChoice ["_law_bag_here", "_law_things"] fc fdc) (GC : FnOk P w K mg base CX0 2 fc fdc ["_law_bag_here", "_law_things"] (spChoice K)) : FnOk P w K mg base CX0 3 f fd ["_law_bag_here"] spBad := by
  refine F.ok scBad (fun vs H Q E h => ?_) (fun cdv A outer s H vs Q E hr h => ?_)
  · obtain ⟨b, l, rfl, _⟩ := h
    rfl
  · obtain ⟨b, l, rfl, B, k⟩ := h
    have nd := scBad.nd
    have r1 := hr.mono (show 1 ≤ 2 by decide)
    refine ⟨_, pss_cons (ps_set (i := 1) nd rfl (Or.inl rfl) (pe_lst (pa_cons (pe_un un_neg pe_int) (pa_cons pe_int (pa_cons (pe_un un_neg pe_int) (pa_cons (pe_op op_pow pe_int pe_int)
        (pa_cons (pe_op op_add pe_int (pe_call GP r1 rfl DP.g DP.F.kp DP.b .nil pass0 (pa_cons (pv 0) (pa_cons (pe_op op_pow pe_int pe_int) pa_nil)))) (pa_cons (pe_op op_sub (pe_un un_neg pe_int) (pe_call GP r1 rfl DP.g DP.F.kp DP.b .nil pass0 (pa_cons (pv 0) (pa_cons pe_int pa_nil)))) pa_nil))))))))
      (pss_cons (ps_set (i := 1) nd rfl (Or.inl rfl) (pe_op op_cat (pv 1) (pe_lst (pa_cons pe_bl (pa_cons pe_bl (pa_cons pe_non (pa_cons pe_str (pa_cons pe_str (pa_cons (pe_tup (pa_cons pe_int pa_nil)) (pa_cons (pe_lst (pa_cons pe_int pa_nil)) pa_nil))))))))))
      (pss_one (ps_ret (pe_call GC hr rfl DC.g DC.F.kp DC.b .nil pass0 (pa_cons (pv 0) (pa_cons (pv 1) pa_nil)))))), ?_⟩
    refine ⟨_, rfl, _, rfl, _, _, rfl, rfl, ⟨by decide, by decide, by decide⟩, ?_⟩
    refine ⟨_, rfl, _, _, rfl, rfl, ⟨by decide, by decide, by decide⟩, b, l, _, rfl, by decide, by decide, B, fun r1 H1 r10 r11 B1 bt1 _ => ?_⟩
    have D1 : Dr b l H H1 := ⟨B1, bt1⟩
    refine ⟨_, _, rfl, rfl, _, rfl, _, rfl, b, l, 1000, rfl, by decide, by decide, B1, fun r2 H2 r20 r21 B2 bt2 _ => ?_⟩
    have D2 : Dr b l H H2 := D1.trans ⟨B2, bt2⟩
    refine ⟨_, _, rfl, rfl, (by show 6 ≤ sizeLine; decide), fun L nL => ?_⟩
    have D3 := D2.new (o := aL r1 r2) nL
    have hL : upd H2 L (aL r1 r2) L = some (aL r1 r2) := upd_same
    refine ⟨_, rfl, (by show 1 ≤ sizeLine; decide), fun T nT => ⟨(by show 1 ≤ sizeLine; decide), fun L2 n2 => ⟨(by show 7 ≤ sizeLine; decide), fun M nM => ?_⟩⟩⟩
    have D4 := D3.new (o := .tup [.int 1]) nT
    have s4 := same_new (o := .tup [.int 1]) (Same.rfl' (H := upd H2 L (aL r1 r2))) nT
    have hT : upd (upd H2 L (aL r1 r2)) T (.tup [.int 1]) T = some (.tup [.int 1]) := upd_same
    have hL4 := s4 _ _ hL
    have D5 := D4.new (o := .lst [.int 2]) n2
    have s5 := same_new (o := .lst [.int 2]) (Same.rfl' (H := upd (upd H2 L (aL r1 r2)) T (.tup [.int 1]))) n2
    have h2 : upd (upd (upd H2 L (aL r1 r2)) T (.tup [.int 1])) L2 (.lst [.int 2]) L2 = some (.lst [.int 2]) := upd_same
    have hT5 := s5 _ _ hT
    have hL5 := s5 _ _ hL4
    have D6 := D5.new (o := .lst [.bl true, .bl false, .non, .str "1", .str "", .ref T, .ref L2]) nM
    have s6 := same_new (o := .lst [.bl true, .bl false, .non, .str "1", .str "", .ref T, .ref L2]) (Same.rfl' (H := upd (upd (upd H2 L (aL r1 r2)) T (.tup [.int 1])) L2 (.lst [.int 2]))) nM
    have hM : upd (upd (upd (upd H2 L (aL r1 r2)) T (.tup [.int 1])) L2 (.lst [.int 2])) M (.lst [.bl true, .bl false, .non, .str "1", .str "", .ref T, .ref L2]) M = some (.lst [.bl true, .bl false, .non, .str "1", .str "", .ref T, .ref L2]) := upd_same
    have hT6 := s6 _ _ hT5
    have h26 := s6 _ _ h2
    have hL6 := s6 _ _ hL5
    refine ⟨L, M, _, _, rfl, rfl, hL6, hM, (by show 6 + 7 ≤ sizeLine; decide), fun p np => ?_⟩
    refine ⟨_, rfl, _, rfl, b, l, p, _, rfl, upd_same, D6.bag.ne_b np, (by show 0 < 13; decide), (by show 13 < 1000; decide), (D6.new np).bag, fun x H7 hx B7 bt7 _ => ?_⟩
    have D7 := (D6.new (o := .lst ([.int (-1), .int 1001, .int (-1000), .int (10 ^ Int.toNat 59), .int (1001 + r1), .int (-1 - r2)] ++ [.bl true, .bl false, .non, .str "1", .str "", .ref T, .ref L2])) np).trans ⟨B7, bt7⟩
    have s7 := same_new (o := .lst ([.int (-1), .int 1001, .int (-1000), .int (10 ^ Int.toNat 59), .int (1001 + r1), .int (-1 - r2)] ++ [.bl true, .bl false, .non, .str "1", .str "", .ref T, .ref L2])) (Same.rfl' (H := upd (upd (upd (upd H2 L (aL r1 r2)) T (.tup [.int 1])) L2 (.lst [.int 2])) M (.lst [.bl true, .bl false, .non, .str "1", .str "", .ref T, .ref L2]))) np
    have hT7 : H7 T = some (.tup [.int 1]) := bt7 _ _ (s7 _ _ hT6) (D3.bag.ne_b nT)
    have h27 : H7 L2 = some (.lst [.int 2]) := bt7 _ _ (s7 _ _ h26) (D4.bag.ne_b n2)
    simp only [List.cons_append, List.nil_append, List.mem_cons, List.not_mem_nil, or_false] at hx
    rcases hx with rfl | rfl | rfl | rfl | rfl | rfl | rfl | rfl | rfl | rfl | rfl | rfl | rfl
    · exact k _ _ _ (fun _ _ _ _ => .int _) (by decide) D7
    · exact k _ _ _ (fun _ _ _ _ => .int _) (by decide) D7
    · exact k _ _ _ (fun _ _ _ _ => .int _) (by decide) D7
    · exact k _ _ _ (fun _ _ _ _ => .int _) (by decide +kernel) D7
    · refine k _ _ _ (fun _ _ _ _ => .int _) ?_ D7
      show (decide (0 ≤ 1001 + r1) && decide (1001 + r1 ≤ 1000)) = false
      rw [decide_eq_false (show ¬ 1001 + r1 ≤ 1000 by omega), Bool.and_false]
    · refine k _ _ _ (fun _ _ _ _ => .int _) ?_ D7
      show (decide (0 ≤ -1 - r2) && decide (-1 - r2 ≤ 1000)) = false
      rw [decide_eq_false (show ¬ 0 ≤ -1 - r2 by omega), Bool.false_and]
    · exact k _ _ _ (fun _ _ _ _ => .bl _) rfl D7
    · exact k _ _ _ (fun _ _ _ _ => .bl _) rfl D7
    · exact k _ _ _ (fun _ _ _ _ => .non) rfl D7
    · exact k _ _ _ (fun _ _ _ _ => .str _ ⟨by decide, by decide +kernel⟩) rfl D7
    · exact k _ _ _ (fun _ _ _ _ => .str _ ⟨by decide, by decide +kernel⟩) rfl D7
    · exact k _ _ _ (fun O hO G g => .tup (g _ _ (fun z => hO (z ▸ none_but D3 B nT)) (D3.bag.ne_b nT) hT7) (.cons (.int _) .nil)) rfl D7
    · exact k _ _ _ (fun O hO G g => .lst (g _ _ (fun z => hO (z ▸ none_but D4 B n2)) (D4.bag.ne_b n2) h27) (.cons (.int _) .nil)) rfl D7
end
end K52

/-! k52, part j: how the arguments of Prices bind. -/
namespace K52
open PySem L2 PySem.Spec PyProof.Rows K52X K52T
theorem Vals.take' : ∀ {vs : List V} {us : List Value}, Vals vs us → ∀ n, Vals (vs.take n) (us.take n)
  | _, _, .nil, n => by rw [List.take_nil, List.take_nil]; exact .nil
  | _, _, .cons r rs, 0 => .nil
  | _, _, .cons r rs, n + 1 => .cons r (Vals.take' rs n)
abbrev pNames : List Str := ["self", "restate", "reweigh", "exchange"]
abbrev gR {α : Type} (us its ws : List α) : List α := us ++ (its.take 1 ++ (ws ++ its.drop 2))
abbrev gE {α : Type} (us its ws : List α) : List α := us ++ (ws.drop 1 ++ ws.take 1)
/-- all ways in which the law hands arguments over -/
structure InitB (K : PySem.W.Frag) (fd : FuncData) : Prop where
  b3 : Binds K fd pNames []
  b2 : ∃ ds, Vals [.int 2] ds ∧ Binds K fd pNames ds
  b1 : ∃ ds, Vals [.int 1, .int 2] ds ∧ Binds K fd pNames ds
  b0 : ∃ ds, Vals [.int 1, .int 1, .int 2] ds ∧ Binds K fd pNames ds
  kr : ∃ its : List Value, KBn K fd pNames 1 ["reweigh"] (fun us ws => gR us its ws) (fun vs zs => gR vs [.int 1, .int 1, .int 2] zs)
  ke : ∃ its : List Value, KBn K fd pNames 1 ["exchange", "restate", "reweigh"] (fun us ws => gE us its ws) (fun vs zs => gE vs [.int 1, .int 1, .int 2] zs)
section
variable {K : PySem.W.Frag} {f : Addr} {fd : FuncData}
theorem init_binds (F : FInit K f fd) : InitB K fd := by
  have hd : ([.int 1, .int 1, .int 2] : List V) ≠ [] := by intro e; cases e
  refine ⟨?_, ?_, ?_, ?_, ?_, ?_⟩
  · obtain ⟨ds, v, b⟩ := F.binds1 (ps := pNames) 4 3 hd rfl fun T kV doc pm an cdv ct us its h1 h2 => match us, h1, its, h2 with
      | [_, _, _, _], _, [_, _, _], _ => ⟨_, rfl, rfl⟩
    cases v
    exact b
  · exact F.binds1 (ps := pNames) 3 2 hd rfl fun T kV doc pm an cdv ct us its h1 h2 => match us, h1, its, h2 with
      | [_, _, _], _, [_, _, _], _ => ⟨_, rfl, rfl⟩
  · exact F.binds1 (ps := pNames) 2 1 hd rfl fun T kV doc pm an cdv ct us its h1 h2 => match us, h1, its, h2 with
      | [_, _], _, [_, _, _], _ => ⟨_, rfl, rfl⟩
  · exact F.binds1 (ps := pNames) 1 0 hd rfl fun T kV doc pm an cdv ct us its h1 h2 => match us, h1, its, h2 with
      | [_], _, [_, _, _], _ => ⟨_, rfl, rfl⟩
  · exact F.kbindsD (ps := pNames) 1 ["reweigh"] (fun us its ws => gR us its ws) hd (fun r1 r2 r3 => r1.append ((Vals.take' r2 1).append (r3.append (r2.drop 2)))) fun T kV doc pm an cdv ct us its ws h1 h2 h3 => match us, h1, its, h2, ws, h3 with
      | [_], _, [_, _, _], _, [_], _ => ⟨_, rfl, rfl⟩
  · exact F.kbindsD (ps := pNames) 1 ["exchange", "restate", "reweigh"] (fun us its ws => gE us its ws) hd (fun r1 r2 r3 => r1.append ((r3.drop 1).append (Vals.take' r3 1))) fun T kV doc pm an cdv ct us its ws h1 h2 h3 => match us, h1, its, h2, ws, h3 with
      | [_], _, [_, _, _], _, [_, _, _], _ => ⟨_, rfl, rfl⟩
end
end K52

/-! k52, part k: the law. -/
namespace K52
open PySem L2 PySem.Spec PyProof.Rows K52X K52T
abbrev sLaw : Stmt := top 23
theorem priceD_ok {p : Int} (o : Ok1 p) : priceD (.int p) = true := by
  show (decide (0 ≤ p) && decide (p ≤ 1000)) = true
  rw [decide_eq_true o.1, decide_eq_true o.2]
  rfl
theorem badOf_ok {p1 p2 p3 : Int} (o1 : Ok1 p1) (o2 : Ok1 p2) (o3 : Ok1 p3) : badOf (three (.int p1) (.int p2) (.int p3)) = none := by
  show (if priceD (.int p1) = true then (if priceD (.int p2) = true then (if priceD (.int p3) = true then none else _) else _) else _) = none
  rw [if_pos (priceD_ok o1), if_pos (priceD_ok o2), if_pos (priceD_ok o3)]
theorem mk_ok {CP CB : Addr} {p1 p2 p3 : Int} {H : Hp} {R : VK} {E : XK} {x dx : Addr} (o1 : Ok1 p1) (o2 : Ok1 p2) (o3 : Ok1 p3) (nx : H x = none) (ndx : H dx = none) (nex : dx ≠ x)
    (k : ∀ H1, Same H H1 → H1 x = some (.ins CP dx (intFs p1 p2 p3)) → R .non H1) : spInit CP CB [.ref x, .int p1, .int p2, .int p3] (upd (upd H dx (.own x)) x (.ins CP dx [])) R E :=
  mk_prices (.int _) (.int _) (.int _) nx ndx nex (fun _ H1 s hx => k H1 s hx) fun z e => by
    rw [badOf_ok o1 o2 o3] at e
    cases e
theorem nn_of {H : Hp} {a : Addr} {o : HO} (e : H a = some o) : H a ≠ none := fun z => by rw [e] at z; cases z
/-- which of the three are chosen, those below i -/
abbrev chosen (f : Nat → Bool) (i : Nat) : List V := ((List.range i).filter f).map fun (j : Nat) => V.int (j : Int)
theorem chosen_up {f : Nat → Bool} {i : Nat} {c : Bool} : chosen (fun j => if j = i then c else f j) (i + 1) = chosen f i ++ if c = true then [.int (i : Int)] else [] := by
  have h1 : (List.range i).filter (fun j => if j = i then c else f j) = (List.range i).filter f := List.filter_congr fun j hj => by
    have := List.mem_range.mp hj
    rw [if_neg (by omega)]
  have h2 : [i].filter (fun j => if j = i then c else f j) = if c = true then [i] else [] := by
    cases c <;> simp
  show (((List.range (i + 1)).filter (fun j => if j = i then c else f j)).map fun (j : Nat) => V.int (j : Int)) = _
  rw [List.range_succ, List.filter_append, h1, h2, List.map_append]
  cases c <;> rfl
theorem Rps.put {H : Hp} : ∀ {vs : List V} {ds : List PyData} {i : Nat} {v : V} {d : PyData}, Rps H vs ds → Rp H v d → Rps H (vs.set i v) (ds.set i d)
  | _, _, _, _, _, .nil, _ => .nil
  | _, _, 0, _, _, .cons _ rs, r => .cons r rs
  | _, _, i + 1, _, _, .cons r0 rs, r => .cons r0 (Rps.put rs r)
/-- the three things that are handed over, one of them changed at each turn -/
def OddAt (H : Hp) (O b : Addr) (p : List Int) (ws : List Nat) (vs : List V) (ds : List PyData) : Prop :=
  H O = some (.lst vs) ∧ vs.length = 3 ∧ ds.length = 3 ∧ (∀ G : Hp, (∀ a u, a ≠ O → a ≠ b → H a = some u → G a = some u) → Rps G vs ds) ∧
  ∀ j, j < 3 → (j ∈ ws → ∃ d, ds[j]? = some d ∧ priceD d = false) ∧ (j ∉ ws → ∃ q, p[j]? = some q ∧ ds[j]? = some (.int q))
theorem OddAt.step {H H' : Hp} {O b : Addr} {p : List Int} {ws : List Nat} {vs : List V} {ds : List PyData} {j : Nat} {v : V} {d : PyData} (x : OddAt H O b p ws vs ds) (hj : j < 3)
    (up : ∀ a u, a ≠ O → a ≠ b → H a = some u → H' a = some u) (ho : H' O = some (.lst (vs.set j v))) (rv : ∀ G : Hp, (∀ a u, a ≠ O → a ≠ b → H' a = some u → G a = some u) → Rp G v d) (hd : priceD d = false) :
    OddAt H' O b p (ws ++ [j]) (vs.set j v) (ds.set j d) := by
  obtain ⟨h1, h2, h3, h4, h5⟩ := x
  refine ⟨ho, by rw [List.length_set]; exact h2, by rw [List.length_set]; exact h3, fun G g => Rps.put (h4 G fun a u n1 n2 e => g a u n1 n2 (up a u n1 n2 e)) (rv G g), fun m hm => ⟨fun hw => ?_, fun hw => ?_⟩⟩
  · by_cases e : m = j
    · subst e
      exact ⟨d, by rw [List.getElem?_set_self (by omega)], hd⟩
    · rcases List.mem_append.mp hw with q | q
      · obtain ⟨d0, z1, z2⟩ := (h5 m hm).1 q
        exact ⟨d0, by rw [List.getElem?_set_ne (Ne.symm e)]; exact z1, z2⟩
      · exact absurd (List.mem_singleton.mp q) e
  · have e : m ≠ j := fun z => hw (List.mem_append.mpr (.inr (List.mem_singleton.mpr z)))
    obtain ⟨q, z1, z2⟩ := (h5 m hm).2 fun z => hw (List.mem_append.mpr (.inl z))
    exact ⟨q, z1, by rw [List.getElem?_set_ne (Ne.symm e)]; exact z2⟩
abbrev nameAt (j : Nat) : Str := (["restate", "reweigh", "exchange"] : List Str).getD j ""
/-- the first of those that are chosen is told -/
theorem first_bad {d0 d1 d2 : PyData} {f : Nat → Bool} {w0 : Nat} {ws : List Nat} (e : (List.range 3).filter f = w0 :: ws) (h : ∀ j, j < 3 → (f j = true → ∃ d, [d0, d1, d2][j]? = some d ∧ priceD d = false) ∧ (f j = false → ∃ d, [d0, d1, d2][j]? = some d ∧ priceD d = true)) :
    badOf (three d0 d1 d2) = some (nameAt w0) := by
  have at0 : ∀ b, priceD d0 = b → (if priceD d0 = true then (if priceD d1 = true then (if priceD d2 = true then none else some ("exchange" : Str)) else some ("reweigh" : Str)) else some ("restate" : Str)) = badOf (three d0 d1 d2) := fun _ _ => rfl
  rw [← at0 _ rfl]
  have r3 : (List.range 3).filter f = [0, 1, 2].filter f := rfl
  rw [r3] at e
  have h0 := h 0 (by decide)
  have h1 := h 1 (by decide)
  have h2 := h 2 (by decide)
  cases f0 : f 0 with
  | true =>
    obtain ⟨d, z1, z2⟩ := h0.1 f0
    cases z1
    rw [List.filter_cons_of_pos f0] at e
    cases e
    rw [if_neg (by rw [z2]; exact Bool.false_ne_true)]
    rfl
  | false =>
    obtain ⟨d, z1, z2⟩ := h0.2 f0
    cases z1
    rw [List.filter_cons_of_neg (by rw [f0]; exact Bool.false_ne_true)] at e
    rw [if_pos z2]
    cases f1 : f 1 with
    | true =>
      obtain ⟨d, z1, z2⟩ := h1.1 f1
      cases z1
      rw [List.filter_cons_of_pos f1] at e
      cases e
      rw [if_neg (by rw [z2]; exact Bool.false_ne_true)]
      rfl
    | false =>
      obtain ⟨d, z1, z2⟩ := h1.2 f1
      cases z1
      rw [List.filter_cons_of_neg (by rw [f1]; exact Bool.false_ne_true)] at e
      rw [if_pos z2]
      cases f2 : f 2 with
      | true =>
        obtain ⟨d, z1, z2⟩ := h2.1 f2
        cases z1
        rw [List.filter_cons_of_pos f2] at e
        cases e
        rw [if_neg (by rw [z2]; exact Bool.false_ne_true)]
        rfl
      | false =>
        rw [List.filter_cons_of_neg (by rw [f2]; exact Bool.false_ne_true)] at e
        cases e
def spLaw (K : PySem.W.Frag) : Sp := fun vs H Q _ => ∃ (a : Addr) (ns : List Int), vs = [.ref a] ∧ SqL K H a (ns.map V.int) ∧ ns.length ≤ 63 ∧ ∀ H', Q (.bl true) H'
theorem told_dp {K : PySem.W.Frag} {H : Hp} {T : Addr} {x y : Str} (h : H T = some (.tup [.str x, .str y, .bl true])) : Dp K H (.ref T) (.tuple [.str x, .str y, .bool true]) := .tup (SqT.of h) (.cons (.str _) (.cons (.str _) (.cons (.bl _) .nil)))
theorem told_sh {x y : Str} (hx : PyData.strOk x = true) (hy : PyData.strOk y = true) : SeqAt.shaped (.tuple [.str x, .str y, .bool true]) = true := by
  have e : SeqAt.shaped (.tuple [.str x, .str y, .bool true]) = ((PyData.strOk x && (PyData.strOk y && (true && true))) && true) := rfl
  rw [e, hx, hy]
  rfl
theorem name_ok {j : Nat} (h : j < 3) : PyData.strOk (nameAt j) = true := by
  match j, h with
  | 0, _ => decide +kernel
  | 1, _ => decide +kernel
  | 2, _ => decide +kernel
end K52

/-! k52, part l: the law holds. -/
namespace K52
open PySem L2 PySem.Spec PyProof.Rows K52X K52T
theorem ixN_of {n j : Nat} (h : j < n) : ixN n (j : Int) = some j := by
  unfold ixN
  rw [if_pos (by omega), if_pos (by omega)]
  rfl
section
variable {P : Program} {w : World} {K : PySem.W.Frag} {mg : Str → Option Value} {base : Heap}
abbrev lN : List Str := ["_law_script", "_law_bag_here", "_law_first", "_law_second", "_law_at", "_law_many_here", "_law_one", "_law_two", "_law_odd", "_law_wrong", "_law_due", "_law_k"]
theorem scLaw : FnScope lN ["_law_script"] (defScope sLaw) := ⟨rfl, rfl, rfl, by decide +kernel, rfl, by decide +kernel, by decide +kernel⟩
theorem ok_law {f fb fl fp fo fm fh fs fr fc fx fI fE CP CB : Addr} {fd fdb fdl fdp fdo fdm fdh fds fdr fdc fdx fdI fdE : FuncData} (F : Fun K "law" "law" sLaw f fd) (N : Nms mg)
    (DB : Df K mg "_law_bag" sBag ["_law_script"] fb fdb) (GB : FnOk P w K mg base CX0 1 fb fdb ["_law_script"] (spBag K)) (DL : Df K mg "_law_prices" sPricesL ["_law_bag_here"] fl fdl) (GL : FnOk P w K mg base CX0 4 fl fdl ["_law_bag_here"] spPrices)
    (DP : Df K mg "_law_pick" sPick ["_law_bag_here", "_law_many_here"] fp fdp) (GP : FnOk P w K mg base CX0 1 fp fdp ["_law_bag_here", "_law_many_here"] spPick) (DO : Df K mg "_law_one_in" sOneIn ["_law_bag_here", "_law_many_here"] fo fdo) (GO : FnOk P w K mg base CX0 2 fo fdo ["_law_bag_here", "_law_many_here"] spOneIn)
    (DM : Df K mg "_law_many" sMany ["_law_bag_here"] fm fdm) (GM : FnOk P w K mg base CX0 3 fm fdm ["_law_bag_here"] spMany) (DH : Df K mg "_law_holds_prices" sHolds ["_law_made", "_law_row"] fh fdh) (GH : FnOk P w K mg base CX0 2 fh fdh ["_law_made", "_law_row"] (spHolds CP))
    (DS : Df K mg "_law_sums_up" sSums ["_law_made", "_law_row", "_law_many_here"] fs fds) (GS : FnOk P w K mg base CX0 2 fs fds ["_law_made", "_law_row", "_law_many_here"] (spSums CP)) (DR : Df K mg "_law_refused" sRefused ["_law_row"] fr fdr) (GR : FnOk P w K mg base CX0 7 fr fdr ["_law_row"] spRefused)
    (DC : Df K mg "_law_caught" sCaught ["_law_row"] fc fdc) (GC : FnOk P w K mg base CX0 7 fc fdc ["_law_row"] spCaught) (DX : Df K mg "_law_bad" sBad ["_law_bag_here"] fx fdx) (GX : FnOk P w K mg base CX0 3 fx fdx ["_law_bag_here"] spBad)
    (MT : Mk K CP fI) (gP : mg "Prices" = some (.ref CP)) (IB : InitB K fdI) (GI : FnOk P w K mg base (L2.CX P w) 5 fI fdI pNames (spInit CP CB)) (TI : PriceI K CP) (ME : Meth K CP "__eq__" fE) (bE : Binds K fdE ["self", "other"] []) (GE : FnOk P w K mg base CX0 1 fE fdE ["self", "other"] (spPEq CP)) :
    FnOk P w K mg base CX0 8 f fd ["_law_script"] (spLaw K) := by
  obtain ⟨v2, w2, b2⟩ := IB.b2
  obtain ⟨v1, w1, b1⟩ := IB.b1
  obtain ⟨v0, w0, b0⟩ := IB.b0
  obtain ⟨ir, kr⟩ := IB.kr
  obtain ⟨ie, ke⟩ := IB.ke
  have b3 := IB.b3
  refine F.ok scLaw (fun vs H Q E h => ?_) (fun cdv A outer s H vs Q E hr h => ?_)
  · obtain ⟨a, ns, rfl, _⟩ := h
    rfl
  · obtain ⟨a, ns, rfl, hS, hn, k⟩ := h
    have nd := scLaw.nd
    have r1 := hr.mono (show 1 ≤ 7 by decide)
    have r2 := hr.mono (show 2 ≤ 7 by decide)
    have r3 := hr.mono (show 3 ≤ 7 by decide)
    have r4 := hr.mono (show 4 ≤ 7 by decide)
    have r6 := hr.mono (show 6 ≤ 7 by decide)
    refine ⟨_, pss_cons (ps_set (i := 1) nd rfl (Or.inr rfl) (pe_call GB r1 rfl DB.g DB.F.kp DB.b .nil pass0 (pa_cons (pv 0) pa_nil)))
      (pss_cons (ps_set (i := 2) nd rfl (Or.inl rfl) (pe_call GL r4 rfl DL.g DL.F.kp DL.b .nil pass0 (pa_cons (pv 1) pa_nil)))
      (pss_cons (ps_set (i := 3) nd rfl (Or.inl rfl) (pe_call GL r4 rfl DL.g DL.F.kp DL.b .nil pass0 (pa_cons (pv 1) pa_nil)))
      (pss_cons (ps_set (i := 4) nd rfl (Or.inr rfl) (pe_call GP r1 rfl DP.g DP.F.kp DP.b .nil pass0 (pa_cons (pv 1) (pa_cons pe_int pa_nil))))
      (C8.pss_cut (ps_if (pt_val (pe_call GO r2 rfl DO.g DO.F.kp DO.b .nil pass0 (pa_cons (pv 1) (pa_cons pe_int pa_nil))))
        (pss_cons (ps_set (i := 3) nd rfl (Or.inl rfl) (pe_callTy call_list_of (by rfl) N.list (by decide +kernel) (pa_cons (pv 2) pa_nil)))
        (pss_one (ps_asg (pe_op op_mod (pe_callTy call_int1 (by rfl) N.int (by decide +kernel) (pa_cons (pe_op op_add (pe_op op_add (pe_ix ix_list (pv 2) (pv 4) (fun _ _ => rfl)) pe_int) (pe_call GP r1 rfl DP.g DP.F.kp DP.b .nil pass0 (pa_cons (pv 1) (pa_cons pe_int pa_nil)))) pa_nil)) pe_int) (pg_sub (pv 3) (pv 4) set_list)))) pss_nil)
      (pss_cons (ps_setLc (i := 5) (own := [("_law_k", 11)]) (g := gName 11) (tt := tYes) (te := tCall spMany [] E0 (tCons (tVar 1) tNil)) rfl nd rfl rfl (sw_true rfl rfl rfl (by decide +kernel)) (pi_range1 rfl N.range (pa_cons pe_int pa_nil))
        (blkOk_by (N := lN) (sc := defScope sLaw) (by decide +kernel)) (fun _ _ _ _ _ => pg_name (i := 11) nd rfl (Or.inl rfl)) (fun _ _ _ _ _ => pts_nil) (fun _ _ _ _ _ => pe_call GM r3 rfl DM.g DM.F.kp DM.b .nil pass0 (pa_cons (pv 1) pa_nil)))
      (pss_cons (ps_set (i := 6) nd rfl (Or.inl rfl) (pe_makeS MT GI r6 rfl gP b3 (fun σ => passAt takes0 σ) (pa_cons (pe_ix ix_list (pv 2) pe_int (fun _ _ => rfl)) (pa_cons (pe_ix ix_list (pv 2) pe_int (fun _ _ => rfl)) (pa_cons (pe_ix ix_list (pv 2) pe_int (fun _ _ => rfl)) pa_nil)))))
      (pss_cons (ps_set (i := 7) nd rfl (Or.inl rfl) (pe_makeK0 MT GI r6 rfl gP ke passL (pk_cons (pe_ix ix_list (pv 3) pe_int (fun _ _ => rfl)) (pk_cons (pe_ix ix_list (pv 3) pe_int (fun _ _ => rfl)) (pk_cons (pe_ix ix_list (pv 3) pe_int (fun _ _ => rfl)) pk_nil)))))
      (pss_cons (ps_if (PW.pt (pw_or (pt_not (pt_val (pe_call GH r2 rfl DH.g DH.F.kp DH.b .nil pass0 (pa_cons (pv 6) (pa_cons (pv 2) pa_nil))))) (pw_or1 (pt_not (pt_val (pe_call GH r2 rfl DH.g DH.F.kp DH.b .nil pass0 (pa_cons (pv 7) (pa_cons (pv 3) pa_nil)))))))) (pss_one (ps_ret pe_bl)) pss_nil)
      (pss_cons (ps_if (PW.pt (pw_or (pt_not (pt_val (pe_call GS r2 rfl DS.g DS.F.kp DS.b .nil pass0 (pa_cons (pv 6) (pa_cons (pv 2) (pa_cons (pv 5) pa_nil)))))) (pw_or (pt_not (pt_val (pe_call GS r2 rfl DS.g DS.F.kp DS.b .nil pass0 (pa_cons (pv 7) (pa_cons (pv 3) (pa_cons (pv 5) pa_nil))))))
          (pw_or1 (pt_not (pt_val (pe_call GS r2 rfl DS.g DS.F.kp DS.b .nil pass0 (pa_cons (pv 6) (pa_cons (pv 2) (pa_cons (pv 5) pa_nil)))))))))) (pss_one (ps_ret pe_bl)) pss_nil)
      (pss_cons (ps_if (PW.pt (pw_or (pt_not (pt_val (pe_call GS r2 rfl DS.g DS.F.kp DS.b .nil pass0 (pa_cons (pv 7) (pa_cons (pv 3) (pa_cons
            (pe_lc (own := [("_law_k", 11)]) (g := gName 11) (tt := tYes) rfl nd (pi_range1 rfl N.range (pa_cons pe_int pa_nil)) (blkOk_by (N := lN) (sc := defScope sLaw) (by decide +kernel)) (fun _ _ _ _ _ => pg_name (i := 11) nd rfl (Or.inl rfl)) (fun _ _ _ _ _ => pts_nil)
              (fun _ _ _ _ _ => pe_callTy call_int1 (by rfl) N.int (by decide +kernel) (pa_cons (pe_cmpR op_eq (pv 11) (pv 4) (nomark _)) pa_nil))) pa_nil))))))
          (pw_or1 (pt_not (pt_val (pe_call GS r2 rfl DS.g DS.F.kp DS.b .nil pass0 (pa_cons (pv 6) (pa_cons (pv 2) (pa_cons (pe_lst (pa_cons pe_int (pa_cons pe_int (pa_cons pe_int pa_nil)))) pa_nil))))))))) (pss_one (ps_ret pe_bl)) pss_nil)
      (pss_cons (ps_if (PW.pt (pw_or (pt_not (pt_val (pe_callB call_isi (by rfl) N.isi (by decide +kernel) (pa_cons (pe_cmpR (op_prEq TI ME GE r1 bE pass0) (pv 6) (pv 7) (nomark _)) (pa_cons (pe_bltn (v := .ty "bool") (by rfl) N.bool (by decide +kernel) rfl) pa_nil)))))
          (pw_or1 (pt_cmpR op_ne (pe_cmpR (op_prEq TI ME GE r1 bE pass0) (pv 6) (pv 7) (nomark _)) (pe_cmpR (op_eqD hr.units) (pv 2) (pv 3) (nomark _)) (nomark _))))) (pss_one (ps_ret pe_bl)) pss_nil)
      (pss_cons (ps_if (pt_cmpR op_notBl (pe_cmpR (op_prEq TI ME GE r1 bE pass0) (pv 6) (pe_makeS MT GI r6 rfl gP b3 (fun σ => passAt takes0 σ) (pa_cons (pe_ix ix_list (pv 2) pe_int (fun _ _ => rfl)) (pa_cons (pe_ix ix_list (pv 2) pe_int (fun _ _ => rfl)) (pa_cons (pe_ix ix_list (pv 2) pe_int (fun _ _ => rfl)) pa_nil)))) (nomark _)) pe_bl (nomark _))
          (pss_one (ps_ret pe_bl)) pss_nil)
      (pss_cons (ps_if (PW.pt (pw_or (pt_cmpR op_notBl (pe_cmpR (op_prEq TI ME GE r1 bE pass0) (pv 6) (pe_ix ix_list (pv 2) pe_int (fun _ _ => rfl)) (nomark _)) pe_bl (nomark _))
          (pw_or (pt_cmpR op_notBl (pe_cmpR (op_prEq TI ME GE r1 bE pass0) (pv 6) (pe_callTy call_tuple_of (by rfl) N.tuple (by decide +kernel) (pa_cons (pv 2) pa_nil)) (nomark _)) pe_bl (nomark _))
          (pw_or1 (pt_cmpR op_notBl (pe_cmpR (op_prEq TI ME GE r1 bE pass0) (pv 7) pe_str (nomark _)) pe_bl (nomark _)))))) (pss_one (ps_ret pe_bl)) pss_nil)
      (pss_cons (ps_if (PW.pt (pw_or (pt_not (pt_val (pe_call GH r2 rfl DH.g DH.F.kp DH.b .nil pass0 (pa_cons (pe_make0 MT GI r6 rfl gP b0 w0 passL) (pa_cons (pe_lst (pa_cons pe_int (pa_cons pe_int (pa_cons pe_int pa_nil)))) pa_nil)))))
          (pw_or1 (pt_not (pt_val (pe_call GH r2 rfl DH.g DH.F.kp DH.b .nil pass0 (pa_cons (pe_make MT GI r6 rfl gP b1 w1 passL (pa_cons (pe_ix ix_list (pv 2) pe_int (fun _ _ => rfl)) pa_nil)) (pa_cons (pe_lst (pa_cons (pe_ix ix_list (pv 2) pe_int (fun _ _ => rfl)) (pa_cons pe_int (pa_cons pe_int pa_nil)))) pa_nil)))))))) (pss_one (ps_ret pe_bl)) pss_nil)
      (pss_cons (ps_if (pt_not (pt_val (pe_call GH r2 rfl DH.g DH.F.kp DH.b .nil pass0 (pa_cons (pe_make MT GI r6 rfl gP b2 w2 passL (pa_cons (pe_ix ix_list (pv 2) pe_int (fun _ _ => rfl)) (pa_cons (pe_ix ix_list (pv 3) pe_int (fun _ _ => rfl)) pa_nil)))
          (pa_cons (pe_lst (pa_cons (pe_ix ix_list (pv 2) pe_int (fun _ _ => rfl)) (pa_cons (pe_ix ix_list (pv 3) pe_int (fun _ _ => rfl)) (pa_cons pe_int pa_nil)))) pa_nil))))) (pss_one (ps_ret pe_bl)) pss_nil)
      (pss_cons (ps_if (PW.pt (pw_or (pt_not (pt_val (pe_call GH r2 rfl DH.g DH.F.kp DH.b .nil pass0 (pa_cons (pe_makeK0 MT GI r6 rfl gP kr passL (pk_cons (pe_ix ix_list (pv 3) pe_int (fun _ _ => rfl)) pk_nil)) (pa_cons (pe_lst (pa_cons pe_int (pa_cons (pe_ix ix_list (pv 3) pe_int (fun _ _ => rfl)) (pa_cons pe_int pa_nil)))) pa_nil)))))
          (pw_or1 (pt_cmpR op_notBl (pe_cmpR (op_prEq TI ME GE r1 bE pass0) (pe_make0 MT GI r6 rfl gP b0 w0 passL) (pe_makeS MT GI r6 rfl gP b3 (fun σ => passAt takes0 σ) (pa_cons pe_int (pa_cons pe_int (pa_cons pe_int pa_nil)))) (nomark _)) pe_bl (nomark _))))) (pss_one (ps_ret pe_bl)) pss_nil)
      (pss_cons (ps_set (i := 8) nd rfl (Or.inl rfl) (pe_callTy call_list_of (by rfl) N.list (by decide +kernel) (pa_cons (pv 2) pa_nil)))
      (pss_cons (ps_setLc (i := 9) (own := [("_law_k", 11)]) (g := gName 11) rfl nd rfl rfl (sw_true rfl rfl rfl (by decide +kernel)) (pi_range1 rfl N.range (pa_cons pe_int pa_nil))
        (blkOk_by (N := lN) (sc := defScope sLaw) (by decide +kernel)) (fun _ _ _ _ _ => pg_name (i := 11) nd rfl (Or.inl rfl))
        (fun _ _ _ _ _ => pts_one (PW.pt (pw_or (pt_cmpR op_eq (pv 11) (pv 4) (nomark _)) (pw_or1 (pt_val (pe_call GO r2 rfl DO.g DO.F.kp DO.b .nil pass0 (pa_cons (pv 1) (pa_cons pe_int pa_nil)))))))) (fun _ _ _ _ _ => pv 11))
      (pss_cons (ps_for PassesOwn.never rfl (pi_list (pv 9)) (pg_name (i := 11) nd rfl (Or.inl rfl)) (pss_one (ps_asg (pe_call GX r3 rfl DX.g DX.F.kp DX.b .nil pass0 (pa_cons (pv 1) pa_nil)) (pg_sub (pv 8) (pv 11) set_list))))
      (pss_cons (ps_set (i := 10) nd rfl (Or.inl rfl) (pe_ix ix_list (pe_lst (pa_cons pe_str (pa_cons pe_str (pa_cons pe_str pa_nil)))) (pe_ix ix_list (pv 9) pe_int (fun _ _ => rfl)) (fun _ _ => rfl)))
      (pss_cons (ps_if (PW.pt (pw_or (pt_cmpR (op_neD hr.units) (pe_call GR hr rfl DR.g DR.F.kp DR.b .nil pass0 (pa_cons (pv 8) pa_nil)) (pe_tup (pa_cons pe_str (pa_cons (pv 10) (pa_cons pe_bl pa_nil)))) (nomark _))
          (pw_or1 (pt_not (pt_val (pe_call GC hr rfl DC.g DC.F.kp DC.b .nil pass0 (pa_cons (pv 8) pa_nil))))))) (pss_one (ps_ret pe_bl)) pss_nil)
      (pss_one (ps_ret (pe_and (pe_cmpR (op_eqD hr.units) (pe_call GR hr rfl DR.g DR.F.kp DR.b .nil pass0 (pa_cons (pv 2) pa_nil)) (pe_tup (pa_cons pe_str (pa_cons pe_str (pa_cons pe_bl pa_nil)))) (nomark _))
        (pe_one (pe_cmpR (op_eqD hr.units) (pe_call GR hr rfl DR.g DR.F.kp DR.b .nil pass0 (pa_cons (pe_lst (pa_cons pe_int (pa_cons pe_int (pa_cons pe_int pa_nil)))) pa_nil)) (pe_tup (pa_cons pe_str (pa_cons pe_str (pa_cons pe_bl pa_nil)))) (nomark _))))))))))))))))))))))))))), ?_⟩
    refine ⟨_, rfl, a, ns, rfl, hS, hn, fun b l H1 nb nl B1 s1 => ?_⟩
    refine ⟨_, rfl, b, l, rfl, B1, fun L p1 p2 p3 H2 nL hL2 o1 o2 o3 D2 => ?_⟩
    refine ⟨_, rfl, b, l, rfl, D2.bag, fun S q1 q2 q3 H3 nS hS3 u1 u2 u3 D3 => ?_⟩
    have nLb := B1.ne_b nL
    have nSb := D2.bag.ne_b nS
    have hL3 := D3.but _ _ hL2 nLb
    refine ⟨_, rfl, b, l, 3, rfl, by decide, by decide, D3.bag, fun r H4 r0 r3' B4 bt4 _ => ?_⟩
    obtain ⟨j, rfl⟩ := Int.eq_ofNat_of_zero_le r0
    have hj : j < 3 := by omega
    have hL4 := bt4 _ _ hL3 nLb
    have hS4 := bt4 _ _ hS3 nSb
    refine ⟨fun σ H' => ∃ (S : Addr) (q1 q2 q3 : Int), σ = [some (.ref a), some (.ref b), some (.ref L), some (.ref S), some (.int (j : Nat)), none, none, none, none, none, none, none] ∧ S ≠ b ∧ H' L = some (.lst (ilist p1 p2 p3)) ∧ H' S = some (.lst (ilist q1 q2 q3)) ∧ Ok1 q1 ∧ Ok1 q2 ∧ Ok1 q3 ∧ BagL H' b l, ?_, ?_⟩
    · refine ⟨_, rfl, b, l, 2, rfl, by decide, by decide, B4, fun r H5 B5 bt5 _ => ⟨_, rfl, ?_⟩⟩
      have hL5 := bt5 _ _ hL4 nLb
      have hS5 := bt5 _ _ hS4 nSb
      cases r with
      | false => exact iteF ⟨S, q1, q2, q3, rfl, nSb, hL5, hS5, u1, u2, u3, B5⟩
      | true =>
        refine iteT ⟨_, rfl, L, _, rfl, .inl (SqL.of hL5), fun M nM => ?_⟩
        have s6 := same_new (o := .lst (ilist p1 p2 p3)) (Same.rfl' (H := H5)) nM
        have nMb := B5.ne_b nM
        have nMl := B5.ne_l nM
        obtain ⟨pj, hpj⟩ : ∃ pj : Int, (ilist p1 p2 p3)[j]? = some (.int pj) := by
          match j, hj with
          | 0, _ => exact ⟨_, rfl⟩
          | 1, _ => exact ⟨_, rfl⟩
          | 2, _ => exact ⟨_, rfl⟩
        refine ⟨_, rfl, _, rfl, L, _, _, _, rfl, rfl, SqL.of (s6 _ _ hL5), atI_nat hpj, _, _, rfl, rfl, ?_⟩
        refine ⟨_, rfl, b, l, 1000, rfl, by decide, by decide, B5.same s6, fun r H7 r0 r1 B7 bt7 _ => ?_⟩
        refine ⟨_, _, rfl, rfl, .inl ⟨_, rfl, _, _, rfl, rfl, (by show (0 : Int) < 1001; decide), ?_⟩⟩
        have hM7 : H7 M = some (.lst (ilist p1 p2 p3)) := bt7 _ _ upd_same nMb
        have hL7 := bt7 _ _ (s6 _ _ hL5) nLb
        have nLM : L ≠ M := ne_of_none hL5 nM
        have res : ∀ z : Int, Ok1 (z % 1001) := fun z => ⟨Int.emod_nonneg _ (by decide), by have := Int.emod_lt_of_pos z (show (0 : Int) < 1001 by decide); omega⟩
        refine ⟨_, rfl, _, rfl, M, _, _, j, rfl, rfl, hM7, ixN_of (by show j < 3; exact hj), ?_⟩
        have bag8 : ∀ o : HO, BagL (upd H7 M o) b l := fun o => by
          obtain ⟨ns, a0, r, m, c, h1, h2, h3⟩ := B7
          exact ⟨ns, a0, r, m, c, by rw [upd_ne (Ne.symm nMb)]; exact h1, by rw [upd_ne (Ne.symm nMl)]; exact h2, h3⟩
        match j, hj with
        | 0, _ => exact ⟨M, _, p2, p3, rfl, nMb, by rw [upd_ne nLM]; exact hL7, upd_same, res _, o2, o3, bag8 _⟩
        | 1, _ => exact ⟨M, p1, _, p3, rfl, nMb, by rw [upd_ne nLM]; exact hL7, upd_same, o1, res _, o3, bag8 _⟩
        | 2, _ => exact ⟨M, p1, p2, _, rfl, nMb, by rw [upd_ne nLM]; exact hL7, upd_same, o1, o2, res _, bag8 _⟩
    clear u1 u2 u3 hS3 hS4 nS nSb
    rintro σ H6 ⟨S, q1, q2, q3, rfl, nSb, hL6, hS6, u1, u2, u3, B6⟩
    refine ⟨3, rfl, by decide, by decide, fun D hD => ?_⟩
    have nDb := B6.ne_b hD
    have nDl := B6.ne_l hD
    refine lc_range (lo := 0) (n := 3) (fun i H2 => Dr b l H6 H2 ∧ ∃ ys : List Int, H2 D = some (.lst (ys.map V.int)) ∧ ys.length = i) ⟨(Dr.refl B6).new hD, [], upd_same, rfl⟩ ?_ ?_
    · rintro i H2 hi ⟨d2, ys, h2, hl⟩
      refine ⟨rfl, yesT ?_⟩
      refine ⟨_, rfl, b, l, rfl, d2.bag, fun r H3 d3 => ?_⟩
      have h3 : H3 D = some (.lst (ys.map V.int)) := d3.but _ _ h2 nDb
      refine ⟨ys.map V.int, h3, ?_, (d2.trans d3).put hD nDb nDl, ys ++ [r], ?_, ?_⟩
      · rw [List.length_map, hl]; exact small1000 (by omega)
      · rw [upd_same, List.map_append]; rfl
      · rw [List.length_append, hl]; rfl
    rintro H7 ⟨D7, ys, hM7, ly⟩
    obtain ⟨m1, m2, m3, rfl⟩ : ∃ m1 m2 m3, ys = [m1, m2, m3] := by
      match ys, ly with
      | [m1, m2, m3], _ => exact ⟨_, _, _, rfl⟩
    have hL7 := D7.but _ _ hL6 nLb
    have hS7 := D7.but _ _ hS6 nSb
    have B7 := D7.bag
    have hM7 : H7 D = some (.lst (ilist m1 m2 m3)) := hM7
    refine ⟨_, rfl, L, _, 0, _, rfl, rfl, SqL.of hL7, at3_0, _, rfl, L, _, 1, _, rfl, rfl, SqL.of hL7, at3_1, _, rfl, L, _, 2, _, rfl, rfl, SqL.of hL7, at3_2, fun x dx nx ndx nex => mk_ok o1 o2 o3 nx ndx nex fun H8 s8 hx8 => ⟨rfl, ?_⟩⟩
    have hS8 := s8 _ _ hS7
    refine ⟨_, rfl, S, _, 2, _, rfl, rfl, SqL.of hS8, at3_2, _, rfl, S, _, 0, _, rfl, rfl, SqL.of hS8, at3_0, _, rfl, S, _, 1, _, rfl, rfl, SqL.of hS8, at3_1, rfl, rfl, fun y dy ny ndy ney => mk_ok u1 u2 u3 ny ndy ney fun H9 s9 hy9 => ⟨rfl, ?_⟩⟩
    have s79 := sameT s8 s9
    have hL9 := s79 _ _ hL7
    have hS9 := s9 _ _ hS8
    have hM9 := s79 _ _ hM7
    have hx9 := s9 _ _ hx8
    have B9 := B7.same s79
    have nDL : L ≠ b := nLb
    refine ⟨_, rfl, _, rfl, x, dx, L, p1, p2, p3, rfl, hx9, hL9, fun Ha c => ⟨_, rfl, iteF ?_⟩⟩
    refine ⟨_, rfl, _, rfl, y, dy, S, q1, q2, q3, rfl, c _ _ hy9, c _ _ hS9, fun Hb t => ⟨_, rfl, iteF ?_⟩⟩
    replace c := sameT c t
    refine ⟨_, rfl, _, rfl, _, rfl, x, dx, L, D, p1, p2, p3, m1, m2, m3, rfl, c _ _ hx9, c _ _ hL9, c _ _ hM9, o1, o2, o3, fun Hc t => ⟨_, rfl, iteF ?_⟩⟩
    replace c := sameT c t
    refine ⟨_, rfl, _, rfl, _, rfl, y, dy, S, D, q1, q2, q3, m1, m2, m3, rfl, c _ _ hy9, c _ _ hS9, c _ _ hM9, u1, u2, u3, fun Hd t => ⟨_, rfl, iteF ?_⟩⟩
    replace c := sameT c t
    refine ⟨_, rfl, _, rfl, _, rfl, x, dx, L, D, p1, p2, p3, m1, m2, m3, rfl, c _ _ hx9, c _ _ hL9, c _ _ hM9, o1, o2, o3, fun He t => ⟨_, rfl, iteF ?_⟩⟩
    replace c := sameT c t
    refine ⟨_, rfl, _, rfl, 3, rfl, by decide, by decide, fun D1 nD1 => ?_⟩
    refine lc_range (lo := 0) (n := 3) (fun i H2 => Same He H2 ∧ ∃ ys : List Int, H2 D1 = some (.lst (ys.map V.int)) ∧ ys.length = i) ⟨same_new Same.rfl' nD1, [], upd_same, rfl⟩ ?_ ?_
    · rintro i H2 hi ⟨s2, ys, h2, hl⟩
      refine ⟨rfl, yesT ⟨_, rfl, _, rfl, rfl, .inr ⟨_, rfl, ys.map V.int, h2, ?_, same_put s2 nD1, ys ++ [if decide (V.int (0 + (i : Int)) = V.int ((j : Nat) : Int)) = true then (1 : Int) else 0], ?_, ?_⟩⟩⟩
      · rw [List.length_map, hl]; exact small1000 (by omega)
      · rw [upd_same, List.map_append]; rfl
      · rw [List.length_append, hl]; rfl
    rintro Hf ⟨t, ys, hD1, ly⟩
    obtain ⟨e1, e2, e3, rfl⟩ : ∃ e1 e2 e3, ys = [e1, e2, e3] := by
      match ys, ly with
      | [e1, e2, e3], _ => exact ⟨_, _, _, rfl⟩
    replace c := sameT c t
    refine ⟨y, dy, S, D1, q1, q2, q3, e1, e2, e3, rfl, c _ _ hy9, c _ _ hS9, hD1, u1, u2, u3, fun Hg t => ⟨_, rfl, iteF ?_⟩⟩
    replace c := sameT c t
    refine ⟨_, rfl, _, rfl, (by show 3 ≤ sizeLine; decide), fun Z nZ => ?_⟩
    replace c := same_new (o := .lst (ilist 0 0 0)) c nZ
    refine ⟨x, dx, L, Z, p1, p2, p3, 0, 0, 0, rfl, c _ _ hx9, c _ _ hL9, upd_same, o1, o2, o3, fun Hh t => ⟨_, rfl, iteF ?_⟩⟩
    replace c := sameT c t
    refine ⟨_, rfl, _, rfl, x, dx, _, rfl, c _ _ hx9, .own (c _ _ hy9), x, dx, p1, p2, p3, _, rfl, c _ _ hx9, .inl ⟨y, dy, q1, q2, q3, rfl, c _ _ hy9, fun r er => ?_⟩⟩
    obtain ⟨vv, ty, kk⟩ := (Rp.bl r : Rp Hh (.bl r) (.bool r)).kBool (K := K)
    refine ⟨_, _, vv, _, _, rfl, .ty _, ty, kk, _, rfl, iteF ?_⟩
    refine ⟨_, rfl, _, rfl, x, dx, _, rfl, c _ _ hx9, .own (c _ _ hy9), x, dx, p1, p2, p3, _, rfl, c _ _ hx9, .inl ⟨y, dy, q1, q2, q3, rfl, c _ _ hy9, fun r2 er2 => ?_⟩⟩
    refine ⟨_, rfl, _, rfl, _, _, dp_ilist (c _ _ hL9), dp_ilist (c _ _ hS9), sh_ilist _ _ _, sh_ilist _ _ _, rfl, _, rfl, ?_⟩
    have eqr : V.bl r2 = V.bl (PyData.eqv (.list [.int p1, .int p2, .int p3]) (.list [.int q1, .int q2, .int q3])) := by
      rw [eqv_ilist, Bool.eq_iff_iff.mpr (show r2 = true ↔ (decide (p1 = q1) && (decide (p2 = q2) && (decide (p3 = q3) && true))) = true from er2.trans (by simp))]
    refine iteNS eqr ?_
    refine ⟨_, rfl, _, rfl, L, _, 0, _, rfl, rfl, SqL.of (c _ _ hL9), at3_0, _, rfl, L, _, 1, _, rfl, rfl, SqL.of (c _ _ hL9), at3_1, _, rfl, L, _, 2, _, rfl, rfl, SqL.of (c _ _ hL9), at3_2, fun z dz nz ndz nez => mk_ok o1 o2 o3 nz ndz nez fun Hi t hz => ⟨rfl, ?_⟩⟩
    replace c := sameT c t
    refine ⟨x, dx, _, rfl, c _ _ hx9, .own hz, x, dx, p1, p2, p3, _, rfl, c _ _ hx9, .inl ⟨z, dz, p1, p2, p3, rfl, hz, fun r er => ?_⟩⟩
    obtain rfl := er.mpr ⟨rfl, rfl, rfl⟩
    refine ⟨_, _, rfl, rfl, _, rfl, iteF ?_⟩
    refine ⟨_, rfl, _, rfl, L, _, 0, _, rfl, rfl, SqL.of (c _ _ hL9), at3_0, x, dx, _, rfl, c _ _ hx9, .int _, x, dx, p1, p2, p3, _, rfl, c _ _ hx9, .inr ⟨.inl ⟨_, rfl⟩, _, _, rfl, rfl, _, rfl, iteF ?_⟩⟩
    refine ⟨_, rfl, _, rfl, L, _, rfl, .inl ⟨SqL.of (c _ _ hL9), fun T nT => ?_⟩⟩
    replace c := same_new (o := .tup (ilist p1 p2 p3)) c nT
    refine ⟨x, dx, _, rfl, c _ _ hx9, .tup upd_same, x, dx, p1, p2, p3, _, rfl, c _ _ hx9, .inr ⟨.inr (.inr ⟨T, _, rfl, upd_same⟩), _, _, rfl, rfl, _, rfl, iteF ?_⟩⟩
    refine ⟨_, rfl, y, dy, _, rfl, c _ _ hy9, .str _, y, dy, q1, q2, q3, _, rfl, c _ _ hy9, .inr ⟨.inr (.inl ⟨_, rfl⟩), _, _, rfl, rfl, _, rfl, iteF ?_⟩⟩
    refine fun z dz nz ndz nez => mk_ok (p1 := 1) (p2 := 1) (p3 := 2) ⟨by decide, by decide⟩ ⟨by decide, by decide⟩ ⟨by decide, by decide⟩ nz ndz nez fun Hj t hz => ⟨rfl, (by show 3 ≤ sizeLine; decide), fun Z nZ => ?_⟩
    replace c := same_new (o := .lst (ilist 1 1 2)) (sameT c t) nZ
    refine ⟨z, dz, Z, 1, 1, 2, rfl, (by rw [upd_ne (ne_of_none hz nZ)]; exact hz), upd_same, fun Hk t => ⟨_, rfl, iteF ?_⟩⟩
    replace c := sameT c t
    refine ⟨_, rfl, L, _, 0, _, rfl, rfl, SqL.of (c _ _ hL9), at3_0, fun z dz nz ndz nez => mk_ok (p1 := p1) (p2 := 1) (p3 := 2) o1 ⟨by decide, by decide⟩ ⟨by decide, by decide⟩ nz ndz nez fun Hl t hz => ⟨rfl, ?_⟩⟩
    replace c := sameT c t
    refine ⟨_, rfl, L, _, 0, _, rfl, rfl, SqL.of (c _ _ hL9), at3_0, (by show 3 ≤ sizeLine; decide), fun Z nZ => ?_⟩
    replace c := same_new (o := .lst (ilist p1 1 2)) c nZ
    refine ⟨z, dz, Z, p1, 1, 2, rfl, (by rw [upd_ne (ne_of_none hz nZ)]; exact hz), upd_same, fun Hm t => ⟨_, rfl, iteF ?_⟩⟩
    replace c := sameT c t
    refine ⟨_, rfl, L, _, 0, _, rfl, rfl, SqL.of (c _ _ hL9), at3_0, _, rfl, S, _, 1, _, rfl, rfl, SqL.of (c _ _ hS9), at3_1, fun z dz nz ndz nez => mk_ok (p1 := p1) (p2 := q2) (p3 := 2) o1 u2 ⟨by decide, by decide⟩ nz ndz nez fun Hn t hz => ⟨rfl, ?_⟩⟩
    replace c := sameT c t
    refine ⟨_, rfl, L, _, 0, _, rfl, rfl, SqL.of (c _ _ hL9), at3_0, _, rfl, S, _, 1, _, rfl, rfl, SqL.of (c _ _ hS9), at3_1, (by show 3 ≤ sizeLine; decide), fun Z nZ => ?_⟩
    replace c := same_new (o := .lst (ilist p1 q2 2)) c nZ
    refine ⟨z, dz, Z, p1, q2, 2, rfl, (by rw [upd_ne (ne_of_none hz nZ)]; exact hz), upd_same, fun Ho t => ⟨_, rfl, iteF ?_⟩⟩
    replace c := sameT c t
    refine ⟨_, rfl, S, _, 1, _, rfl, rfl, SqL.of (c _ _ hS9), at3_1, rfl, rfl, fun z dz nz ndz nez => mk_ok (p1 := 1) (p2 := q2) (p3 := 2) ⟨by decide, by decide⟩ u2 ⟨by decide, by decide⟩ nz ndz nez fun Hpp t hz => ⟨rfl, ?_⟩⟩
    replace c := sameT c t
    refine ⟨_, rfl, S, _, 1, _, rfl, rfl, SqL.of (c _ _ hS9), at3_1, (by show 3 ≤ sizeLine; decide), fun Z nZ => ?_⟩
    replace c := same_new (o := .lst (ilist 1 q2 2)) c nZ
    refine ⟨z, dz, Z, 1, q2, 2, rfl, (by rw [upd_ne (ne_of_none hz nZ)]; exact hz), upd_same, fun Hq t => ⟨_, rfl, iteF ?_⟩⟩
    replace c := sameT c t
    refine fun z dz nz ndz nez => mk_ok (p1 := 1) (p2 := 1) (p3 := 2) ⟨by decide, by decide⟩ ⟨by decide, by decide⟩ ⟨by decide, by decide⟩ nz ndz nez fun Hr t hz => ⟨rfl, ?_⟩
    replace c := sameT c t
    refine fun z2 dz2 nz2 ndz2 nez2 => mk_ok (p1 := 1) (p2 := 1) (p3 := 2) ⟨by decide, by decide⟩ ⟨by decide, by decide⟩ ⟨by decide, by decide⟩ nz2 ndz2 nez2 fun Hs t hz2 => ⟨rfl, ?_⟩
    replace c := sameT c t
    refine ⟨z, dz, _, rfl, t _ _ hz, .own hz2, z, dz, 1, 1, 2, _, rfl, t _ _ hz, .inl ⟨z2, dz2, 1, 1, 2, rfl, hz2, fun r er => ?_⟩⟩
    obtain rfl := er.mpr ⟨rfl, rfl, rfl⟩
    refine ⟨_, _, rfl, rfl, _, rfl, iteF ?_⟩
    refine ⟨_, rfl, L, _, rfl, .inl (SqL.of (c _ _ hL9)), fun O nO => ?_⟩
    have nOL : O ≠ L := Ne.symm (ne_of_none (c _ _ hL9) nO)
    have nOb := (B9.same c).ne_b nO
    have nOl := (B9.same c).ne_l nO
    replace c := same_new (o := .lst (ilist p1 p2 p3)) c nO
    have BO := B9.same c
    have hL0 := c _ _ hL9
    refine ⟨3, rfl, by decide, by decide, fun W nW => ?_⟩
    have nWO : O ≠ W := ne_of_none upd_same nW
    have nWb := BO.ne_b nW
    have nWl := BO.ne_l nW
    refine lc_range (lo := 0) (n := 3) (fun i H2 => Dr b l (upd Hs O (.lst (ilist p1 p2 p3))) H2 ∧ ∃ f : Nat → Bool, H2 W = some (.lst (chosen f i)) ∧ ∀ m, m < i → m = j → f m = true) ⟨(Dr.refl BO).new nW, fun _ => false, upd_same, fun m hm => absurd hm (Nat.not_lt_zero _)⟩ ?_ ?_
    · rintro i H2 hi ⟨d2, f, h2, hf⟩
      have small : (chosen f i).length < sizeLine := by
        rw [List.length_map]
        exact small1000 (Nat.le_trans (List.length_filter_le _ _) (by rw [List.length_range]; omega))
      have keep : ∀ (c : Bool) (H3 : Hp), Dr b l (upd Hs O (.lst (ilist p1 p2 p3))) H3 → H3 W = some (.lst (chosen f i)) → c = true → Dr b l (upd Hs O (.lst (ilist p1 p2 p3))) (upd H3 W (.lst (chosen f i ++ [.int (0 + (i : Int))]))) ∧
          ∃ f2 : Nat → Bool, upd H3 W (.lst (chosen f i ++ [.int (0 + (i : Int))])) W = some (.lst (chosen f2 (i + 1))) ∧ ∀ m, m < i + 1 → m = j → f2 m = true := fun c H3 d3 h3 hc => by
        refine ⟨d3.put nW nWb nWl, fun m => if m = i then c else f m, ?_, fun m hm hmj => ?_⟩
        · rw [upd_same, chosen_up (f := f) (c := c), if_pos hc, Int.zero_add]
        · show (if m = i then c else f m) = true
          by_cases e : m = i
          · rw [if_pos e]; exact hc
          · rw [if_neg e]; exact hf m (by omega) hmj
      refine ⟨rfl, _, rfl, _, rfl, rfl, _, rfl, ?_⟩
      refine ite2 (fun hc => ?_) (fun hc => ?_)
      · obtain ⟨k1, f', k2, k3⟩ := keep true H2 d2 h2 rfl
        refine iteT ⟨_, rfl, chosen f i, h2, small, k1, f', ?_, k3⟩
        exact k2
      · refine ⟨_, rfl, b, l, 3, rfl, by decide, by decide, d2.bag, fun r H3 B3 bt3 _ => ⟨_, rfl, ?_⟩⟩
        have h3 := bt3 _ _ h2 nWb
        have d3 := d2.trans ⟨B3, bt3⟩
        cases r with
        | true =>
          obtain ⟨k1, f', k2, k3⟩ := keep true H3 d3 h3 rfl
          exact iteT ⟨_, rfl, chosen f i, h3, small, k1, f', k2, k3⟩
        | false =>
          refine iteF ⟨d3, fun m => if m = i then false else f m, ?_, fun m hm hmj => ?_⟩
          · rw [h3, chosen_up (f := f) (c := false), if_neg Bool.false_ne_true, List.append_nil]
          · have ne : m ≠ i := fun e => hc (decide_eq_true (by rw [← hmj, e, Int.zero_add]))
            show (if m = i then false else f m) = true
            rw [if_neg ne]
            exact hf m (by omega) hmj
    rintro Ht ⟨d3, f, hW, hf⟩
    have hO3 := d3.but O _ upd_same nOb
    have hL3' := d3.but _ _ hL0 nLb
    have sub3 : ∀ m ∈ (List.range 3).filter f, m < 3 := fun m hm => List.mem_range.mp (List.mem_filter.mp hm).1
    have fmem : ∀ m, m < 3 → (m ∈ (List.range 3).filter f ↔ f m = true) := fun m hm => ⟨fun h => (List.mem_filter.mp h).2, fun h => List.mem_filter.mpr ⟨List.mem_range.mpr hm, h⟩⟩
    have lenC : (chosen f 3).length = ((List.range 3).filter f).length := List.length_map _
    refine ⟨_, rfl, W, rfl, ⟨_, SqL.of hW⟩, for_it (walk_list (K := K) (a := W) (xs := chosen f 3)) (fun i σ H' => BagL H' b l ∧ H' W = some (.lst (chosen f 3)) ∧ H' L = some (.lst (ilist p1 p2 p3)) ∧ (∃ vs ds, OddAt H' O b [p1, p2, p3] (((List.range 3).filter f).take i) vs ds) ∧
      ∃ k11, σ = [some (.ref a), some (.ref b), some (.ref L), some (.ref S), some (.int (j : Nat)), some (.ref D), some (.ref x), some (.ref y), some (.ref O), some (.ref W), none, k11]) ⟨d3.bag, hW, hL3', ⟨_, [.int p1, .int p2, .int p3], hO3, rfl, rfl, fun G g => .cons (.int p1) (.cons (.int p2) (.cons (.int p3) .nil)), fun m hm => ⟨fun h => (by rw [List.take_zero] at h; cases h), fun _ => ?_⟩⟩, _, rfl⟩ (fun i σ H' _ h => SqL.of h.2.1) ?_ ?_⟩
    · match m, hm with
      | 0, _ => exact ⟨_, rfl, rfl⟩
      | 1, _ => exact ⟨_, rfl, rfl⟩
      | 2, _ => exact ⟨_, rfl, rfl⟩
    · rintro i z σ1 H4 H5 hi ⟨B5, hW5, hL5, ⟨vs, ds, od⟩, k11, rfl⟩ ⟨rfl, hz⟩
      rw [lenC] at hi
      obtain ⟨m, hm, rfl⟩ : ∃ m : Nat, ((List.range 3).filter f)[i]? = some m ∧ z = .int (m : Int) := by
        rw [List.getElem?_map] at hz
        cases e : ((List.range 3).filter f)[i]? with
        | none => rw [e] at hz; cases hz
        | some m => rw [e] at hz; exact ⟨m, rfl, (Option.some.inj hz).symm⟩
      have hm3 := sub3 m (List.mem_of_getElem? hm)
      refine ⟨_, rfl, b, l, rfl, B5, fun v d H6 rv hd d6 => ?_⟩
      have hO6 := d6.but _ _ od.1 nOb
      refine ⟨_, rfl, _, rfl, O, vs, _, m, rfl, rfl, hO6, ixN_of (by rw [od.2.1]; exact hm3), ?_⟩
      obtain ⟨ns', a0, r', m', c', g1, g2, g3⟩ := d6.bag
      refine ⟨⟨ns', a0, r', m', c', by rw [upd_ne (Ne.symm nOb)]; exact g1, by rw [upd_ne (Ne.symm nOl)]; exact g2, g3⟩, by rw [upd_ne (Ne.symm nWO)]; exact d6.but _ _ hW5 nWb, by rw [upd_ne (Ne.symm nOL)]; exact d6.but _ _ hL5 nLb, ⟨vs.set m v, ds.set m d, ?_⟩, _, rfl⟩
      have tk : ((List.range 3).filter f).take (i + 1) = ((List.range 3).filter f).take i ++ [m] := by rw [List.take_add_one, hm]; rfl
      rw [tk]
      refine od.step hm3 (fun q u n1 n2 e => ?_) upd_same (fun G g => rv O (nn_of od.1) G fun q u n1 n2 e => g q u n1 n2 (by rw [upd_ne n1]; exact e)) hd
      rw [upd_ne n1]
      exact d6.but q u e n2
    rintro σ1 H4 ⟨B4', hW4, hL4', ⟨vs, ds, od⟩, k11, rfl⟩
    rw [lenC, List.take_of_length_le (Nat.le_refl _)] at od
    obtain ⟨hO4, lv, ld, rps, due⟩ := od
    obtain ⟨x0, x1, x2, rfl⟩ : ∃ x0 x1 x2, vs = [x0, x1, x2] := by
      match vs, lv with
      | [_, _, _], _ => exact ⟨_, _, _, rfl⟩
    obtain ⟨d0, d1, d2', rfl⟩ : ∃ d0 d1 d2, ds = [d0, d1, d2] := by
      match ds, ld with
      | [_, _, _], _ => exact ⟨_, _, _, rfl⟩
    obtain ⟨w0, ws, ew⟩ : ∃ w0 ws, (List.range 3).filter f = w0 :: ws := by
      cases e : (List.range 3).filter f with
      | nil =>
        have := (fmem j hj).mpr (hf j hj rfl)
        rw [e] at this
        cases this
      | cons w0 ws => exact ⟨w0, ws, rfl⟩
    have w3 : w0 < 3 := sub3 w0 (by rw [ew]; exact List.mem_cons_self)
    have hbad : badOf (three d0 d1 d2') = some (nameAt w0) := first_bad ew fun m hm => ⟨fun h => (due m hm).1 ((fmem m hm).mpr h), fun h => by
      obtain ⟨q, z1, z2⟩ := (due m hm).2 (fun e => by rw [(fmem m hm).mp e] at h; cases h)
      refine ⟨_, z2, ?_⟩
      have ok : Ok1 q := by
        match m, hm with
        | 0, _ => cases z1; exact o1
        | 1, _ => cases z1; exact o2
        | 2, _ => cases z1; exact o3
      exact priceD_ok ok⟩
    have hW0 : (chosen f 3)[0]? = some (.int (w0 : Int)) := by
      show (((List.range 3).filter f).map fun (j : Nat) => V.int (j : Int))[0]? = _
      rw [ew]
      rfl
    have hN : atI ([.str "restate", .str "reweigh", .str "exchange"] : List V) (w0 : Int) = some (.str (nameAt w0)) := atI_nat (by
      match w0, w3 with
      | 0, _ => rfl
      | 1, _ => rfl
      | 2, _ => rfl)
    refine ⟨(by show 3 ≤ sizeLine; decide), fun Z nZ => ?_⟩
    have sZ := same_new (o := .lst [.str "restate", .str "reweigh", .str "exchange"]) (Same.rfl' (H := H4)) nZ
    refine ⟨_, rfl, W, _, 0, _, rfl, rfl, SqL.of (sZ _ _ hW4), atI_nat (j := 0) hW0, Z, _, _, _, rfl, rfl, SqL.of upd_same, hN, ?_⟩
    have rp := rps _ fun q u _ _ e => sZ q u e
    obtain ⟨t0, t1, t2⟩ : Rp _ x0 d0 ∧ Rp _ x1 d1 ∧ Rp _ x2 d2' := by
      cases rp with
      | cons r0 rp => cases rp with
        | cons r1 rp => cases rp with
          | cons r2 _ => exact ⟨r0, r1, r2⟩
    refine ⟨_, rfl, O, x0, x1, x2, d0, d1, d2', rfl, sZ _ _ hO4, t0, t1, t2, fun H5 T s5 hT => ?_⟩
    rw [hbad] at hT
    refine ⟨_, rfl, (by show 3 ≤ sizeLine; decide), fun T2 n2 => ?_⟩
    have s6 := same_new (o := .tup [.str "BadPrices", .str (nameAt w0), .bl true]) s5 n2
    have shT : SeqAt.shaped (.tuple [.str "BadPrices", .str (nameAt w0), .bool true]) = true := told_sh (by decide +kernel) (name_ok w3)
    refine ⟨_, _, told_dp (by rw [upd_ne (ne_of_none hT n2)]; exact hT), told_dp upd_same, shT, shT, _, rfl, ?_⟩
    rw [SeqAt.eqv_refl _ (SeqAt.canLay_of_shaped shT)]
    refine iteF ?_
    refine ⟨_, rfl, O, x0, x1, x2, d0, d1, d2', rfl, s6 _ _ (sZ _ _ hO4), t0.mono (Sq.of s6), t1.mono (Sq.of s6), t2.mono (Sq.of s6), fun H7 s7 => ?_⟩
    rw [hbad]
    refine ⟨_, rfl, iteF ?_⟩
    have sH7 := sameT (sameT sZ s6) s7
    refine ⟨_, rfl, L, _, _, _, _, _, _, rfl, sH7 _ _ hL4', .int p1, .int p2, .int p3, fun H8 T s8 hT => ?_⟩
    rw [badOf_ok o1 o2 o3] at hT
    have shN : SeqAt.shaped (.tuple [.str "none", .str "", .bool true]) = true := told_sh (by decide +kernel) (by decide +kernel)
    refine ⟨(by show 3 ≤ sizeLine; decide), fun T2 n2 => ⟨_, _, told_dp (by rw [upd_ne (ne_of_none hT n2)]; exact hT), told_dp upd_same, shN, shN, _, rfl, ?_⟩⟩
    rw [SeqAt.eqv_refl _ (SeqAt.canLay_of_shaped shN)]
    refine iteT ⟨(by show 3 ≤ sizeLine; decide), fun Z2 nZ2 => ⟨Z2, _, _, _, _, _, _, rfl, upd_same, .int 0, .int 1000, .int 0, fun H9 T3 s9 hT3 => ?_⟩⟩
    rw [badOf_ok ⟨by decide, by decide⟩ ⟨by decide, by decide⟩ ⟨by decide, by decide⟩] at hT3
    refine ⟨(by show 3 ≤ sizeLine; decide), fun T4 n4 => ⟨_, _, told_dp (by rw [upd_ne (ne_of_none hT3 n4)]; exact hT3), told_dp upd_same, shN, shN, ?_⟩⟩
    rw [SeqAt.eqv_refl _ (SeqAt.canLay_of_shaped shN)]
    exact k _
end
end K52

/-! k52, part m: all defs together, the end. -/
namespace K52
open PySem L2 PySem.Spec PyProof.Rows K52X K52T
/-- all defs of the text, as they stand behind the top -/
structure Defs (K : PySem.W.Frag) (mg : Str → Option Value) : Prop where
  disnumber : ∃ f fd, Df K mg "is_number" sIsNum ["thing"] f fd
  dLbag : ∃ f fd, Df K mg "_law_bag" sBag ["_law_script"] f fd
  dLpick : ∃ f fd, Df K mg "_law_pick" sPick ["_law_bag_here", "_law_many_here"] f fd
  dLchoice : ∃ f fd, Df K mg "_law_choice" sChoice ["_law_bag_here", "_law_things"] f fd
  dLonein : ∃ f fd, Df K mg "_law_one_in" sOneIn ["_law_bag_here", "_law_many_here"] f fd
  dLinteger : ∃ f fd, Df K mg "_law_integer" sInteger ["_law_thing"] f fd
  dLprice : ∃ f fd, Df K mg "_law_price" sPrice ["_law_bag_here"] f fd
  dLprices : ∃ f fd, Df K mg "_law_prices" sPricesL ["_law_bag_here"] f fd
  dLmany : ∃ f fd, Df K mg "_law_many" sMany ["_law_bag_here"] f fd
  dLholdsprices : ∃ f fd, Df K mg "_law_holds_prices" sHolds ["_law_made", "_law_row"] f fd
  dLsumsup : ∃ f fd, Df K mg "_law_sums_up" sSums ["_law_made", "_law_row", "_law_many_here"] f fd
  dLrefused : ∃ f fd, Df K mg "_law_refused" sRefused ["_law_row"] f fd
  dLcaught : ∃ f fd, Df K mg "_law_caught" sCaught ["_law_row"] f fd
  dLbad : ∃ f fd, Df K mg "_law_bad" sBad ["_law_bag_here"] f fd
  dlaw : ∃ f fd, Df K mg "law" sLaw ["_law_script"] f fd
/-- the class of prices with its methods -/
structure PriceK (K : PySem.W.Frag) (mg : Str → Option Value) (CP : Addr) : Prop where
  gP : mg "Prices" = some (.ref CP)
  pc : PriceC K CP
  pi : PriceI K CP
  makes : PySem.W.makesIn K CP = true
  kc : PySem.W.keepIn K (.ref CP) = true
  init : ∃ f fd, PySem.W.findIn K (.ref CP) "__init__" = some (some (.ref f)) ∧ PySem.W.isFn K (.ref f) = true ∧ FInit K f fd
  eq : ∃ f fd, PySem.W.findIn K (.ref CP) "__eq__" = some (some (.ref f)) ∧ PySem.W.isFn K (.ref f) = true ∧ Fun K "__eq__" "Prices.__eq__" sPEq f fd ∧ Binds K fd ["self", "other"] []
  total : ∃ f fd, PySem.W.findIn K (.ref CP) "total" = some (some (.ref f)) ∧ PySem.W.isFn K (.ref f) = true ∧ Fun K "total" "Prices.total" sPTotal f fd ∧ Binds K fd ["self", "many_restate", "many_reweigh", "many_exchange"] []
/-- all that the top leaves and the law leans on -/
structure LeftK (P : Program) (w : World) (K : PySem.W.Frag) (mg : Str → Option Value) : Prop where
  defs : Defs K mg
  nms : Nms mg
  glb : Glb mg
  top : (P.main.scope.names.lookup ("super" : Str)).isSome = false
  cls : ∃ CP CF CB CN fI, PriceK K mg CP ∧ Errs K mg CF CB CN ∧ ErrTxt P K mg CB fI "BadPrices" "BadPrices.__init__" "part" "no price: "
theorem all_of {P : Program} {w : World} {K : PySem.W.Frag} {mg : Str → Option Value} (L : LeftK P w K mg) {fa : Addr} (hfa : mg "law" = some (.ref fa)) : ∃ fd, Df K mg "law" sLaw ["_law_script"] fa fd ∧ ∀ base, FnOk P w K mg base CX0 8 fa fd ["_law_script"] (spLaw K) := by
  have D := L.defs
  have N := L.nms
  obtain ⟨CP, CF, CB, CN, fB, PK', ER, TB⟩ := L.cls
  obtain ⟨fdisnumber, edisnumber, disnumber⟩ := D.disnumber
  obtain ⟨fdLbag, edLbag, dLbag⟩ := D.dLbag
  obtain ⟨fdLpick, edLpick, dLpick⟩ := D.dLpick
  obtain ⟨fdLchoice, edLchoice, dLchoice⟩ := D.dLchoice
  obtain ⟨fdLonein, edLonein, dLonein⟩ := D.dLonein
  obtain ⟨fdLinteger, edLinteger, dLinteger⟩ := D.dLinteger
  obtain ⟨fdLprice, edLprice, dLprice⟩ := D.dLprice
  obtain ⟨fdLprices, edLprices, dLprices⟩ := D.dLprices
  obtain ⟨fdLmany, edLmany, dLmany⟩ := D.dLmany
  obtain ⟨fdLholdsprices, edLholdsprices, dLholdsprices⟩ := D.dLholdsprices
  obtain ⟨fdLsumsup, edLsumsup, dLsumsup⟩ := D.dLsumsup
  obtain ⟨fdLrefused, edLrefused, dLrefused⟩ := D.dLrefused
  obtain ⟨fdLcaught, edLcaught, dLcaught⟩ := D.dLcaught
  obtain ⟨fdLbad, edLbad, dLbad⟩ := D.dLbad
  obtain ⟨fdlaw, edlaw, dlaw⟩ := D.dlaw
  obtain ⟨fi, ei, hi1, hi2, Fi⟩ := PK'.init
  obtain ⟨fe, ee, he1, he2, Fe, be⟩ := PK'.eq
  obtain ⟨ft, et, ht1, ht2, Ft, bt⟩ := PK'.total
  have e := hfa.symm.trans dlaw.g
  cases e
  refine ⟨edlaw, dlaw, fun base => ?_⟩
  have Pick : FnOk P w K mg base CX0 1 fdLpick edLpick ["_law_bag_here", "_law_many_here"] spPick := ok_pick dLpick.F N.int N.len
  have OneIn : FnOk P w K mg base CX0 2 fdLonein edLonein _ spOneIn := ok_onein dLonein.F dLpick.F dLpick.b dLpick.g N
  have Choice : FnOk P w K mg base CX0 2 fdLchoice edLchoice _ (spChoice K) := ok_choice dLchoice.F dLpick.F dLpick.b dLpick.g N
  have Bag : FnOk P w K mg base CX0 1 fdLbag edLbag _ (spBag K) := ok_bag dLbag.F N
  have IsNum : FnOk P w K mg base CX0 1 fdisnumber edisnumber _ spNum := ok_isnum disnumber.F N
  have Integer : FnOk P w K mg base CX0 1 fdLinteger edLinteger _ spNum := ok_integer dLinteger.F N
  have IB := init_binds Fi
  have Init : FnOk P w K mg base (L2.CX P w) 5 fi ei pNames (spInit CP CB) := ok_pinit Fi PK'.pc L.glb L.top TB disnumber IsNum
  have Eq : FnOk P w K mg base CX0 1 fe ee ["self", "other"] (spPEq CP) := ok_peq Fe N PK'.pc PK'.pi PK'.gP
  have Total : FnOk P w K mg base CX0 1 ft et ["self", "many_restate", "many_reweigh", "many_exchange"] (spPTotal CP) := ok_ptotal Ft PK'.pc
  have MT : Mk K CP fi := ⟨PK'.makes, hi1, hi2, PK'.kc⟩
  have Price := ok_price dLprice.F dLpick Pick dLchoice Choice
  have PricesL := ok_prices dLprices.F N dLprice Price dLonein OneIn
  have Many := ok_many dLmany.F dLpick Pick dLchoice Choice
  have Holds := ok_holds dLholdsprices.F N PK'.pc dLinteger Integer
  have Sums := ok_sums dLsumsup.F PK'.pc ⟨ht1, ht2, Ft.kp⟩ bt Total dLinteger Integer
  have Refused := ok_refused dLrefused.F N ER TB MT PK'.gP IB.b3 Init
  have Caught := ok_caught dLcaught.F N ER MT PK'.gP IB.b3 Init
  have Bad := ok_bad dLbad.F dLpick Pick dLchoice Choice
  exact ok_law dlaw.F N dLbag Bag dLprices PricesL dLpick Pick dLonein OneIn dLmany Many dLholdsprices Holds dLsumsup Sums dLrefused Refused dLcaught Caught dLbad Bad MT PK'.gP IB Init PK'.pi ⟨he1, he2, Fe.kp⟩ be Eq
theorem fin_of {P : Program} {w : World} {K : PySem.W.Frag} {mg : Str → Option Value} {fa : Addr} (hfa : mg "law" = some (.ref fa)) (L : LeftK P w K mg) :
    ∃ fd : FuncData, (∀ (s : Shared) (u : Value), BindsTo s fd ⟨[u], []⟩ [("_law_script", u)]) ∧ ∀ base : Heap, K.In base → base.Ns mainGlobals mg → FnOk P w K mg base CX0 8 fa fd ["_law_script"] (spLaw K) := by
  obtain ⟨fd, D, G⟩ := all_of L hfa
  refine ⟨fd, fun s u => ?_, fun base _ _ => G base⟩
  obtain ⟨oc, od, kV, doc, pm, an, cdv, ct, osl, rfl, lk, hcd⟩ := D.F.ex
  exact .of_eq rfl
theorem walk {l : PySem.W.OpenLaw} {q : Program} {loose : List Str} {XP : (Str → Option Value) → Heap → Prop} {YP : World → Heap → Prop} {d : DefRec} {K : Params → PySem.W.Frag} (hn : l.most = some 63) (hdf : d.params.defaults = []) (hd : d.name = "law")
    (hY : ∀ (w : World) (h : Heap), YP w h → (K w.params).In h) (F : ∀ (w : World) (mg : Str → Option Value) (h : Heap), (K w.params).In h → h.Ns mainGlobals mg → LeftK l.prog w (K w.params) mg) :
    PySem.W.WalkO q loose XP YP l.row.toRowW d [] (fun f vs => PySem.call f vs) :=
  L2.walk_of (n := 63) (k := 8) (x := "_law_script") (CX := fun _ => CX0) (sp := fun w => spLaw (K w.params)) hn (by decide) hdf ⟨rfl, by decide, by decide⟩ hY
    (fun w mg fa h KX G hmg => fin_of (by rw [← hd]; exact hmg) (F w mg h KX G)) (fun _ _ a ns hl _ hS => ⟨a, ns, rfl, hS, hl, fun _ => rfl⟩) fun _ _ _ _ _ z => z
end K52

/-! k52, part n: what the top has left, fact by fact. -/
namespace K52
open PySem L2 PySem.Spec PyProof.Rows K52X K52T
section
variable {K : PySem.W.Frag} {mg : Str → Option Value} {h : Heap} {f : Addr} {oc : Value} {od an : Option Addr} {osl : Array (Option Value)} {kV doc pm cdv ct : Value}
theorem df_of {name : Str} {st : Stmt} {ps : List Str} (X : K.In h) (G : h.Ns mainGlobals mg) (a : PySem.W.nsIn K mainGlobals name = some (some (.ref f)))
    (l : K.lookup f = some ⟨oc, od, .func (PySem.W.fnOf name name (defArgs st) (defBody st) (defScope st) .none kV doc pm an cdv ct), osl⟩) (c : PySem.W.codeIn K cdv name = true) (k : PySem.W.keepIn K (.ref f) = true)
    (hb : ∀ (kV doc pm : Value) (an : Option Addr) (cdv ct : Value) (us : List Value), us.length = ps.length → bindArgs (PySem.W.fnOf name name (defArgs st) (defBody st) (defScope st) .none kV doc pm an cdv ct) ⟨us, []⟩ = pure (ps.zip us)) : ∃ f fd, Df K mg name st ps f fd :=
  ⟨f, _, fun_mk l c k, (fun_mk l c k).binds hb, PySem.W.mg_of X G a⟩
theorem mkdisnumber (X : K.In h) (G : h.Ns mainGlobals mg) (a : PySem.W.nsIn K mainGlobals "is_number" = some (some (.ref f))) (l : K.lookup f = some ⟨oc, od, .func (PySem.W.fnOf "is_number" "is_number" (defArgs sIsNum) (defBody sIsNum) (defScope sIsNum) .none kV doc pm an cdv ct), osl⟩) (c : PySem.W.codeIn K cdv "is_number" = true) (k : PySem.W.keepIn K (.ref f) = true) : ∃ f fd, Df K mg "is_number" sIsNum ["thing"] f fd :=
  df_of X G a l c k fun _ _ _ _ _ _ us hl => match us, hl with | [_], _ => rfl
theorem mkdLbag (X : K.In h) (G : h.Ns mainGlobals mg) (a : PySem.W.nsIn K mainGlobals "_law_bag" = some (some (.ref f))) (l : K.lookup f = some ⟨oc, od, .func (PySem.W.fnOf "_law_bag" "_law_bag" (defArgs sBag) (defBody sBag) (defScope sBag) .none kV doc pm an cdv ct), osl⟩) (c : PySem.W.codeIn K cdv "_law_bag" = true) (k : PySem.W.keepIn K (.ref f) = true) : ∃ f fd, Df K mg "_law_bag" sBag ["_law_script"] f fd :=
  df_of X G a l c k fun _ _ _ _ _ _ us hl => match us, hl with | [_], _ => rfl
theorem mkdLpick (X : K.In h) (G : h.Ns mainGlobals mg) (a : PySem.W.nsIn K mainGlobals "_law_pick" = some (some (.ref f))) (l : K.lookup f = some ⟨oc, od, .func (PySem.W.fnOf "_law_pick" "_law_pick" (defArgs sPick) (defBody sPick) (defScope sPick) .none kV doc pm an cdv ct), osl⟩) (c : PySem.W.codeIn K cdv "_law_pick" = true) (k : PySem.W.keepIn K (.ref f) = true) : ∃ f fd, Df K mg "_law_pick" sPick ["_law_bag_here", "_law_many_here"] f fd :=
  df_of X G a l c k fun _ _ _ _ _ _ us hl => match us, hl with | [_, _], _ => rfl
theorem mkdLchoice (X : K.In h) (G : h.Ns mainGlobals mg) (a : PySem.W.nsIn K mainGlobals "_law_choice" = some (some (.ref f))) (l : K.lookup f = some ⟨oc, od, .func (PySem.W.fnOf "_law_choice" "_law_choice" (defArgs sChoice) (defBody sChoice) (defScope sChoice) .none kV doc pm an cdv ct), osl⟩) (c : PySem.W.codeIn K cdv "_law_choice" = true) (k : PySem.W.keepIn K (.ref f) = true) : ∃ f fd, Df K mg "_law_choice" sChoice ["_law_bag_here", "_law_things"] f fd :=
  df_of X G a l c k fun _ _ _ _ _ _ us hl => match us, hl with | [_, _], _ => rfl
theorem mkdLonein (X : K.In h) (G : h.Ns mainGlobals mg) (a : PySem.W.nsIn K mainGlobals "_law_one_in" = some (some (.ref f))) (l : K.lookup f = some ⟨oc, od, .func (PySem.W.fnOf "_law_one_in" "_law_one_in" (defArgs sOneIn) (defBody sOneIn) (defScope sOneIn) .none kV doc pm an cdv ct), osl⟩) (c : PySem.W.codeIn K cdv "_law_one_in" = true) (k : PySem.W.keepIn K (.ref f) = true) : ∃ f fd, Df K mg "_law_one_in" sOneIn ["_law_bag_here", "_law_many_here"] f fd :=
  df_of X G a l c k fun _ _ _ _ _ _ us hl => match us, hl with | [_, _], _ => rfl
theorem mkdLinteger (X : K.In h) (G : h.Ns mainGlobals mg) (a : PySem.W.nsIn K mainGlobals "_law_integer" = some (some (.ref f))) (l : K.lookup f = some ⟨oc, od, .func (PySem.W.fnOf "_law_integer" "_law_integer" (defArgs sInteger) (defBody sInteger) (defScope sInteger) .none kV doc pm an cdv ct), osl⟩) (c : PySem.W.codeIn K cdv "_law_integer" = true) (k : PySem.W.keepIn K (.ref f) = true) : ∃ f fd, Df K mg "_law_integer" sInteger ["_law_thing"] f fd :=
  df_of X G a l c k fun _ _ _ _ _ _ us hl => match us, hl with | [_], _ => rfl
theorem mkdLprice (X : K.In h) (G : h.Ns mainGlobals mg) (a : PySem.W.nsIn K mainGlobals "_law_price" = some (some (.ref f))) (l : K.lookup f = some ⟨oc, od, .func (PySem.W.fnOf "_law_price" "_law_price" (defArgs sPrice) (defBody sPrice) (defScope sPrice) .none kV doc pm an cdv ct), osl⟩) (c : PySem.W.codeIn K cdv "_law_price" = true) (k : PySem.W.keepIn K (.ref f) = true) : ∃ f fd, Df K mg "_law_price" sPrice ["_law_bag_here"] f fd :=
  df_of X G a l c k fun _ _ _ _ _ _ us hl => match us, hl with | [_], _ => rfl
theorem mkdLprices (X : K.In h) (G : h.Ns mainGlobals mg) (a : PySem.W.nsIn K mainGlobals "_law_prices" = some (some (.ref f))) (l : K.lookup f = some ⟨oc, od, .func (PySem.W.fnOf "_law_prices" "_law_prices" (defArgs sPricesL) (defBody sPricesL) (defScope sPricesL) .none kV doc pm an cdv ct), osl⟩) (c : PySem.W.codeIn K cdv "_law_prices" = true) (k : PySem.W.keepIn K (.ref f) = true) : ∃ f fd, Df K mg "_law_prices" sPricesL ["_law_bag_here"] f fd :=
  df_of X G a l c k fun _ _ _ _ _ _ us hl => match us, hl with | [_], _ => rfl
theorem mkdLmany (X : K.In h) (G : h.Ns mainGlobals mg) (a : PySem.W.nsIn K mainGlobals "_law_many" = some (some (.ref f))) (l : K.lookup f = some ⟨oc, od, .func (PySem.W.fnOf "_law_many" "_law_many" (defArgs sMany) (defBody sMany) (defScope sMany) .none kV doc pm an cdv ct), osl⟩) (c : PySem.W.codeIn K cdv "_law_many" = true) (k : PySem.W.keepIn K (.ref f) = true) : ∃ f fd, Df K mg "_law_many" sMany ["_law_bag_here"] f fd :=
  df_of X G a l c k fun _ _ _ _ _ _ us hl => match us, hl with | [_], _ => rfl
theorem mkdLholdsprices (X : K.In h) (G : h.Ns mainGlobals mg) (a : PySem.W.nsIn K mainGlobals "_law_holds_prices" = some (some (.ref f))) (l : K.lookup f = some ⟨oc, od, .func (PySem.W.fnOf "_law_holds_prices" "_law_holds_prices" (defArgs sHolds) (defBody sHolds) (defScope sHolds) .none kV doc pm an cdv ct), osl⟩) (c : PySem.W.codeIn K cdv "_law_holds_prices" = true) (k : PySem.W.keepIn K (.ref f) = true) : ∃ f fd, Df K mg "_law_holds_prices" sHolds ["_law_made", "_law_row"] f fd :=
  df_of X G a l c k fun _ _ _ _ _ _ us hl => match us, hl with | [_, _], _ => rfl
theorem mkdLsumsup (X : K.In h) (G : h.Ns mainGlobals mg) (a : PySem.W.nsIn K mainGlobals "_law_sums_up" = some (some (.ref f))) (l : K.lookup f = some ⟨oc, od, .func (PySem.W.fnOf "_law_sums_up" "_law_sums_up" (defArgs sSums) (defBody sSums) (defScope sSums) .none kV doc pm an cdv ct), osl⟩) (c : PySem.W.codeIn K cdv "_law_sums_up" = true) (k : PySem.W.keepIn K (.ref f) = true) : ∃ f fd, Df K mg "_law_sums_up" sSums ["_law_made", "_law_row", "_law_many_here"] f fd :=
  df_of X G a l c k fun _ _ _ _ _ _ us hl => match us, hl with | [_, _, _], _ => rfl
theorem mkdLrefused (X : K.In h) (G : h.Ns mainGlobals mg) (a : PySem.W.nsIn K mainGlobals "_law_refused" = some (some (.ref f))) (l : K.lookup f = some ⟨oc, od, .func (PySem.W.fnOf "_law_refused" "_law_refused" (defArgs sRefused) (defBody sRefused) (defScope sRefused) .none kV doc pm an cdv ct), osl⟩) (c : PySem.W.codeIn K cdv "_law_refused" = true) (k : PySem.W.keepIn K (.ref f) = true) : ∃ f fd, Df K mg "_law_refused" sRefused ["_law_row"] f fd :=
  df_of X G a l c k fun _ _ _ _ _ _ us hl => match us, hl with | [_], _ => rfl
theorem mkdLcaught (X : K.In h) (G : h.Ns mainGlobals mg) (a : PySem.W.nsIn K mainGlobals "_law_caught" = some (some (.ref f))) (l : K.lookup f = some ⟨oc, od, .func (PySem.W.fnOf "_law_caught" "_law_caught" (defArgs sCaught) (defBody sCaught) (defScope sCaught) .none kV doc pm an cdv ct), osl⟩) (c : PySem.W.codeIn K cdv "_law_caught" = true) (k : PySem.W.keepIn K (.ref f) = true) : ∃ f fd, Df K mg "_law_caught" sCaught ["_law_row"] f fd :=
  df_of X G a l c k fun _ _ _ _ _ _ us hl => match us, hl with | [_], _ => rfl
theorem mkdLbad (X : K.In h) (G : h.Ns mainGlobals mg) (a : PySem.W.nsIn K mainGlobals "_law_bad" = some (some (.ref f))) (l : K.lookup f = some ⟨oc, od, .func (PySem.W.fnOf "_law_bad" "_law_bad" (defArgs sBad) (defBody sBad) (defScope sBad) .none kV doc pm an cdv ct), osl⟩) (c : PySem.W.codeIn K cdv "_law_bad" = true) (k : PySem.W.keepIn K (.ref f) = true) : ∃ f fd, Df K mg "_law_bad" sBad ["_law_bag_here"] f fd :=
  df_of X G a l c k fun _ _ _ _ _ _ us hl => match us, hl with | [_], _ => rfl
theorem mkdlaw (X : K.In h) (G : h.Ns mainGlobals mg) (a : PySem.W.nsIn K mainGlobals "law" = some (some (.ref f))) (l : K.lookup f = some ⟨oc, od, .func (PySem.W.fnOf "law" "law" (defArgs sLaw) (defBody sLaw) (defScope sLaw) .none kV doc pm an cdv ct), osl⟩) (c : PySem.W.codeIn K cdv "law" = true) (k : PySem.W.keepIn K (.ref f) = true) : ∃ f fd, Df K mg "law" sLaw ["_law_script"] f fd :=
  df_of X G a l c k fun _ _ _ _ _ _ us hl => match us, hl with | [_], _ => rfl
theorem mksPEq {CT : Addr} (a : PySem.W.findIn K (.ref CT) "__eq__" = some (some (.ref f))) (i : PySem.W.isFn K (.ref f) = true) (l : K.lookup f = some ⟨oc, od, .func (PySem.W.fnOf "__eq__" "Prices.__eq__" (defArgs sPEq) (defBody sPEq) (defScope sPEq) .none kV doc pm an cdv ct), osl⟩) (c : PySem.W.codeIn K cdv "Prices.__eq__" = true) (k : PySem.W.keepIn K (.ref f) = true) :
    ∃ f fd, PySem.W.findIn K (.ref CT) "__eq__" = some (some (.ref f)) ∧ PySem.W.isFn K (.ref f) = true ∧ Fun K "__eq__" "Prices.__eq__" sPEq f fd ∧ Binds K fd ["self", "other"] [] :=
  ⟨f, _, a, i, fun_mk l c k, (fun_mk l c k).binds fun _ _ _ _ _ _ us hl => match us, hl with | [_, _], _ => rfl⟩
theorem mksPTotal {CT : Addr} (a : PySem.W.findIn K (.ref CT) "total" = some (some (.ref f))) (i : PySem.W.isFn K (.ref f) = true) (l : K.lookup f = some ⟨oc, od, .func (PySem.W.fnOf "total" "Prices.total" (defArgs sPTotal) (defBody sPTotal) (defScope sPTotal) .none kV doc pm an cdv ct), osl⟩) (c : PySem.W.codeIn K cdv "Prices.total" = true) (k : PySem.W.keepIn K (.ref f) = true) :
    ∃ f fd, PySem.W.findIn K (.ref CT) "total" = some (some (.ref f)) ∧ PySem.W.isFn K (.ref f) = true ∧ Fun K "total" "Prices.total" sPTotal f fd ∧ Binds K fd ["self", "many_restate", "many_reweigh", "many_exchange"] [] :=
  ⟨f, _, a, i, fun_mk l c k, (fun_mk l c k).binds fun _ _ _ _ _ _ us hl => match us, hl with | [_, _, _, _], _ => rfl⟩
theorem mkInit {CT T : Addr} {dd : Option Addr} {its : Array Value} {n : Nat} {sl : Array (Option Value)} (a : PySem.W.findIn K (.ref CT) "__init__" = some (some (.ref f))) (i : PySem.W.isFn K (.ref f) = true) (l : K.lookup f = some ⟨oc, od, .func (PySem.W.fnOf "__init__" "Prices.__init__" (defArgs sPInit) (defBody sPInit) (defScope sPInit) (.ref T) kV doc pm an cdv ct), osl⟩) (c : PySem.W.codeIn K cdv "Prices.__init__" = true) (k : PySem.W.keepIn K (.ref f) = true)
    (t : K.lookup T = some ⟨.type "tuple", dd, .seq its n, sl⟩) (v : Vals [.int 1, .int 1, .int 2] its.toList) : ∃ f fd, PySem.W.findIn K (.ref CT) "__init__" = some (some (.ref f)) ∧ PySem.W.isFn K (.ref f) = true ∧ FInit K f fd :=
  ⟨f, _, a, i, ⟨⟨oc, od, .ref T, kV, doc, pm, an, cdv, ct, osl, rfl, l, c, .inr ⟨(fun e => nomatch e), T, _, its.toList, n, rfl, t, rfl, v⟩, .inl rfl⟩, k⟩⟩
end
section
variable {K : PySem.W.Frag} {mg : Str → Option Value} {h : Heap}
theorem mk_cls {C : Addr} {nm q : Str} {N : Addr} {bs bm : List Value} {sn : List Str} {sub : List Value} {ab : Bool} {col : Option Bool} {dd : Option Addr} {k0 k1 k2 k3 k5 : Option Value} (l : K.lookup C = some (excClassObj nm q C N bs bm true sn sub ab col dd k0 k1 k2 k3 k5 "ValueError.__new__")) (r : PySem.HandSPX.refsVE bm = true) :
    ∃ nm q N bs bm sn sub ab col dd k0 k1 k2 k3 k5, K.lookup C = some (excClassObj nm q C N bs bm true sn sub ab col dd k0 k1 k2 k3 k5 "ValueError.__new__") ∧ PySem.HandSPX.refsVE bm = true := ⟨nm, q, N, bs, bm, sn, sub, ab, col, dd, k0, k1, k2, k3, k5, l, r⟩
theorem mk_fn {P : Program} {fI C cda cc : Addr} {f qual msg : Str} {oc : Value} {od : Option Addr} {doc pm : Value} {an : Option Addr} {ct : Value} {osl : Array (Option Value)} {p1 p2 a1 a2 a3 a4 a5 a6 a7 a8 a9 b1 b2 b3 b4 : Pos}
    {ccl : Value} {cdd : Option Addr} {vs : Array Value} {ccs : Array (Option Value)} {file : Str} {tf : Tok} {cl : Value} {cld : Option Addr} {csl : Array (Option Value)}
    (l : K.lookup fI = some ⟨oc, od, .func (PySem.W.ksFn "__init__" qual (eA f p1 p2) (eB f msg a1 a2 a3 a4 a5 a6 a7 a8 a9 b1 b2 b3 b4) (eS f) .none .none doc pm an (.ref cda) ct cc), osl⟩) (c : PySem.W.codeIn K (.ref cda) qual = true)
    (k : K.lookup cda = some ⟨ccl, cdd, .fields vs, ccs⟩) (v : vs[2]? = some (.str file tf)) (p : ((P.main.file : Str) == file) = true) (lc : K.lookup cc = some ⟨cl, cld, .cell (some (.ref C)), csl⟩) (e : (a3.endLine == a8.line) = true) :
    ∃ (oc : Value) (od : Option Addr) (doc pm : Value) (an : Option Addr) (cda cc : Addr) (ct : Value) (osl : Array (Option Value)) (p1 p2 a1 a2 a3 a4 a5 a6 a7 a8 a9 b1 b2 b3 b4 : Pos)
    (ccl : Value) (cdd : Option Addr) (vs : Array Value) (ccs : Array (Option Value)) (file : Str) (tf : Tok) (cl : Value) (cld : Option Addr) (csl : Array (Option Value)),
    K.lookup fI = some ⟨oc, od, .func (PySem.W.ksFn "__init__" qual (eA f p1 p2) (eB f msg a1 a2 a3 a4 a5 a6 a7 a8 a9 b1 b2 b3 b4) (eS f) .none .none doc pm an (.ref cda) ct cc), osl⟩ ∧ PySem.W.codeIn K (.ref cda) qual = true ∧
    K.lookup cda = some ⟨ccl, cdd, .fields vs, ccs⟩ ∧ vs[2]? = some (.str file tf) ∧ ((P.main.file : Str) == file) = true ∧ K.lookup cc = some ⟨cl, cld, .cell (some (.ref C)), csl⟩ ∧ (a3.endLine == a8.line) = true :=
  ⟨oc, od, doc, pm, an, cda, cc, ct, osl, p1, p2, a1, a2, a3, a4, a5, a6, a7, a8, a9, b1, b2, b3, b4, ccl, cdd, vs, ccs, file, tf, cl, cld, csl, l, c, k, v, p, lc, e⟩
theorem mk_exm {C D : Addr} (h1 : PySem.W.subIn K (.ref D) (.type "BaseException") = some true) (h2 : PySem.W.isClsIn K D = true) (h3 : PySem.W.typeIn K (.ref D) = some (.type "type")) (h4 : PySem.W.subIn K (.ref C) (.ref D) = some true) : PySem.W.exmOne K (.ref C) (.ref D) = some true := by
  have e1 : (PySem.W.subIn K (.ref D) (.type "BaseException") == some true) = true := by rw [h1] <;> rfl
  have e2 : ((PySem.W.clsIn K D).isSome && PySem.W.typeIn K (.ref D) == some (.type "type")) = true := by
    have h2' : (PySem.W.clsIn K D).isSome = true := h2
    rw [h2', h3] <;> rfl
  show (if (PySem.W.subIn K (.ref D) (.type "BaseException") == some true) = true then (if ((PySem.W.clsIn K D).isSome && PySem.W.typeIn K (.ref D) == some (.type "type")) = true then PySem.W.subIn K (.ref C) (.ref D) else none) else none) = some true
  rw [if_pos e1, if_pos e2]
  exact h4
theorem mk_isC {D : Addr} (y1 : PySem.W.isClsIn K D = true) (y2 : PySem.W.findIn K (.ref D) "__getattribute__" = some (some (.builtin "BaseException.__getattribute__"))) (y3 : PySem.W.findIn K (.ref D) "__getattr__" = some none) (y4 : PySem.W.subIn K (.ref D) (.type "BaseException") = some true)
    (y5 : PySem.W.findIn K (.ref D) "__class__" = some (some (.builtin "object.__class__"))) (y6 : PySem.W.specialIn K (.builtin "object.__class__") "__get__" = some (some (.builtin "getset_descriptor.__get__"))) (y7 : PySem.W.takesIn K (.builtin "object.__class__") = some true) (y8 : PySem.W.mroIn K D (.type "object") = some true) : IsC K D :=
  ⟨y1, y2, y3, y4, y5, y6, y7, y8⟩
end
end K52

namespace K52
open PySem L2 PySem.Spec PyProof.Rows K52X K52T
theorem mk_left {P : Program} {w : World} {K : PySem.W.Frag} {mg : Str → Option Value} {CP CF CB CN fI : Addr} (defs : Defs K mg) (nms : Nms mg) (glb : Glb mg) (top : (P.main.scope.names.lookup ("super" : Str)).isSome = false) (pk : PriceK K mg CP) (er : Errs K mg CF CB CN)
    (tx : ErrTxt P K mg CB fI "BadPrices" "BadPrices.__init__" "part" "no price: ") : LeftK P w K mg := ⟨defs, nms, glb, top, CP, CF, CB, CN, fI, pk, er, tx⟩
end K52
open PySem PySem.W PyProof.Rows
set_option maxRecDepth 100000 in
set_option maxHeartbeats 0 in
theorem PySem.Challenge.cw_fallsunder_k52_prices_holds : PySem.Challenge.rw_fallsunder_k52_prices.Holds := by
  w_on; o_law; k_head; (case hw => w_witness2)
  k_fill
  refine K52.walk (l := PySem.Challenge.rw_fallsunder_k52_prices) rfl rfl rfl (fun w h Y => PySem.W.kIn_of Y) ?F0
  case F0 =>
    intro w mg h KX G
    refine' K52.mk_left ?Q1 ?Q2 ?Q3 ?Q7 ?Q8 ?Q9 ?Q10
    case Q1 =>
      refine' ⟨?disnumber, ?dLbag, ?dLpick, ?dLchoice, ?dLonein, ?dLinteger, ?dLprice, ?dLprices, ?dLmany, ?dLholdsprices, ?dLsumsup, ?dLrefused, ?dLcaught, ?dLbad, ?dlaw⟩
      case disnumber => (refine' K52.mkdisnumber KX G ?a ?l ?c ?k; (case a => k_is); (case l => k_is); (case c => k_is); (case k => k_is))
      case dLbag => (refine' K52.mkdLbag KX G ?a ?l ?c ?k; (case a => k_is); (case l => k_is); (case c => k_is); (case k => k_is))
      case dLpick => (refine' K52.mkdLpick KX G ?a ?l ?c ?k; (case a => k_is); (case l => k_is); (case c => k_is); (case k => k_is))
      case dLchoice => (refine' K52.mkdLchoice KX G ?a ?l ?c ?k; (case a => k_is); (case l => k_is); (case c => k_is); (case k => k_is))
      case dLonein => (refine' K52.mkdLonein KX G ?a ?l ?c ?k; (case a => k_is); (case l => k_is); (case c => k_is); (case k => k_is))
      case dLinteger => (refine' K52.mkdLinteger KX G ?a ?l ?c ?k; (case a => k_is); (case l => k_is); (case c => k_is); (case k => k_is))
      case dLprice => (refine' K52.mkdLprice KX G ?a ?l ?c ?k; (case a => k_is); (case l => k_is); (case c => k_is); (case k => k_is))
      case dLprices => (refine' K52.mkdLprices KX G ?a ?l ?c ?k; (case a => k_is); (case l => k_is); (case c => k_is); (case k => k_is))
      case dLmany => (refine' K52.mkdLmany KX G ?a ?l ?c ?k; (case a => k_is); (case l => k_is); (case c => k_is); (case k => k_is))
      case dLholdsprices => (refine' K52.mkdLholdsprices KX G ?a ?l ?c ?k; (case a => k_is); (case l => k_is); (case c => k_is); (case k => k_is))
      case dLsumsup => (refine' K52.mkdLsumsup KX G ?a ?l ?c ?k; (case a => k_is); (case l => k_is); (case c => k_is); (case k => k_is))
      case dLrefused => (refine' K52.mkdLrefused KX G ?a ?l ?c ?k; (case a => k_is); (case l => k_is); (case c => k_is); (case k => k_is))
      case dLcaught => (refine' K52.mkdLcaught KX G ?a ?l ?c ?k; (case a => k_is); (case l => k_is); (case c => k_is); (case k => k_is))
      case dLbad => (refine' K52.mkdLbad KX G ?a ?l ?c ?k; (case a => k_is); (case l => k_is); (case c => k_is); (case k => k_is))
      case dlaw => (refine' K52.mkdlaw KX G ?a ?l ?c ?k; (case a => k_is); (case l => k_is); (case c => k_is); (case k => k_is))
    case Q2 =>
      refine' ⟨?nint, ?nlen, ?nisi, ?nbool, ?nstr, ?ntuple, ?nlist, ?nrange, ?nmax, ?nall, ?nsorted, ?nreversed, ?nenumerate⟩
      case nint => (refine' PySem.W.mg_none_of KX G ?z; (case z => k_is))
      case nlen => (refine' PySem.W.mg_none_of KX G ?z; (case z => k_is))
      case nisi => (refine' PySem.W.mg_none_of KX G ?z; (case z => k_is))
      case nbool => (refine' PySem.W.mg_none_of KX G ?z; (case z => k_is))
      case nstr => (refine' PySem.W.mg_none_of KX G ?z; (case z => k_is))
      case ntuple => (refine' PySem.W.mg_none_of KX G ?z; (case z => k_is))
      case nlist => (refine' PySem.W.mg_none_of KX G ?z; (case z => k_is))
      case nrange => (refine' PySem.W.mg_none_of KX G ?z; (case z => k_is))
      case nmax => (refine' PySem.W.mg_none_of KX G ?z; (case z => k_is))
      case nall => (refine' PySem.W.mg_none_of KX G ?z; (case z => k_is))
      case nsorted => (refine' PySem.W.mg_none_of KX G ?z; (case z => k_is))
      case nreversed => (refine' PySem.W.mg_none_of KX G ?z; (case z => k_is))
      case nenumerate => (refine' PySem.W.mg_none_of KX G ?z; (case z => k_is))
    case Q3 =>
      (refine' ⟨⟨_, PySem.W.mg_of KX G ?a, ?r⟩⟩; (case a => k_is); (case r => exact ⟨_, rfl⟩))
    case Q7 => first | rfl | decide +kernel
    case Q8 =>
      refine' ⟨?gT, ?tc, ?ti, ?makes, ?kc, ?zinit, ?zeq, ?ztotal⟩
      case gT => (refine' PySem.W.mg_of KX G ?a; (case a => k_is))
      case tc => (refine' ⟨⟨?pg, ?hd, ?po, ?sa⟩, ?np, ?ns, ?nx⟩; (case pg => k_is); (case hd => k_is); (case po => k_is); (case sa => k_is); (case np => (show PySem.W.findIn _ _ _ = _; k_is)); (case ns => (show PySem.W.findIn _ _ _ = _; k_is)); (case nx => (show PySem.W.findIn _ _ _ = _; k_is)))
      case ti => (refine' ⟨?w1, ?w2, ?w3, ?w4, ?w5, ?w6, ?w7, ?w8, ?w9, ?w10⟩; (case w1 => k_is); (case w2 => k_is); (case w3 => k_is); (case w4 => k_is); (case w5 => kit_is); (case w6 => k_is); (case w7 => kit_is); (case w8 => k_is); (case w9 => kit_is); (case w10 => k_is))
      case makes => k_is
      case kc => k_is
      case zinit => (refine' K52.mkInit ?a ?i ?l ?c ?k ?t ?v; (case a => k_is); (case i => k_is); (case l => k_is); (case c => k_is); (case k => k_is); (case t => k_is); (case v => exact .cons ⟨_, rfl⟩ (.cons ⟨_, rfl⟩ (.cons ⟨_, rfl⟩ .nil))))
      case zeq => (refine' K52.mksPEq ?a ?i ?l ?c ?k; (case a => k_is); (case i => k_is); (case l => k_is); (case c => k_is); (case k => k_is))
      case ztotal => (refine' K52.mksPTotal ?a ?i ?l ?c ?k; (case a => k_is); (case i => k_is); (case l => k_is); (case c => k_is); (case k => k_is))
    case Q9 =>
      refine' ⟨?gF, ?gB, ?gN, ?gV, ?isF, ?isN, ?isV, ?ex, ?ic⟩
      case gF => (refine' PySem.W.mg_of KX G ?a; (case a => k_is))
      case gB => (refine' PySem.W.mg_of KX G ?a; (case a => k_is))
      case gN => (refine' PySem.W.mg_of KX G ?a; (case a => k_is))
      case gV => (refine' PySem.W.mg_none_of KX G ?z; (case z => k_is))
      case isF => kit_is
      case isN => kit_is
      case isV => kit_is
      case ex => (refine' K52.mk_exm ?p1 ?p2 ?p3 ?p4; (case p1 => k_is); (case p2 => k_is); (case p3 => k_is); (case p4 => k_is))
      case ic => (refine' K52.mk_isC ?y1 ?y2 ?y3 ?y4 ?y5 ?y6 ?y7 ?y8; (case y1 => k_is); (case y2 => k_is); (case y3 => k_is); (case y4 => k_is); (case y5 => k_is); (case y6 => k_is); (case y7 => k_is); (case y8 => k_is))
    case Q10 =>
      refine' ⟨?gC, ?cls, ?sa, ?ga, ?gg, ?noN, ?iC, ?tC, ?kC, ?exC, ?tyC, ?hdC, ?te, ?ve, ?su, ?me, ?tp, ?gs, ?fn⟩
      case gC => (refine' PySem.W.mg_of KX G ?a; (case a => k_is))
      case cls => (refine' K52.mk_cls ?l ?r; (case l => k_is); (case r => decide +kernel))
      case sa => k_is
      case ga => k_is
      case gg => k_is
      case noN => k_is
      case iC => k_is
      case tC => k_is
      case kC => k_is
      case exC => k_is
      case tyC => k_is
      case hdC => k_is
      case ve => k_is
      case me => k_is
      case tp => k_is
      case te => (refine' K52.mk_exm ?p1 ?p2 ?p3 ?p4; (case p1 => k_is); (case p2 => k_is); (case p3 => k_is); (case p4 => k_is))
      case su => ks_is
      case gs => (refine' PySem.W.mg_none_of KX G ?z; (case z => k_is))
      case fn => (refine' K52.mk_fn ?fnl ?fnc ?fnk ?fnv ?fnp ?fncc ?fne; (case fnl => k_is); (case fnc => k_is); (case fnk => k_is); (case fnv => rfl); (case fnp => decide +kernel); (case fncc => k_is); (case fne => rfl))
